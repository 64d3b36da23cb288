package check

import (
	"slices"

	"bolter/api"
)

// Roomy answers l in other memory, each list with spare room behind it in which
// something stands, of lists with no elements, too.
func Roomy(l []api.Re) []api.Re {
	made := make([]api.Re, len(l), len(l)+2)
	for i, r := range l {
		r.Parts = Roomy(r.Parts)
		made[i] = r
	}
	spare := made[len(l):cap(made)]
	for i := range spare {
		spare[i] = api.Re{Kind: api.Not, Lo: 7, Neg: true}
	}
	return made
}

// RoomyInput answers w with spare room in which something stands.
func RoomyInput(w string) []byte { return []byte(w + "ab\nspare")[:len(w)] }

// Whole answers all that l holds, spare room too, in other memory.
func Whole(l []api.Re) []api.Re {
	l = slices.Clone(l[:cap(l)])
	for i, r := range l {
		l[i].Parts = Whole(r.Parts)
	}
	return l
}

// Scribble writes r into all places of l, spare room too, and of the lists
// below it.
func Scribble(l []api.Re, r api.Re) {
	l = l[:cap(l)]
	for i := range l {
		Scribble(l[i].Parts, r)
		l[i] = r
	}
}
