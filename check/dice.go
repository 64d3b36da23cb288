package check

import (
	"bolter/api"
)

// Inputs answers all inputs of these bytes that are at most so long, the
// shorter ones first.
func Inputs(bytes string, long int) []string {
	l := []string{""}
	for i := 0; len(l[i]) < long; i++ {
		for _, b := range []byte(bytes) {
			l = append(l, l[i]+string([]byte{b}))
		}
	}
	return l
}

// Dice throws numbers that follow no rule to speak of, but are the same each
// time.
type Dice uint64

// Throw answers a number from 0 on, below n.
func (d *Dice) Throw(n int) int {
	*d = *d*6364136223846793005 + 1442695040888963407
	return int(uint64(*d) >> 33 % uint64(n))
}

// Input answers an input of at most so many of these bytes.
func (d *Dice) Input(bytes string, long int) string {
	return d.InputOf(bytes, d.Throw(long+1))
}

// InputOf answers an input of just so many of these bytes.
func (d *Dice) InputOf(bytes string, long int) string {
	w := make([]byte, long)
	for i := range w {
		w[i] = bytes[d.Throw(len(bytes))]
	}
	return string(w)
}

// Re answers a formed pattern of at most so many levels over a, b and line
// feeds.
func (d *Dice) Re(levels int) api.Re {
	if levels == 1 || d.Throw(6) == 0 {
		return d.leaf()
	}
	r := api.Re{Kind: []int{api.Cat, api.Cat, api.Or, api.And, api.Not, api.Times, api.Ahead, api.Behind}[d.Throw(8)]}
	parts := 1
	switch r.Kind {
	case api.Cat, api.Or, api.And:
		parts = d.Throw(4)
	case api.Times:
		r.Lo = d.Throw(3)
		r.Hi = []int{-1, max(r.Lo, 1), r.Lo + 1}[d.Throw(3)]
	case api.Ahead, api.Behind:
		r.Neg = d.Throw(2) == 0
	}
	for range parts {
		r.Parts = append(r.Parts, d.Re(levels-1))
	}
	return r
}

func (d *Dice) leaf() api.Re {
	switch d.Throw(10) {
	case 0:
		return Re(api.Begin)
	case 1:
		return Re(api.End)
	case 2:
		return Re(api.Empty)
	case 3:
		return Re(api.None)
	case 4:
		return Bytes("a\n")
	}
	return Bytes("ab"[d.Throw(2):][:1])
}
