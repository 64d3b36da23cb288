package formula

import (
	"cmp"
	"slices"

	"bolter/api"
)

// part is a part of a formula whose numbers rise. In its mark are bits that
// its numbers choose: where a bit is in the mark of one part alone, the other
// part lacks a number of that one, and needn't be looked through.
type part struct {
	numbers []int
	mark    uint64
}

// partOf answers the part of these numbers, in their memory.
func partOf(numbers []int) part {
	var mark uint64
	for _, n := range numbers {
		mark |= 1 << (n & 63)
	}
	return part{numbers, mark}
}

// partsOf answers the parts of f.
func partsOf(f Formula) []part {
	l := make([]part, len(f))
	for i, numbers := range f {
		l[i] = partOf(numbers)
	}
	return l
}

// atomsOf answers a part for each of the numbers, in their memory.
func atomsOf(numbers []int) []part {
	l := make([]part, len(numbers))
	for i := range numbers {
		l[i] = partOf(numbers[i : i+1])
	}
	return l
}

// answer answers l as a formula in memory of its own; ErrMany, if it isn't ok.
func answer(l []part, ok bool) (Formula, api.Errno) {
	if !ok {
		return nil, api.ErrMany
	}
	f := make(Formula, len(l))
	for i, p := range l {
		f[i] = append([]int{}, p.numbers...)
	}
	return f, api.OK
}

// rises tells whether the numbers rise, from 0 or more on.
func rises(numbers []int) bool {
	last := -1
	for _, n := range numbers {
		if n <= last {
			return false
		}
		last = n
	}
	return true
}

// inOrder answers less than 0, 0 or more, as x stands ahead of y, is the same,
// or stands behind it.
func inOrder(x, y []int) int {
	if len(x) != len(y) {
		return cmp.Compare(len(x), len(y))
	}
	return slices.Compare(x, y)
}

// least answers those of l that have all numbers of no other one, in order and
// each once; if these are more than most, the first ones, one more than most.
// It changes l.
func least(l []part, most int) []part {
	slices.SortFunc(l, func(p, q part) int { return inOrder(p.numbers, q.numbers) })
	l = slices.CompactFunc(l, func(p, q part) bool { return slices.Equal(p.numbers, q.numbers) })
	// Only the shorter ones, which stand ahead, may be within another one.
	length, shorter := 0, 0
	kept := l[:0]
	for _, p := range l {
		if len(p.numbers) > length {
			length, shorter = len(p.numbers), len(kept)
		}
		if !hasOneOf(p, kept[:shorter]) {
			kept = append(kept, p)
		}
		if len(kept) > most {
			break
		}
	}
	return kept
}

// hasOneOf tells whether p has all numbers of one of l.
func hasOneOf(p part, l []part) bool {
	for _, q := range l {
		if q.mark&^p.mark == 0 && hasAll(p.numbers, q.numbers) {
			return true
		}
	}
	return false
}

// hasAll tells whether all of the numbers some, which rise, are in numbers,
// which do so, too.
func hasAll(numbers, some []int) bool {
	for _, n := range some {
		at, ok := slices.BinarySearch(numbers, n)
		if !ok {
			return false
		}
		numbers = numbers[at+1:]
	}
	return true
}

// and answers the parts of the And of f and g; false, if they are too many, or
// are so on the way, part by part of f.
func and(f, g []part) ([]part, bool) {
	var sum []part
	for _, p := range f {
		sum = least(append(sum, with(p, g)...), api.MaxForm)
		if len(sum) > api.MaxForm {
			return nil, false
		}
	}
	return sum, true
}

// with answers p with each of g. Where p has all numbers of one of these, that
// is p, and all others have more.
func with(p part, g []part) []part {
	if hasOneOf(p, g) {
		return []part{p}
	}
	l := make([]part, len(g))
	for i, q := range g {
		l[i] = both(p, q)
	}
	return l
}

// both answers the part of p's numbers and of q's.
func both(p, q part) part {
	numbers := slices.Concat(p.numbers, q.numbers)
	slices.Sort(numbers)
	return part{slices.Compact(numbers), p.mark | q.mark}
}
