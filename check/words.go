package check

import (
	"slices"

	"bolter/api"
	"bolter/set"
)

// Spans tell of each place of an input up to where something matches from there
// on: bit j of number i is that of i to j.
type Spans []uint

// Input is an input of less than 63 bytes, of which it is told, by the words of
// "What a pattern MATCHES" alone, what is matched in it.
type Input string

// Matches answers the spans that a formed pattern matches.
func (w Input) Matches(r api.Re) Spans {
	parts := make([]Spans, len(r.Parts))
	for i, part := range r.Parts {
		parts[i] = w.Matches(part)
	}
	switch r.Kind {
	case api.Empty:
		return w.still()
	case api.Bytes:
		return w.oneOf(r.Set)
	case api.Cat:
		return joined(parts, w.still(), w.cat)
	case api.Or:
		return joined(parts, w.nowhere(), w.or)
	case api.And:
		return joined(parts, w.all(), w.and)
	case api.Not:
		return w.not(parts[0])
	case api.Times:
		return w.times(parts[0], r.Lo, r.Hi)
	case api.Ahead:
		return w.where(func(i int) bool { return (parts[0][i] != 0) != r.Neg })
	case api.Behind:
		return w.where(func(i int) bool { return comesTo(parts[0], i) != r.Neg })
	case api.Begin:
		return w.where(func(i int) bool { return i == 0 || w[i-1] == '\n' })
	case api.End:
		return w.where(func(i int) bool { return i == len(w) || w[i] == '\n' })
	}
	return w.nowhere()
}

// Seen answers of each place which looks are true there, the first one's bit
// being 1.
func (w Input) Seen(looks []api.Re) []uint8 {
	bits := make([]uint8, len(w)+1)
	for k, look := range looks {
		for i, to := range w.Matches(look) {
			if to != 0 {
				bits[i] |= 1 << k
			}
		}
	}
	return bits
}

// at are the spans that f tells of each place.
func (w Input) at(f func(i int) uint) Spans {
	s := make(Spans, len(w)+1)
	for i := range s {
		s[i] = f(i)
	}
	return s
}

// where is no bytes, wherever f is true.
func (w Input) where(f func(i int) bool) Spans {
	return w.at(func(i int) uint {
		if f(i) {
			return 1 << i
		}
		return 0
	})
}

func (w Input) nowhere() Spans { return w.where(func(i int) bool { return false }) }

func (w Input) still() Spans { return w.where(func(i int) bool { return true }) }

// all are those from each place to each from there on.
func (w Input) all() Spans { return w.at(func(i int) uint { return 2<<len(w) - 1<<i }) }

func (w Input) oneOf(s api.Set) Spans {
	return w.at(func(i int) uint {
		if i < len(w) && set.Has(s, w[i]) {
			return 2 << i
		}
		return 0
	})
}

func (w Input) or(a, b Spans) Spans { return w.at(func(i int) uint { return a[i] | b[i] }) }

func (w Input) and(a, b Spans) Spans { return w.at(func(i int) uint { return a[i] & b[i] }) }

func (w Input) not(a Spans) Spans {
	all := w.all()
	return w.at(func(i int) uint { return all[i] &^ a[i] })
}

func (w Input) cat(a, b Spans) Spans {
	return w.at(func(i int) uint {
		var to uint
		for between := range b {
			if a[i]>>between&1 == 1 {
				to |= b[between]
			}
		}
		return to
	})
}

// times is lo to hi of a, as Cats of that number.
func (w Input) times(a Spans, lo, hi int) Spans {
	if hi < 0 {
		// More of them are there only where some have no bytes, and may be left
		// out.
		hi = lo + len(w)
	}
	some, now := w.nowhere(), w.still()
	for n := 0; n <= hi; n++ {
		if n >= lo {
			some = w.or(some, now)
		}
		now = w.cat(now, a)
	}
	return some
}

// joined are all of l, one joined to those ahead of it, the first one to s.
func joined(l []Spans, s Spans, join func(a, b Spans) Spans) Spans {
	for _, next := range l {
		s = join(s, next)
	}
	return s
}

// comesTo tells whether something is matched from somewhere up to j.
func comesTo(a Spans, j int) bool {
	return slices.ContainsFunc(a, func(to uint) bool { return to>>j&1 == 1 })
}
