package formula

import (
	"math/bits"
	"slices"
	"testing"

	"bolter/api"
)

// sets are parts of numbers below 64: number n is in one, if its bit n is 1.
// With these the chapter is read a second time, the plain way.
type sets []uint64

func setsOf(f Formula) sets {
	l := make(sets, len(f))
	for i, numbers := range f {
		for _, n := range numbers {
			l[i] |= 1 << n
		}
	}
	return l
}

// numbersOf are the numbers that are in s.
func numbersOf(s uint64) []int {
	var l []int
	for n := range 64 {
		if s>>n&1 == 1 {
			l = append(l, n)
		}
	}
	return l
}

func (l sets) formula() Formula {
	var f Formula
	for _, s := range l {
		f = append(f, numbersOf(s))
	}
	return f
}

// formed answers l without those that have all numbers of another one, in
// order, each once.
func (l sets) formed() sets {
	slices.SortFunc(l, func(x, y uint64) int {
		n := bits.OnesCount64(x) - bits.OnesCount64(y)
		if n != 0 || x == y {
			return n
		}
		// The one that has the least number that isn't in both.
		if least := bits.TrailingZeros64(x ^ y); x>>least&1 == 1 {
			return -1
		}
		return 1
	})
	var kept sets
	for _, s := range l {
		if !kept.hasWithin(s) {
			kept = append(kept, s)
		}
	}
	return kept
}

// hasWithin tells whether s has all numbers of one of l.
func (l sets) hasWithin(s uint64) bool {
	for _, x := range l {
		if x&^s == 0 {
			return true
		}
	}
	return false
}

// tooFar is how many parts the second reading goes on with.
const tooFar = 2 * most

// wayOfAnd answers the And of f and g, and the most parts on the way.
func wayOfAnd(f, g sets) (sum sets, way int) {
	for _, x := range f {
		for _, y := range g {
			sum = append(sum, x|y)
		}
		sum = sum.formed()
		if way = max(way, len(sum)); way > tooFar {
			break
		}
	}
	return sum, way
}

// wayOfDual answers the Dual of f, and the most parts on the way.
func wayOfDual(f sets) (product sets, way int) {
	product = sets{0}
	for _, x := range f {
		var or sets
		for _, n := range numbersOf(x) {
			or = append(or, 1<<n)
		}
		var wayHere int
		product, wayHere = wayOfAnd(product, or)
		if way = max(way, wayHere); way > tooFar {
			break
		}
	}
	return product, way
}

// dice throws numbers that follow no rule, but are the same each time.
type dice uint64

func (d *dice) throw(n int) int {
	*d = *d*6364136223846793005 + 1442695040888963407
	return int(uint64(*d) >> 33 % uint64(n))
}

// set has so many of the numbers below n.
func (d *dice) set(n, numbers int) uint64 {
	var s uint64
	for bits.OnesCount64(s) < numbers {
		s |= 1 << d.throw(n)
	}
	return s
}

// sets are so many parts, each once, of so many of the numbers below n.
func (d *dice) sets(n, parts, numbers int) sets {
	var l sets
	for range parts {
		l = append(l, d.set(n, numbers))
	}
	return l.formed()
}

// formula is a formed one of at most so many parts of numbers below n.
func (d *dice) formula(n, parts int) Formula {
	var l sets
	length := 1 + d.throw(4)
	for range d.throw(parts + 1) {
		l = append(l, d.set(n, length+d.throw(2)))
	}
	return l.formed().formula()
}

// tally counts the inputs that have just few parts, that have many, and that
// have many on the way alone.
type tally struct {
	few, many, manyOnTheWay int
}

// want asks for the formula of parts; for ErrMany, if there are many on the
// way.
func (c *tally) want(t *testing.T, what string, got Formula, e api.Errno, parts sets, way int) {
	t.Helper()
	if way <= most {
		c.few++
		wantFormula(t, what, got, e, parts.formula())
		return
	}
	c.many++
	if way <= tooFar && len(parts) <= most {
		c.manyOnTheWay++
	}
	wantError(t, what, got, e, api.ErrMany)
}

func (c *tally) wantEach(t *testing.T) {
	t.Helper()
	if min(c.few, c.many, c.manyOnTheWay) < 20 {
		t.Errorf("too few of a kind: %+v", *c)
	}
}

// TestWaysOfAnd holds And against the second reading near MaxForm: of many
// pairs, and of a part or two that may have all numbers of the last pair.
func TestWaysOfAnd(t *testing.T) {
	d := dice(7)
	var c tally
	for range 400 {
		f := append(d.sets(21, 100+d.throw(900), 2), 3<<21)
		g := d.sets(4, 1+d.throw(2), 2+d.throw(2))
		for i := range g {
			g[i] <<= 21
		}
		if d.throw(4) == 0 {
			f, g = g, f
		}
		parts, way := wayOfAnd(f, g)
		h, e := And(f.formula(), g.formula())
		c.want(t, "And", h, e, parts, way)
	}
	c.wantEach(t)
}

// TestWaysOfDual holds Dual against the second reading near MaxForm: of pairs
// that make some 200, and longer ones that make these fewer, or more.
func TestWaysOfDual(t *testing.T) {
	d := dice(8)
	var c tally
	for range 400 {
		f := d.sets(16, d.throw(20), 3)
		for i := range 5 + d.throw(4) {
			f = append(f, 3<<(2*i))
		}
		f = f.formed()
		parts, way := wayOfDual(f)
		h, e := Dual(f.formula())
		c.want(t, "Dual", h, e, parts, way)
	}
	c.wantEach(t)
}
