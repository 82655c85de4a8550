package impl

import (
	"cmp"
	"errors"
	"strconv"
)

// FracMax is how large what stands above and below may be.
const FracMax = 99999

// fracNoOrder is what FracCmp answers where there is nothing to compare.
const fracNoOrder = 2

// errNoFrac tells of numbers that are no fraction.
var errNoFrac = errors.New("no fraction")

// Frac is a fraction that is not below 0, as simple as can be.
type Frac struct {
	N int
	D int
}

// ratio is a fraction that was found ok: who holds one need not ask again.
type ratio interface {
	above() int
	below() int
}

// lowest is a ratio of two numbers that nothing but 1 divides.
type lowest struct {
	n int
	d int
}

func (l lowest) above() int {
	return l.n
}

func (l lowest) below() int {
	return l.d
}

// FracOk says whether a fraction is ok.
func FracOk(f Frac) bool {
	_, err := ratioOf(f)
	return !errors.Is(err, errNoFrac)
}

// FracOf is one number divided by another one.
func FracOf(n int, d int) (Frac, bool) {
	r, err := divide(n, d)
	if errors.Is(err, errNoFrac) {
		return Frac{}, false
	}
	return Frac{N: r.above(), D: r.below()}, true
}

// FracCmp compares two fractions.
func FracCmp(a Frac, b Frac) int {
	x, err := ratioOf(a)
	if errors.Is(err, errNoFrac) {
		return fracNoOrder
	}
	y, err := ratioOf(b)
	if errors.Is(err, errNoFrac) {
		return fracNoOrder
	}
	return cmp.Compare(cross(x, y), cross(y, x))
}

// FracText is the text of a fraction.
func FracText(f Frac) string {
	r, err := ratioOf(f)
	if errors.Is(err, errNoFrac) {
		return ""
	}
	if r.below() == 1 {
		return strconv.Itoa(r.above())
	}
	return strconv.Itoa(r.above()) + "/" + strconv.Itoa(r.below())
}

// ratioOf is a fraction as it stands, or errNoFrac.
func ratioOf(f Frac) (ratio, error) {
	r, err := divide(f.N, f.D)
	if err != nil {
		return nil, err
	}
	if r.below() != f.D {
		// It could be simpler, so it is none as it stands.
		return nil, errNoFrac
	}
	return r, nil
}

// divide is one number divided by another one, as simple as can be, or errNoFrac.
func divide(n int, d int) (ratio, error) {
	if n < 0 || n > FracMax || d < 1 || d > FracMax {
		return nil, errNoFrac
	}
	both := greatestDivisor(n, d)
	return lowest{n: n / both, d: d / both}, nil
}

// greatestDivisor is the greatest number that divides both, of which the second is above 0.
func greatestDivisor(a int, b int) int {
	for b != 0 {
		a, b = b, a%b
	}
	return a
}

// cross is what is above in the one, times what is below in the other one: more than an int of 32 bits holds.
func cross(x ratio, y ratio) int64 {
	return int64(x.above()) * int64(y.below())
}
