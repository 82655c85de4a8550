package tests

import (
	"math"
	"math/big"
	"strings"
	"testing"

	"loop.example/mortiser/impl"
)

// pair is two numbers, one above the other.
type pair struct {
	n int
	d int
}

// goodPairs are numbers that FracOf takes: all small ones, and those at the limits, with many divisors and with none.
func goodPairs() []pair {
	var out []pair
	for n := 0; n <= 24; n++ {
		for d := 1; d <= 24; d++ {
			out = append(out, pair{n, d})
		}
	}
	large := []int{1, 2, 3, 46341, 65536, 83160, 99990, 99991, impl.FracMax - 2, impl.FracMax - 1, impl.FracMax}
	for _, n := range append([]int{0}, large...) {
		for _, d := range large {
			out = append(out, pair{n, d})
		}
	}
	return out
}

// badPairs are numbers of which at least one is beyond its limits.
func badPairs() []pair {
	far := []int{math.MinInt, math.MinInt + 1, math.MinInt + 2, -impl.FracMax, -2, -1, impl.FracMax + 1, impl.FracMax + 2, math.MaxInt - 1, math.MaxInt}
	var out []pair
	for _, x := range far {
		for _, y := range append([]int{0, 1, 2, impl.FracMax}, far...) {
			out = append(out, pair{x, y}, pair{y, x})
		}
	}
	for _, n := range []int{0, 1, 2, impl.FracMax} {
		out = append(out, pair{n, 0})
	}
	return out
}

// badFracs are fractions that are not ok: of bad pairs, and of good ones that could be simpler.
func badFracs() []impl.Frac {
	out := []impl.Frac{{}, {N: 2, D: 4}, {N: 0, D: 2}, {N: 0, D: impl.FracMax}, {N: impl.FracMax, D: impl.FracMax}, {N: impl.FracMax, D: 3}, {N: 3, D: impl.FracMax}}
	for _, p := range badPairs() {
		out = append(out, impl.Frac{N: p.n, D: p.d})
	}
	return out
}

// fewFracs are fractions that are ok, each once, close ones among them.
func fewFracs() []impl.Frac {
	top := impl.FracMax
	out := []impl.Frac{{N: 0, D: 1}, {N: 1, D: 1}, {N: top, D: 1}, {N: top - 1, D: 1}, {N: 1, D: top}, {N: 1, D: top - 1}, {N: 2, D: top}, {N: top, D: top - 1}, {N: top - 1, D: top}, {N: top - 1, D: top - 2}, {N: top - 2, D: top - 1}, {N: top, D: 2}, {N: 49999, D: top}, {N: 50000, D: top}, {N: 42949, D: 2}, {N: 65536, D: 65537}}
	for n := 1; n <= 7; n++ {
		for d := 2; d <= 7; d++ {
			if rat(n, d).Denom().Int64() == int64(d) {
				out = append(out, impl.Frac{N: n, D: d})
			}
		}
	}
	return out
}

func rat(n int, d int) *big.Rat {
	return big.NewRat(int64(n), int64(d))
}

func mustFrac(t *testing.T, n int, d int) impl.Frac {
	t.Helper()
	f, ok := impl.FracOf(n, d)
	if !ok {
		t.Fatalf("FracOf(%d, %d) is refused", n, d)
	}
	return f
}

// P1.
func TestFracOfIsWhatItIsOf(t *testing.T) {
	for _, p := range goodPairs() {
		f := mustFrac(t, p.n, p.d)
		want := rat(p.n, p.d)
		if int64(f.N) != want.Num().Int64() || int64(f.D) != want.Denom().Int64() {
			t.Errorf("FracOf(%d, %d) = %v, not %v", p.n, p.d, f, want)
		}
		if !impl.FracOk(f) {
			t.Errorf("FracOf(%d, %d) = %v is not ok", p.n, p.d, f)
		}
		if int64(f.N)*int64(p.d) != int64(f.D)*int64(p.n) {
			t.Errorf("FracOf(%d, %d) = %v is another one", p.n, p.d, f)
		}
	}
}

// P1.
func TestFracOfBothSomeTimesAsLarge(t *testing.T) {
	for _, p := range goodPairs() {
		f := mustFrac(t, p.n, p.d)
		most := impl.FracMax / max(p.n, p.d)
		for _, k := range []int{1, 2, 3, 6, 7, most - 1, most} {
			if k < 1 || k > most {
				continue
			}
			if g := mustFrac(t, k*p.n, k*p.d); g != f {
				t.Errorf("FracOf(%d, %d) = %v, with both %d times as large %v", p.n, p.d, f, k, g)
			}
		}
	}
}

// P1: 0 divided by anything.
func TestFracOfNought(t *testing.T) {
	for d := 1; d <= impl.FracMax; d++ {
		if f, ok := impl.FracOf(0, d); !ok || f != (impl.Frac{N: 0, D: 1}) {
			t.Fatalf("FracOf(0, %d) = %v, %v", d, f, ok)
		}
	}
}

// P1: what FracOf refuses.
func TestFracOfWrong(t *testing.T) {
	for _, p := range badPairs() {
		if f, ok := impl.FracOf(p.n, p.d); ok || f != (impl.Frac{}) {
			t.Errorf("FracOf(%d, %d) = %v, %v", p.n, p.d, f, ok)
		}
	}
}

// P2.
func TestFracCmpOfTwo(t *testing.T) {
	all := fewFracs()
	for i, a := range all {
		for j, b := range all {
			got := impl.FracCmp(a, b)
			if want := rat(a.N, a.D).Cmp(rat(b.N, b.D)); got != want {
				t.Errorf("FracCmp(%v, %v) = %d, not %d", a, b, got, want)
			}
			if back := impl.FracCmp(b, a); back != -got {
				t.Errorf("FracCmp(%v, %v) = %d, the other way about %d", a, b, got, back)
			}
			if (got == 0) != (i == j) {
				t.Errorf("FracCmp(%v, %v) = %d", a, b, got)
			}
		}
	}
}

// P2: of one that is not ok.
func TestFracCmpWrong(t *testing.T) {
	for _, bad := range badFracs() {
		for _, f := range append(fewFracs(), impl.Frac{}, bad) {
			if a, b := impl.FracCmp(bad, f), impl.FracCmp(f, bad); a != 2 || b != 2 {
				t.Errorf("FracCmp of %v and %v is %d, the other way about %d", bad, f, a, b)
			}
		}
	}
}

// P3.
func TestFracCmpOfThree(t *testing.T) {
	all := fewFracs()
	notMore := func(a impl.Frac, b impl.Frac) bool {
		c := impl.FracCmp(a, b)
		if c < -1 || c > 1 {
			t.Errorf("FracCmp(%v, %v) = %d", a, b, c)
		}
		return c <= 0
	}
	for _, a := range all {
		for _, b := range all {
			if !notMore(a, b) {
				continue
			}
			for _, c := range all {
				if notMore(b, c) && !notMore(a, c) {
					t.Errorf("%v is not more than %v, nor that than %v, but the first is more", a, b, c)
				}
			}
		}
	}
}

// P4.
func TestFracBetweenWholeNumbers(t *testing.T) {
	for _, p := range goodPairs() {
		f := mustFrac(t, p.n, p.d)
		whole := p.n / p.d
		if c := impl.FracCmp(f, mustFrac(t, whole, 1)); c != 0 && c != 1 || (c == 0) != (p.n%p.d == 0) {
			t.Errorf("FracCmp(%v, %d) = %d", f, whole, c)
		}
		if whole == impl.FracMax {
			continue // one more is no fraction
		}
		if c := impl.FracCmp(f, mustFrac(t, whole+1, 1)); c != -1 {
			t.Errorf("FracCmp(%v, %d) = %d", f, whole+1, c)
		}
	}
}

// P5.
func TestFracText(t *testing.T) {
	seen := map[string]impl.Frac{}
	for _, p := range goodPairs() {
		f := mustFrac(t, p.n, p.d)
		text := impl.FracText(f)
		if want := rat(p.n, p.d).RatString(); text != want {
			t.Errorf("FracText(%v) = %q, not %q", f, text, want)
		}
		if other, ok := seen[text]; ok && other != f {
			t.Errorf("%v and %v have one text, %q", f, other, text)
		}
		seen[text] = f
		if strings.Contains(text, "/") != (p.n%p.d != 0) {
			t.Errorf("FracText(%v) = %q: a stroke just if it is not whole", f, text)
		}
	}
}

// P5: the texts at the limits, and those of what is not ok.
func TestFracTextEdges(t *testing.T) {
	edges := []struct {
		f    impl.Frac
		text string
	}{
		{impl.Frac{N: 0, D: 1}, "0"},
		{impl.Frac{N: 1, D: 1}, "1"},
		{impl.Frac{N: 99999, D: 1}, "99999"},
		{impl.Frac{N: 1, D: 99999}, "1/99999"},
		{impl.Frac{N: 99999, D: 99998}, "99999/99998"},
		{impl.Frac{N: 10, D: 3}, "10/3"},
	}
	for _, e := range edges {
		if text := impl.FracText(e.f); text != e.text {
			t.Errorf("FracText(%v) = %q, not %q", e.f, text, e.text)
		}
	}
	for _, bad := range badFracs() {
		if text := impl.FracText(bad); text != "" {
			t.Errorf("FracText(%v) = %q", bad, text)
		}
	}
}

// P6.
func TestFracOkJustAsSimpleAsCanBe(t *testing.T) {
	for _, p := range goodPairs() {
		f := impl.Frac{N: p.n, D: p.d}
		if want := rat(p.n, p.d).Denom().Int64() == int64(p.d); impl.FracOk(f) != want {
			t.Errorf("FracOk(%v) = %v", f, !want)
		}
	}
	for _, f := range fewFracs() {
		if !impl.FracOk(f) {
			t.Errorf("FracOk(%v) = false", f)
		}
	}
}

// P6.
func TestFracOkNoMore(t *testing.T) {
	for _, f := range fewFracs() {
		for _, k := range []int{-3, -1, 0, 2, 3, 10, impl.FracMax, impl.FracMax + 1} {
			if g := (impl.Frac{N: k * f.N, D: k * f.D}); impl.FracOk(g) {
				t.Errorf("%v is ok, and so is %v", f, g)
			}
		}
		spoilt := []impl.Frac{{N: f.N, D: 0}, {N: f.N, D: -f.D}, {N: -f.N - 1, D: f.D}, {N: -f.N - 1, D: -f.D}, {N: impl.FracMax + 1, D: f.D}, {N: f.N, D: impl.FracMax + 1}}
		for _, g := range spoilt {
			if impl.FracOk(g) {
				t.Errorf("FracOk(%v) = true", g)
			}
		}
	}
	for _, bad := range badFracs() {
		if impl.FracOk(bad) {
			t.Errorf("FracOk(%v) = true", bad)
		}
	}
}
