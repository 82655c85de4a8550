package tests

import (
	"math"
	"testing"

	"loop.example/mortiser/impl"
)

// allPlaces are the places of the grid, across or up.
func allPlaces() []int {
	var out []int
	for n := 0; n <= impl.GridMax; n++ {
		out = append(out, n)
	}
	return out
}

// ptsAt are the points whose places across and up are among these.
func ptsAt(places []int) []impl.Pt {
	var out []impl.Pt
	for _, y := range places {
		for _, x := range places {
			out = append(out, impl.Pt{X: x, Y: y})
		}
	}
	return out
}

// segsOf are the segments between any two of the points, both ways about.
func segsOf(pts []impl.Pt) []impl.Seg {
	var out []impl.Seg
	for _, a := range pts {
		for _, b := range pts {
			if a != b {
				out = append(out, impl.Seg{A: a, B: b})
			}
		}
	}
	return out
}

func allPts() []impl.Pt {
	return ptsAt(allPlaces())
}

func allSegs() []impl.Seg {
	return segsOf(allPts())
}

// closeSegs lie close together, so that many touch, cross, or lie in one line.
func closeSegs() []impl.Seg {
	return segsOf(ptsAt([]int{0, 1, 2, 3}))
}

// wideSegs reach to the grid's edges.
func wideSegs() []impl.Seg {
	return segsOf(ptsAt([]int{0, 2, 5, impl.GridMax}))
}

// eachPair goes through pairs of segments, close ones and wide ones.
func eachPair(f func(s impl.Seg, u impl.Seg)) {
	for _, list := range [][]impl.Seg{closeSegs(), wideSegs()} {
		for _, s := range list {
			for _, u := range list {
				f(s, u)
			}
		}
	}
}

// eachSegAndPt goes through all segments and points of the grid.
func eachSegAndPt(f func(s impl.Seg, p impl.Pt)) {
	pts := allPts()
	for _, s := range allSegs() {
		for _, p := range pts {
			f(s, p)
		}
	}
}

func otherSide(p impl.Pt) impl.Pt {
	return impl.Pt{X: impl.GridMax - p.X, Y: p.Y}
}

func exchanged(p impl.Pt) impl.Pt {
	return impl.Pt{X: p.Y, Y: p.X}
}

func oneAcross(p impl.Pt) impl.Pt {
	return impl.Pt{X: p.X + 1, Y: p.Y}
}

func moved(s impl.Seg, move func(impl.Pt) impl.Pt) impl.Seg {
	return impl.Seg{A: move(s.A), B: move(s.B)}
}

func turnedAbout(s impl.Seg) impl.Seg {
	return impl.Seg{A: s.B, B: s.A}
}

// farPlaces are numbers that are no place of the grid.
func farPlaces() []int {
	return []int{math.MinInt, math.MinInt + 1, math.MinInt32, -impl.GridMax, -1, impl.GridMax + 1, impl.GridMax + 2, math.MaxInt32, math.MaxInt - 1, math.MaxInt}
}

// badPts are points that are not of the grid.
func badPts() []impl.Pt {
	var out []impl.Pt
	for _, n := range farPlaces() {
		for _, m := range append([]int{0, 4, impl.GridMax}, farPlaces()...) {
			out = append(out, impl.Pt{X: n, Y: m}, impl.Pt{X: m, Y: n})
		}
	}
	return out
}

// edgePts are points at the grid's own edges, and within.
func edgePts() []impl.Pt {
	return ptsAt([]int{0, 4, impl.GridMax})
}

// badSegs are segments that are not ok: one end beyond the grid, or both, or a point to itself.
func badSegs() []impl.Seg {
	var out []impl.Seg
	for _, bad := range badPts() {
		out = append(out, impl.Seg{A: bad, B: bad}, impl.Seg{A: bad, B: impl.Pt{X: math.MaxInt, Y: math.MinInt}})
		for _, p := range edgePts() {
			out = append(out, impl.Seg{A: bad, B: p}, impl.Seg{A: p, B: bad})
		}
	}
	for _, p := range allPts() {
		out = append(out, impl.Seg{A: p, B: p})
	}
	return out
}

func distSquared(a impl.Pt, b impl.Pt) int {
	return (a.X-b.X)*(a.X-b.X) + (a.Y-b.Y)*(a.Y-b.Y)
}

// crossed is what two ways, told by how far they go across and up, span.
func crossed(a impl.Pt, b impl.Pt) int {
	return a.X*b.Y - a.Y*b.X
}

func minus(a impl.Pt, b impl.Pt) impl.Pt {
	return impl.Pt{X: a.X - b.X, Y: a.Y - b.Y}
}

// farByFoot is how far a point is from the nearest point of a segment, squared, by the place of that point on it.
func farByFoot(s impl.Seg, p impl.Pt) impl.Frac {
	way, to := minus(s.B, s.A), minus(p, s.A)
	whole := way.X*way.X + way.Y*way.Y
	part := min(max(way.X*to.X+way.Y*to.Y, 0), whole)
	x, y := part*way.X-whole*to.X, part*way.Y-whole*to.Y
	r := rat(x*x+y*y, whole*whole)
	return impl.Frac{N: int(r.Num().Int64()), D: int(r.Denom().Int64())}
}

// meetByLines says whether two segments have a point in common, by where their lines cross.
func meetByLines(s impl.Seg, u impl.Seg) bool {
	way, other, between := minus(s.B, s.A), minus(u.B, u.A), minus(u.A, s.A)
	det := crossed(way, other)
	if det == 0 {
		return crossed(way, between) == 0 && overlap(s.A.X, s.B.X, u.A.X, u.B.X) && overlap(s.A.Y, s.B.Y, u.A.Y, u.B.Y)
	}
	first, second := crossed(between, other), crossed(between, way)
	if det < 0 {
		det, first, second = -det, -first, -second
	}
	return first >= 0 && first <= det && second >= 0 && second <= det
}

func overlap(a int, b int, c int, d int) bool {
	return max(min(a, b), min(c, d)) <= min(max(a, b), max(c, d))
}

// hadPts are the points of the grid that a segment has, reckoned step by step from its first end.
func hadPts(s impl.Seg) []impl.Pt {
	way := minus(s.B, s.A)
	steps := 1
	for n := 2; n <= impl.GridMax; n++ {
		if way.X%n == 0 && way.Y%n == 0 {
			steps = n
		}
	}
	var out []impl.Pt
	for i := 0; i <= steps; i++ {
		out = append(out, impl.Pt{X: s.A.X + i*way.X/steps, Y: s.A.Y + i*way.Y/steps})
	}
	return out
}

func notMoreThan(t *testing.T, a impl.Frac, b impl.Frac) bool {
	t.Helper()
	c := impl.FracCmp(a, b)
	if c == 2 {
		t.Fatalf("%v or %v is no fraction", a, b)
	}
	return c <= 0
}

// P7.
func TestPtOk(t *testing.T) {
	for _, p := range allPts() {
		if !impl.PtOk(p) || !impl.PtOk(otherSide(p)) || !impl.PtOk(exchanged(p)) {
			t.Fatalf("%v is of the grid, and there, on the other side, or exchanged, not ok", p)
		}
	}
	for _, p := range badPts() {
		if impl.PtOk(p) || impl.PtOk(exchanged(p)) {
			t.Fatalf("PtOk(%v) = true, or exchanged", p)
		}
	}
}

// P7: all points on the grid, and around it.
func TestPtOkAroundTheGrid(t *testing.T) {
	for x := -3; x <= impl.GridMax+3; x++ {
		for y := -3; y <= impl.GridMax+3; y++ {
			p := impl.Pt{X: x, Y: y}
			want := x >= 0 && x <= 9 && y >= 0 && y <= 9
			if impl.PtOk(p) != want || impl.PtOk(otherSide(p)) != want || impl.PtOk(exchanged(p)) != want {
				t.Fatalf("PtOk(%v) is not %v, or not so on the other side, or exchanged", p, want)
			}
		}
	}
}

// P8.
func TestSegOk(t *testing.T) {
	pts := allPts()
	for _, a := range pts {
		for _, b := range pts {
			s := impl.Seg{A: a, B: b}
			if want := a != b; impl.SegOk(s) != want || impl.SegOk(turnedAbout(s)) != want {
				t.Fatalf("SegOk(%v) is not %v, or the other way about", s, want)
			}
		}
	}
	for _, s := range badSegs() {
		if impl.SegOk(s) || impl.SegOk(turnedAbout(s)) {
			t.Fatalf("SegOk(%v) = true, or the other way about", s)
		}
	}
}

// P9 and P10.
func TestSegTurn(t *testing.T) {
	pts := allPts()
	for _, a := range pts {
		for _, b := range pts {
			for _, c := range pts {
				checkTurn(t, a, b, c)
			}
		}
	}
}

func checkTurn(t *testing.T, a impl.Pt, b impl.Pt, c impl.Pt) {
	got := impl.SegTurn(a, b, c)
	if n := crossed(minus(b, a), minus(c, b)); n > 0 && got != 1 || n < 0 && got != -1 || n == 0 && got != 0 {
		t.Fatalf("SegTurn(%v, %v, %v) = %d", a, b, c, got)
	}
	if impl.SegTurn(b, c, a) != got {
		t.Fatalf("SegTurn(%v, %v, %v) = %d, of the second, the third, and the first not", a, b, c, got)
	}
	if impl.SegTurn(b, a, c) != -got || impl.SegTurn(a, c, b) != -got || impl.SegTurn(c, b, a) != -got {
		t.Fatalf("SegTurn(%v, %v, %v) = %d, with two exchanged not the other one", a, b, c, got)
	}
	if (a == b || b == c || a == c) && got != 0 {
		t.Fatalf("SegTurn(%v, %v, %v) = %d", a, b, c, got)
	}
	if impl.SegTurn(otherSide(a), otherSide(b), otherSide(c)) != -got || impl.SegTurn(exchanged(a), exchanged(b), exchanged(c)) != -got {
		t.Fatalf("SegTurn(%v, %v, %v) = %d, on the other side, or exchanged, not the other one", a, b, c, got)
	}
	if impl.SegTurn(exchanged(otherSide(a)), exchanged(otherSide(b)), exchanged(otherSide(c))) != got {
		t.Fatalf("SegTurn(%v, %v, %v) = %d, on the other side and exchanged not", a, b, c, got)
	}
}

// P9: which turn is left.
func TestSegTurnLeftAndRight(t *testing.T) {
	a, b := impl.Pt{X: 0, Y: 0}, impl.Pt{X: 9, Y: 0}
	turns := []struct {
		c    impl.Pt
		turn int
	}{
		{impl.Pt{X: 9, Y: 9}, 1},
		{impl.Pt{X: 0, Y: 1}, 1},
		{impl.Pt{X: 4, Y: 0}, 0},
	}
	for _, e := range turns {
		if got, back := impl.SegTurn(a, b, e.c), impl.SegTurn(b, a, e.c); got != e.turn || back != -e.turn {
			t.Errorf("SegTurn(%v, %v, %v) = %d, and the other way about %d", a, b, e.c, got, back)
		}
	}
}

// P9 and P10: a point that is not of the grid, in any place.
func TestSegTurnWrong(t *testing.T) {
	for _, bad := range badPts() {
		for _, p := range edgePts() {
			for _, q := range append(edgePts(), bad, impl.Pt{X: math.MinInt, Y: math.MaxInt}, impl.Pt{X: 10, Y: 0}) {
				turns := []int{impl.SegTurn(bad, p, q), impl.SegTurn(bad, q, p), impl.SegTurn(p, bad, q), impl.SegTurn(q, bad, p), impl.SegTurn(p, q, bad), impl.SegTurn(q, p, bad)}
				for i, n := range turns {
					if n != 0 {
						t.Fatalf("SegTurn of %v, %v and %v, in order %d, is %d", bad, p, q, i, n)
					}
				}
			}
		}
	}
}

// P11.
func TestSegHas(t *testing.T) {
	for _, s := range allSegs() {
		if !impl.SegHas(s, s.A) || !impl.SegHas(s, s.B) {
			t.Fatalf("%v does not have both ends", s)
		}
		had := map[impl.Pt]bool{}
		for _, p := range hadPts(s) {
			had[p] = true
		}
		for _, p := range allPts() {
			got := impl.SegHas(s, p)
			if got != had[p] {
				t.Fatalf("SegHas(%v, %v) = %v", s, p, got)
			}
			if impl.SegHas(turnedAbout(s), p) != got {
				t.Fatalf("SegHas(%v, %v) = %v, the other way about not", s, p, got)
			}
			if got && impl.SegTurn(s.A, s.B, p) != 0 {
				t.Fatalf("%v has %v, which is not in line", s, p)
			}
		}
	}
}

// P12.
func TestSegHasJustIfNotFar(t *testing.T) {
	eachSegAndPt(func(s impl.Seg, p impl.Pt) {
		has, far := impl.SegHas(s, p), impl.SegFar(s, p)
		if has != (far == impl.Frac{N: 0, D: 1}) {
			t.Fatalf("SegHas(%v, %v) = %v, and SegFar %v", s, p, has, far)
		}
		if !has {
			return
		}
		// Of squares: both ways together are all the way just if what all of it is more than both is twice one times the other.
		a, b, c := distSquared(s.A, p), distSquared(p, s.B), distSquared(s.A, s.B)
		if rest := c - a - b; rest < 0 || rest*rest != 4*a*b {
			t.Fatalf("%v has %v, but by it is not all the way", s, p)
		}
	})
}

// P13.
func TestSegHasAndFarElsewhere(t *testing.T) {
	eachSegAndPt(func(s impl.Seg, p impl.Pt) {
		for _, move := range []func(impl.Pt) impl.Pt{otherSide, exchanged} {
			if impl.SegHas(moved(s, move), move(p)) != impl.SegHas(s, p) {
				t.Fatalf("SegHas(%v, %v) is another one on the other side, or exchanged", s, p)
			}
			if impl.SegFar(moved(s, move), move(p)) != impl.SegFar(s, p) {
				t.Fatalf("SegFar(%v, %v) is another one on the other side, or exchanged", s, p)
			}
		}
	})
}

// P11, P12 and P13: wrong inputs, in any place.
func TestSegHasAndFarWrong(t *testing.T) {
	for _, s := range badSegs() {
		for _, p := range append(edgePts(), s.A, s.B, impl.Pt{X: 10, Y: 10}, impl.Pt{X: math.MinInt, Y: math.MaxInt}) {
			checkNoSegAndPt(t, s, p)
		}
	}
	for _, p := range badPts() {
		for _, s := range segsOf(edgePts()) {
			checkNoSegAndPt(t, s, p)
		}
	}
	// In line with it, and between its ends.
	checkNoSegAndPt(t, impl.Seg{A: impl.Pt{X: 0, Y: 0}, B: impl.Pt{X: 10, Y: 0}}, impl.Pt{X: 5, Y: 0})
	checkNoSegAndPt(t, impl.Seg{A: impl.Pt{X: -1, Y: -1}, B: impl.Pt{X: 9, Y: 9}}, impl.Pt{X: 9, Y: 9})
}

func checkNoSegAndPt(t *testing.T, s impl.Seg, p impl.Pt) {
	t.Helper()
	if impl.SegHas(s, p) {
		t.Fatalf("SegHas(%v, %v) = true", s, p)
	}
	if far := impl.SegFar(s, p); far != (impl.Frac{}) {
		t.Fatalf("SegFar(%v, %v) = %v", s, p, far)
	}
}

// P14.
func TestSegMeet(t *testing.T) {
	eachPair(func(s impl.Seg, u impl.Seg) {
		got := impl.SegMeet(s, u)
		if got != meetByLines(s, u) {
			t.Fatalf("SegMeet(%v, %v) = %v", s, u, got)
		}
		if impl.SegMeet(u, s) != got || impl.SegMeet(turnedAbout(s), u) != got || impl.SegMeet(s, turnedAbout(u)) != got {
			t.Fatalf("SegMeet(%v, %v) = %v, the other way about, or of one the other way about, not", s, u, got)
		}
	})
	for _, s := range allSegs() {
		if !impl.SegMeet(s, s) || !impl.SegMeet(s, turnedAbout(s)) {
			t.Fatalf("%v does not meet itself", s)
		}
	}
}

// P14, P15, P16 and P20: how two segments may lie.
func TestTwoSegments(t *testing.T) {
	seg := func(ax int, ay int, bx int, by int) impl.Seg {
		return impl.Seg{A: impl.Pt{X: ax, Y: ay}, B: impl.Pt{X: bx, Y: by}}
	}
	cases := []struct {
		what  string
		s     impl.Seg
		u     impl.Seg
		apart string
	}{
		{"touch in an end of both", seg(0, 0, 4, 2), seg(4, 2, 4, 9), "0"},
		{"touch in an end of one", seg(0, 0, 4, 2), seg(2, 1, 0, 9), "0"},
		{"touch in an end of one, on the longest one", seg(0, 0, 9, 9), seg(3, 3, 9, 0), "0"},
		{"cross in a point of the grid", seg(0, 0, 2, 2), seg(0, 2, 2, 0), "0"},
		{"cross between points of the grid", seg(0, 0, 1, 1), seg(0, 1, 1, 0), "0"},
		{"cross all over the grid", seg(0, 0, 9, 9), seg(0, 9, 9, 0), "0"},
		{"in one line, one end in common", seg(0, 0, 3, 0), seg(3, 0, 9, 0), "0"},
		{"in one line, one over the other", seg(0, 0, 6, 3), seg(2, 1, 8, 4), "0"},
		{"in one line, one within the other", seg(0, 0, 9, 9), seg(7, 7, 3, 3), "0"},
		{"in one line, none in common", seg(0, 0, 2, 1), seg(6, 3, 8, 4), "20"},
		{"in one line across, one step between", seg(0, 9, 4, 9), seg(5, 9, 9, 9), "1"},
		{"in one line up, five steps between", seg(0, 0, 0, 2), seg(0, 9, 0, 7), "25"},
		{"side by side", seg(0, 0, 9, 0), seg(0, 9, 9, 9), "81"},
		{"side by side, aslant", seg(0, 0, 3, 3), seg(1, 0, 4, 3), "1/2"},
		{"side by side, one farther on", seg(0, 0, 2, 0), seg(5, 4, 9, 4), "25"},
		{"the line of one parts the other one, not it", seg(0, 0, 1, 0), seg(4, 4, 4, 0), "9"},
		{"both aslant", seg(0, 0, 3, 1), seg(1, 1, 1, 9), "2/5"},
		{"corner to corner", seg(0, 0, 1, 0), seg(9, 9, 9, 8), "128"},
		{"corner to corner, both up", seg(0, 0, 0, 1), seg(9, 9, 9, 8), "130"},
	}
	for _, c := range cases {
		for _, s := range []impl.Seg{c.s, turnedAbout(c.s)} {
			for _, u := range []impl.Seg{c.u, turnedAbout(c.u)} {
				if impl.SegMeet(s, u) != (c.apart == "0") || impl.SegMeet(u, s) != (c.apart == "0") {
					t.Errorf("%s: SegMeet of %v and %v", c.what, s, u)
				}
				if a, b := impl.FracText(impl.SegApart(s, u)), impl.FracText(impl.SegApart(u, s)); a != c.apart || b != c.apart {
					t.Errorf("%s: SegApart of %v and %v is %s, and %s, not %s", c.what, s, u, a, b, c.apart)
				}
			}
		}
	}
}

// P15.
func TestSegMeetByEndsOrTurns(t *testing.T) {
	eachPair(func(s impl.Seg, u impl.Seg) {
		ends := impl.SegHas(s, u.A) || impl.SegHas(s, u.B) || impl.SegHas(u, s.A) || impl.SegHas(u, s.B)
		meet := impl.SegMeet(s, u)
		if ends && !meet {
			t.Fatalf("one of %v and %v has an end of the other one, but they do not meet", s, u)
		}
		if meet && !ends && !(turnsBetween(s, u) && turnsBetween(u, s)) {
			t.Fatalf("%v and %v meet, have no end of each other, and do not turn between", s, u)
		}
		if !meet && turnsBetween(s, u) && turnsBetween(u, s) {
			t.Fatalf("%v and %v turn between each other's ends, and do not meet", s, u)
		}
	})
}

// turnsBetween says whether one turns to the ends of the other one left and right.
func turnsBetween(s impl.Seg, u impl.Seg) bool {
	a, b := impl.SegTurn(s.A, s.B, u.A), impl.SegTurn(s.A, s.B, u.B)
	return a == 1 && b == -1 || a == -1 && b == 1
}

// P16.
func TestSegApart(t *testing.T) {
	eachPair(func(s impl.Seg, u impl.Seg) {
		got := impl.SegApart(s, u)
		if !impl.FracOk(got) || (got == impl.Frac{N: 0, D: 1}) != impl.SegMeet(s, u) {
			t.Fatalf("SegApart(%v, %v) = %v", s, u, got)
		}
		if back := impl.SegApart(u, s); back != got {
			t.Fatalf("SegApart(%v, %v) = %v, the other way about %v", s, u, got, back)
		}
		for _, move := range []func(impl.Pt) impl.Pt{otherSide, exchanged} {
			if there := impl.SegApart(moved(s, move), moved(u, move)); there != got {
				t.Fatalf("SegApart(%v, %v) = %v, on the other side, or exchanged, %v", s, u, got, there)
			}
		}
	})
}

// P14, P15 and P16: wrong inputs, in both places.
func TestSegMeetAndApartWrong(t *testing.T) {
	for _, bad := range badSegs() {
		for _, s := range append(segsOf(ptsAt([]int{0, impl.GridMax})), bad, impl.Seg{}, impl.Seg{B: impl.Pt{X: 10, Y: 10}}) {
			if impl.SegMeet(bad, s) || impl.SegMeet(s, bad) {
				t.Fatalf("SegMeet of %v and %v is true", bad, s)
			}
			if a, b := impl.SegApart(bad, s), impl.SegApart(s, bad); a != (impl.Frac{}) || b != (impl.Frac{}) {
				t.Fatalf("SegApart of %v and %v is %v, the other way about %v", bad, s, a, b)
			}
		}
	}
}

// P17.
func TestSegFar(t *testing.T) {
	eachSegAndPt(func(s impl.Seg, p impl.Pt) {
		far := impl.SegFar(s, p)
		if !impl.FracOk(far) {
			t.Fatalf("SegFar(%v, %v) = %v is not ok", s, p, far)
		}
		for _, end := range []impl.Pt{s.A, s.B} {
			if !notMoreThan(t, far, mustFrac(t, distSquared(end, p), 1)) {
				t.Fatalf("SegFar(%v, %v) = %v, but %v is nearer", s, p, far, end)
			}
		}
		if back := impl.SegFar(turnedAbout(s), p); back != far {
			t.Fatalf("SegFar(%v, %v) = %v, the other way about %v", s, p, far, back)
		}
	})
}

// P17: by the nearest point.
func TestSegFarByFoot(t *testing.T) {
	pts := allPts()
	for _, s := range append(closeSegs(), wideSegs()...) {
		for _, p := range pts {
			if got, want := impl.SegFar(s, p), farByFoot(s, p); got != want {
				t.Fatalf("SegFar(%v, %v) = %v, not %v", s, p, got, want)
			}
		}
	}
}

// P17: the nearest point is an end, or between the ends.
func TestSegFarEdges(t *testing.T) {
	pt := func(x int, y int) impl.Pt {
		return impl.Pt{X: x, Y: y}
	}
	cases := []struct {
		what string
		s    impl.Seg
		p    impl.Pt
		far  string
	}{
		{"the first end itself", impl.Seg{A: pt(0, 0), B: pt(9, 9)}, pt(0, 0), "0"},
		{"the last end itself", impl.Seg{A: pt(0, 0), B: pt(9, 9)}, pt(9, 9), "0"},
		{"in line, between", impl.Seg{A: pt(0, 0), B: pt(4, 2)}, pt(2, 1), "0"},
		{"in line, beyond", impl.Seg{A: pt(0, 0), B: pt(4, 2)}, pt(8, 4), "20"},
		{"in line, behind", impl.Seg{A: pt(4, 2), B: pt(8, 4)}, pt(2, 1), "5"},
		{"behind the first end", impl.Seg{A: pt(3, 3), B: pt(9, 3)}, pt(1, 0), "13"},
		{"beyond the last end", impl.Seg{A: pt(3, 3), B: pt(7, 3)}, pt(9, 9), "40"},
		{"square over the first end", impl.Seg{A: pt(3, 3), B: pt(9, 3)}, pt(3, 7), "16"},
		{"square over the last end", impl.Seg{A: pt(0, 0), B: pt(4, 2)}, pt(3, 4), "5"},
		{"one step within the ends", impl.Seg{A: pt(0, 0), B: pt(9, 0)}, pt(1, 9), "81"},
		{"between, whole", impl.Seg{A: pt(0, 0), B: pt(4, 2)}, pt(1, 3), "5"},
		{"between, not whole", impl.Seg{A: pt(0, 0), B: pt(3, 1)}, pt(1, 1), "2/5"},
		{"between, as near as can be", impl.Seg{A: pt(0, 0), B: pt(9, 8)}, pt(1, 1), "1/145"},
		{"between, from corner to corner", impl.Seg{A: pt(0, 0), B: pt(9, 9)}, pt(9, 0), "81/2"},
		{"as far as can be", impl.Seg{A: pt(0, 0), B: pt(0, 1)}, pt(9, 9), "145"},
	}
	for _, c := range cases {
		if got := impl.FracText(impl.SegFar(c.s, c.p)); got != c.far {
			t.Errorf("%s: SegFar(%v, %v) = %s, not %s", c.what, c.s, c.p, got, c.far)
		}
		if got := impl.FracText(impl.SegFar(turnedAbout(c.s), c.p)); got != c.far {
			t.Errorf("%s: the other way about SegFar(%v, %v) = %s, not %s", c.what, c.s, c.p, got, c.far)
		}
	}
}

// P18.
func TestSegFarOfALongerOne(t *testing.T) {
	eachSegAndPt(func(s impl.Seg, p impl.Pt) {
		longer := impl.Seg{A: s.A, B: impl.Pt{X: 2*s.B.X - s.A.X, Y: 2*s.B.Y - s.A.Y}}
		if !impl.PtOk(longer.B) {
			return
		}
		if !notMoreThan(t, impl.SegFar(longer, p), impl.SegFar(s, p)) {
			t.Fatalf("%v is farther from %v than from %v", p, longer, s)
		}
	})
}

// P19.
func TestSegFarOfEachPointItHas(t *testing.T) {
	pts := allPts()
	for _, s := range allSegs() {
		had := hadPts(s)
		for _, p := range pts {
			nearest := distSquared(had[0], p)
			for _, q := range had {
				nearest = min(nearest, distSquared(q, p))
			}
			if far := impl.SegFar(s, p); !notMoreThan(t, far, mustFrac(t, nearest, 1)) {
				t.Fatalf("SegFar(%v, %v) = %v, but it has a point at %d", s, p, far, nearest)
			}
		}
	}
}

// P20.
func TestSegApartByEnds(t *testing.T) {
	eachPair(func(s impl.Seg, u impl.Seg) {
		apart := impl.SegApart(s, u)
		one := false
		for _, far := range []impl.Frac{impl.SegFar(s, u.A), impl.SegFar(s, u.B), impl.SegFar(u, s.A), impl.SegFar(u, s.B)} {
			if !notMoreThan(t, apart, far) {
				t.Fatalf("SegApart(%v, %v) = %v, but an end is at %v", s, u, apart, far)
			}
			one = one || far == apart
		}
		if !one && !impl.SegMeet(s, u) {
			t.Fatalf("SegApart(%v, %v) = %v, and no end is as far", s, u, apart)
		}
	})
}

// P21.
func TestSegMovedOneStep(t *testing.T) {
	eachSegAndPt(func(s impl.Seg, p impl.Pt) {
		u, q := moved(s, oneAcross), oneAcross(p)
		if !impl.SegOk(u) || !impl.PtOk(q) {
			return
		}
		if a, b := impl.SegFar(s, p), impl.SegFar(u, q); a != b {
			t.Fatalf("SegFar(%v, %v) = %v, moved %v", s, p, a, b)
		}
		if a, b := impl.SegTurn(s.A, s.B, p), impl.SegTurn(u.A, u.B, q); a != b {
			t.Fatalf("SegTurn of %v and %v is %d, moved %d", s, p, a, b)
		}
	})
}

// P22.
func TestSegMeetOfParts(t *testing.T) {
	eachPair(func(s impl.Seg, u impl.Seg) {
		if !impl.SegMeet(s, u) {
			return
		}
		for _, p := range allPts() {
			if !impl.SegHas(s, p) {
				continue
			}
			if !impl.SegMeet(impl.Seg{A: s.A, B: p}, u) && !impl.SegMeet(impl.Seg{A: p, B: s.B}, u) {
				t.Fatalf("%v meets %v, but no part of it by %v does", s, u, p)
			}
		}
	})
}

// P23.
func TestSegApartOfEachPointItHas(t *testing.T) {
	eachPair(func(s impl.Seg, u impl.Seg) {
		apart := impl.SegApart(s, u)
		for _, p := range hadPts(s) {
			if far := impl.SegFar(u, p); !notMoreThan(t, apart, far) {
				t.Fatalf("SegApart(%v, %v) = %v, but %v is at %v", s, u, apart, p, far)
			}
		}
	})
}
