package tests

import (
	"math"
	"regexp"
	"slices"
	"strings"
	"sync"
	"testing"

	"loop.example/mortiser/impl"
)

// knownLoop is a loop that is ok, with twice its area.
type knownLoop struct {
	what string
	text string
	size int
}

func knownLoops() []knownLoop {
	return []knownLoop{
		{"the smallest one", "0,0 1,0 0,1", 1},
		{"the smallest one, to the right", "0,0 0,1 1,0", -1},
		{"as thin as can be", "0,0 9,8 8,7", -1},
		{"three points, aslant", "1,2 8,3 4,9", 46},
		{"half the grid", "0,0 9,0 9,9", 81},
		{"all of the grid", "0,0 9,0 9,9 0,9", 162},
		{"all of the grid, to the right", "0,0 0,9 9,9 9,0", -162},
		{"one square in the grid's last corner", "8,8 9,8 9,9 8,9", 2},
		{"four points, on a corner", "4,0 9,4 5,9 0,5", 82},
		{"four points, not convex", "0,0 4,0 4,4 2,1", 12},
		{"an arrow", "0,0 4,2 8,0 4,8", 48},
		{"an arrow, to the right", "4,8 8,0 4,2 0,0", -48},
		{"four points, straight on at one", "0,0 2,0 4,0 0,4", 16},
		{"straight on at one, aslant", "0,0 6,3 3,6 2,4", 27},
		{"straight on at the first and the last one", "2,0 4,0 0,4 0,2 0,0", 16},
		{"straight on at two, one behind the other", "0,0 1,0 2,0 3,0 0,3", 9},
		{"five points, a house", "0,0 4,0 4,4 2,6 0,4", 40},
		{"six points, a corner cut out", "0,0 4,0 4,2 2,2 2,4 0,4", 24},
		{"six points, a corner cut out, to the right", "0,4 2,4 2,2 4,2 4,0 0,0", -24},
		{"six points, a bolt", "0,0 5,4 4,4 9,9 3,5 4,5", 17},
		{"seven points", "0,0 9,0 9,9 5,1 4,8 3,1 0,9", 88},
		{"eight points, around a gap", "0,0 6,0 6,6 4,6 4,2 2,2 2,6 0,6", 56},
		{"eight points, around a gap to the side", "0,0 6,0 6,2 2,2 2,4 6,4 6,6 0,6", 56},
		{"eight points, a cross of slants", "0,0 4,1 9,0 8,4 9,9 5,8 0,9 1,5", 126},
		{"eight points, straight on at four", "0,0 1,0 2,0 2,1 2,2 1,2 0,2 0,1", 8},
		{"eight points, a stair", "0,0 3,0 3,1 2,1 2,2 1,2 1,3 0,3", 12},
		{"eight points, a hook", "0,0 9,0 9,9 3,9 3,4 4,8 8,8 8,1", 40},
		{"eight points, teeth", "0,0 9,0 9,9 7,1 5,9 3,1 1,9 0,1", 90},
	}
}

// knownBad is points of the grid that are no loop.
type knownBad struct {
	what string
	pts  []impl.Pt
}

func knownBads() []knownBad {
	return []knownBad{
		{"no list", nil},
		{"no points", []impl.Pt{}},
		{"one point", ptsOf(0, 0)},
		{"two points", ptsOf(0, 0, 4, 0)},
		{"one point three times", ptsOf(2, 2, 2, 2, 2, 2)},
		{"forth and back, with the first twice", ptsOf(0, 0, 4, 0, 0, 0)},
		{"three in line, across", ptsOf(0, 0, 2, 0, 4, 0)},
		{"three in line, up, the middle one first", ptsOf(0, 2, 0, 4, 0, 0)},
		{"three in line, aslant", ptsOf(0, 0, 2, 1, 6, 3)},
		{"back within the edge ahead", ptsOf(0, 0, 4, 0, 2, 0, 2, 3)},
		{"back beyond the edge ahead", ptsOf(2, 0, 4, 0, 0, 0, 2, 3)},
		{"back to where the edge ahead began", ptsOf(2, 0, 4, 0, 2, 0, 2, 3)},
		{"back aslant, within", ptsOf(0, 0, 6, 3, 2, 1, 0, 5)},
		{"back aslant, beyond", ptsOf(2, 1, 6, 3, 0, 0, 0, 5)},
		{"back from the last to the first point", ptsOf(4, 0, 4, 4, 0, 4, 0, 0, 6, 0)},
		{"back at the first point", ptsOf(6, 0, 4, 0, 4, 4, 0, 4, 0, 0)},
		{"back at the last point, within", ptsOf(1, 1, 2, 0, 4, 0, 4, 4, 3, 3, 0, 0, 2, 2)},
		{"a spike", ptsOf(0, 0, 4, 0, 4, 4, 4, 6, 4, 4, 0, 4)},
		{"a bow", ptsOf(0, 0, 4, 4, 4, 0, 0, 4)},
		{"a bow that crosses between points of the grid", ptsOf(0, 0, 1, 1, 1, 0, 0, 1)},
		{"a star", ptsOf(4, 9, 2, 0, 9, 6, 0, 6, 7, 0)},
		{"touches in a corner", ptsOf(0, 0, 4, 0, 2, 2, 4, 4, 0, 4, 2, 2)},
		{"a corner on an edge", ptsOf(0, 0, 4, 0, 4, 4, 2, 0, 0, 4)},
		{"a corner on an edge, aslant", ptsOf(0, 0, 6, 3, 6, 9, 2, 1, 0, 9)},
		{"a corner on the last edge", ptsOf(0, 0, 4, 0, 0, 2, 4, 4, 0, 4)},
		{"an edge over another one", ptsOf(0, 0, 6, 0, 6, 4, 4, 0, 2, 0, 0, 4)},
		{"an edge of another one's place", ptsOf(0, 0, 4, 0, 4, 4, 4, 0, 0, 0, 0, 4)},
		{"one point twice, one behind the other", ptsOf(0, 0, 4, 0, 4, 0, 4, 4)},
		{"the first point is the last one", ptsOf(0, 0, 4, 0, 4, 4, 0, 0)},
		{"nine points around a square", ptsOf(0, 0, 1, 0, 2, 0, 3, 0, 3, 1, 3, 2, 3, 3, 1, 3, 0, 3)},
		{"nine points, none straight on", ptsOf(0, 1, 4, 0, 9, 1, 8, 4, 9, 9, 5, 8, 3, 9, 0, 8, 1, 5)},
	}
}

// ptsOf are points of places, across and up by turns.
func ptsOf(places ...int) []impl.Pt {
	var out []impl.Pt
	for i := 0; i < len(places); i += 2 {
		out = append(out, impl.Pt{X: places[i], Y: places[i+1]})
	}
	return out
}

func mustLoop(t *testing.T, text string) []impl.Pt {
	t.Helper()
	l, ok := impl.LoopRead(text)
	if !ok {
		t.Fatalf("LoopRead(%q) is refused", text)
	}
	return l
}

// plainEdges are the edges of points, loop or not.
func plainEdges(l []impl.Pt) []impl.Seg {
	var out []impl.Seg
	for i := range l {
		out = append(out, impl.Seg{A: l[i], B: l[(i+1)%len(l)]})
	}
	return out
}

// loopByLines says whether points of the grid are a loop, by where the lines of their edges cross.
func loopByLines(l []impl.Pt) bool {
	if len(l) < 3 || len(l) > 8 {
		return false
	}
	edges := plainEdges(l)
	for i, e := range edges {
		if e.A == e.B {
			return false
		}
		for j := i + 1; j < len(edges); j++ {
			switch u := edges[j]; {
			case j == i+1:
				if !parts(e, u) {
					return false
				}
			case i == 0 && j == len(edges)-1:
				if !parts(u, e) {
					return false
				}
			case meetByLines(e, u):
				return false
			}
		}
	}
	return true
}

// parts says whether two edges, one behind the other, leave the point between them to different sides.
func parts(e impl.Seg, next impl.Seg) bool {
	back, on := minus(e.A, e.B), minus(next.B, next.A)
	return crossed(back, on) != 0 || back.X*on.X+back.Y*on.Y < 0
}

// inByRay says where a point is, seen from a loop, by a ray that goes through no other point of the grid.
func inByRay(l []impl.Pt, p impl.Pt) int {
	ray := impl.Seg{A: p, B: impl.Pt{X: p.X - 100, Y: p.Y + 1}}
	met := 0
	for _, e := range plainEdges(l) {
		if slices.Contains(hadPts(e), p) {
			return 0
		}
		if meetByLines(ray, e) {
			met++
		}
	}
	if met%2 == 1 {
		return 1
	}
	return -1
}

// eachList goes through all lists of so many of the points; the list is good until the next one.
func eachList(pts []impl.Pt, many int, f func(l []impl.Pt)) {
	list := make([]impl.Pt, many)
	var fill func(i int)
	fill = func(i int) {
		if i == many {
			f(list)
			return
		}
		for _, p := range pts {
			list[i] = p
			fill(i + 1)
		}
	}
	fill(0)
}

// eachOrder goes through all lists of so many of the points, each point once at most, that begin with a certain one.
func eachOrder(pts []impl.Pt, first impl.Pt, many int, f func(l []impl.Pt)) {
	list := []impl.Pt{first}
	var fill func()
	fill = func() {
		if len(list) == many {
			f(list)
			return
		}
		for _, p := range pts {
			if slices.Contains(list, p) {
				continue
			}
			list = append(list, p)
			fill()
			list = list[:len(list)-1]
		}
	}
	fill()
}

// eachFew goes through lists of points, loops and others: close ones, and ones that reach to the grid's edges.
func eachFew(f func(l []impl.Pt)) {
	close3, wide3 := ptsAt([]int{0, 1, 2}), ptsAt([]int{0, 5, impl.GridMax})
	eachList(ptsAt([]int{0, 1, 2, 3}), 3, f)
	eachList(ptsAt([]int{0, 2, 5, impl.GridMax}), 3, f)
	eachList(ptsAt([]int{0, 1, 2, 3}), 4, f)
	eachList(ptsAt([]int{0, 4, 6, impl.GridMax}), 4, f)
	eachList(close3, 5, f)
	eachList(wide3, 5, f)
	for _, first := range []impl.Pt{{X: 0, Y: 0}, {X: 1, Y: 0}, {X: 1, Y: 1}} {
		for many := 6; many <= 9; many++ {
			eachOrder(close3, first, many, f)
		}
	}
	for many := 6; many <= 9; many++ {
		eachOrder(wide3, impl.Pt{X: 0, Y: 5}, many, f)
	}
}

// someLoops are the known loops, and some of those among few lists: of each number of points every so many.
var someLoops = sync.OnceValue(func() [][]impl.Pt {
	var out [][]impl.Pt
	for _, k := range knownLoops() {
		out = append(out, plainPts(k.text))
	}
	every := map[int]int{3: 199, 4: 701, 5: 149, 6: 37, 7: 29, 8: 13}
	seen := map[int]int{}
	eachFew(func(l []impl.Pt) {
		if !loopByLines(l) {
			return
		}
		seen[len(l)]++
		if seen[len(l)]%every[len(l)] == 0 {
			out = append(out, slices.Clone(l))
		}
	})
	return out
})

// plainPts are the points of a text of the known loops.
func plainPts(text string) []impl.Pt {
	var out []impl.Pt
	for i := 0; i+2 < len(text); i += 4 {
		out = append(out, impl.Pt{X: int(text[i] - '0'), Y: int(text[i+2] - '0')})
	}
	return out
}

// fromOn is a loop from one of its points on.
func fromOn(l []impl.Pt, i int) []impl.Pt {
	return slices.Concat(l[i:], l[:i])
}

// backwards is a loop the other way about.
func backwards(l []impl.Pt) []impl.Pt {
	out := slices.Clone(l)
	slices.Reverse(out)
	return out
}

func movedPts(l []impl.Pt, move func(impl.Pt) impl.Pt) []impl.Pt {
	var out []impl.Pt
	for _, p := range l {
		out = append(out, move(p))
	}
	return out
}

// withAt is a list with one point more, at a place.
func withAt(l []impl.Pt, i int, p impl.Pt) []impl.Pt {
	return slices.Insert(slices.Clone(l), i, p)
}

// insteadAt is a list with another point at a place.
func insteadAt(l []impl.Pt, i int, p impl.Pt) []impl.Pt {
	out := slices.Clone(l)
	out[i] = p
	return out
}

// withoutAt is a list without the point at a place.
func withoutAt(l []impl.Pt, i int) []impl.Pt {
	return slices.Concat(l[:i], l[i+1:])
}

// checkNoLoop asks all functions of the chapter for what they answer of what is no loop.
func checkNoLoop(t *testing.T, what string, l []impl.Pt) {
	t.Helper()
	if impl.LoopOk(l) {
		t.Fatalf("%s: LoopOk(%v) = true", what, l)
	}
	if n := impl.LoopSize(l); n != 0 {
		t.Fatalf("%s: LoopSize(%v) = %d", what, l, n)
	}
	if edges := impl.LoopEdges(l); len(edges) != 0 {
		t.Fatalf("%s: LoopEdges(%v) = %v", what, l, edges)
	}
	if text := impl.LoopText(l); text != "" {
		t.Fatalf("%s: LoopText(%v) = %q", what, l, text)
	}
	for _, p := range append(edgePts(), l...) {
		if n := impl.LoopIn(l, p); n != -1 {
			t.Fatalf("%s: LoopIn(%v, %v) = %d", what, l, p, n)
		}
	}
}

// P24, P25, P26 and P27: loops and lists that are none, by their points.
func TestKnownLoops(t *testing.T) {
	for _, k := range knownLoops() {
		l := plainPts(k.text)
		if !impl.LoopOk(l) {
			t.Errorf("%s: LoopOk(%v) = false", k.what, l)
		}
		if n := impl.LoopSize(l); n != k.size {
			t.Errorf("%s: LoopSize(%v) = %d, not %d", k.what, l, n, k.size)
		}
		if text := impl.LoopText(l); text != k.text {
			t.Errorf("%s: LoopText(%v) = %q", k.what, l, text)
		}
	}
	for _, k := range knownBads() {
		checkNoLoop(t, k.what, k.pts)
		for i := range k.pts {
			l := fromOn(k.pts, i)
			for _, m := range [][]impl.Pt{l, backwards(l), movedPts(l, otherSide), movedPts(l, exchanged)} {
				checkNoLoop(t, k.what, m)
			}
		}
	}
}

// P24 and P25: all three points of the grid.
func TestLoopOkOfThree(t *testing.T) {
	eachList(allPts(), 3, func(l []impl.Pt) {
		if want := crossed(minus(l[1], l[0]), minus(l[2], l[0])) != 0; impl.LoopOk(l) != want {
			t.Fatalf("LoopOk(%v) = %v", l, !want)
		}
	})
}

// P24.
func TestLoopOk(t *testing.T) {
	eachFew(func(l []impl.Pt) {
		if want := loopByLines(l); impl.LoopOk(l) != want {
			t.Fatalf("LoopOk(%v) = %v", l, !want)
		}
	})
}

// P24.
func TestLoopOkElsewhere(t *testing.T) {
	for _, l := range someLoops() {
		for i := range l {
			m := fromOn(l, i)
			if !impl.LoopOk(m) || !impl.LoopOk(backwards(m)) {
				t.Fatalf("%v is a loop, but %v, or that the other way about, is not", l, m)
			}
			if !impl.LoopOk(movedPts(m, otherSide)) || !impl.LoopOk(movedPts(m, exchanged)) {
				t.Fatalf("%v is a loop, but on the other side, or exchanged, it is not", m)
			}
		}
	}
}

// P25.
func TestLoopOfPointsTwice(t *testing.T) {
	for _, l := range someLoops() {
		for i, p := range l {
			if slices.Contains(l[i+1:], p) {
				t.Fatalf("%v has %v twice", l, p)
			}
			for j := 0; j <= len(l); j++ {
				checkNoLoop(t, "a point twice", withAt(l, j, p))
			}
			for j := range l {
				if j != i {
					checkNoLoop(t, "a point instead of another one", insteadAt(l, j, p))
				}
			}
		}
	}
}

// P25: how many points there may be.
func TestLoopOfTooFewOrTooMany(t *testing.T) {
	eachList(allPts(), 2, func(l []impl.Pt) {
		checkNoLoop(t, "two points", l)
	})
	for _, p := range allPts() {
		checkNoLoop(t, "one point", []impl.Pt{p})
	}
	around := ptsOf(0, 0, 1, 0, 2, 0, 3, 0, 3, 1, 3, 2, 3, 3, 2, 3, 1, 3, 0, 3, 0, 2, 0, 1)
	for many := 0; many <= len(around); many++ {
		// The last ones: of four and more not all are in line.
		l := around[len(around)-many:]
		if want := many >= 4 && many <= impl.LoopMax; impl.LoopOk(l) != want {
			t.Errorf("LoopOk of %d points, %v, is %v", many, l, !want)
		}
	}
	for _, many := range []int{impl.LoopMax + 1, 2 * impl.LoopMax, 1 << 16} {
		l := slices.Repeat(around, many)[:many]
		checkNoLoop(t, "too many points", l)
	}
}

// P26.
func TestLoopEdges(t *testing.T) {
	for _, l := range someLoops() {
		edges := impl.LoopEdges(l)
		if !slices.Equal(edges, plainEdges(l)) {
			t.Fatalf("LoopEdges(%v) = %v", l, edges)
		}
		for i, e := range edges {
			if ahead := edges[(i+len(edges)-1)%len(edges)]; ahead.B != e.A {
				t.Fatalf("of %v, %v is ahead of %v", l, ahead, e)
			}
			for j, u := range edges {
				beside := i == j || (i+1)%len(l) == j || (j+1)%len(l) == i
				if impl.SegMeet(e, u) != beside {
					t.Fatalf("of %v, the edges %v and %v meet, or do not: %v", l, e, u, !beside)
				}
			}
		}
	}
}

// P26: of two edges, one behind the other, just the point between is of both.
func TestLoopEdgesBesideEachOther(t *testing.T) {
	for _, l := range someLoops() {
		edges := impl.LoopEdges(l)
		for i, e := range edges {
			next := edges[(i+1)%len(edges)]
			for _, p := range allPts() {
				if impl.SegHas(e, p) && impl.SegHas(next, p) != (p == e.B) {
					t.Fatalf("of %v, the edges %v and %v at %v", l, e, next, p)
				}
			}
		}
	}
}

// P27.
func TestLoopSize(t *testing.T) {
	for _, l := range someLoops() {
		size := impl.LoopSize(l)
		fan := 0
		for i := 1; i+1 < len(l); i++ {
			fan += crossed(minus(l[i], l[0]), minus(l[i+1], l[0]))
		}
		if size == 0 || size != fan {
			t.Fatalf("LoopSize(%v) = %d, not %d", l, size, fan)
		}
		for i := range l {
			m := fromOn(l, i)
			if n := impl.LoopSize(m); n != size {
				t.Fatalf("LoopSize(%v) = %d, of %v %d", l, size, m, n)
			}
			for _, other := range [][]impl.Pt{backwards(m), movedPts(m, otherSide), movedPts(m, exchanged)} {
				if n := impl.LoopSize(other); n != -size {
					t.Fatalf("LoopSize(%v) = %d, of %v %d", l, size, other, n)
				}
			}
		}
	}
}

// P28.
func TestLoopSizeByPick(t *testing.T) {
	pts := allPts()
	for _, l := range someLoops() {
		count := map[int]int{}
		for _, p := range pts {
			count[impl.LoopIn(l, p)]++
		}
		if size := impl.LoopSize(l); max(size, -size) != 2*count[1]+count[0]-2 {
			t.Fatalf("LoopSize(%v) = %d, with %d points in it, and %d on it", l, size, count[1], count[0])
		}
	}
}

// P29.
func TestLoopIn(t *testing.T) {
	pts := allPts()
	for _, l := range someLoops() {
		edges := impl.LoopEdges(l)
		for _, p := range pts {
			got := impl.LoopIn(l, p)
			if want := inByRay(l, p); got != want {
				t.Fatalf("LoopIn(%v, %v) = %d, not %d", l, p, got, want)
			}
			has := slices.ContainsFunc(edges, func(e impl.Seg) bool { return impl.SegHas(e, p) })
			if (got == 0) != has {
				t.Fatalf("LoopIn(%v, %v) = %d, and an edge has it: %v", l, p, got, has)
			}
		}
	}
}

// P29.
func TestLoopInElsewhere(t *testing.T) {
	pts := allPts()
	for _, l := range someLoops() {
		side, swap := movedPts(l, otherSide), movedPts(l, exchanged)
		back := backwards(l)
		for _, p := range pts {
			got := impl.LoopIn(l, p)
			for i := 1; i < len(l); i++ {
				if n := impl.LoopIn(fromOn(l, i), p); n != got {
					t.Fatalf("LoopIn(%v, %v) = %d, from place %d on %d", l, p, got, i, n)
				}
			}
			if n := impl.LoopIn(back, p); n != got {
				t.Fatalf("LoopIn(%v, %v) = %d, the other way about %d", l, p, got, n)
			}
			if a, b := impl.LoopIn(side, otherSide(p)), impl.LoopIn(swap, exchanged(p)); a != got || b != got {
				t.Fatalf("LoopIn(%v, %v) = %d, on the other side %d, and exchanged %d", l, p, got, a, b)
			}
		}
	}
}

// P29: how a point may stand.
func TestLoopInKnown(t *testing.T) {
	cases := []struct {
		what string
		loop string
		p    impl.Pt
		in   int
	}{
		{"a corner", "0,0 4,0 4,4 0,4", impl.Pt{X: 4, Y: 4}, 0},
		{"on an edge", "0,0 4,0 4,4 0,4", impl.Pt{X: 0, Y: 3}, 0},
		{"on the last edge", "0,0 4,0 4,4", impl.Pt{X: 2, Y: 2}, 0},
		{"in", "0,0 4,0 4,4 0,4", impl.Pt{X: 1, Y: 3}, 1},
		{"beyond", "0,0 4,0 4,4 0,4", impl.Pt{X: 5, Y: 3}, -1},
		{"in line with an edge, not on it", "2,2 4,2 4,4 2,4", impl.Pt{X: 1, Y: 2}, -1},
		{"in line with an edge, not on it, on the right", "2,2 4,2 4,4 2,4", impl.Pt{X: 5, Y: 4}, -1},
		{"in line with an edge, and in", "0,0 9,0 9,9 5,9 5,4 3,4 3,9 0,9", impl.Pt{X: 1, Y: 4}, 1},
		{"in line with an edge, and in, on the right", "0,0 9,0 9,9 5,9 5,4 3,4 3,9 0,9", impl.Pt{X: 8, Y: 4}, 1},
		{"in the gap", "0,0 9,0 9,9 5,9 5,4 3,4 3,9 0,9", impl.Pt{X: 4, Y: 5}, -1},
		{"beside a corner, in", "0,4 4,0 8,4 4,8", impl.Pt{X: 1, Y: 4}, 1},
		{"beside a corner, beyond", "1,4 4,0 8,4 4,8", impl.Pt{X: 0, Y: 4}, -1},
		{"at the height of the top corner", "1,4 4,0 8,4 4,8", impl.Pt{X: 1, Y: 8}, -1},
		{"at the height of the bottom corner", "1,4 4,0 8,4 4,8", impl.Pt{X: 1, Y: 0}, -1},
		{"at the height of a dent's corner, in", "0,0 8,0 8,8 4,3 0,8", impl.Pt{X: 1, Y: 3}, 1},
		{"above a dent", "0,0 8,0 8,8 4,3 0,8", impl.Pt{X: 4, Y: 4}, -1},
		{"below a dent", "0,0 8,0 8,8 4,3 0,8", impl.Pt{X: 4, Y: 2}, 1},
		{"beside three corners of one height", "0,0 9,0 9,9 7,4 5,9 3,4 1,9", impl.Pt{X: 1, Y: 4}, 1},
		{"the grid's own corner", "0,0 9,0 9,9 0,9", impl.Pt{X: 9, Y: 9}, 0},
		{"the grid's own edge", "0,0 9,0 9,9 0,9", impl.Pt{X: 0, Y: 5}, 0},
		{"one less", "0,0 9,0 9,9 0,9", impl.Pt{X: 8, Y: 8}, 1},
		{"one more", "0,0 9,0 9,9 0,9", impl.Pt{X: 10, Y: 9}, -1},
		{"one more, up", "0,0 9,0 9,9 0,9", impl.Pt{X: 9, Y: 10}, -1},
		{"below 0", "0,0 9,0 9,9 0,9", impl.Pt{X: -1, Y: 0}, -1},
		{"as near to an edge as can be, beyond", "0,0 9,8 0,8", impl.Pt{X: 8, Y: 7}, -1},
		{"as near to an edge as can be, in", "0,0 9,8 0,8", impl.Pt{X: 1, Y: 1}, 1},
	}
	for _, c := range cases {
		l := mustLoop(t, c.loop)
		for i := range l {
			if a, b := impl.LoopIn(fromOn(l, i), c.p), impl.LoopIn(backwards(fromOn(l, i)), c.p); a != c.in || b != c.in {
				t.Errorf("%s: LoopIn(%v, %v) = %d, and the other way about %d, not %d", c.what, fromOn(l, i), c.p, a, b, c.in)
			}
		}
	}
}

// P29 and P34: a point that is not of the grid.
func TestLoopInWrongPoint(t *testing.T) {
	for _, k := range knownLoops() {
		l := plainPts(k.text)
		for _, p := range badPts() {
			if n := impl.LoopIn(l, p); n != -1 {
				t.Fatalf("LoopIn(%v, %v) = %d", l, p, n)
			}
		}
	}
}

// P30 and P31.
func TestLoopInFromPointToPoint(t *testing.T) {
	segs := allSegs()
	for _, k := range knownLoops() {
		l := plainPts(k.text)
		edges := impl.LoopEdges(l)
		for _, s := range segs {
			a, b := impl.LoopIn(l, s.A), impl.LoopIn(l, s.B)
			meets := slices.ContainsFunc(edges, func(e impl.Seg) bool { return impl.SegMeet(e, s) })
			if a*b == -1 && !meets {
				t.Fatalf("of %v, one end of %v is in it, the other one beyond, and it meets no edge", l, s)
			}
			if !meets && (a == 0 || a != b) {
				t.Fatalf("%v meets no edge of %v, but its ends are at %d and %d", s, l, a, b)
			}
		}
	}
}

// P30 and P31: steps to points beside, of more loops.
func TestLoopInStepByStep(t *testing.T) {
	pts := allPts()
	for _, l := range someLoops() {
		edges := impl.LoopEdges(l)
		for _, p := range pts {
			for _, q := range ptsOf(p.X+1, p.Y, p.X, p.Y+1, p.X+1, p.Y+1, p.X+2, p.Y+1) {
				if !impl.PtOk(q) {
					continue
				}
				s := impl.Seg{A: p, B: q}
				meets := slices.ContainsFunc(edges, func(e impl.Seg) bool { return impl.SegMeet(e, s) })
				if a, b := impl.LoopIn(l, p), impl.LoopIn(l, q); !meets && (a == 0 || a != b) || a*b == -1 && !meets {
					t.Fatalf("%v meets an edge of %v: %v, and its ends are at %d and %d", s, l, meets, a, b)
				}
			}
		}
	}
}

// P32.
func TestLoopReadBack(t *testing.T) {
	for _, l := range someLoops() {
		text := impl.LoopText(l)
		if len(text) != 4*len(l)-1 {
			t.Fatalf("LoopText(%v) = %q", l, text)
		}
		if back, ok := impl.LoopRead(text); !ok || !slices.Equal(back, l) {
			t.Fatalf("LoopText(%v) = %q, and LoopRead of that %v, %v", l, text, back, ok)
		}
	}
}

// loopWritten is what a text must look like to be one of points of the grid.
var loopWritten = regexp.MustCompile(`\A[0-9],[0-9]( [0-9],[0-9])*\z`)

// checkRead holds LoopRead of any text against how it must look, and against the text of what was read.
func checkRead(t *testing.T, text string) {
	t.Helper()
	l, ok := impl.LoopRead(text)
	if want := loopWritten.MatchString(text) && loopByLines(plainPts(text)); ok != want {
		t.Fatalf("LoopRead(%q) = %v, %v", text, l, ok)
	}
	if !ok && len(l) != 0 {
		t.Fatalf("LoopRead(%q) = %v, false", text, l)
	}
	if ok && (!impl.LoopOk(l) || impl.LoopText(l) != text) {
		t.Fatalf("LoopRead(%q) = %v, true, of which the text is %q", text, l, impl.LoopText(l))
	}
}

// eachByteOff goes through what a text is with one byte another one, one more, or one less, and without its first, or its last bytes.
func eachByteOff(text string, f func(off string)) {
	for i := 0; i <= len(text); i++ {
		for b := 0; b < 256; b++ {
			put := string([]byte{byte(b)})
			f(text[:i] + put + text[i:])
			if i < len(text) {
				f(text[:i] + put + text[i+1:])
			}
		}
		if i < len(text) {
			f(text[:i] + text[i+1:])
		}
		f(text[:i])
		f(text[i:])
	}
}

// P33: one byte another one, one more, or one less.
func TestLoopReadOneByteOff(t *testing.T) {
	for _, k := range knownLoops() {
		eachByteOff(k.text, func(off string) {
			checkRead(t, off)
		})
	}
}

// P33: all texts of three points, and of some more.
func TestLoopReadAllOfThree(t *testing.T) {
	pts := ptsAt([]int{0, 1, 4, 8, impl.GridMax})
	word := func(p impl.Pt) string { return string([]byte{byte('0' + p.X), ',', byte('0' + p.Y)}) }
	eachList(pts, 3, func(l []impl.Pt) {
		text := word(l[0]) + " " + word(l[1]) + " " + word(l[2])
		checkRead(t, text)
		checkRead(t, text+" 0,4")
	})
}

// P33: texts that are none.
func TestLoopReadWrong(t *testing.T) {
	good := "0,0 4,0 4,4 2,1"
	texts := []string{
		"", " ", ",", ", ,", "\n", "\x00", "0", "0,0", "0,0 4,0",
		" " + good, good + " ", "  " + good, good + "  ", "\t" + good, good + "\n", good + "\r\n", "\n" + good, good + "\x00", "\ufeff" + good,
		"0,0  4,0 4,4", "0,04,0 4,4", "0,0 4,0 4,4,", ",0,0 4,0 4,4", "0,,0 4,0 4,4", "0 ,0 4,0 4,4", "0, 0 4,0 4,4", "0,0,4,0,4,4", "0 0 4 0 4 4", "0,0 4,0 44",
		"+0,0 4,0 4,4", "-0,0 4,0 4,4", "0,0 +4,0 4,4", "0,0 4,0 4,-4", "00,0 4,0 4,4", "0,0 4,0 4,04", "0,0 4,0 4,4.0", "0,0 4,0 4,0x4", "0,0 4,0 4,4e0", "0,0 4,0 4,_4",
		"0,0 4,0 4,10", "0,0 10,0 4,4", "0,0 4,0 -1,4", "0,0 4,0 4,99999999999999999999", "0,0 4,0 4,9223372036854775807", "0,0 4,0 4,-9223372036854775808",
		"0,0\t4,0\t4,4", "0,0\n4,0\n4,4", "0;0 4;0 4;4", "0,0\u00a04,0 4,4", "0,0 4,0 4,\uff14", "0,0 4,0 4,\u0664", "a,0 4,0 4,4", "0,0 4,0 4,\xff",
		"(0,0) (4,0) (4,4)", "\"" + good + "\"", good + " " + good,
	}
	for _, text := range texts {
		if l, ok := impl.LoopRead(text); ok || len(l) != 0 {
			t.Errorf("LoopRead(%q) = %v, %v", text, l, ok)
		}
		checkRead(t, text)
	}
	for _, k := range knownBads() {
		words := make([]string, 0, len(k.pts))
		for _, p := range k.pts {
			words = append(words, string([]byte{byte('0' + p.X), ',', byte('0' + p.Y)}))
		}
		if l, ok := impl.LoopRead(strings.Join(words, " ")); ok || len(l) != 0 {
			t.Errorf("%s: LoopRead of %v is %v, %v", k.what, words, l, ok)
		}
	}
}

// P33: of how many bytes a text may be: the longest one of a loop has 31.
func TestLoopReadLongTexts(t *testing.T) {
	longest := "0,0 1,0 2,0 2,1 2,2 1,2 0,2 0,1"
	if l := mustLoop(t, longest); len(l) != impl.LoopMax {
		t.Errorf("LoopRead(%q) = %v", longest, l)
	}
	for _, fill := range []string{" ", "0", ",", " 0,1", "\n", "\x00"} {
		for _, size := range []int{32, 35, 39, 40, 41, 42, 1 << 20} {
			tail := strings.Repeat(fill, size)[:size-len(longest)]
			for _, text := range []string{longest + tail, tail + longest, tail + tail + longest} {
				if l, ok := impl.LoopRead(text); ok || len(l) != 0 {
					t.Errorf("LoopRead of %d bytes is %v, %v", len(text), l, ok)
				}
			}
		}
	}
}

// P34.
func TestLoopInOfItsPointsAndAround(t *testing.T) {
	for _, l := range someLoops() {
		for _, p := range l {
			if n := impl.LoopIn(l, p); n != 0 {
				t.Fatalf("LoopIn(%v, %v) = %d", l, p, n)
			}
		}
		left, right, low, high := math.MaxInt, math.MinInt, math.MaxInt, math.MinInt
		for _, p := range l {
			left, right, low, high = min(left, p.X), max(right, p.X), min(low, p.Y), max(high, p.Y)
		}
		for _, p := range ptsAt([]int{-1, 0, 1, 2, 3, 4, 5, 6, 7, 8, 9, 10}) {
			if n := impl.LoopIn(l, p); (p.X < left || p.X > right || p.Y < low || p.Y > high) && n != -1 {
				t.Fatalf("LoopIn(%v, %v) = %d", l, p, n)
			}
		}
	}
}

// P35.
func TestLoopStraightOn(t *testing.T) {
	straight := 0
	for _, l := range someLoops() {
		for i, p := range l {
			ahead, next := l[(i+len(l)-1)%len(l)], l[(i+1)%len(l)]
			if impl.SegTurn(ahead, p, next) != 0 {
				continue
			}
			straight++
			m := withoutAt(l, i)
			if len(m) < 3 || !impl.LoopOk(m) || impl.LoopSize(m) != impl.LoopSize(l) {
				t.Fatalf("%v goes straight on at %v, but is without it no loop of that area", l, p)
			}
		}
	}
	if straight < 20 {
		t.Errorf("there are but %d points at which a loop goes straight on", straight)
	}
}

// P35: with a point more at which it goes straight on, as far as LoopMax lets.
func TestLoopStraightOnAtOneMore(t *testing.T) {
	pts := allPts()
	for _, l := range someLoops() {
		size := impl.LoopSize(l)
		for i, e := range plainEdges(l) {
			for _, p := range pts {
				if p == e.A || p == e.B || !impl.SegHas(e, p) {
					continue
				}
				m := withAt(l, i+1, p)
				if len(l) == impl.LoopMax {
					checkNoLoop(t, "one point too many", m)
				} else if !impl.LoopOk(m) || impl.LoopSize(m) != size {
					t.Fatalf("%v is a loop, but with %v at place %d none of that area", l, p, i+1)
				}
			}
		}
	}
}

// P24 to P35: a point that is not of the grid, in any place.
func TestLoopOfWrongPoints(t *testing.T) {
	for _, k := range knownLoops() {
		l := plainPts(k.text)
		for _, bad := range badPts() {
			for i := range l {
				checkNoLoop(t, k.what, insteadAt(l, i, bad))
			}
		}
	}
	edge := impl.GridMax + 1
	for _, l := range [][]impl.Pt{ptsOf(0, 0, edge, 0, 0, 4), ptsOf(0, 0, 4, 0, 0, edge), ptsOf(-1, 0, 4, 0, 0, 4), ptsOf(0, -1, 4, 0, 0, 4), ptsOf(-1, -1, edge, -1, edge, edge, -1, edge)} {
		checkNoLoop(t, "one step beyond the grid", l)
	}
	for _, n := range farPlaces() {
		for _, m := range farPlaces() {
			checkNoLoop(t, "all beyond the grid", ptsOf(n, m, m, n, n, n))
		}
	}
}

// P24 to P35: nothing is written into an argument, or behind its end; answers share nothing.
func TestLoopsLeaveArgumentsAlone(t *testing.T) {
	for _, l := range slices.Concat(someLoops(), [][]impl.Pt{ptsOf(0, 0, 4, 4, 4, 0, 0, 4), ptsOf(0, 0)}) {
		spare := append(slices.Clone(l), ptsOf(7, 1, 2, 8, 5, 5)...)
		want := slices.Clone(spare)
		given := spare[:len(l)]
		impl.LoopOk(given)
		impl.LoopSize(given)
		impl.LoopIn(given, impl.Pt{X: 1, Y: 1})
		impl.LoopEdges(given)
		impl.LoopText(given)
		if !slices.Equal(spare, want) {
			t.Fatalf("%v was made %v", want, spare)
		}
	}
}

// P26 and P33: each answer is new memory, spare room included.
func TestLoopAnswersAreNew(t *testing.T) {
	for _, k := range knownLoops() {
		first, second := mustLoop(t, k.text), mustLoop(t, k.text)
		clear(first[:cap(first)])
		if !slices.Equal(second, plainPts(k.text)) {
			t.Fatalf("two answers of LoopRead(%q) share memory", k.text)
		}
		one, two := impl.LoopEdges(second), impl.LoopEdges(second)
		clear(one[:cap(one)])
		if !slices.Equal(two, plainEdges(second)) {
			t.Fatalf("two answers of LoopEdges(%v) share memory", second)
		}
	}
}
