package tests

import (
	"math"
	"regexp"
	"slices"
	"strings"
	"sync"
	"testing"

	"loop.example/mortiser/impl"
)

// knownPlate is a plate that is ok.
type knownPlate struct {
	what string
	text string
}

func knownPlates() []knownPlate {
	return []knownPlate{
		{"no hole, the smallest one", "0,0 1,0 0,1\n"},
		{"no hole, all of the grid", "0,0 9,0 9,9 0,9\n"},
		{"no hole, to the right", "0,0 0,9 9,9 9,0\n"},
		{"no hole, not convex", "0,0 4,0 4,4 2,1\n"},
		{"no hole, around a gap", "0,0 6,0 6,6 4,6 4,2 2,2 2,6 0,6\n"},
		{"no hole, straight on at one", "0,0 2,0 4,0 0,4\n"},
		{"one hole", "0,0 8,0 8,8 0,8\n3,3 5,3 5,5 3,5\n"},
		{"one hole, to the right", "0,0 8,0 8,8 0,8\n3,3 3,5 5,5 5,3\n"},
		{"one hole, the outer loop to the right", "0,8 8,8 8,0 0,0\n3,3 5,3 5,5 3,5\n"},
		{"one hole, both to the right", "0,8 8,8 8,0 0,0\n3,5 5,5 5,3 3,3\n"},
		{"one hole, one step from each edge", "0,0 9,0 9,9 0,9\n1,1 8,1 8,8 1,8\n"},
		{"one hole, as small as can be", "0,0 4,0 0,4\n1,1 2,1 1,2\n"},
		{"one hole, a corner as near to an edge as can be", "0,0 9,8 0,8\n1,2 4,5 1,5\n"},
		{"one hole, in three points", "0,0 9,0 0,9\n1,1 4,1 1,4\n"},
		{"one hole, not convex", "0,0 9,0 9,9 0,9\n2,2 6,2 6,6 4,3\n"},
		{"one hole, straight on at four points", "0,0 9,0 9,9 0,9\n3,3 4,3 5,3 5,4 5,5 4,5 3,5 3,4\n"},
		{"one hole, the outer loop straight on at two", "4,0 9,0 9,9 4,9 0,9 0,0\n5,5 7,5 6,7\n"},
		{"one hole, in the arm of a hook", "0,0 9,0 9,9 6,9 6,3 3,3 3,9 0,9\n7,4 8,4 8,8 7,8\n"},
		{"one hole, around a dent of the outer loop", "0,0 9,0 9,9 5,9 5,4 4,4 4,9 0,9\n2,1 7,1 7,8 6,8 6,2 3,2 3,8 2,8\n"},
		{"one hole, aslant", "4,0 9,4 5,9 0,5\n4,2 7,4 5,7 2,5\n"},
		{"two holes", "0,0 9,0 9,9 0,9\n1,1 3,1 3,3 1,3\n5,5 8,5 8,8 5,8\n"},
		{"two holes, one to the left and one to the right", "0,0 9,0 9,9 0,9\n1,1 3,1 3,3 1,3\n5,5 5,8 8,8 8,5\n"},
		{"two holes, the outer loop to the right", "9,0 0,0 0,9 9,9\n1,1 3,1 3,3 1,3\n5,5 5,8 8,8 8,5\n"},
		{"two holes, one step apart", "0,0 9,0 9,9 0,9\n1,1 4,1 4,8 1,8\n5,1 8,1 8,8 5,8\n"},
		{"two holes, corner to corner", "0,0 9,0 9,9 0,9\n2,2 4,2 4,4 2,4\n5,5 7,5 7,7 5,7\n"},
		{"two holes, aslant beside each other", "0,0 9,0 9,9 0,9\n1,2 6,7 1,7\n2,1 8,1 8,7\n"},
		{"two holes, in both arms of a hook", "0,0 9,0 9,9 6,9 6,3 3,3 3,9 0,9\n1,4 2,4 2,8 1,8\n7,4 8,4 8,8 7,8\n"},
		{"two holes, one in the other one's gap", "0,0 9,0 9,9 0,9\n1,1 8,1 8,8 6,8 6,3 3,3 3,8 1,8\n4,4 5,4 5,7 4,7\n"},
		{"two holes, the one in the gap first", "0,0 9,0 9,9 0,9\n4,4 5,4 5,7 4,7\n1,1 8,1 8,8 6,8 6,3 3,3 3,8 1,8\n"},
		{"two holes, three points each", "0,0 9,0 0,9\n1,1 3,1 1,3\n5,1 6,1 5,2\n"},
		{"two holes, eight points each", "0,0 4,0 9,0 9,4 9,9 4,9 0,9 0,4\n1,1 2,1 3,1 3,2 3,3 2,3 1,3 1,2\n5,5 6,5 7,5 7,6 7,7 6,7 5,7 5,6\n"},
	}
}

// knownBadPlate is loops that are no plate, as texts; the outer one first.
type knownBadPlate struct {
	what  string
	loops []string
}

func knownBadPlates() []knownBadPlate {
	square, wide := "0,0 8,0 8,8 0,8", "1,1 7,1 7,7 1,7"
	return []knownBadPlate{
		{"one hole too many", []string{"0,0 9,0 9,9 0,9", "1,1 2,1 1,2", "4,1 5,1 4,2", "7,1 8,1 7,2"}},
		{"many holes too many", []string{"0,0 9,0 9,9 0,9", "1,1 2,1 1,2", "4,1 5,1 4,2", "7,1 8,1 7,2", "1,4 2,4 1,5", "4,4 5,4 4,5"}},
		{"touches the outer loop, corner to corner", []string{square, "0,0 2,1 1,2"}},
		{"touches the outer loop, a corner on an edge", []string{square, "0,4 3,2 3,6"}},
		{"touches the outer loop, a corner on an edge, not the first one", []string{square, "3,2 3,6 0,4"}},
		{"touches the outer loop, a corner on a slant", []string{"0,0 8,8 0,8", "4,4 2,6 1,5"}},
		{"touches the outer loop along an edge", []string{square, "0,2 2,2 2,5 0,5"}},
		{"touches the outer loop along an edge, all of it", []string{square, "0,0 8,0 4,3"}},
		{"touches the outer loop along a slant", []string{"0,0 8,8 0,8", "2,2 4,4 2,5"}},
		{"touches a corner that comes in, where it goes straight on itself", []string{"0,0 8,0 8,8 4,4 0,8", "2,4 4,2 6,4 4,4"}},
		{"touches a corner that comes in, between its own corners", []string{"0,0 8,0 8,8 4,4 0,8", "3,1 6,1 5,4 3,4"}},
		{"touches the outer loop, a corner on its last edge", []string{"0,0 4,0 4,4 0,4", "0,1 1,1 1,2"}},
		{"touches from beyond, corner to corner", []string{"0,0 4,0 4,4 0,4", "4,4 6,4 6,6 4,6"}},
		{"touches from beyond, along an edge", []string{"0,0 4,0 4,4 0,4", "4,1 6,1 6,3 4,3"}},
		{"touches from beyond, a corner on an edge", []string{"0,0 4,0 4,4 0,4", "4,2 6,1 6,3"}},
		{"crosses the outer loop, its first point in", []string{"0,0 4,0 4,4 0,4", "2,2 6,1 6,3"}},
		{"crosses the outer loop, its first point beyond", []string{"0,0 4,0 4,4 0,4", "6,1 6,3 2,2"}},
		{"crosses the outer loop, all its points in", []string{"0,0 8,0 8,8 4,3 0,8", "1,1 7,1 7,5 1,5"}},
		{"crosses the outer loop, all its points beyond", []string{"2,2 6,2 6,6 2,6", "1,4 8,3 8,5"}},
		{"crosses between points of the grid", []string{"0,0 9,0 9,9 5,8 4,9 0,9", "4,8 5,9 3,5"}},
		{"beyond the outer loop", []string{"0,0 4,0 4,4 0,4", "6,6 8,6 8,8 6,8"}},
		{"beyond, in the outer loop's gap", []string{"0,0 9,0 9,9 6,9 6,3 3,3 3,9 0,9", "4,5 5,5 5,8"}},
		{"around the outer loop", []string{"3,3 5,3 5,5 3,5", square}},
		{"the outer loop as a hole", []string{square, square}},
		{"the outer loop as a hole, the other way about", []string{square, "0,8 8,8 8,0 0,0"}},
		{"the outer loop as a hole, from another point on", []string{square, "8,8 0,8 0,0 8,0"}},
		{"the outer loop as the second hole", []string{square, "3,3 5,3 5,5 3,5", square}},
		{"the outer loop twice as a hole", []string{square, square, square}},
		{"a hole twice", []string{square, "3,3 5,3 5,5 3,5", "3,3 5,3 5,5 3,5"}},
		{"a hole twice, the other way about", []string{square, "3,3 5,3 5,5 3,5", "3,5 5,5 5,3 3,3"}},
		{"a hole in a hole", []string{square, wide, "3,3 5,3 5,5 3,5"}},
		{"a hole around a hole", []string{square, "3,3 5,3 5,5 3,5", wide}},
		{"a hole in a hole, as deep as can be", []string{"0,0 9,0 9,9 0,9", "1,1 8,1 8,8 1,8", "4,4 5,4 4,5"}},
		{"holes touch, corner to corner", []string{square, "1,1 3,1 3,3 1,3", "3,3 5,3 5,5 3,5"}},
		{"holes touch along an edge", []string{square, "1,1 3,1 3,5 1,5", "3,2 5,2 5,4 3,4"}},
		{"holes touch along an edge, all of both", []string{square, "1,1 3,1 3,5 1,5", "3,1 5,1 5,5 3,5"}},
		{"holes touch, a corner on an edge", []string{square, "1,1 3,1 3,5 1,5", "3,3 5,2 5,4"}},
		{"holes touch, a corner on a slant", []string{square, "1,1 5,5 1,5", "3,3 6,1 7,2"}},
		{"holes touch along slants", []string{square, "1,1 5,5 1,5", "2,2 6,1 4,4"}},
		{"holes touch, one within the other one", []string{square, wide, "1,1 5,4 4,5"}},
		{"holes touch, one within the other one, on an edge", []string{square, wide, "1,4 5,3 5,5"}},
		{"holes cross", []string{square, "1,1 5,1 5,5 1,5", "3,3 7,3 7,7 3,7"}},
		{"holes cross, no point of one in the other one", []string{square, "3,1 5,1 5,7 3,7", "1,3 7,3 7,5 1,5"}},
		{"holes cross, with one another's corners", []string{square, "1,3 7,4 1,5", "7,3 1,4 7,5"}},
		{"the first hole is beyond", []string{"0,0 6,0 6,6 0,6", "7,7 9,7 9,9", "1,1 3,1 3,3"}},
		{"the second hole is beyond", []string{"0,0 6,0 6,6 0,6", "1,1 3,1 3,3", "7,7 9,7 9,9"}},
		{"the first hole touches the outer loop", []string{square, "0,1 2,1 2,3", "5,5 7,5 7,7"}},
		{"the second hole touches the outer loop", []string{square, "5,5 7,5 7,7", "0,1 2,1 2,3"}},
	}
}

// plainPlate is the plate of a text of the known plates.
func plainPlate(text string) impl.Plate {
	return plateOf(strings.Split(strings.TrimSuffix(text, "\n"), "\n")...)
}

// plateOf is a plate of texts of loops, the outer one first.
func plateOf(loops ...string) impl.Plate {
	p := impl.Plate{Outer: plainPts(loops[0])}
	for _, hole := range loops[1:] {
		p.Holes = append(p.Holes, plainPts(hole))
	}
	return p
}

// loopsOf are the loops of a plate, the outer one first.
func loopsOf(p impl.Plate) [][]impl.Pt {
	return slices.Concat([][]impl.Pt{p.Outer}, p.Holes)
}

func samePlate(p impl.Plate, q impl.Plate) bool {
	return slices.EqualFunc(loopsOf(p), loopsOf(q), slices.Equal)
}

func movedPlate(p impl.Plate, move func(impl.Pt) impl.Pt) impl.Plate {
	out := impl.Plate{Outer: movedPts(p.Outer, move)}
	for _, hole := range p.Holes {
		out.Holes = append(out.Holes, movedPts(hole, move))
	}
	return out
}

// withoutHole is a plate without the hole at a place.
func withoutHole(p impl.Plate, i int) impl.Plate {
	return impl.Plate{Outer: p.Outer, Holes: slices.Concat(p.Holes[:i], p.Holes[i+1:])}
}

// withHoles is a plate with other holes.
func withHoles(p impl.Plate, holes ...[]impl.Pt) impl.Plate {
	return impl.Plate{Outer: p.Outer, Holes: holes}
}

func oneUp(p impl.Pt) impl.Pt {
	return impl.Pt{X: p.X, Y: p.Y + 1}
}

// plateByLines says whether loops of points of the grid are a plate, by where the lines of their edges cross, and where each point of a hole is.
func plateByLines(p impl.Plate) bool {
	if len(p.Holes) > 2 {
		return false
	}
	loops := loopsOf(p)
	for i, l := range loops {
		if !loopByLines(l) {
			return false
		}
		for j, m := range loops[:i] {
			if loopsMeet(l, m) {
				return false
			}
			for _, pt := range l {
				if where := inByRay(m, pt); (where == 1) != (j == 0) {
					return false
				}
			}
			for _, pt := range m {
				if j > 0 && inByRay(l, pt) != -1 {
					return false
				}
			}
		}
	}
	return true
}

func loopsMeet(l []impl.Pt, m []impl.Pt) bool {
	for _, e := range plainEdges(l) {
		for _, u := range plainEdges(m) {
			if meetByLines(e, u) {
				return true
			}
		}
	}
	return false
}

// plateInByRay says where a point is, seen from a plate, by rays.
func plateInByRay(p impl.Plate, at impl.Pt) int {
	where := inByRay(p.Outer, at)
	for _, hole := range p.Holes {
		switch inByRay(hole, at) {
		case 0:
			return 0
		case 1:
			where = -1
		}
	}
	return where
}

// everywhere are the places of a loop that is moved about: all of the grid, or every so many steps.
func everywhere(l []impl.Pt, every int) [][]impl.Pt {
	var out [][]impl.Pt
	for dy := 0; dy <= impl.GridMax; dy += every {
		for dx := 0; dx <= impl.GridMax; dx += every {
			m := movedPts(l, func(p impl.Pt) impl.Pt { return impl.Pt{X: p.X + dx, Y: p.Y + dy} })
			if !slices.ContainsFunc(m, func(p impl.Pt) bool { return p.X > impl.GridMax || p.Y > impl.GridMax }) {
				out = append(out, m)
			}
		}
	}
	return out
}

// outerLoops are loops in which holes have room.
func outerLoops() []string {
	return []string{
		"0,0 9,0 9,9 0,9",
		"1,8 8,8 8,1 1,1",
		"0,0 9,0 0,9",
		"4,0 9,4 5,9 0,5",
		"0,0 9,0 9,9 5,3 0,9",
		"0,0 9,0 9,9 5,9 5,4 4,4 4,9 0,9",
		"0,9 9,9 9,6 3,6 3,3 9,3 9,0 0,0",
		"0,0 4,1 9,0 8,4 9,9 5,8 0,9 1,5",
	}
}

// holeLoops are loops, in the grid's first corner, that are moved about as holes.
func holeLoops() []string {
	return []string{
		"0,0 1,0 0,1",
		"1,1 0,1 1,0",
		"0,0 2,0 2,2 0,2",
		"0,0 0,2 1,2 2,2 2,0",
		"0,1 2,0 1,2",
		"0,0 3,0 3,3 2,1",
		"0,0 4,0 4,1 1,1 1,4 0,4",
		"0,0 5,0 5,4 4,4 4,1 1,1 1,4 0,4",
	}
}

// eachPlate goes through plates, ok and not: of each outer loop and each hole at each place, and of two holes at some places.
func eachPlate(f func(p impl.Plate)) {
	for _, outer := range outerLoops() {
		o := plainPts(outer)
		for _, hole := range holeLoops() {
			for _, h := range everywhere(plainPts(hole), 1) {
				f(impl.Plate{Outer: o, Holes: [][]impl.Pt{h}})
			}
		}
	}
	for _, outer := range outerLoops()[:2] {
		o := plainPts(outer)
		for i, first := range holeLoops() {
			for _, second := range holeLoops()[i:] {
				eachTwo(everywhere(plainPts(first), 2), everywhere(plainPts(second), 1), func(h []impl.Pt, k []impl.Pt) {
					f(impl.Plate{Outer: o, Holes: [][]impl.Pt{h, k}})
				})
			}
		}
	}
}

// eachTwo goes through all pairs of one of the first list, and one of the second.
func eachTwo(first [][]impl.Pt, second [][]impl.Pt, f func(h []impl.Pt, k []impl.Pt)) {
	for _, h := range first {
		for _, k := range second {
			f(h, k)
		}
	}
}

// somePlates are the known plates, and some of those that each plate goes through: of each number of holes every so many.
var somePlates = sync.OnceValue(func() []impl.Plate {
	var out []impl.Plate
	for _, k := range knownPlates() {
		out = append(out, plainPlate(k.text))
	}
	for _, l := range outerLoops() {
		out = append(out, plateOf(l))
	}
	every := map[int]int{1: 19, 2: 73}
	seen := map[int]int{}
	eachPlate(func(p impl.Plate) {
		if !plateByLines(p) {
			return
		}
		seen[len(p.Holes)]++
		if seen[len(p.Holes)]%every[len(p.Holes)] == 0 {
			out = append(out, p)
		}
	})
	return out
})

// checkNoPlate asks all functions of the chapter for what they answer of what is no plate.
func checkNoPlate(t *testing.T, what string, p impl.Plate) {
	t.Helper()
	if impl.PlateOk(p) {
		t.Fatalf("%s: PlateOk(%v) = true", what, p)
	}
	if edges := impl.PlateEdges(p); len(edges) != 0 {
		t.Fatalf("%s: PlateEdges(%v) = %v", what, p, edges)
	}
	if text := impl.PlateText(p); text != "" {
		t.Fatalf("%s: PlateText(%v) = %q", what, p, text)
	}
	for _, at := range slices.Concat(edgePts(), p.Outer[:min(len(p.Outer), 3)]) {
		checkNowhere(t, what, p, at)
	}
}

// checkNowhere asks where a point is that is none, or of what is no plate.
func checkNowhere(t *testing.T, what string, p impl.Plate, at impl.Pt) {
	t.Helper()
	if n := impl.PlateIn(p, at); n != -1 {
		t.Fatalf("%s: PlateIn(%v, %v) = %d", what, p, at, n)
	}
	if far := impl.PlateFar(p, at); far != (impl.Frac{}) {
		t.Fatalf("%s: PlateFar(%v, %v) = %v", what, p, at, far)
	}
	if near := impl.PlateNear(p, at); len(near) != 0 {
		t.Fatalf("%s: PlateNear(%v, %v) = %v", what, p, at, near)
	}
}

// P36 and P37: plates that are ok, and such that are not, by their loops; each loop from any point on, and the other way about.
func TestKnownPlates(t *testing.T) {
	for _, k := range knownPlates() {
		p := plainPlate(k.text)
		if !impl.PlateOk(p) {
			t.Errorf("%s: PlateOk(%v) = false", k.what, p)
		}
		eachBegun(p, func(q impl.Plate) {
			if !impl.PlateOk(q) {
				t.Errorf("%s: PlateOk(%v) = false", k.what, q)
			}
		})
	}
	for _, k := range knownBadPlates() {
		p := plateOf(k.loops...)
		for i, l := range loopsOf(p) {
			if !impl.LoopOk(l) {
				t.Fatalf("%s: loop %d, %v, is not ok", k.what, i, l)
			}
		}
		checkNoPlate(t, k.what, p)
		eachBegun(p, func(q impl.Plate) {
			checkNoPlate(t, k.what, q)
		})
		checkNoPlate(t, k.what, movedPlate(p, otherSide))
		checkNoPlate(t, k.what, movedPlate(p, exchanged))
	}
}

// eachBegun goes through a plate with one of its loops begun at another point, or going the other way about.
func eachBegun(p impl.Plate, f func(q impl.Plate)) {
	for i, l := range loopsOf(p) {
		for j := range l {
			for _, m := range [][]impl.Pt{fromOn(l, j), backwards(fromOn(l, j))} {
				loops := loopsOf(p)
				loops[i] = m
				f(impl.Plate{Outer: loops[0], Holes: loops[1:]})
			}
		}
	}
}

// P36.
func TestPlateOk(t *testing.T) {
	good, bad := 0, 0
	eachPlate(func(p impl.Plate) {
		want := plateByLines(p)
		if impl.PlateOk(p) != want {
			t.Fatalf("PlateOk(%v) = %v", p, !want)
		}
		if want {
			good++
		} else {
			bad++
		}
	})
	if good < 1000 || bad < 1000 {
		t.Errorf("there are but %d plates that are ok, and %d that are not", good, bad)
	}
}

// P36.
func TestPlateOkElsewhere(t *testing.T) {
	for _, p := range somePlates() {
		for _, q := range []impl.Plate{p, movedPlate(p, otherSide), movedPlate(p, exchanged)} {
			if !impl.PlateOk(q) {
				t.Fatalf("%v is a plate, but %v is not", p, q)
			}
			if many := len(q.Holes); many > 0 && !impl.PlateOk(withoutHole(q, many-1)) {
				t.Fatalf("%v is a plate, but without its last hole it is not", q)
			}
			if !impl.PlateOk(withHoles(q, aboutHoles(q)...)) {
				t.Fatalf("%v is a plate, but with its holes the other way about it is not", q)
			}
		}
	}
}

// aboutHoles are the holes of a plate the other way about.
func aboutHoles(p impl.Plate) [][]impl.Pt {
	out := slices.Clone(p.Holes)
	slices.Reverse(out)
	return out
}

// nineHoles are nine holes that have room beside each other in all of the grid.
func nineHoles() [][]impl.Pt {
	var holes [][]impl.Pt
	for y := 1; y <= 7; y += 3 {
		for x := 1; x <= 7; x += 3 {
			holes = append(holes, ptsOf(x, y, x+1, y, x, y+1))
		}
	}
	return holes
}

// P36: how many holes there may be.
func TestPlateOfManyHoles(t *testing.T) {
	outer := plainPts("0,0 9,0 9,9 0,9")
	for many := 0; many <= impl.HoleMax; many++ {
		if p := (impl.Plate{Outer: outer, Holes: nineHoles()[:many]}); !impl.PlateOk(p) {
			t.Errorf("with %d holes PlateOk(%v) = false", many, p)
		}
	}
	if impl.HoleMax != 2 {
		t.Errorf("HoleMax is %d", impl.HoleMax)
	}
}

// P37.
func TestPlateHolesAreWithin(t *testing.T) {
	for _, p := range somePlates() {
		for i, hole := range p.Holes {
			for _, pt := range hole {
				if n := impl.LoopIn(p.Outer, pt); n != 1 {
					t.Fatalf("%v, of a hole of %v, is at %d of the outer loop", pt, p, n)
				}
				for j, other := range p.Holes {
					if n := impl.LoopIn(other, pt); j != i && n != -1 {
						t.Fatalf("%v, of hole %d of %v, is at %d of hole %d", pt, i, p, n, j)
					}
				}
			}
		}
	}
}

// P37.
func TestPlateWithALoopTwice(t *testing.T) {
	for _, p := range somePlates() {
		for _, hole := range p.Holes {
			for i := range hole {
				again := fromOn(hole, i)
				checkNoPlate(t, "a hole twice", withHoles(p, hole, again))
				checkNoPlate(t, "a hole twice", withHoles(p, again, hole))
				checkNoPlate(t, "a hole twice, one the other way about", withHoles(p, hole, backwards(again)))
			}
			checkNoPlate(t, "a hole twice, besides all", withHoles(p, append(slices.Clone(p.Holes), hole)...))
			checkNoPlate(t, "a hole, and the outer loop", withHoles(p, hole, p.Outer))
			checkNoPlate(t, "the outer loop, and a hole", withHoles(p, p.Outer, hole))
		}
		for i := range p.Outer {
			again := fromOn(p.Outer, i)
			checkNoPlate(t, "the outer loop as a hole", withHoles(p, again))
			checkNoPlate(t, "the outer loop as a hole, the other way about", withHoles(p, backwards(again)))
			checkNoPlate(t, "the outer loop as both holes", withHoles(p, again, p.Outer))
		}
		checkNoPlate(t, "the outer loop as a hole, behind all", withHoles(p, append(slices.Clone(p.Holes), p.Outer)...))
		checkNoPlate(t, "the outer loop as a hole, ahead of all", withHoles(p, slices.Concat([][]impl.Pt{p.Outer}, p.Holes)...))
	}
}

// P38.
func TestPlateEdges(t *testing.T) {
	for _, p := range somePlates() {
		var want []impl.Seg
		var whose []int
		for i, l := range loopsOf(p) {
			want = append(want, plainEdges(l)...)
			whose = append(whose, slices.Repeat([]int{i}, len(l))...)
			if !slices.Equal(impl.LoopEdges(l), plainEdges(l)) {
				t.Fatalf("LoopEdges(%v) = %v", l, impl.LoopEdges(l))
			}
		}
		edges := impl.PlateEdges(p)
		if !slices.Equal(edges, want) {
			t.Fatalf("PlateEdges(%v) = %v", p, edges)
		}
		for i, e := range edges {
			for j, u := range edges {
				if whose[i] != whose[j] && impl.SegMeet(e, u) {
					t.Fatalf("of %v, the edges %v and %v meet", p, e, u)
				}
			}
		}
	}
}

// P39.
func TestPlateIn(t *testing.T) {
	pts := allPts()
	for _, p := range somePlates() {
		edges := impl.PlateEdges(p)
		for _, at := range pts {
			got := impl.PlateIn(p, at)
			if want := plateInByRay(p, at); got != want {
				t.Fatalf("PlateIn(%v, %v) = %d, not %d", p, at, got, want)
			}
			in := impl.LoopIn(p.Outer, at) == 1
			for _, hole := range p.Holes {
				in = in && impl.LoopIn(hole, at) == -1
			}
			has := slices.ContainsFunc(edges, func(e impl.Seg) bool { return impl.SegHas(e, at) })
			if (got == 1) != in || (got == 0) != has || got < -1 || got > 1 {
				t.Fatalf("PlateIn(%v, %v) = %d; in: %v, on an edge: %v", p, at, got, in, has)
			}
		}
	}
}

// P40.
func TestPlateInAndFarElsewhere(t *testing.T) {
	pts := allPts()
	for _, p := range somePlates() {
		for _, move := range []func(impl.Pt) impl.Pt{otherSide, exchanged} {
			q := movedPlate(p, move)
			for _, at := range pts {
				if a, b := impl.PlateIn(p, at), impl.PlateIn(q, move(at)); a != b {
					t.Fatalf("PlateIn(%v, %v) = %d, on the other side, or exchanged, %d", p, at, a, b)
				}
				if a, b := impl.PlateFar(p, at), impl.PlateFar(q, move(at)); a != b {
					t.Fatalf("PlateFar(%v, %v) = %v, on the other side, or exchanged, %v", p, at, a, b)
				}
			}
		}
	}
}

// P41 and P42.
func TestPlateFarAndNear(t *testing.T) {
	pts := allPts()
	for _, p := range somePlates() {
		var edges []impl.Seg
		for _, l := range loopsOf(p) {
			edges = append(edges, plainEdges(l)...)
		}
		for _, at := range pts {
			checkFarAndNear(t, p, edges, at)
		}
	}
}

func checkFarAndNear(t *testing.T, p impl.Plate, edges []impl.Seg, at impl.Pt) {
	t.Helper()
	far := impl.PlateFar(p, at)
	var places []int
	for i, e := range edges {
		this := impl.SegFar(e, at)
		if !notMoreThan(t, far, this) {
			t.Fatalf("PlateFar(%v, %v) = %v, but the edge %v is at %v", p, at, far, e, this)
		}
		if this == far {
			places = append(places, i)
		}
	}
	if len(places) == 0 {
		t.Fatalf("PlateFar(%v, %v) = %v, and no edge is as far", p, at, far)
	}
	if near := impl.PlateNear(p, at); !slices.Equal(near, places) {
		t.Fatalf("PlateNear(%v, %v) = %v, not %v", p, at, near, places)
	}
	if on := impl.PlateIn(p, at) == 0; (far == impl.Frac{N: 0, D: 1}) != on {
		t.Fatalf("PlateFar(%v, %v) = %v, and it is on an edge: %v", p, at, far, on)
	}
}

// P41: by the nearest points of all edges.
func TestPlateFarByFoot(t *testing.T) {
	for _, k := range knownPlates() {
		p := plainPlate(k.text)
		for _, at := range allPts() {
			least, _ := nearByFoot(p, at)
			if far := impl.PlateFar(p, at); far != least {
				t.Fatalf("%s: PlateFar(%v, %v) = %v, not %v", k.what, p, at, far, least)
			}
		}
	}
}

// nearByFoot is how far the nearest edge of a plate is from a point, squared, and all edges that are as near, by the nearest points of each.
func nearByFoot(p impl.Plate, at impl.Pt) (impl.Frac, []impl.Seg) {
	least := impl.Frac{N: impl.FracMax, D: 1}
	var near []impl.Seg
	for _, l := range loopsOf(p) {
		for _, e := range plainEdges(l) {
			far := farByFoot(e, at)
			switch rat(far.N, far.D).Cmp(rat(least.N, least.D)) {
			case -1:
				least, near = far, []impl.Seg{e}
			case 0:
				near = append(near, e)
			}
		}
	}
	return least, near
}

// P39, P41 and P42: how a point may stand.
func TestPlatePointsKnown(t *testing.T) {
	square, two := "0,0 8,0 8,8 0,8\n3,3 5,3 5,5 3,5\n", "0,0 9,0 9,9 0,9\n1,1 3,1 3,3 1,3\n5,5 5,8 8,8 8,5\n"
	cases := []struct {
		what string
		text string
		at   impl.Pt
		in   int
		far  string
		near []int
	}{
		{"a corner of the outer loop", square, impl.Pt{X: 0, Y: 0}, 0, "0", []int{0, 3}},
		{"another corner of the outer loop", square, impl.Pt{X: 8, Y: 8}, 0, "0", []int{1, 2}},
		{"on an edge of the outer loop", square, impl.Pt{X: 8, Y: 3}, 0, "0", []int{1}},
		{"on the last edge of the outer loop", square, impl.Pt{X: 0, Y: 3}, 0, "0", []int{3}},
		{"a corner of the hole", square, impl.Pt{X: 3, Y: 3}, 0, "0", []int{4, 7}},
		{"another corner of the hole", square, impl.Pt{X: 5, Y: 5}, 0, "0", []int{5, 6}},
		{"on an edge of the hole", square, impl.Pt{X: 3, Y: 4}, 0, "0", []int{7}},
		{"in, nearest to one edge", square, impl.Pt{X: 4, Y: 1}, 1, "1", []int{0}},
		{"in, nearest to one edge of the hole", square, impl.Pt{X: 6, Y: 4}, 1, "1", []int{5}},
		{"in, as near to two edges of the outer loop", square, impl.Pt{X: 1, Y: 1}, 1, "1", []int{0, 3}},
		{"in, as near to two edges of the hole, in their corner", square, impl.Pt{X: 2, Y: 2}, 1, "2", []int{4, 7}},
		{"in, as near to two edges of the hole, in its last corner", square, impl.Pt{X: 6, Y: 6}, 1, "2", []int{5, 6}},
		{"in the hole, as near to all of its edges", square, impl.Pt{X: 4, Y: 4}, -1, "1", []int{4, 5, 6, 7}},
		{"beyond", square, impl.Pt{X: 9, Y: 4}, -1, "1", []int{1}},
		{"beyond, nearest to a corner", square, impl.Pt{X: 9, Y: 9}, -1, "2", []int{1, 2}},
		{"in, as near to the outer loop and the hole", "0,0 9,0 9,9 0,9\n4,2 6,2 6,4 4,4\n", impl.Pt{X: 5, Y: 1}, 1, "1", []int{0, 4}},
		{"in the middle of a square", "0,0 4,0 4,4 0,4\n", impl.Pt{X: 2, Y: 2}, 1, "4", []int{0, 1, 2, 3}},
		{"in the middle, with a point at which nothing turns", "0,0 2,0 4,0 4,4 0,4\n", impl.Pt{X: 2, Y: 2}, 1, "4", []int{0, 1, 2, 3, 4}},
		{"as near to both holes", two, impl.Pt{X: 4, Y: 4}, 1, "2", []int{5, 6, 8, 11}},
		{"as near to both holes and the outer loop", "0,0 9,0 9,9 0,9\n1,1 3,1 3,3 1,3\n5,1 8,1 8,8 5,8\n", impl.Pt{X: 4, Y: 1}, 1, "1", []int{0, 4, 5, 8, 11}},
		{"in the first hole", two, impl.Pt{X: 2, Y: 2}, -1, "1", []int{4, 5, 6, 7}},
		{"in the second hole", two, impl.Pt{X: 6, Y: 6}, -1, "1", []int{8, 11}},
		{"in the second hole, beside its other corner", two, impl.Pt{X: 7, Y: 7}, -1, "1", []int{9, 10}},
		{"on the second hole", two, impl.Pt{X: 8, Y: 6}, 0, "0", []int{10}},
		{"a corner of the second hole", two, impl.Pt{X: 5, Y: 5}, 0, "0", []int{8, 11}},
		{"one step beyond the grid", two, impl.Pt{X: 10, Y: 6}, -1, "", nil},
		{"below 0", two, impl.Pt{X: 0, Y: -1}, -1, "", nil},
		{"not whole", "0,0 9,8 0,8\n", impl.Pt{X: 1, Y: 1}, 1, "1/145", []int{0}},
		{"not whole, beyond", "0,0 9,8 0,8\n", impl.Pt{X: 8, Y: 7}, -1, "1/145", []int{0}},
		{"not whole, as near to two", "0,0 4,2 8,0 4,8\n", impl.Pt{X: 4, Y: 3}, 1, "1", []int{0, 1}},
		{"not whole, as near to two slants", "0,0 8,0 4,8\n", impl.Pt{X: 4, Y: 4}, 1, "16/5", []int{1, 2}},
		{"beyond, in a gap, as near to three", "0,0 6,0 6,6 4,6 4,2 2,2 2,6 0,6\n", impl.Pt{X: 3, Y: 3}, -1, "1", []int{3, 4, 5}},
		{"as far as can be", "0,0 1,0 0,1\n", impl.Pt{X: 9, Y: 9}, -1, "289/2", []int{1}},
		{"far from a corner", "0,0 1,0 1,1 0,1\n", impl.Pt{X: 9, Y: 9}, -1, "128", []int{1, 2}},
	}
	for _, c := range cases {
		p := plainPlate(c.text)
		if n := impl.PlateIn(p, c.at); n != c.in {
			t.Errorf("%s: PlateIn(%v, %v) = %d, not %d", c.what, p, c.at, n, c.in)
		}
		if far := impl.FracText(impl.PlateFar(p, c.at)); far != c.far {
			t.Errorf("%s: PlateFar(%v, %v) = %s, not %s", c.what, p, c.at, far, c.far)
		}
		if near := impl.PlateNear(p, c.at); !slices.Equal(near, c.near) {
			t.Errorf("%s: PlateNear(%v, %v) = %v, not %v", c.what, p, c.at, near, c.near)
		}
	}
}

// P39, P41 and P42: points that are not of the grid.
func TestPlateWrongPoint(t *testing.T) {
	for _, k := range knownPlates() {
		p := plainPlate(k.text)
		for _, at := range badPts() {
			checkNowhere(t, k.what, p, at)
		}
	}
}

// P43.
func TestPlateInOfPointsBesideEachOther(t *testing.T) {
	one := impl.Frac{N: 1, D: 1}
	in, out := 0, 0
	for _, p := range somePlates() {
		for _, at := range allPts() {
			if notMoreThan(t, impl.PlateFar(p, at), one) {
				continue
			}
			here := impl.PlateIn(p, at) == 1
			if here {
				in++
			} else {
				out++
			}
			for _, beside := range ptsOf(at.X+1, at.Y, at.X, at.Y+1, at.X-1, at.Y, at.X, at.Y-1) {
				if there := impl.PlateIn(p, beside) == 1; here != there {
					t.Fatalf("of %v, %v is farther from all edges than one step, and in it: %v; %v: %v", p, at, here, beside, there)
				}
			}
		}
	}
	if in < 100 || out < 100 {
		t.Errorf("there are but %d such points in plates, and %d others", in, out)
	}
}

// P44.
func TestPlateWithoutAHole(t *testing.T) {
	pts := allPts()
	for _, p := range somePlates() {
		for i, hole := range p.Holes {
			without := withoutHole(p, i)
			for _, at := range pts {
				with, now := impl.PlateIn(p, at), impl.PlateIn(without, at)
				switch impl.LoopIn(hole, at) {
				case 1:
					if with != -1 || now != 1 {
						t.Fatalf("of %v, %v is in hole %d: PlateIn is %d, and without it %d", p, at, i, with, now)
					}
				case 0:
					if with != 0 || now != 1 {
						t.Fatalf("of %v, %v is on hole %d: PlateIn is %d, and without it %d", p, at, i, with, now)
					}
				default:
					if with != now {
						t.Fatalf("of %v, %v is beyond hole %d: PlateIn is %d, and without it %d", p, at, i, with, now)
					}
				}
			}
		}
	}
}

// P45.
func TestPlateFarWithoutTheLastHole(t *testing.T) {
	more := 0
	for _, p := range somePlates() {
		if len(p.Holes) == 0 {
			continue
		}
		without := withoutHole(p, len(p.Holes)-1)
		for _, at := range allPts() {
			with, now := impl.PlateFar(p, at), impl.PlateFar(without, at)
			if !notMoreThan(t, with, now) {
				t.Fatalf("PlateFar(%v, %v) = %v, without the last hole %v", p, at, with, now)
			}
			if with != now {
				more++
			}
		}
	}
	if more < 1000 {
		t.Errorf("there are but %d points that are farther without the last hole", more)
	}
}

// P46.
func TestPlateReadBack(t *testing.T) {
	for _, p := range somePlates() {
		want := ""
		for _, l := range loopsOf(p) {
			want += impl.LoopText(l) + "\n"
		}
		text := impl.PlateText(p)
		if text != want || strings.Count(text, "\n") != 1+len(p.Holes) {
			t.Fatalf("PlateText(%v) = %q, not %q", p, text, want)
		}
		if back, ok := impl.PlateRead(text); !ok || !samePlate(back, p) {
			t.Fatalf("PlateText(%v) = %q, and PlateRead of that %v, %v", p, text, back, ok)
		}
	}
	for _, k := range knownPlates() {
		if text := impl.PlateText(plainPlate(k.text)); text != k.text {
			t.Errorf("%s: PlateText of %q is %q", k.what, k.text, text)
		}
	}
}

// plateWritten is what a text must look like to be one of lines of points of the grid.
var plateWritten = regexp.MustCompile(`\A([0-9],[0-9]( [0-9],[0-9])*\n)+\z`)

// checkPlateRead holds PlateRead of any text against how it must look, and against the text of what was read.
func checkPlateRead(t *testing.T, text string) {
	t.Helper()
	p, ok := impl.PlateRead(text)
	if want := plateWritten.MatchString(text) && plateByLines(plainPlate(text)); ok != want {
		t.Fatalf("PlateRead(%q) = %v, %v", text, p, ok)
	}
	if !ok && (len(p.Outer) != 0 || len(p.Holes) != 0) {
		t.Fatalf("PlateRead(%q) = %v, false", text, p)
	}
	if ok && (!impl.PlateOk(p) || impl.PlateText(p) != text) {
		t.Fatalf("PlateRead(%q) = %v, true, of which the text is %q", text, p, impl.PlateText(p))
	}
}

// P47: one byte another one, one more, or one less.
func TestPlateReadOneByteOff(t *testing.T) {
	for _, k := range knownPlates() {
		eachByteOff(k.text, func(off string) {
			checkPlateRead(t, off)
		})
	}
}

// P47: all lines of one known plate behind those of another one.
func TestPlateReadOneBehindTheOther(t *testing.T) {
	for _, k := range knownPlates() {
		for _, other := range knownPlates() {
			checkPlateRead(t, k.text+other.text)
			checkPlateRead(t, k.text+"\n"+other.text)
		}
	}
}

// P47: texts that are none.
func TestPlateReadWrong(t *testing.T) {
	outer, hole := "0,0 8,0 8,8 0,8", "3,3 5,3 5,5 3,5"
	texts := []string{
		"", "\n", "\n\n", " ", " \n", "\x00", "0", "0,0\n", "0,0 4,0\n",
		outer, outer + "\n" + hole, outer + " " + hole + "\n",
		"\n" + outer + "\n", outer + "\n\n", "\n" + outer + "\n" + hole + "\n", outer + "\n\n" + hole + "\n", outer + "\n" + hole + "\n\n",
		" " + outer + "\n", outer + " \n", outer + "\n ", outer + "\n \n", outer + "\n " + hole + "\n", outer + "\n" + hole + " \n", outer + "\n" + hole + "\n ", outer + " \n" + hole + "\n", "0,0  8,0 8,8 0,8\n" + hole + "\n", outer + "\n3,3 5,3  5,5 3,5\n",
		outer + "\r\n", outer + "\r\n" + hole + "\r\n", outer + "\r" + hole + "\r", outer + "\n\r" + hole + "\n\r", outer + "\n" + hole + "\r\n", outer + "\t\n", "\t" + outer + "\n", outer + "\x00\n", outer + "\n\x00", "\ufeff" + outer + "\n", outer + "\u2028" + hole + "\n", outer + "\x0b" + hole + "\n", outer + "\\n", outer + ";" + hole + "\n",
		"+0,0 8,0 8,8 0,8\n", "00,0 8,0 8,8 0,8\n", "-0,0 8,0 8,8 0,8\n", outer + "\n3,3 5,3 5,5 3,05\n", outer + "\n3,3 5,3 5,5 3,+5\n",
		"0,0 10,0 8,8 0,8\n", "0,0 8,0 8,8 0,-1\n", outer + "\n3,3 5,3 5,5 3,10\n", outer + "\n3,3 5,3 5,9223372036854775807\n", outer + "\n3,3 5,3 5,-9223372036854775808\n",
		"0,0 8,8 8,0 0,8\n", "0,0 8,8 8,0 0,8\n" + hole + "\n", outer + "\n3,3 5,5 5,3 3,5\n", outer + "\n3,3 5,5\n", outer + "\n3,3\n",
		hole + "\n" + outer + "\n", outer + "\n" + hole + "\n" + hole + "\n", outer + "\n" + outer + "\n",
	}
	for _, text := range texts {
		if p, ok := impl.PlateRead(text); ok || len(p.Outer) != 0 || len(p.Holes) != 0 {
			t.Errorf("PlateRead(%q) = %v, %v", text, p, ok)
		}
		checkPlateRead(t, text)
	}
	for _, k := range knownBadPlates() {
		text := strings.Join(k.loops, "\n") + "\n"
		if p, ok := impl.PlateRead(text); ok || len(p.Outer) != 0 || len(p.Holes) != 0 {
			t.Errorf("%s: PlateRead(%q) = %v, %v", k.what, text, p, ok)
		}
	}
}

// P47: of how many bytes a text may be: the longest one of a plate has 96.
func TestPlateReadLongTexts(t *testing.T) {
	known := knownPlates()
	longest := known[len(known)-1].text
	if p, ok := impl.PlateRead(longest); !ok || len(longest) != 96 || len(impl.PlateEdges(p)) != 3*impl.LoopMax {
		t.Errorf("PlateRead(%q), of %d bytes, is %v, %v", longest, len(longest), p, ok)
	}
	for _, fill := range []string{" ", "0", ",", " 0,1", "\n", "\x00", "7,1 8,1 8,2\n", "1,5 2,5 3,5 3,6 3,7 2,7 1,7\n"} {
		for _, size := range []int{97, 100, 119, 120, 121, 122, 1 << 20} {
			tail := strings.Repeat(fill, size)[:size-len(longest)]
			for _, text := range []string{longest + tail, tail + longest, tail + tail + longest, longest[:len(longest)-1] + tail + "\n"} {
				if p, ok := impl.PlateRead(text); ok || len(p.Outer) != 0 || len(p.Holes) != 0 {
					t.Errorf("PlateRead of %d bytes is %v, %v", len(text), p, ok)
				}
			}
		}
	}
}

// P48.
func TestPlateMovedOneStepUp(t *testing.T) {
	stays, leaves := 0, 0
	for _, p := range somePlates() {
		q := movedPlate(p, oneUp)
		if slices.ContainsFunc(q.Outer, func(pt impl.Pt) bool { return pt.Y > impl.GridMax }) {
			leaves++
			checkNoPlate(t, "moved beyond the grid", q)
			continue
		}
		stays++
		if !impl.PlateOk(q) {
			t.Fatalf("%v is a plate, but moved one step up it is not", p)
		}
		for _, at := range allPts() {
			to := oneUp(at)
			if !impl.PtOk(to) {
				continue
			}
			if a, b := impl.PlateIn(p, at), impl.PlateIn(q, to); a != b {
				t.Fatalf("PlateIn(%v, %v) = %d, moved %d", p, at, a, b)
			}
			if a, b := impl.PlateFar(p, at), impl.PlateFar(q, to); a != b {
				t.Fatalf("PlateFar(%v, %v) = %v, moved %v", p, at, a, b)
			}
		}
	}
	if stays < 20 || leaves < 20 {
		t.Errorf("there are but %d plates that may be moved, and %d that may not", stays, leaves)
	}
}

// P49.
func TestPlateOfOneLoop(t *testing.T) {
	pts := ptsAt([]int{-1, 0, 1, 2, 3, 4, 5, 6, 7, 8, 9, 10})
	for _, l := range someLoops() {
		for _, p := range []impl.Plate{{Outer: l}, {Outer: l, Holes: [][]impl.Pt{}}} {
			if !impl.PlateOk(p) {
				t.Fatalf("%v is a loop, but no plate", l)
			}
			if text := impl.PlateText(p); text != impl.LoopText(l)+"\n" {
				t.Fatalf("PlateText(%v) = %q", p, text)
			}
			if edges := impl.PlateEdges(p); !slices.Equal(edges, impl.LoopEdges(l)) {
				t.Fatalf("PlateEdges(%v) = %v", p, edges)
			}
			for _, at := range pts {
				if a, b := impl.PlateIn(p, at), impl.LoopIn(l, at); a != b {
					t.Fatalf("PlateIn(%v, %v) = %d, but LoopIn %d", p, at, a, b)
				}
			}
		}
	}
}

// P36 to P49.
func TestWrongPlates(t *testing.T) {
	eachWrongPlate(func(what string, p impl.Plate) {
		checkNoPlate(t, what, p)
	})
}

// eachWrongPlate goes through plates that are not ok, in each way in which one may not be.
func eachWrongPlate(f func(what string, p impl.Plate)) {
	for _, k := range knownBadPlates() {
		p := plateOf(k.loops...)
		f(k.what, p)
		f(k.what, movedPlate(p, otherSide))
		f(k.what, movedPlate(p, exchanged))
	}
	eachPlateOfTooManyHoles(f)
	eachPlateOfWrongLoops(f)
	eachPlateOfWrongPoints(f)
}

func eachPlateOfTooManyHoles(f func(what string, p impl.Plate)) {
	outer, holes := plainPts("0,0 9,0 9,9 0,9"), nineHoles()
	for many := impl.HoleMax + 1; many <= len(holes); many++ {
		f("too many holes", impl.Plate{Outer: outer, Holes: holes[:many]})
	}
	f("as many holes as a list may have", impl.Plate{Outer: outer, Holes: make([][]impl.Pt, 1<<16)})
}

// eachPlateOfWrongLoops takes loops that are none as the outer loop, and as a hole.
func eachPlateOfWrongLoops(f func(what string, p impl.Plate)) {
	outer, hole := plainPts("0,0 9,0 9,9 0,9"), plainPts("1,7 2,7 2,8 1,8")
	f("nothing", impl.Plate{})
	f("no outer loop", impl.Plate{Holes: [][]impl.Pt{hole}})
	for _, k := range knownBads() {
		f(k.what, impl.Plate{Outer: k.pts})
		f(k.what, impl.Plate{Outer: k.pts, Holes: [][]impl.Pt{{}}})
		f(k.what, impl.Plate{Outer: k.pts, Holes: [][]impl.Pt{hole}})
		f(k.what, impl.Plate{Outer: k.pts, Holes: [][]impl.Pt{k.pts, hole}})
		// Moved in where there is room, so that nothing but the hole itself is wrong.
		within := movedPts(k.pts, func(p impl.Pt) impl.Pt { return impl.Pt{X: p.X + 3, Y: p.Y + 1} })
		for _, bad := range [][]impl.Pt{k.pts, within} {
			f(k.what, impl.Plate{Outer: outer, Holes: [][]impl.Pt{bad}})
			f(k.what, impl.Plate{Outer: outer, Holes: [][]impl.Pt{bad, hole}})
			f(k.what, impl.Plate{Outer: outer, Holes: [][]impl.Pt{hole, bad}})
			f(k.what, impl.Plate{Outer: outer, Holes: [][]impl.Pt{bad, bad}})
		}
	}
}

// eachPlateOfWrongPoints takes a point that is not of the grid, in any place of any loop.
func eachPlateOfWrongPoints(f func(what string, p impl.Plate)) {
	for _, text := range []string{"0,0 8,0 8,8 0,8\n", "0,0 8,0 8,8 0,8\n3,3 5,3 5,5 3,5\n", "0,0 9,0 0,9\n1,1 3,1 1,3\n5,1 6,1 5,2\n"} {
		p := plainPlate(text)
		for _, bad := range badPts() {
			for i, l := range loopsOf(p) {
				for j := range l {
					loops := loopsOf(p)
					loops[i] = insteadAt(l, j, bad)
					f("a point that is not of the grid", impl.Plate{Outer: loops[0], Holes: loops[1:]})
				}
			}
		}
	}
	far := ptsOf(math.MinInt, math.MinInt, math.MaxInt, math.MinInt, math.MaxInt, math.MaxInt, math.MinInt, math.MaxInt)
	beyond := ptsOf(-1, -1, 10, -1, 10, 10, -1, 10)
	hole := plainPts("3,3 5,3 5,5 3,5")
	for _, outer := range [][]impl.Pt{far, beyond} {
		f("around the grid", impl.Plate{Outer: outer})
		f("around the grid, with a hole", impl.Plate{Outer: outer, Holes: [][]impl.Pt{hole}})
		f("around the grid, and it as a hole", impl.Plate{Outer: outer, Holes: [][]impl.Pt{outer, hole}})
	}
}

// P36 to P49: nothing is written into an argument, or behind its end.
func TestPlatesLeaveArgumentsAlone(t *testing.T) {
	plates := somePlates()
	for _, k := range knownBadPlates() {
		plates = append(slices.Clone(plates), plateOf(k.loops...))
	}
	for _, p := range plates {
		given, whole := withSpare(p)
		_, want := withSpare(p)
		impl.PlateOk(given)
		impl.PlateEdges(given)
		for _, at := range edgePts() {
			impl.PlateIn(given, at)
			impl.PlateFar(given, at)
			impl.PlateNear(given, at)
		}
		impl.PlateText(given)
		if !slices.EqualFunc(whole, want, slices.Equal) {
			t.Fatalf("%v was made %v", want, whole)
		}
	}
}

// withSpare is a plate whose lists have spare room that is not empty, and all these lists to their ends, each once.
func withSpare(p impl.Plate) (impl.Plate, [][]impl.Pt) {
	spare := func(l []impl.Pt) []impl.Pt {
		return append(slices.Clone(l), ptsOf(7, 1, 2, 8, 5, 5)...)
	}
	outer := spare(p.Outer)
	given := impl.Plate{Outer: outer[:len(p.Outer)]}
	whole := [][]impl.Pt{outer}
	var holes [][]impl.Pt
	for _, hole := range append(slices.Clone(p.Holes), ptsOf(1, 1, 2, 1, 1, 2)) {
		long := spare(hole)
		whole = append(whole, long)
		holes = append(holes, long[:len(hole)])
	}
	given.Holes = holes[:len(p.Holes)]
	return given, append(whole, holes...)
}

// P38, P42 and P47: each answer is new memory, spare room included.
func TestPlateAnswersAreNew(t *testing.T) {
	for _, k := range knownPlates() {
		want := plainPlate(k.text)
		first, ok := impl.PlateRead(k.text)
		second, ok2 := impl.PlateRead(k.text)
		if !ok || !ok2 {
			t.Fatalf("PlateRead(%q) is refused", k.text)
		}
		for i, l := range loopsOf(first) {
			clear(l[:cap(l)])
			for j, other := range loopsOf(first) {
				if j > i && !slices.Equal(other, loopsOf(want)[j]) {
					t.Fatalf("the loops of PlateRead(%q) share memory", k.text)
				}
			}
		}
		clear(first.Holes[:cap(first.Holes)])
		if !samePlate(second, want) {
			t.Fatalf("two answers of PlateRead(%q) share memory", k.text)
		}
		edges, more := impl.PlateEdges(second), impl.PlateEdges(second)
		clear(edges[:cap(edges)])
		near, nearer := impl.PlateNear(second, impl.Pt{X: 2, Y: 2}), impl.PlateNear(second, impl.Pt{X: 2, Y: 2})
		was := slices.Clone(nearer)
		for i := range near[:cap(near)] {
			near[:cap(near)][i] = -7
		}
		if len(more) == 0 || !slices.Equal(more, impl.PlateEdges(want)) || !slices.Equal(nearer, was) || !samePlate(second, want) {
			t.Fatalf("answers of %q share memory", k.text)
		}
	}
}
