package tests

import (
	"math"
	"math/big"
	"runtime"
	"slices"
	"sync"
	"testing"

	"loop.example/mortiser/impl"
)

// knownDepth is a point, how far the nearest edge is from it, squared, and the largest tool that fits there, 0 if none does.
type knownDepth struct {
	what    string
	text    string
	at      string
	far     string
	largest int
}

func knownDepths() []knownDepth {
	holed, slants := "0,0 8,0 8,8 0,8\n3,3 5,3 5,5 3,5\n", "0,0 8,0 4,8\n"
	return []knownDepth{
		{"one step from an edge", holed, "1,1", "1", 1},
		{"one step from the hole", holed, "6,4", "1", 1},
		{"aslant from the hole's corner", holed, "2,2", "2", 2},
		{"aslant from the hole's last corner", holed, "6,6", "2", 2},
		{"on an edge", holed, "0,4", "0", 0},
		{"on an edge of the hole", holed, "3,4", "0", 0},
		{"a corner", holed, "8,8", "0", 0},
		{"a corner of the hole", holed, "5,5", "0", 0},
		{"in the hole", holed, "4,4", "1", 0},
		{"beyond", holed, "9,4", "1", 0},
		{"beyond, aslant from a corner", holed, "9,9", "2", 0},
		{"whole, by two slants", slants, "4,3", "5", 5},
		{"16/5 is more than 3", slants, "4,4", "16/5", 3},
		{"9/5 is more than 1", slants, "3,3", "9/5", 1},
		{"4/5 is less than 1", slants, "4,6", "4/5", 0},
		{"1/5 is less than 1", slants, "4,7", "1/5", 0},
		{"1/145, and in it", "0,0 9,8 0,8\n", "1,1", "1/145", 0},
		{"1/2, and in it", "0,0 3,0 0,3\n", "1,1", "1/2", 0},
		{"256/41 is more than 6", "4,0 9,4 5,9 0,5\n", "4,4", "256/41", 6},
		{"as far as a tool can need", "0,0 9,0 9,9 0,9\n", "3,3", "9", 9},
		{"farther than any tool can need", "0,0 9,0 9,9 0,9\n", "4,4", "16", 9},
		{"farther than any tool can need, aslant", "4,0 8,4 4,8 0,4\n", "3,4", "9/2", 4},
		{"farther than any tool, to the right", "0,0 0,9 9,9 9,0\n", "5,5", "16", 9},
		{"in a hole, as far as a tool can need", "0,0 9,0 9,9 0,9\n1,1 8,1 8,8 1,8\n", "4,4", "9", 0},
		{"in a hole, beside its edge", "0,0 9,0 9,9 0,9\n1,1 8,1 8,8 1,8\n", "2,2", "1", 0},
		{"far beyond", "0,0 2,0 2,2 0,2\n", "9,9", "98", 0},
		{"beyond, in a gap", "0,0 9,0 9,9 8,9 8,3 1,3 1,9 0,9\n", "4,6", "9", 0},
		{"a corner that comes in is nearest", "0,0 6,0 6,3 3,3 3,6 0,6\n", "2,2", "2", 2},
		{"a point at which nothing turns is nearest", "0,0 2,0 4,0 4,4 0,4\n", "2,2", "4", 4},
	}
}

// knownParts is a plate, a tool, and its parts: of each the first point, and how many it has.
type knownParts struct {
	what   string
	text   string
	r      int
	firsts string
	sizes  []int
}

func knownTools() []knownParts {
	all, holed := "0,0 9,0 9,9 0,9\n", "0,0 8,0 8,8 0,8\n3,3 5,3 5,5 3,5\n"
	gap, slants := "0,0 9,0 9,9 5,9 5,2 4,2 4,9 0,9\n", "0,0 8,0 4,8\n"
	waist, neck := "0,0 8,0 5,4 8,8 0,8 3,4\n", "0,0 9,0 5,4 9,9 0,9 4,4\n"
	rooms := "0,0 9,0 9,9 0,9\n1,4 8,4 8,5 1,5\n"
	return []knownParts{
		{"no point in it", "0,0 1,0 0,1\n", 1, "", nil},
		{"a point in it, too near to a slant", "0,0 3,0 0,3\n", 1, "", nil},
		{"one point", "0,0 2,0 2,2 0,2\n", 1, "1,1", []int{1}},
		{"one point, and the tool is one too large", "0,0 2,0 2,2 0,2\n", 2, "", nil},
		{"all points in it", all, 1, "1,1", []int{64}},
		{"all points in it, to the right", "0,0 0,9 9,9 9,0\n", 1, "1,1", []int{64}},
		{"two steps from each edge", all, 4, "2,2", []int{36}},
		{"more than one step from each edge", all, 2, "2,2", []int{36}},
		{"more than two steps from each edge", all, 5, "3,3", []int{16}},
		{"the largest tool", all, 9, "3,3", []int{16}},
		{"the largest tool, at one point", "1,1 7,1 7,7 1,7\n", 9, "4,4", []int{1}},
		{"the largest tool, nowhere", "1,1 7,1 7,6 1,6\n", 9, "", nil},
		{"around a hole", holed, 1, "1,1", []int{40}},
		{"in the corners around a hole", holed, 2, "2,2 6,2 2,6 6,6", []int{1, 1, 1, 1}},
		{"around a hole there is no room", holed, 3, "", nil},
		{"around a hole that leaves one step", "0,0 9,0 9,9 0,9\n2,2 7,2 7,7 2,7\n", 1, "1,1", []int{28}},
		{"around a hole that leaves none", "0,0 9,0 9,9 0,9\n1,1 8,1 8,8 1,8\n", 1, "", nil},
		{"around a gap", gap, 1, "1,1", []int{50}},
		{"in both arms around a gap", gap, 2, "2,2 7,2", []int{6, 6}},
		{"in both arms around a gap, as large as can be", gap, 4, "2,2 7,2", []int{6, 6}},
		{"around a gap there is no room", gap, 5, "", nil},
		{"below slants, the tool as large as the one point is far", slants, 5, "4,3", []int{1}},
		{"below slants, one larger", slants, 6, "", nil},
		{"below slants, where 16/5 is enough", slants, 3, "3,2", []int{5}},
		{"through a waist, by a corner on each side", waist, 1, "2,1", []int{19}},
		{"on both sides of a waist, too large for it", waist, 2, "4,2 4,6", []int{1, 1}},
		{"on both sides of a neck that has no point in it", neck, 1, "3,1 4,6", []int{6, 10}},
		{"around a hole that all but parts the plate", "0,0 9,0 9,9 0,9\n2,4 7,4 7,5 2,5\n", 1, "1,1", []int{52}},
		{"on both sides of a hole that parts the plate", rooms, 1, "1,1 1,6", []int{24, 24}},
		{"on both sides of a hole that parts the plate, larger", rooms, 4, "2,2 2,7", []int{6, 6}},
		{"from a bar on into its stem", "0,0 9,0 9,4 5,4 5,9 1,9 1,4 0,4\n", 4, "2,2", []int{11}},
		{"between two holes", "0,0 8,0 8,8 0,8\n1,1 3,1 3,7 1,7\n5,1 7,1 7,7 5,7\n", 1, "4,1", []int{7}},
		{"around two holes", "0,0 9,0 9,9 0,9\n2,2 3,2 3,3 2,3\n6,6 7,6 7,7 6,7\n", 1, "1,1", []int{56}},
		{"two holes, one in the other one's gap", "0,0 9,0 9,9 0,9\n4,4 5,4 5,7 4,7\n1,1 8,1 8,8 6,8 6,3 3,3 3,8 1,8\n", 1, "4,8", []int{2}},
		{"a point at which nothing turns", "0,0 2,0 4,0 4,4 0,4\n", 4, "2,2", []int{1}},
	}
}

// allTools are all tools, ascending.
func allTools() []int {
	var out []int
	for r := 1; r <= impl.ToolMax; r++ {
		out = append(out, r)
	}
	return out
}

// badTools are numbers that are no tool.
func badTools() []int {
	return []int{
		math.MinInt, math.MinInt + 1, math.MinInt32, -impl.FracMax, -impl.ToolMax, -2, -1, 0,
		impl.ToolMax + 1, impl.ToolMax + 2, 16, 81, 1<<8 + 1, 1<<16 + 1, impl.FracMax, impl.FracMax + 1, math.MaxInt32, 1<<32 + 1, math.MaxInt - 1, math.MaxInt,
	}
}

// someToolPlates are plates on which tools are asked for.
var someToolPlates = sync.OnceValue(func() []impl.Plate {
	out := slices.Clone(someMiddlePlates())
	for _, k := range knownTools() {
		out = append(out, plainPlate(k.text))
	}
	return out
})

// stepped are the points one step from one, be they of the grid or not.
func stepped(at impl.Pt) []impl.Pt {
	return ptsOf(at.X+1, at.Y, at.X, at.Y+1, at.X-1, at.Y, at.X, at.Y-1)
}

// eachStep goes through all steps from a point of the grid to another one, both ways about.
func eachStep(f func(from impl.Pt, to impl.Pt)) {
	pts := allPts()
	for _, from := range pts {
		for _, to := range stepped(from) {
			if slices.Contains(pts, to) {
				f(from, to)
			}
		}
	}
}

// fitting are the points of the grid at which a tool fits, row by row.
func fitting(p impl.Plate, r int) []impl.Pt {
	return where(allPts(), func(at impl.Pt) bool { return impl.ToolFits(p, r, at) })
}

// within says whether the second points have all of the first ones.
func within(pts []impl.Pt, more []impl.Pt) bool {
	return !slices.ContainsFunc(pts, func(at impl.Pt) bool { return !slices.Contains(more, at) })
}

func sameParts(a [][]impl.Pt, b [][]impl.Pt) bool {
	return slices.EqualFunc(a, b, slices.Equal)
}

// atLeast says whether a fraction, that need not be ok, is not less than a tool.
func atLeast(far impl.Frac, r int) bool {
	return rat(far.N, far.D).Cmp(big.NewRat(int64(r), 1)) >= 0
}

// fitsByFoot are the points of the grid at which a tool fits, by rays, and by the nearest points of all edges.
func fitsByFoot(p impl.Plate, r int) []impl.Pt {
	return where(allPts(), func(at impl.Pt) bool {
		far, _ := nearByFoot(p, at)
		return plateInByRay(p, at) == 1 && atLeast(far, r)
	})
}

// mayByFoot says whether no edge comes nearer to a way than a tool cuts, by where their lines cross, and by the nearest points of each to the other one's ends.
func mayByFoot(p impl.Plate, r int, from impl.Pt, to impl.Pt) bool {
	way := impl.Seg{A: from, B: to}
	for _, l := range loopsOf(p) {
		for _, e := range plainEdges(l) {
			if meetByLines(way, e) {
				return false
			}
			for _, far := range []impl.Frac{farByFoot(e, from), farByFoot(e, to), farByFoot(way, e.A), farByFoot(way, e.B)} {
				if !atLeast(far, r) {
					return false
				}
			}
		}
	}
	return true
}

// partsByLabels are the parts of a tool: the label of each point is its place among all, and of two between which the tool may go the lesser one holds for both, until none changes any more.
func partsByLabels(p impl.Plate, r int) [][]impl.Pt {
	pts := fitsByFoot(p, r)
	labels := map[impl.Pt]int{}
	for i, at := range pts {
		labels[at] = i
	}
	for changed := true; changed; {
		changed = false
		for _, at := range pts {
			for _, to := range stepped(at) {
				other, fits := labels[to]
				if fits && other < labels[at] && mayByFoot(p, r, at, to) {
					labels[at], changed = other, true
				}
			}
		}
	}
	var parts [][]impl.Pt
	for i := range pts {
		if part := where(pts, func(at impl.Pt) bool { return labels[at] == i }); len(part) > 0 {
			parts = append(parts, part)
		}
	}
	return parts
}

// checkNoFit asks all functions of the chapter for what they answer at a point at which no tool fits, or of what is no tool, or no plate.
func checkNoFit(t *testing.T, what string, p impl.Plate, r int, at impl.Pt) {
	t.Helper()
	if impl.ToolFits(p, r, at) {
		t.Fatalf("%s: ToolFits(%v, %d, %v) = true", what, p, r, at)
	}
	if reach := impl.ToolReach(p, r, at); len(reach) != 0 {
		t.Fatalf("%s: ToolReach(%v, %d, %v) = %v", what, p, r, at, reach)
	}
	checkNoWay(t, what, p, r, at, at)
	for _, to := range stepped(at) {
		checkNoWay(t, what, p, r, at, to)
	}
}

// checkNoWay asks whether a tool may go from one point to the other one, or back.
func checkNoWay(t *testing.T, what string, p impl.Plate, r int, from impl.Pt, to impl.Pt) {
	t.Helper()
	if impl.ToolMay(p, r, from, to) || impl.ToolMay(p, r, to, from) {
		t.Fatalf("%s: ToolMay(%v, %d, %v, %v) = true, or the other way about", what, p, r, from, to)
	}
}

// checkNoTool asks all functions of the chapter for what they answer of what is no tool, or no plate.
func checkNoTool(t *testing.T, what string, p impl.Plate, r int) {
	t.Helper()
	if parts := impl.ToolParts(p, r); len(parts) != 0 {
		t.Fatalf("%s: ToolParts(%v, %d) = %v", what, p, r, parts)
	}
	for _, at := range ptsOf(1, 1, 4, 4, 0, 0, -1, 4) {
		checkNoFit(t, what, p, r, at)
	}
}

// P57, P58 and P67: how a point may stand.
func TestKnownDepths(t *testing.T) {
	for _, k := range knownDepths() {
		p, at := plainPlate(k.text), plainPts(k.at)[0]
		if far := impl.PlateFar(p, at); impl.FracText(far) != k.far {
			t.Errorf("%s: PlateFar(%v, %v) = %v, not %s", k.what, p, at, far, k.far)
		}
		for _, r := range allTools() {
			if fits := impl.ToolFits(p, r, at); fits != (r <= k.largest) {
				t.Errorf("%s: ToolFits(%v, %d, %v) = %v", k.what, p, r, at, fits)
			}
			if r > k.largest {
				checkNoFit(t, k.what, p, r, at)
			}
		}
	}
}

// P57.
func TestToolFits(t *testing.T) {
	pts := allPts()
	fits, not := 0, 0
	for _, p := range someToolPlates() {
		edges := impl.PlateEdges(p)
		for _, at := range pts {
			in, far := impl.PlateIn(p, at) == 1, impl.PlateFar(p, at)
			for _, r := range allTools() {
				tool := mustFrac(t, r, 1)
				got := impl.ToolFits(p, r, at)
				if want := in && notMoreThan(t, tool, far); got != want {
					t.Fatalf("ToolFits(%v, %d, %v) = %v, but PlateFar is %v, and it is in the plate: %v", p, r, at, got, far, in)
				}
				if !got {
					not++
					continue
				}
				fits++
				for _, e := range edges {
					if !notMoreThan(t, tool, impl.SegFar(e, at)) {
						t.Fatalf("ToolFits(%v, %d, %v), but the edge %v is nearer", p, r, at, e)
					}
				}
			}
		}
	}
	if fits < 1000 || not < 1000 {
		t.Errorf("there are but %d points at which a tool fits, and %d at which none does", fits, not)
	}
}

// P57: by rays, and by the nearest points of all edges.
func TestToolFitsByFoot(t *testing.T) {
	for _, k := range knownTools() {
		p := plainPlate(k.text)
		for _, r := range allTools() {
			if fits, want := fitting(p, r), fitsByFoot(p, r); !slices.Equal(fits, want) {
				t.Fatalf("%s: the tool %d fits on %v at %v, but by the nearest points of edges at %v", k.what, r, p, fits, want)
			}
		}
	}
}

// P58.
func TestToolFitsOfOtherTools(t *testing.T) {
	pts := allPts()
	for _, p := range someToolPlates() {
		for _, at := range pts {
			fits := true
			for _, r := range allTools() {
				now := impl.ToolFits(p, r, at)
				if now && !fits {
					t.Fatalf("ToolFits(%v, %d, %v), but one less does not", p, r, at)
				}
				fits = now
			}
		}
	}
}

// P58.
func TestToolFitsWithoutAHole(t *testing.T) {
	more := 0
	for _, p := range someToolPlates() {
		for _, r := range allTools() {
			fits := fitting(p, r)
			for i := range p.Holes {
				without := fitting(withoutHole(p, i), r)
				if !within(fits, without) {
					t.Fatalf("the tool %d fits on %v at %v, without hole %d at %v", r, p, fits, i, without)
				}
				more += len(without) - len(fits)
			}
		}
	}
	if more < 1000 {
		t.Errorf("there are but %d points at which a tool fits when a hole is gone", more)
	}
}

// P67.
func TestLargestTool(t *testing.T) {
	largest := map[int]int{}
	for _, p := range someToolPlates() {
		for _, at := range impl.MidAll(p) {
			far := impl.PlateFar(p, at)
			want := min(far.N/far.D, impl.ToolMax)
			got := 0
			for _, r := range allTools() {
				if impl.ToolFits(p, r, at) {
					got = r
				}
			}
			if got != want {
				t.Fatalf("the largest tool on %v at %v is %d, but PlateFar is %v", p, at, got, far)
			}
			largest[got]++
		}
	}
	for _, r := range append(allTools(), 0) {
		// A sum of two squares is never 3, 6 or 7, so these are the largest just where PlateFar is not whole.
		if largest[r] == 0 {
			t.Errorf("there is no point at which %d is the largest tool", r)
		}
	}
}

// P59 and P60: how a step may stand.
func TestKnownSteps(t *testing.T) {
	holed, slants, waist := "0,0 8,0 8,8 0,8\n3,3 5,3 5,5 3,5\n", "0,0 8,0 4,8\n", "0,0 8,0 5,4 8,8 0,8 3,4\n"
	cases := []struct {
		what    string
		text    string
		way     string
		largest int
	}{
		{"as far from an edge as the tool 1 is large", holed, "1,1 2,1", 1},
		{"up, as far from an edge as the tool 1 is large", holed, "1,1 1,2", 1},
		{"between the hole and the outer loop", holed, "2,2 3,2", 1},
		{"aslant from the hole's corner, and beside it", holed, "2,3 2,2", 1},
		{"by the hole's last corner", holed, "6,6 6,5", 1},
		{"onto the hole", holed, "4,2 4,3", 0},
		{"off the hole, into it", holed, "4,3 4,4", 0},
		{"along an edge", holed, "2,0 3,0", 0},
		{"along an edge of the hole", holed, "3,3 4,3", 0},
		{"onto an edge", holed, "1,4 0,4", 0},
		{"beyond", holed, "9,3 9,4", 0},
		{"from an edge to beyond", holed, "8,3 9,3", 0},
		{"as far from two edges as the tool 4 is large", "0,0 9,0 9,4 0,4\n", "4,2 5,2", 4},
		{"as far from a hole as the tool 4 is large", "0,0 9,0 9,9 0,9\n1,4 8,4 8,5 1,5\n", "4,2 3,2", 4},
		{"as far from a corner as the tool 4 is large", "0,0 9,0 9,9 6,9 6,4 4,4 4,9 0,9\n", "4,2 3,2", 4},
		{"as far from a corner as the tool 5 is large", "0,0 9,0 9,9 8,9 8,5 5,5 5,9 0,9\n", "3,3 3,4", 5},
		{"as far from all edges as the tool 9 is large", "0,0 9,0 9,9 0,9\n", "3,3 4,3", 9},
		{"farther from all edges", "0,0 9,0 9,9 0,9\n", "4,4 5,4", 9},
		{"a corner on each side of an end", waist, "4,4 4,5", 1},
		{"a corner on each side of an end, down", waist, "4,4 4,3", 1},
		{"by slants, 5 at an end, and 16/5 at the other one", slants, "4,3 4,4", 3},
		{"by slants, 16/5 at an end, and 9/5 at the other one", slants, "4,4 4,5", 1},
		{"by slants, 9/5 at an end, and 4/5 at the other one", slants, "4,5 4,6", 0},
		{"in a hole, far from its edges", "0,0 9,0 9,9 0,9\n1,1 8,1 8,8 1,8\n", "4,4 5,4", 0},
		{"beyond, far from all edges", "0,0 2,0 2,2 0,2\n", "9,9 9,8", 0},
		{"across a thin hole", "0,0 9,0 9,9 0,9\n4,2 5,7 4,7\n", "4,4 5,4", 0},
		{"across a thin hole, near to its point", "0,0 9,0 9,9 0,9\n4,1 5,8 4,8\n", "4,2 5,2", 0},
		{"from a point to itself", holed, "2,2 2,2", 0},
		{"aslant", "0,0 9,0 9,9 0,9\n", "4,4 5,5", 0},
		{"aslant, to the left", "0,0 9,0 9,9 0,9\n", "4,4 3,5", 0},
		{"two steps across", "0,0 9,0 9,9 0,9\n", "3,4 5,4", 0},
		{"two steps up", "0,0 9,0 9,9 0,9\n", "4,5 4,3", 0},
		{"two steps, over a hole", "0,0 9,0 9,9 0,9\n4,2 5,2 5,7 4,7\n", "3,4 6,4", 0},
	}
	for _, c := range cases {
		p, way := plainPlate(c.text), plainPts(c.way)
		if !impl.PlateOk(p) || len(way) != 2 {
			t.Fatalf("%s: PlateOk(%v) = false, or %v is no way", c.what, p, way)
		}
		for _, r := range allTools() {
			for _, w := range [][]impl.Pt{way, backwards(way)} {
				if may := impl.ToolMay(p, r, w[0], w[1]); may != (r <= c.largest) {
					t.Errorf("%s: ToolMay(%v, %d, %v, %v) = %v", c.what, p, r, w[0], w[1], may)
				}
			}
		}
	}
}

// P60: a corner beside a step is a point of the grid, and none of these is nearer to the way than to both of its ends; so an edge that is crosses the way, or is nearest to it at an end.
func TestNoCornerIsNearerToAStepThanToItsEnds(t *testing.T) {
	pts := allPts()
	eachStep(func(from impl.Pt, to impl.Pt) {
		way := impl.Seg{A: from, B: to}
		for _, corner := range pts {
			want := min(distSquared(corner, from), distSquared(corner, to))
			if far := impl.SegFar(way, corner); far != mustFrac(t, want, 1) {
				t.Fatalf("SegFar(%v, %v) = %v, but the nearer end is at %d", way, corner, far, want)
			}
		}
	})
}

// P59 and P60: all ways of one step.
func TestToolMay(t *testing.T) {
	may, not := 0, 0
	for _, p := range someToolPlates() {
		edges := impl.PlateEdges(p)
		for _, r := range allTools() {
			tool := mustFrac(t, r, 1)
			fits := fitting(p, r)
			for _, from := range fits {
				for _, to := range stepped(from) {
					want := slices.Contains(fits, to) && !slices.ContainsFunc(edges, func(e impl.Seg) bool {
						return !notMoreThan(t, tool, impl.SegApart(impl.Seg{A: from, B: to}, e))
					})
					if got := impl.ToolMay(p, r, from, to); got != want || got != impl.ToolMay(p, r, to, from) {
						t.Fatalf("ToolMay(%v, %d, %v, %v) = %v, not %v, or it is another one the other way about", p, r, from, to, got, want)
					}
					if want {
						may++
					} else {
						not++
					}
				}
			}
		}
	}
	if may < 1000 || not < 1000 {
		t.Errorf("there are but %d steps that a tool may go, and %d that it may not", may, not)
	}
}

// P59 and P60: from any point of the grid to any one.
func TestToolMayOfAnyTwo(t *testing.T) {
	pts := allPts()
	for _, k := range knownTools() {
		p := plainPlate(k.text)
		fits := fitting(p, k.r)
		for _, from := range pts {
			for _, to := range pts {
				want := distSquared(from, to) == 1 && slices.Contains(fits, from) && slices.Contains(fits, to) && mayByFoot(p, k.r, from, to)
				if got := impl.ToolMay(p, k.r, from, to); got != want {
					t.Fatalf("%s: ToolMay(%v, %d, %v, %v) = %v", k.what, p, k.r, from, to, got)
				}
			}
		}
	}
}

// P59.
func TestToolMayOfOtherTools(t *testing.T) {
	for _, p := range someToolPlates() {
		eachStep(func(from impl.Pt, to impl.Pt) {
			may := true
			for _, r := range allTools() {
				now := impl.ToolMay(p, r, from, to)
				if now && !may {
					t.Fatalf("ToolMay(%v, %d, %v, %v), but one less may not", p, r, from, to)
				}
				if now && (!impl.ToolFits(p, r, from) || !impl.ToolFits(p, r, to)) {
					t.Fatalf("ToolMay(%v, %d, %v, %v), but it does not fit at both", p, r, from, to)
				}
				may = now
				if !now {
					break
				}
			}
		})
	}
}

// P61.
func TestToolFitsAndMayElsewhere(t *testing.T) {
	for _, p := range someToolPlates() {
		for _, move := range []func(impl.Pt) impl.Pt{otherSide, exchanged} {
			q := movedPlate(p, move)
			for _, r := range []int{1, 2, 3, 5, impl.ToolMax} {
				fits := fitting(p, r)
				if there := fitting(q, r); !slices.Equal(there, inRows(movedPts(fits, move))) {
					t.Fatalf("the tool %d fits on %v at %v, on the other side, or exchanged, at %v", r, p, fits, there)
				}
				for _, from := range fits {
					for _, to := range stepped(from) {
						if a, b := impl.ToolMay(p, r, from, to), impl.ToolMay(q, r, move(from), move(to)); a != b {
							t.Fatalf("ToolMay(%v, %d, %v, %v) = %v, on the other side, or exchanged, %v", p, r, from, to, a, b)
						}
					}
				}
			}
		}
	}
}

// P62 and P66: by plates and tools whose parts are known; each loop from any point on, and the other way about.
func TestKnownTools(t *testing.T) {
	for _, k := range knownTools() {
		p := plainPlate(k.text)
		checkKnownTool(t, k, p)
		eachBegun(p, func(q impl.Plate) {
			checkKnownTool(t, k, q)
		})
		checkKnownTool(t, k, withHoles(p, aboutHoles(p)...))
	}
}

func checkKnownTool(t *testing.T, k knownParts, p impl.Plate) {
	t.Helper()
	if !impl.PlateOk(p) {
		t.Fatalf("%s: PlateOk(%v) = false", k.what, p)
	}
	parts := impl.ToolParts(p, k.r)
	var firsts []impl.Pt
	var sizes []int
	for _, part := range parts {
		firsts = append(firsts, part[0])
		sizes = append(sizes, len(part))
		if reach := impl.ToolReach(p, k.r, part[0]); !slices.Equal(reach, part) {
			t.Errorf("%s: ToolReach(%v, %d, %v) = %v, not %v", k.what, p, k.r, part[0], reach, part)
		}
	}
	if !slices.Equal(firsts, plainPts(k.firsts)) || !slices.Equal(sizes, k.sizes) {
		t.Errorf("%s: ToolParts(%v, %d) = %v, but first points are %s, and sizes %v", k.what, p, k.r, parts, k.firsts, k.sizes)
	}
}

// P62: what is reached is closed, all of it may be come to, and it stands row by row.
func TestToolReach(t *testing.T) {
	for _, p := range someToolPlates() {
		for _, r := range []int{1, 2, 4, impl.ToolMax} {
			ways := waysByMay(p, r)
			for _, from := range fitting(p, r) {
				checkReach(t, p, r, from, ways)
			}
		}
	}
}

// waysByMay are, of each point, all to which a tool may go from it.
func waysByMay(p impl.Plate, r int) map[impl.Pt][]impl.Pt {
	ways := map[impl.Pt][]impl.Pt{}
	for _, from := range fitting(p, r) {
		ways[from] = where(stepped(from), func(to impl.Pt) bool { return impl.ToolMay(p, r, from, to) })
	}
	return ways
}

func checkReach(t *testing.T, p impl.Plate, r int, from impl.Pt, ways map[impl.Pt][]impl.Pt) {
	t.Helper()
	reach := impl.ToolReach(p, r, from)
	came := []impl.Pt{from}
	for i := 0; i < len(came); i++ {
		for _, to := range ways[came[i]] {
			if !slices.Contains(came, to) {
				came = append(came, to)
			}
		}
	}
	if want := inRows(came); !slices.Equal(reach, want) {
		t.Fatalf("ToolReach(%v, %d, %v) = %v, but by ToolMay it comes to %v", p, r, from, reach, want)
	}
}

// P62: from where it does not fit a tool comes to nothing.
func TestToolReachFromWhereItDoesNotFit(t *testing.T) {
	for _, k := range knownTools() {
		p := plainPlate(k.text)
		fits := fitting(p, k.r)
		for _, from := range allPts() {
			if reach := impl.ToolReach(p, k.r, from); slices.Contains(fits, from) != (len(reach) > 0) {
				t.Fatalf("%s: ToolReach(%v, %d, %v) = %v, but it fits at %v", k.what, p, k.r, from, reach, fits)
			}
		}
	}
}

// P63.
func TestToolReachFromEachOfItsPoints(t *testing.T) {
	several := 0
	for _, p := range someToolPlates() {
		for _, r := range []int{1, 2, 4} {
			for _, part := range impl.ToolParts(p, r) {
				for _, from := range part {
					if reach := impl.ToolReach(p, r, from); !slices.Equal(reach, part) {
						t.Fatalf("ToolReach(%v, %d, %v) = %v, but from %v %v", p, r, from, reach, part[0], part)
					}
				}
				if len(part) > 1 {
					several++
				}
			}
		}
	}
	if several < 100 {
		t.Errorf("there are but %d parts of several points", several)
	}
}

// P64.
func TestToolReachOfASmallerTool(t *testing.T) {
	for _, p := range someToolPlates() {
		for _, r := range allTools()[1:] {
			for _, from := range fitting(p, r) {
				large, small := impl.ToolReach(p, r, from), impl.ToolReach(p, r-1, from)
				if !within(large, small) {
					t.Fatalf("ToolReach(%v, %d, %v) = %v, of one less %v", p, r, from, large, small)
				}
			}
		}
	}
}

// P64: from the first point of each part, as P63 has it the same from all of them.
func TestToolReachWithoutHoles(t *testing.T) {
	more := 0
	for _, p := range someToolPlates() {
		if len(p.Holes) == 0 {
			continue
		}
		for _, r := range allTools() {
			for _, with := range impl.ToolParts(p, r) {
				from := with[0]
				one, without := impl.ToolReach(withoutHole(p, 0), r, from), impl.ToolReach(withHoles(p), r, from)
				if !within(with, one) || !within(one, without) {
					t.Fatalf("ToolReach(%v, %d, %v) = %v, without the first hole %v, without all %v", p, r, from, with, one, without)
				}
				if len(without) > len(with) {
					more++
				}
			}
		}
	}
	if more < 100 {
		t.Errorf("there are but %d parts in which a tool comes to more without holes", more)
	}
}

// P65.
func TestToolReachElsewhere(t *testing.T) {
	for _, p := range someToolPlates() {
		for _, move := range []func(impl.Pt) impl.Pt{otherSide, exchanged} {
			q := movedPlate(p, move)
			for _, r := range []int{1, 2, 4} {
				for _, part := range impl.ToolParts(p, r) {
					want := inRows(movedPts(part, move))
					for _, from := range []impl.Pt{part[0], part[len(part)/2], part[len(part)-1]} {
						if there := impl.ToolReach(q, r, move(from)); !slices.Equal(there, want) {
							t.Fatalf("ToolReach(%v, %d, %v) = %v, on the other side, or exchanged, %v", p, r, from, part, there)
						}
					}
				}
			}
		}
	}
}

// P66.
func TestToolParts(t *testing.T) {
	many := map[int]int{}
	for _, p := range someToolPlates() {
		for _, r := range allTools() {
			parts := impl.ToolParts(p, r)
			checkParts(t, p, r, parts)
			many[min(len(parts), 3)]++
		}
	}
	for n, least := range []int{100, 100, 50, 3} {
		if many[n] < least {
			t.Errorf("there are but %d plates and tools with %d parts (3: or more)", many[n], n)
		}
	}
}

func checkParts(t *testing.T, p impl.Plate, r int, parts [][]impl.Pt) {
	t.Helper()
	var firsts []impl.Pt
	for i, part := range parts {
		if len(part) == 0 {
			t.Fatalf("ToolParts(%v, %d)[%d] is empty", p, r, i)
		}
		firsts = append(firsts, part[0])
		if reach := impl.ToolReach(p, r, part[len(part)-1]); !slices.Equal(reach, part) {
			t.Fatalf("ToolParts(%v, %d)[%d] = %v, but from its last point it comes to %v", p, r, i, part, reach)
		}
	}
	if fits := fitting(p, r); !slices.Equal(inRows(slices.Concat(parts...)), fits) {
		t.Fatalf("ToolParts(%v, %d) = %v, but it fits at %v", p, r, parts, fits)
	}
	if !slices.Equal(firsts, inRows(firsts)) {
		t.Fatalf("ToolParts(%v, %d) begin at %v", p, r, firsts)
	}
}

// P66: by labels.
func TestToolPartsByLabels(t *testing.T) {
	for _, k := range knownTools() {
		p := plainPlate(k.text)
		for _, r := range []int{1, 2, 4, 5, impl.ToolMax} {
			if parts, want := impl.ToolParts(p, r), partsByLabels(p, r); !sameParts(parts, want) {
				t.Fatalf("%s: ToolParts(%v, %d) = %v, not %v", k.what, p, r, parts, want)
			}
		}
	}
	for i, p := range somePlates() {
		r := 1 + i%4
		if parts, want := impl.ToolParts(p, r), partsByLabels(p, r); !sameParts(parts, want) {
			t.Fatalf("ToolParts(%v, %d) = %v, not %v", p, r, parts, want)
		}
	}
}

// P68.
func TestToolPartsOfALargerTool(t *testing.T) {
	join := 0
	for _, p := range someToolPlates() {
		small := impl.ToolParts(p, 1)
		for _, r := range allTools()[1:] {
			large := impl.ToolParts(p, r)
			if a, b := len(slices.Concat(large...)), len(slices.Concat(small...)); a > b {
				t.Fatalf("ToolParts(%v, %d) are %d points, of one less %d", p, r, a, b)
			}
			for _, part := range large {
				if !slices.ContainsFunc(small, func(more []impl.Pt) bool { return within(part, more) }) {
					t.Fatalf("ToolParts(%v, %d) has %v, of one less are %v", p, r, part, small)
				}
			}
			if len(large) > len(small) {
				join++
			}
			small = large
		}
	}
	if join < 20 {
		t.Errorf("there are but %d plates and tools whose parts join for a smaller one", join)
	}
}

// P57, P59, P62 and P66: of a plate that is moved all points move with it.
func TestToolsMoved(t *testing.T) {
	stays := 0
	for _, p := range someToolPlates() {
		for _, move := range []func(impl.Pt) impl.Pt{oneAcross, oneUp} {
			q := movedPlate(p, move)
			if !impl.PlateOk(q) {
				checkNoTool(t, "moved beyond the grid", q, 1)
				continue
			}
			stays++
			for _, r := range []int{1, 2, 4} {
				var want [][]impl.Pt
				for _, part := range impl.ToolParts(p, r) {
					want = append(want, movedPts(part, move))
				}
				if there := impl.ToolParts(q, r); !sameParts(there, want) {
					t.Fatalf("ToolParts(%v, %d), moved, are %v, not %v", p, r, there, want)
				}
			}
		}
	}
	if stays < 50 {
		t.Errorf("there are but %d plates that may be moved", stays)
	}
}

// P57 to P68: the limits of tools.
func TestToolLimits(t *testing.T) {
	if impl.ToolMax != 9 {
		t.Errorf("ToolMax is %d", impl.ToolMax)
	}
	for _, k := range knownTools() {
		for _, r := range badTools() {
			checkNoTool(t, k.what, plainPlate(k.text), r)
		}
	}
	// All of the grid has points that are farther from all edges than any tool.
	all := plainPlate("0,0 9,0 9,9 0,9\n")
	for _, r := range badTools() {
		for _, at := range allPts() {
			checkNoFit(t, "no tool", all, r, at)
		}
	}
}

// P57 to P68: what is no plate has room for no tool.
func TestToolsOfWrongPlates(t *testing.T) {
	eachWrongPlate(func(what string, p impl.Plate) {
		for _, r := range []int{1, impl.ToolMax, 0} {
			checkNoTool(t, what, p, r)
		}
	})
}

// P57, P59 and P62: points that are not of the grid.
func TestToolsAtWrongPoints(t *testing.T) {
	for _, text := range []string{"0,0 9,0 9,9 0,9\n", "0,0 8,0 8,8 0,8\n3,3 5,3 5,5 3,5\n"} {
		p := plainPlate(text)
		for _, r := range []int{1, 2, impl.ToolMax} {
			for _, at := range badPts() {
				checkNoFit(t, "not of the grid", p, r, at)
				for _, other := range edgePts() {
					checkNoWay(t, "not of the grid", p, r, at, other)
				}
			}
		}
	}
}

// P59 and P60: numbers so far apart that what is between them is one, or nothing, when it is reckoned in an int, or in one of 32 bits.
func TestToolMayOfNumbersFarApart(t *testing.T) {
	p := plainPlate("0,0 9,0 9,9 0,9\n")
	for _, far := range []int{math.MinInt, math.MaxInt, 1 << 32, -1 << 32, 1 << 31, 1 << 16, 1 << 62} {
		for _, at := range ptsOf(4, 4, 3, 4, 4, 5) {
			for d := -1; d <= 1; d++ {
				checkNoWay(t, "far across", p, 1, at, impl.Pt{X: at.X + far + d, Y: at.Y})
				checkNoWay(t, "far up", p, 1, at, impl.Pt{X: at.X, Y: at.Y + far + d})
				checkNoWay(t, "far up, and a step across", p, 1, at, impl.Pt{X: at.X + d, Y: at.Y + far})
				checkNoFit(t, "far across and up", p, 1, impl.Pt{X: at.X + far + d, Y: at.Y + far})
			}
		}
	}
	checkNoWay(t, "from one end of all numbers to the other one", p, 1, impl.Pt{X: math.MinInt, Y: 4}, impl.Pt{X: math.MaxInt, Y: 4})
	checkNoWay(t, "from one end of all numbers to the other one, up", p, 1, impl.Pt{X: 4, Y: math.MaxInt}, impl.Pt{X: 4, Y: math.MinInt})
}

// P57 to P68: nothing is written into an argument, or behind its end.
func TestToolsLeaveArgumentsAlone(t *testing.T) {
	plates := slices.Clone(someToolPlates())
	for _, k := range knownBadPlates() {
		plates = append(plates, plateOf(k.loops...))
	}
	for _, p := range plates {
		given, whole := withSpare(p)
		_, want := withSpare(p)
		for _, r := range []int{0, 1, 2, impl.ToolMax} {
			for _, at := range ptsOf(1, 1, 4, 4, -1, 4) {
				impl.ToolFits(given, r, at)
				impl.ToolMay(given, r, at, oneAcross(at))
				impl.ToolReach(given, r, at)
			}
			impl.ToolParts(given, r)
		}
		if !slices.EqualFunc(whole, want, slices.Equal) {
			t.Fatalf("%v was made %v", want, whole)
		}
	}
}

// P62: each answer is new memory, spare room included.
func TestToolReachIsNew(t *testing.T) {
	for _, k := range knownTools() {
		p := plainPlate(k.text)
		for _, from := range plainPts(k.firsts) {
			first, second := impl.ToolReach(p, k.r, from), impl.ToolReach(p, k.r, from)
			want := slices.Clone(second)
			clear(first[:cap(first)])
			if !slices.Equal(second, want) || !samePlate(p, plainPlate(k.text)) {
				t.Fatalf("%s: answers share memory with each other, or with the plate", k.what)
			}
		}
	}
}

// P66: each answer is new memory, and so is each of its lists, spare room included.
func TestToolPartsAreNew(t *testing.T) {
	for _, k := range knownTools() {
		p := plainPlate(k.text)
		first, second := impl.ToolParts(p, k.r), impl.ToolParts(p, k.r)
		for i, part := range first {
			clear(part[:cap(part)])
			if !sameParts(first[i+1:], second[i+1:]) {
				t.Fatalf("%s: the lists of an answer share memory", k.what)
			}
		}
		clear(first[:cap(first)])
		if !sameParts(second, impl.ToolParts(p, k.r)) || !samePlate(p, plainPlate(k.text)) {
			t.Fatalf("%s: answers share memory with each other, or with the plate", k.what)
		}
	}
}

// P57 to P68: the same is told while others ask, too, and no call leaves a goroutine behind.
func TestToolsWhileOthersAsk(t *testing.T) {
	before := runtime.NumGoroutine()
	for _, k := range knownTools() {
		p := plainPlate(k.text)
		want := impl.ToolParts(p, k.r)
		told := make([][][]impl.Pt, 16)
		var all sync.WaitGroup
		for i := range told {
			all.Go(func() { told[i] = impl.ToolParts(p, k.r) })
		}
		all.Wait()
		for _, parts := range told {
			if !sameParts(parts, want) {
				t.Fatalf("%s: while others ask %v, alone %v", k.what, parts, want)
			}
		}
	}
	checkNoMoreRun(t, before)
}
