package tests

import (
	"math"
	"math/rand"
	"runtime"
	"slices"
	"sync"
	"testing"

	"loop.example/mortiser/impl"
)

// pathMost is how many points a path has at most.
const pathMost = 400

// Plates on which more than one way, path or cut is written out.
const (
	wholeGrid  = "0,0 9,0 9,9 0,9\n"
	smallRoom  = "0,0 4,0 4,4 0,4\n"
	oneHole    = "0,0 8,0 8,8 0,8\n3,3 5,3 5,5 3,5\n"
	twoHoles   = "0,0 9,0 9,9 0,9\n2,2 3,2 3,3 2,3\n6,6 7,6 7,7 6,7\n"
	cornerIn   = "0,0 6,0 6,3 3,3 3,6 0,6\n"
	barAndStem = "0,0 9,0 9,4 5,4 5,9 1,9 1,4 0,4\n"
	threeArms  = "0,0 6,0 6,2 4,2 4,4 2,4 2,2 0,2\n"
	twoRooms   = "0,0 9,0 9,9 0,9\n1,4 8,4 8,5 1,5\n"
)

// knownWay is a plate, a tool, and the way from one point to another one; none, if it does not come there.
type knownWay struct {
	what string
	text string
	r    int
	from string
	to   string
	way  string
}

func knownWays() []knownWay {
	return []knownWay{
		{"right ahead of up", wholeGrid, 1, "1,1", "3,3", "1,1 2,1 3,1 3,2 3,3"},
		{"right ahead of down", wholeGrid, 1, "1,3", "3,1", "1,3 2,3 3,3 3,2 3,1"},
		{"up ahead of left", wholeGrid, 1, "3,1", "1,3", "3,1 3,2 3,3 2,3 1,3"},
		{"left ahead of down, not back by the same points", wholeGrid, 1, "3,3", "1,1", "3,3 2,3 1,3 1,2 1,1"},
		{"to itself", wholeGrid, 1, "4,4", "4,4", "4,4"},
		{"to itself, as large as a tool can be", wholeGrid, 9, "3,3", "3,3", "3,3"},
		{"to the right", wholeGrid, 9, "3,3", "4,3", "3,3 4,3"},
		{"up", wholeGrid, 9, "3,3", "3,4", "3,3 3,4"},
		{"to the left", wholeGrid, 9, "6,6", "5,6", "6,6 5,6"},
		{"down", wholeGrid, 9, "6,6", "6,5", "6,6 6,5"},
		{"aslant", wholeGrid, 9, "6,3", "5,4", "6,3 6,4 5,4"},
		{"from corner to corner", wholeGrid, 9, "3,6", "6,3", "3,6 4,6 5,6 6,6 6,5 6,4 6,3"},
		{"from corner to corner, on a plate that goes around to the right", "0,0 0,9 9,9 9,0\n", 5, "6,3", "3,6", "6,3 6,4 6,5 6,6 5,6 4,6 3,6"},
		{"around a hole, up ahead of down", oneHole, 1, "2,4", "6,4", "2,4 2,5 2,6 3,6 4,6 5,6 6,6 6,5 6,4"},
		{"around a hole, up ahead of down, to the left", oneHole, 1, "6,4", "2,4", "6,4 6,5 6,6 5,6 4,6 3,6 2,6 2,5 2,4"},
		{"around a hole, right ahead of left, going up", oneHole, 1, "4,2", "4,6", "4,2 5,2 6,2 6,3 6,4 6,5 6,6 5,6 4,6"},
		{"around a hole, right ahead of left, going down", oneHole, 1, "4,6", "4,2", "4,6 5,6 6,6 6,5 6,4 6,3 6,2 5,2 4,2"},
		{"around a hole, down first, as that is shorter", oneHole, 1, "2,3", "6,3", "2,3 2,2 3,2 4,2 5,2 6,2 6,3"},
		{"around a hole, left first, as that is shorter", oneHole, 1, "3,2", "3,6", "3,2 2,2 2,3 2,4 2,5 2,6 3,6"},
		{"around a corner that goes in", cornerIn, 1, "2,5", "5,2", "2,5 2,4 2,3 2,2 3,2 4,2 5,2"},
		{"around a corner that goes in, right ahead of down at both ends", cornerIn, 1, "1,5", "5,1", "1,5 2,5 2,4 2,3 2,2 3,2 4,2 5,2 5,1"},
		{"around a corner that goes in, up ahead of left at both ends", cornerIn, 1, "5,1", "1,5", "5,1 5,2 4,2 3,2 2,2 2,3 2,4 2,5 1,5"},
		{"from a bar on into its stem", barAndStem, 4, "7,2", "3,7", "7,2 6,2 5,2 4,2 3,2 3,3 3,4 3,5 3,6 3,7"},
		{"from the stem on into the bar", barAndStem, 4, "3,7", "2,2", "3,7 3,6 3,5 3,4 3,3 3,2 2,2"},
		{"by one hole, below it", twoHoles, 1, "1,2", "4,2", "1,2 1,1 2,1 3,1 4,1 4,2"},
		{"by the other hole, up ahead of down", twoHoles, 1, "5,6", "8,7", "5,6 5,7 5,8 6,8 7,8 8,8 8,7"},
		{"by no hole, right ahead of up", twoHoles, 1, "4,4", "5,5", "4,4 5,4 5,5"},
		{"by both holes", twoHoles, 1, "1,3", "8,6", "1,3 1,4 2,4 3,4 4,4 5,4 6,4 7,4 8,4 8,5 8,6"},
		{"through a waist", "0,0 8,0 5,4 8,8 0,8 3,4\n", 1, "4,2", "4,6", "4,2 4,3 4,4 4,5 4,6"},
		{"into another part", oneHole, 2, "2,2", "6,2", ""},
		{"into another part, beyond a hole", twoRooms, 1, "1,1", "1,6", ""},
		{"into another part, beyond a neck", "0,0 9,0 5,4 9,9 0,9 4,4\n", 1, "4,1", "4,8", ""},
		{"onto an edge", oneHole, 1, "4,2", "4,3", ""},
		{"into the hole", oneHole, 1, "4,2", "4,4", ""},
		{"beyond", oneHole, 1, "7,7", "9,9", ""},
		{"to where the tool is too large", wholeGrid, 4, "2,2", "1,2", ""},
		{"from where the tool is too large", wholeGrid, 4, "1,2", "2,2", ""},
		{"from an edge to itself", oneHole, 1, "0,4", "0,4", ""},
		{"from where the tool is too large to itself", oneHole, 3, "2,2", "2,2", ""},
		{"from the hole to itself", oneHole, 1, "4,4", "4,4", ""},
	}
}

// knownAll is a plate, a tool, and the path from a point on by all to which it comes.
type knownAll struct {
	what string
	text string
	r    int
	from string
	all  string
}

func knownAlls() []knownAll {
	return []knownAll{
		{"one point", "0,0 2,0 2,2 0,2\n", 1, "1,1", "1,1"},
		{"one point, as no step is free", oneHole, 2, "6,2", "6,2"},
		{"the one point at which the largest tool fits", "1,1 7,1 7,7 1,7\n", 9, "4,4", "4,4"},
		{"two points", "0,0 3,0 3,2 0,2\n", 1, "1,1", "1,1 2,1 1,1"},
		{"two points, from the other one", "0,0 3,0 3,2 0,2\n", 1, "2,1", "2,1 1,1 2,1"},
		{"to both sides, back over one point", "0,0 4,0 4,2 0,2\n", 1, "2,1", "2,1 3,1 2,1 1,1 2,1"},
		{"up and down, back over one point", "0,0 2,0 2,4 0,4\n", 1, "1,2", "1,2 1,3 1,2 1,1 1,2"},
		{"each step is free: right, and around", smallRoom, 1, "2,2", "2,2 3,2 3,3 2,3 1,3 1,2 1,1 2,1 3,1 2,1 1,1 1,2 1,3 2,3 3,3 3,2 2,2"},
		{"up is the first that is free", smallRoom, 1, "3,1", "3,1 3,2 3,3 2,3 1,3 1,2 2,2 2,1 1,1 2,1 2,2 1,2 1,3 2,3 3,3 3,2 3,1"},
		{"left is the first that is free", smallRoom, 1, "3,3", "3,3 2,3 1,3 1,2 2,2 3,2 3,1 2,1 1,1 2,1 3,1 3,2 2,2 1,2 1,3 2,3 3,3"},
		{"the largest tool, up and down, and back over all", wholeGrid, 9, "6,3", "6,3 6,4 6,5 6,6 5,6 4,6 3,6 3,5 4,5 5,5 5,4 4,4 3,4 3,3 4,3 5,3 4,3 3,3 3,4 4,4 5,4 5,5 4,5 3,5 3,6 4,6 5,6 6,6 6,5 6,4 6,3"},
		{"three arms, right, up, and left, back from each", threeArms, 1, "3,1", "3,1 4,1 5,1 4,1 3,1 3,2 3,3 3,2 3,1 2,1 1,1 2,1 3,1"},
		{"from the end of an arm", threeArms, 1, "3,3", "3,3 3,2 3,1 4,1 5,1 4,1 3,1 2,1 1,1 2,1 3,1 3,2 3,3"},
		{"around a hole, and all back", "0,0 5,0 5,5 0,5\n2,2 3,2 3,3 2,3\n", 1, "1,1", "1,1 2,1 3,1 4,1 4,2 4,3 4,4 3,4 2,4 1,4 1,3 1,2 1,3 1,4 2,4 3,4 4,4 4,3 4,2 4,1 3,1 2,1 1,1"},
		{"around a hole from its left, to the bottom, and all back", "0,0 5,0 5,5 0,5\n2,2 3,2 3,3 2,3\n", 1, "1,2", "1,2 1,3 1,4 2,4 3,4 4,4 4,3 4,2 4,1 3,1 2,1 1,1 2,1 3,1 4,1 4,2 4,3 4,4 3,4 2,4 1,4 1,3 1,2"},
		{"between two holes", "0,0 8,0 8,8 0,8\n1,1 3,1 3,7 1,7\n5,1 7,1 7,7 5,7\n", 1, "4,5", "4,5 4,6 4,7 4,6 4,5 4,4 4,3 4,2 4,1 4,2 4,3 4,4 4,5"},
		{"a bar and its stem", barAndStem, 4, "7,2", "7,2 6,2 5,2 4,2 3,2 3,3 3,4 3,5 3,6 3,7 3,6 3,5 3,4 3,3 3,2 2,2 3,2 4,2 5,2 6,2 7,2"},
		{"from an edge", smallRoom, 1, "4,2", ""},
		{"from a corner", smallRoom, 1, "0,0", ""},
		{"from beyond", smallRoom, 1, "6,6", ""},
		{"from a hole", oneHole, 1, "4,4", ""},
		{"from where the tool is too large", smallRoom, 5, "2,2", ""},
	}
}

// knownCut is a tool, points, and all of the grid that it cuts along them.
type knownCut struct {
	what string
	r    int
	path string
	cut  string
}

func knownCuts() []knownCut {
	around4 := "4,3 3,4 4,4 5,4 4,5"
	square4 := "3,3 4,3 5,3 3,4 4,4 5,4 3,5 4,5 5,5"
	return []knownCut{
		{"no point", 9, "", ""},
		{"one point, and none beside it, as one step is just as far as the tool cuts", 1, "4,4", "4,4"},
		{"one point, and one step from it", 2, "4,4", around4},
		{"one point, and aslant from it, as that is less than 3", 3, "4,4", square4},
		{"two steps are just as far as the tool cuts", 4, "4,4", square4},
		{"two steps are less than 5", 5, "4,4", "4,2 " + "3,3 4,3 5,3 2,4 3,4 4,4 5,4 6,4 3,5 4,5 5,5 4,6"},
		{"as far as a knight goes", 6, "4,4", "3,2 4,2 5,2 2,3 3,3 4,3 5,3 6,3 2,4 3,4 4,4 5,4 6,4 2,5 3,5 4,5 5,5 6,5 3,6 4,6 5,6"},
		{"two steps aslant are just as far as the tool cuts", 8, "4,4", "3,2 4,2 5,2 2,3 3,3 4,3 5,3 6,3 2,4 3,4 4,4 5,4 6,4 2,5 3,5 4,5 5,5 6,5 3,6 4,6 5,6"},
		{"three steps are just as far as the tool cuts", 9, "4,4", "2,2 3,2 4,2 5,2 6,2 2,3 3,3 4,3 5,3 6,3 2,4 3,4 4,4 5,4 6,4 2,5 3,5 4,5 5,5 6,5 2,6 3,6 4,6 5,6 6,6"},
		{"in the grid's first corner", 9, "0,0", "0,0 1,0 2,0 0,1 1,1 2,1 0,2 1,2 2,2"},
		{"in the grid's last corner", 2, "9,9", "9,8 8,9 9,9"},
		{"in the corner on the right", 4, "9,0", "8,0 9,0 8,1 9,1"},
		{"one step", 2, "1,1 2,1", "1,0 2,0 0,1 1,1 2,1 3,1 1,2 2,2"},
		{"one step, forth and back", 2, "1,1 2,1 1,1", "1,0 2,0 0,1 1,1 2,1 3,1 1,2 2,2"},
		{"a point twice", 2, "4,4 4,4", around4},
		{"a point twice, and on from it", 1, "4,4 4,4 6,4", "4,4 5,4 6,4"},
		{"a point twice, behind another one", 1, "4,6 4,4 4,4", "4,4 4,5 4,6"},
		{"a point again", 1, "4,4 6,4 4,4 4,5", "4,4 5,4 6,4 4,5"},
		{"points that are not one step apart", 1, "1,1 4,1", "1,1 2,1 3,1 4,1"},
		{"points that are not one step apart, down", 2, "0,9 0,7", "0,6 0,7 1,7 0,8 1,8 0,9 1,9"},
		{"from the last point to the first one there is nothing", 1, "0,0 4,0 4,4", "0,0 1,0 2,0 3,0 4,0 4,1 4,2 4,3 4,4"},
		{"all points between count", 1, "2,2 2,3 2,4 3,4 4,4", "2,2 2,3 2,4 3,4 4,4"},
		{"a segment comes nearer than both of its ends: 1/5 and 4/5 are less than 1", 1, "0,0 2,1", "0,0 1,0 2,0 0,1 1,1 2,1"},
		{"aslant: 1/2 is less than 1, but not a step from the ends", 1, "3,3 5,5", "3,3 4,3 3,4 4,4 5,4 4,5 5,5"},
		{"aslant: 2 is just as far as the tool cuts", 2, "3,3 5,5", "3,2 2,3 3,3 4,3 3,4 4,4 5,4 4,5 5,5 6,5 5,6"},
		{"aslant: 2 is less than 3", 3, "4,4 5,5", "3,3 4,3 5,3 3,4 4,4 5,4 6,4 3,5 4,5 5,5 6,5 4,6 5,6 6,6"},
		{"across all of the grid", 1, "0,5 9,5", "0,5 1,5 2,5 3,5 4,5 5,5 6,5 7,5 8,5 9,5"},
	}
}

// run is a plate, a tool, and one of its parts.
type run struct {
	p    impl.Plate
	r    int
	part []impl.Pt
}

// someRuns are the parts of all tools on some plates.
var someRuns = sync.OnceValue(func() []run {
	var out []run
	for i, p := range someToolPlates() {
		for _, r := range allTools() {
			// The plates with a part written out stand last.
			if i%3 != 0 && i < len(someMiddlePlates()) {
				continue
			}
			for _, part := range impl.ToolParts(p, r) {
				out = append(out, run{p: p, r: r, part: part})
			}
		}
	}
	return out
})

// someOf are a few of some points, the first and the last one among them.
func someOf(pts []impl.Pt) []impl.Pt {
	var out []impl.Pt
	for i := 0; i < len(pts); i += 1 + len(pts)/4 {
		out = append(out, pts[i])
	}
	return append(out, pts[len(pts)-1])
}

// farsByMay is, of each point, how many steps it is from one, by relaxing along all steps until none changes any more.
func farsByMay(ways map[impl.Pt][]impl.Pt, from impl.Pt) map[impl.Pt]int {
	fars := map[impl.Pt]int{from: 0}
	for changed := true; changed; {
		changed = false
		for at, tos := range ways {
			far, came := fars[at]
			if !came {
				continue
			}
			for _, to := range tos {
				if now, there := fars[to]; !there || far+1 < now {
					fars[to], changed = far+1, true
				}
			}
		}
	}
	return fars
}

// wayByFars is the way from a point to another one by points each of which is one step nearer to that, of several such the first by the order of steps.
func wayByFars(ways map[impl.Pt][]impl.Pt, from impl.Pt, to impl.Pt) []impl.Pt {
	fars := farsByMay(ways, to)
	_, fits := ways[to]
	if _, there := fars[from]; !fits || !there {
		return nil
	}
	way := []impl.Pt{from}
	for at := from; at != to; {
		next := slices.IndexFunc(ways[at], func(beside impl.Pt) bool { return fars[beside] == fars[at]-1 })
		at = ways[at][next]
		way = append(way, at)
	}
	return way
}

// allByCalls is the path by all points, by a function that calls itself at each point to which it comes.
func allByCalls(ways map[impl.Pt][]impl.Pt, from impl.Pt) []impl.Pt {
	came := map[impl.Pt]int{}
	var out []impl.Pt
	var visit func(at impl.Pt)
	visit = func(at impl.Pt) {
		came[at]++
		out = append(out, at)
		for _, to := range ways[at] {
			if came[to] == 0 {
				visit(to)
				out = append(out, at)
			}
		}
	}
	visit(from)
	return out
}

// okByMay says whether a path is ok, by ToolFits and ToolMay.
func okByMay(p impl.Plate, r int, path []impl.Pt) bool {
	if len(path) < 1 || len(path) > pathMost || !impl.ToolFits(p, r, path[0]) {
		return false
	}
	for i := range path[1:] {
		if !impl.ToolMay(p, r, path[i], path[i+1]) {
			return false
		}
	}
	return true
}

// cutByFoot are the points of the grid that a tool cuts, by the nearest points of all that is between two points, one behind the other.
func cutByFoot(r int, path []impl.Pt) []impl.Pt {
	return where(allPts(), func(at impl.Pt) bool {
		for i, to := range path {
			if distSquared(at, to) < r {
				return true
			}
			if i > 0 && path[i-1] != to && !atLeast(farByFoot(impl.Seg{A: path[i-1], B: to}, at), r) {
				return true
			}
		}
		return false
	})
}

// cutOfPts are the points of the grid that are nearer to one of these than a tool cuts.
func cutOfPts(r int, pts []impl.Pt) []impl.Pt {
	return where(allPts(), func(at impl.Pt) bool {
		return slices.ContainsFunc(pts, func(to impl.Pt) bool { return distSquared(at, to) < r })
	})
}

// wander is a path of so many points from one on, that goes any way, and back, and comes to points again.
func wander(dice *rand.Rand, ways map[impl.Pt][]impl.Pt, from impl.Pt, many int) []impl.Pt {
	path := []impl.Pt{from}
	for at := from; len(path) < many && len(ways[at]) > 0; path = append(path, at) {
		at = ways[at][dice.Intn(len(ways[at]))]
	}
	return path
}

// eachWandering goes through paths on some plates.
func eachWandering(every int, f func(one run, ways map[impl.Pt][]impl.Pt, path []impl.Pt)) {
	dice := rand.New(rand.NewSource(21))
	for i, one := range someRuns() {
		if i%every != 0 {
			continue
		}
		ways := waysByMay(one.p, one.r)
		for _, many := range []int{1, 2, 7, 30} {
			f(one, ways, wander(dice, ways, one.part[dice.Intn(len(one.part))], many))
		}
	}
}

// eachJumping goes through lists of points of the grid that are no paths, but for some.
func eachJumping(f func(pts []impl.Pt)) {
	dice := rand.New(rand.NewSource(22))
	for range 400 {
		var pts []impl.Pt
		for range dice.Intn(6) {
			pts = append(pts, impl.Pt{X: dice.Intn(impl.GridMax + 1), Y: dice.Intn(impl.GridMax + 1)})
			if dice.Intn(5) == 0 {
				pts = append(pts, pts[dice.Intn(len(pts))], pts[len(pts)-1])
			}
		}
		f(pts)
	}
}

// toAndFro is a path of so many points, that goes between two of them.
func toAndFro(a impl.Pt, b impl.Pt, many int) []impl.Pt {
	var out []impl.Pt
	for i := range many {
		if i%2 == 0 {
			out = append(out, a)
		} else {
			out = append(out, b)
		}
	}
	return out
}

// checkNoPath asks for what is answered of a path, or a way, where there is none.
func checkNoPath(t *testing.T, what string, p impl.Plate, r int, path []impl.Pt) {
	t.Helper()
	if impl.PathOk(p, r, path) {
		t.Fatalf("%s: PathOk(%v, %d, %v) = true", what, p, r, path)
	}
}

func checkNoPathWay(t *testing.T, what string, p impl.Plate, r int, from impl.Pt, to impl.Pt) {
	t.Helper()
	if way, ok := impl.PathWay(p, r, from, to); ok || len(way) != 0 {
		t.Fatalf("%s: PathWay(%v, %d, %v, %v) = %v, %v", what, p, r, from, to, way, ok)
	}
}

// checkNoPathsAt asks all functions of the chapter but those of cutting for what they answer at a point at which no tool fits, or of what is no tool, or no plate.
func checkNoPathsAt(t *testing.T, what string, p impl.Plate, r int, at impl.Pt) {
	t.Helper()
	checkNoPath(t, what, p, r, []impl.Pt{at})
	checkNoPathWay(t, what, p, r, at, at)
	if all := impl.PathAll(p, r, at); len(all) != 0 {
		t.Fatalf("%s: PathAll(%v, %d, %v) = %v", what, p, r, at, all)
	}
	beside := stepped(at)[0]
	checkNoPath(t, what, p, r, []impl.Pt{at, beside})
	checkNoPath(t, what, p, r, []impl.Pt{beside, at})
	checkNoPathWay(t, what, p, r, at, beside)
	checkNoPathWay(t, what, p, r, beside, at)
}

func checkNoCut(t *testing.T, what string, r int, path []impl.Pt) {
	t.Helper()
	if cut := impl.PathCut(r, path); len(cut) != 0 {
		t.Fatalf("%s: PathCut(%d, %v) = %v", what, r, path, cut)
	}
}

// P69: how a path may stand; back, too.
func TestKnownPaths(t *testing.T) {
	cases := []struct {
		what    string
		text    string
		path    string
		largest int
	}{
		{"no point", oneHole, "", 0},
		{"one point", oneHole, "4,2", 1},
		{"one point, aslant from the hole's corner", oneHole, "2,2", 2},
		{"one point, for the largest tool", wholeGrid, "3,3", 9},
		{"one point, on an edge", oneHole, "3,3", 0},
		{"one point, in the hole", oneHole, "4,4", 0},
		{"one point, beyond", oneHole, "9,9", 0},
		{"a step", oneHole, "2,2 3,2", 1},
		{"a step of the largest tool", wholeGrid, "6,6 6,5", 9},
		{"a step, and back", wholeGrid, "2,2 3,2 2,2", 4},
		{"around, to the first point again", wholeGrid, "3,3 4,3 4,4 3,4 3,3", 9},
		{"around, and on", wholeGrid, "3,3 4,3 4,4 3,4 3,3 2,3", 4},
		{"around a hole", oneHole, "2,4 2,5 2,6 3,6 4,6 5,6 6,6 6,5 6,4", 1},
		{"around a corner that goes in", cornerIn, "2,4 2,3 2,2 3,2 4,2", 1},
		{"only the last point is one too near", wholeGrid, "3,3 3,4 3,5 3,6 3,7", 4},
		{"a point twice", wholeGrid, "4,4 4,4", 0},
		{"a point twice, within", wholeGrid, "4,4 5,4 5,4 6,4", 0},
		{"a point twice, last", wholeGrid, "4,4 5,4 6,4 6,4", 0},
		{"aslant", wholeGrid, "4,4 5,5", 0},
		{"aslant, last", wholeGrid, "4,4 5,4 6,5", 0},
		{"two steps at once", wholeGrid, "4,4 6,4", 0},
		{"two steps at once, within", wholeGrid, "4,4 4,5 4,7 4,6", 0},
		{"onto the hole", oneHole, "4,1 4,2 4,3", 0},
		{"through the hole", oneHole, "4,2 4,3 4,4 4,5 4,6", 0},
		{"along an edge", oneHole, "1,0 2,0", 0},
		{"onto an edge, last", oneHole, "2,1 1,1 0,1", 0},
		{"beyond, last", oneHole, "7,4 8,4 9,4", 0},
	}
	for _, c := range cases {
		p, path := plainPlate(c.text), plainPts(c.path)
		for _, r := range allTools() {
			if ok := impl.PathOk(p, r, path); ok != (r <= c.largest) {
				t.Errorf("%s: PathOk(%v, %d, %v) = %v", c.what, p, r, path, ok)
			}
			if ok := impl.PathOk(p, r, backwards(path)); ok != (r <= c.largest) {
				t.Errorf("%s: PathOk(%v, %d, %v) = %v, the other way about", c.what, p, r, path, ok)
			}
		}
	}
}

// P69: the limit of 400 points.
func TestPathOfManyPoints(t *testing.T) {
	p := plainPlate(wholeGrid)
	a, b := impl.Pt{X: 3, Y: 3}, impl.Pt{X: 4, Y: 3}
	for _, many := range []int{1, 2, 399, pathMost} {
		path := toAndFro(a, b, many)
		if !impl.PathOk(p, impl.ToolMax, path) {
			t.Errorf("PathOk of %d points = false", many)
		}
		for _, bad := range ptsOf(9, 3, 0, 0, 7, 7, -1, 3) {
			checkNoPath(t, "its last point does not fit", p, impl.ToolMax, insteadAt(path, many-1, bad))
			checkNoPath(t, "its first point does not fit", p, impl.ToolMax, insteadAt(path, 0, bad))
			checkNoPath(t, "one within does not fit", p, impl.ToolMax, insteadAt(path, many/2, bad))
		}
	}
	for _, many := range []int{pathMost + 1, pathMost + 2, pathMost + 1<<8, 1<<16 + 1} {
		for _, r := range allTools() {
			checkNoPath(t, "too many points", p, r, toAndFro(a, b, many))
		}
	}
}

// P69: paths, and what is one point off.
func TestPathOk(t *testing.T) {
	ok, not := 0, 0
	check := func(one run, path []impl.Pt) {
		want := okByMay(one.p, one.r, path)
		if got := impl.PathOk(one.p, one.r, path); got != want {
			t.Fatalf("PathOk(%v, %d, %v) = %v", one.p, one.r, path, got)
		}
		if got := impl.PathOk(one.p, one.r, backwards(path)); got != want {
			t.Fatalf("PathOk(%v, %d, %v) = %v, the other way about", one.p, one.r, path, got)
		}
		if want && one.r > 1 && !impl.PathOk(one.p, one.r-1, path) {
			t.Fatalf("PathOk(%v, %d, %v) = false, but of one more true", one.p, one.r-1, path)
		}
		if want {
			ok++
		} else {
			not++
		}
	}
	eachWandering(2, func(one run, ways map[impl.Pt][]impl.Pt, path []impl.Pt) {
		if !okByMay(one.p, one.r, path) {
			t.Fatalf("%v is no path for the tool %d on %v", path, one.r, one.p)
		}
		check(one, path)
		for _, i := range []int{0, len(path) / 2, len(path) - 1} {
			check(one, withAt(path, i, path[i]))
			check(one, withoutAt(path, i))
			check(one, insteadAt(path, i, stepped(path[i])[i%4]))
			check(one, insteadAt(path, i, impl.Pt{X: path[i].X, Y: path[i].Y + 2}))
		}
		check(run{p: one.p, r: one.r%impl.ToolMax + 1}, path)
	})
	if ok < 1000 || not < 1000 {
		t.Errorf("there are but %d paths, and %d that are none", ok, not)
	}
}

// P69: a path on the other side, with across and up exchanged, and moved, is one there.
func TestPathOkElsewhere(t *testing.T) {
	eachWandering(5, func(one run, ways map[impl.Pt][]impl.Pt, path []impl.Pt) {
		for _, move := range []func(impl.Pt) impl.Pt{otherSide, exchanged} {
			if !impl.PathOk(movedPlate(one.p, move), one.r, movedPts(path, move)) {
				t.Fatalf("PathOk(%v, %d, %v), but not on the other side, or exchanged", one.p, one.r, path)
			}
		}
		for i := range one.p.Holes {
			if !impl.PathOk(withoutHole(one.p, i), one.r, path) {
				t.Fatalf("PathOk(%v, %d, %v), but not without hole %d", one.p, one.r, path, i)
			}
		}
	})
}

// P70.
func TestPathOkOfParts(t *testing.T) {
	joined := 0
	dice := rand.New(rand.NewSource(70))
	eachWandering(6, func(one run, ways map[impl.Pt][]impl.Pt, path []impl.Pt) {
		for i := range path {
			if !impl.PathOk(one.p, one.r, path[:i+1]) || !impl.PathOk(one.p, one.r, path[i:]) {
				t.Fatalf("PathOk(%v, %d, %v), but not of its first %d points, or of those from there on", one.p, one.r, path, i+1)
			}
		}
		more := wander(dice, ways, path[len(path)-1], 20)
		if !impl.PathOk(one.p, one.r, slices.Concat(path, more[1:])) {
			t.Fatalf("PathOk(%v, %d, %v), and of %v, but not of one behind the other", one.p, one.r, path, more)
		}
		if impl.PathOk(one.p, one.r, slices.Concat(path, more)) {
			t.Fatalf("PathOk(%v, %d, %v), with %v behind, in which a point is twice", one.p, one.r, path, more)
		}
		if len(more) > 1 {
			joined++
		}
	})
	if joined < 100 {
		t.Errorf("there are but %d paths with one behind", joined)
	}
}

// P71, P72 and P81: by ways that are known; each loop from any point on, and the other way about.
func TestKnownWays(t *testing.T) {
	for _, k := range knownWays() {
		p := plainPlate(k.text)
		checkKnownWay(t, k, p)
		eachBegun(p, func(q impl.Plate) {
			checkKnownWay(t, k, q)
		})
		checkKnownWay(t, k, withHoles(p, aboutHoles(p)...))
	}
}

func checkKnownWay(t *testing.T, k knownWay, p impl.Plate) {
	t.Helper()
	from, to := plainPts(k.from)[0], plainPts(k.to)[0]
	way, ok := impl.PathWay(p, k.r, from, to)
	if !impl.PlateOk(p) || ok != (k.way != "") || !slices.Equal(way, plainPts(k.way)) {
		t.Errorf("%s: PathWay(%v, %d, %v, %v) = %v, %v, not %s", k.what, p, k.r, from, to, way, ok, k.way)
	}
	if k.way != "" && !impl.PathOk(p, k.r, way) {
		t.Errorf("%s: PathOk(%v, %d, %v) = false", k.what, p, k.r, way)
	}
}

// P71 and P72: each way is the one by points that are one step nearer, of several the first by the order of steps.
func TestPathWay(t *testing.T) {
	several := 0
	for i, one := range someRuns() {
		ways := waysByMay(one.p, one.r)
		for _, from := range []impl.Pt{one.part[0], one.part[i%len(one.part)]} {
			for _, to := range someOf(one.part) {
				want := wayByFars(ways, from, to)
				way, ok := impl.PathWay(one.p, one.r, from, to)
				if !ok || !slices.Equal(way, want) {
					t.Fatalf("PathWay(%v, %d, %v, %v) = %v, %v, not %v", one.p, one.r, from, to, way, ok, want)
				}
				if back, _ := impl.PathWay(one.p, one.r, to, from); len(back) != len(way) {
					t.Fatalf("PathWay(%v, %d, %v, %v) = %v, the other way about %v", one.p, one.r, from, to, way, back)
				} else if !slices.Equal(backwards(back), way) {
					several++
				}
			}
		}
	}
	if several < 500 {
		t.Errorf("there are but %d ways that are others the other way about", several)
	}
}

// P71 and P72: by steps that are told by the nearest points of edges; from any point of the grid to any one.
func TestPathWayByFoot(t *testing.T) {
	pts := allPts()
	for i, k := range knownWays() {
		p := plainPlate(k.text)
		ways := waysByFoot(p, k.r)
		for j := i % 9; j < len(pts); j += 9 {
			for _, to := range pts {
				want := wayByFars(ways, pts[j], to)
				if way, ok := impl.PathWay(p, k.r, pts[j], to); ok != (len(want) > 0) || !slices.Equal(way, want) {
					t.Fatalf("PathWay(%v, %d, %v, %v) = %v, %v, not %v", p, k.r, pts[j], to, way, ok, want)
				}
			}
		}
	}
}

// waysByFoot are, of each point at which a tool fits, all to which it may go from it, by the nearest points of edges.
func waysByFoot(p impl.Plate, r int) map[impl.Pt][]impl.Pt {
	fits := fitsByFoot(p, r)
	ways := map[impl.Pt][]impl.Pt{}
	for _, from := range fits {
		ways[from] = where(stepped(from), func(to impl.Pt) bool { return slices.Contains(fits, to) && mayByFoot(p, r, from, to) })
	}
	return ways
}

// P71.
func TestPathWayIsAPath(t *testing.T) {
	pts := allPts()
	there, not := 0, 0
	for i, one := range someRuns() {
		from := one.part[i%len(one.part)]
		for _, to := range []impl.Pt{one.part[0], one.part[i%7%len(one.part)], one.part[i%11%len(one.part)]} {
			way, ok := impl.PathWay(one.p, one.r, from, to)
			if !ok || !impl.PathOk(one.p, one.r, way) || way[0] != from || way[len(way)-1] != to {
				t.Fatalf("PathWay(%v, %d, %v, %v) = %v, %v", one.p, one.r, from, to, way, ok)
			}
			if came := slices.Compact(inRows(way)); len(came) != len(way) {
				t.Fatalf("PathWay(%v, %d, %v, %v) = %v, that comes to a point twice", one.p, one.r, from, to, way)
			}
			there++
		}
		reach := impl.ToolReach(one.p, one.r, from)
		for j := i % 13; j < len(pts); j += 13 {
			if to := pts[j]; !slices.Contains(reach, to) {
				checkNoPathWay(t, "it does not come there", one.p, one.r, from, to)
				checkNoPathWay(t, "it does not come from there", one.p, one.r, to, from)
				not++
			}
		}
	}
	if there < 1000 || not < 1000 {
		t.Errorf("there are but %d ways, and %d points to which there is none", there, not)
	}
}

// P72: by way of a third point it is not shorter, and to a point beside at most one longer.
func TestPathWayByThirdPoints(t *testing.T) {
	longer := 0
	for i, one := range someRuns() {
		if i%7 != 0 || len(one.part) < 3 {
			continue
		}
		long := func(from impl.Pt, to impl.Pt) int {
			way, _ := impl.PathWay(one.p, one.r, from, to)
			return len(way)
		}
		few := someOf(one.part)
		for _, from := range few {
			for _, to := range few {
				straight := long(from, to)
				for _, by := range few {
					if other := long(from, by) + long(by, to) - 1; other < straight {
						t.Fatalf("PathWay(%v, %d, %v, %v) has %d points, by %v %d", one.p, one.r, from, to, straight, by, other)
					} else if other > straight {
						longer++
					}
				}
				for _, beside := range stepped(to) {
					if next := long(from, beside); impl.ToolMay(one.p, one.r, to, beside) && (next > straight+1 || next < straight-1) {
						t.Fatalf("PathWay(%v, %d, %v, %v) has %d points, to %v %d", one.p, one.r, from, to, straight, beside, next)
					}
				}
			}
		}
	}
	if longer < 500 {
		t.Errorf("there are but %d ways that are longer by a third point", longer)
	}
}

// P72 and P73: no path is shorter.
func TestPathWayIsNotLongerThanAPath(t *testing.T) {
	as, shorter := 0, 0
	eachWandering(2, func(one run, ways map[impl.Pt][]impl.Pt, path []impl.Pt) {
		way, ok := impl.PathWay(one.p, one.r, path[0], path[len(path)-1])
		if !ok || len(way) > len(path) {
			t.Fatalf("PathWay(%v, %d, ..) = %v, %v, but there is %v", one.p, one.r, way, ok, path)
		}
		if len(way) == len(path) {
			as++
		} else {
			shorter++
		}
	})
	for _, k := range knownAlls() {
		p, all := plainPlate(k.text), plainPts(k.all)
		for i := range all {
			for j := i; j < len(all); j++ {
				if way, ok := impl.PathWay(p, k.r, all[i], all[j]); !ok || len(way) > j-i+1 {
					t.Fatalf("%s: PathWay(%v, %d, %v, %v) = %v, %v, but there is %v", k.what, p, k.r, all[i], all[j], way, ok, all[i:j+1])
				}
			}
		}
	}
	if as < 500 || shorter < 500 {
		t.Errorf("there are but %d ways that are as long as a path, and %d shorter", as, shorter)
	}
}

// P72: as many points on the other side, and with across and up exchanged, and no fewer with a hole.
func TestPathWayElsewhere(t *testing.T) {
	for i, one := range someRuns() {
		if i%6 != 0 {
			continue
		}
		from, to := one.part[i%len(one.part)], one.part[len(one.part)-1]
		way, _ := impl.PathWay(one.p, one.r, from, to)
		for _, move := range []func(impl.Pt) impl.Pt{otherSide, exchanged} {
			if there, ok := impl.PathWay(movedPlate(one.p, move), one.r, move(from), move(to)); !ok || len(there) != len(way) {
				t.Fatalf("PathWay(%v, %d, %v, %v) = %v, on the other side, or exchanged, %v, %v", one.p, one.r, from, to, way, there, ok)
			}
		}
		for h := range one.p.Holes {
			if without, ok := impl.PathWay(withoutHole(one.p, h), one.r, from, to); !ok || len(without) > len(way) {
				t.Fatalf("PathWay(%v, %d, %v, %v) = %v, without hole %d %v, %v", one.p, one.r, from, to, way, h, without, ok)
			}
		}
	}
}

// P71, P74 and P82: of a plate that is moved each way, and each path by all points, moves with it.
func TestPathsMoved(t *testing.T) {
	stays := 0
	for i, one := range someRuns() {
		for _, move := range []func(impl.Pt) impl.Pt{oneAcross, oneUp} {
			q := movedPlate(one.p, move)
			if !impl.PlateOk(q) {
				continue
			}
			stays++
			from, to := one.part[i%len(one.part)], one.part[0]
			way, _ := impl.PathWay(one.p, one.r, from, to)
			if there, _ := impl.PathWay(q, one.r, move(from), move(to)); !slices.Equal(there, movedPts(way, move)) {
				t.Fatalf("PathWay(%v, %d, %v, %v) = %v, moved %v", one.p, one.r, from, to, way, there)
			}
			all := impl.PathAll(one.p, one.r, from)
			if there := impl.PathAll(q, one.r, move(from)); !slices.Equal(there, movedPts(all, move)) {
				t.Fatalf("PathAll(%v, %d, %v) = %v, moved %v", one.p, one.r, from, all, there)
			}
		}
	}
	if stays < 50 {
		t.Errorf("there are but %d parts that may be moved", stays)
	}
}

// P81.
func TestPathWayToAPointBeside(t *testing.T) {
	steps := 0
	for i, one := range someRuns() {
		for j, from := range one.part {
			if (i+j)%3 != 0 {
				continue
			}
			if way, ok := impl.PathWay(one.p, one.r, from, from); !ok || !slices.Equal(way, []impl.Pt{from}) {
				t.Fatalf("PathWay(%v, %d, %v, %v) = %v, %v", one.p, one.r, from, from, way, ok)
			}
			to := stepped(from)[j%4]
			if !impl.ToolMay(one.p, one.r, from, to) {
				continue
			}
			steps++
			if way, ok := impl.PathWay(one.p, one.r, from, to); !ok || !slices.Equal(way, []impl.Pt{from, to}) {
				t.Fatalf("PathWay(%v, %d, %v, %v) = %v, %v", one.p, one.r, from, to, way, ok)
			}
		}
	}
	if steps < 1000 {
		t.Errorf("there are but %d steps", steps)
	}
}

// P74: by paths that are known; each loop from any point on, and the other way about.
func TestKnownAlls(t *testing.T) {
	for _, k := range knownAlls() {
		p := plainPlate(k.text)
		checkKnownAll(t, k, p)
		eachBegun(p, func(q impl.Plate) {
			checkKnownAll(t, k, q)
		})
		checkKnownAll(t, k, withHoles(p, aboutHoles(p)...))
		if k.all == "" {
			checkNoPathsAt(t, k.what, p, k.r, plainPts(k.from)[0])
		}
	}
}

func checkKnownAll(t *testing.T, k knownAll, p impl.Plate) {
	t.Helper()
	from := plainPts(k.from)[0]
	if all := impl.PathAll(p, k.r, from); !impl.PlateOk(p) || !slices.Equal(all, plainPts(k.all)) {
		t.Errorf("%s: PathAll(%v, %d, %v) = %v, not %s", k.what, p, k.r, from, all, k.all)
	}
}

// P74 and P82: from each point of a part on.
func TestPathAll(t *testing.T) {
	largest := 0
	for i, one := range someRuns() {
		ways := waysByMay(one.p, one.r)
		for j, from := range one.part {
			if (i+j)%4 != 0 && j > 0 {
				continue
			}
			all := impl.PathAll(one.p, one.r, from)
			if want := allByCalls(ways, from); !slices.Equal(all, want) {
				t.Fatalf("PathAll(%v, %d, %v) = %v, not %v", one.p, one.r, from, all, want)
			}
			if all[0] != from || all[len(all)-1] != from || len(all) != 2*len(one.part)-1 || !impl.PathOk(one.p, one.r, all) {
				t.Fatalf("PathAll(%v, %d, %v) = %v, that is no path from there, and back, of twice as many points as %v, less one", one.p, one.r, from, all, one.part)
			}
			if came := slices.Compact(inRows(all)); !slices.Equal(came, one.part) {
				t.Fatalf("PathAll(%v, %d, %v) comes to %v, but it is %v that it may", one.p, one.r, from, came, one.part)
			}
			largest = max(largest, len(all))
		}
	}
	if largest != 127 {
		t.Errorf("the longest path by all points has %d", largest)
	}
}

// P74: from where the tool does not fit there is none.
func TestPathAllFromWhereItDoesNotFit(t *testing.T) {
	for _, k := range knownTools() {
		p := plainPlate(k.text)
		fits := fitting(p, k.r)
		for _, from := range allPts() {
			if !slices.Contains(fits, from) {
				checkNoPathsAt(t, k.what, p, k.r, from)
			} else if all := impl.PathAll(p, k.r, from); len(all) == 0 {
				t.Fatalf("%s: PathAll(%v, %d, %v) is nothing", k.what, p, k.r, from)
			}
		}
	}
}

// P75: what is cut along points that are known; the other way about, too.
func TestKnownCuts(t *testing.T) {
	for _, k := range knownCuts() {
		path, want := plainPts(k.path), plainPts(k.cut)
		if cut := impl.PathCut(k.r, path); !slices.Equal(cut, want) {
			t.Errorf("%s: PathCut(%d, %v) = %v, not %s", k.what, k.r, path, cut, k.cut)
		}
		if cut := impl.PathCut(k.r, backwards(path)); !slices.Equal(cut, want) {
			t.Errorf("%s: PathCut(%d, %v) = %v, not %s, the other way about", k.what, k.r, path, cut, k.cut)
		}
		if far := cutByFoot(k.r, path); !slices.Equal(far, want) {
			t.Errorf("%s: by the nearest points %v, not %s", k.what, far, k.cut)
		}
	}
}

// checkCut asks for what is cut along points of the grid.
func checkCut(t *testing.T, r int, path []impl.Pt) {
	t.Helper()
	cut := impl.PathCut(r, path)
	if want := cutByFoot(r, path); !slices.Equal(cut, want) {
		t.Fatalf("PathCut(%d, %v) = %v, not %v", r, path, cut, want)
	}
	if near := cutOfPts(r, path); !within(near, cut) {
		t.Fatalf("PathCut(%d, %v) = %v, but nearer to a point are %v", r, path, cut, near)
	}
	if back := impl.PathCut(r, backwards(path)); !slices.Equal(back, cut) {
		t.Fatalf("PathCut(%d, %v) = %v, the other way about %v", r, path, cut, back)
	}
	if len(path) > 0 {
		if first := impl.PathCut(r, path[:len(path)-1]); !within(first, cut) {
			t.Fatalf("PathCut(%d, %v) = %v, without its last point %v", r, path, cut, first)
		}
	}
	if r > 1 {
		if small := impl.PathCut(r-1, path); !within(small, cut) {
			t.Fatalf("PathCut(%d, %v) = %v, of one less %v", r, path, cut, small)
		}
	}
	for _, move := range []func(impl.Pt) impl.Pt{otherSide, exchanged} {
		if there := impl.PathCut(r, movedPts(path, move)); !slices.Equal(there, inRows(movedPts(cut, move))) {
			t.Fatalf("PathCut(%d, %v) = %v, on the other side, or exchanged, %v", r, path, cut, there)
		}
	}
}

// P75, P76 and P77: along any points of the grid.
func TestPathCut(t *testing.T) {
	by := 0
	eachJumping(func(pts []impl.Pt) {
		for _, r := range []int{1, 1 + len(pts), impl.ToolMax} {
			checkCut(t, min(r, impl.ToolMax), pts)
		}
		by += len(impl.PathCut(1, pts)) - len(cutOfPts(1, pts))
	})
	if by < 1000 {
		t.Errorf("there are but %d points that are near to a segment, and to none of its ends", by)
	}
}

// P75, P76 and P77: along segments that lie any way, some at the grid's edges.
func TestPathCutOfSegments(t *testing.T) {
	for i, s := range segsOf(ptsAt([]int{0, 1, 3, 8, impl.GridMax})) {
		checkCut(t, 1+i%impl.ToolMax, []impl.Pt{s.A, s.B})
	}
}

// P75, P76 and P77: along paths.
func TestPathCutOfPaths(t *testing.T) {
	eachWandering(9, func(one run, ways map[impl.Pt][]impl.Pt, path []impl.Pt) {
		checkCut(t, one.r, path)
		checkCut(t, 1+len(path)%impl.ToolMax, path)
	})
}

// P76: of its first points, and of the last ones, however many.
func TestPathCutOfFirstPoints(t *testing.T) {
	for _, k := range knownCuts() {
		path := plainPts(k.path)
		for i := range path {
			first, last := impl.PathCut(k.r, path[:i+1]), impl.PathCut(k.r, path[i:])
			whole := slices.Compact(inRows(slices.Concat(first, last)))
			if cut := impl.PathCut(k.r, path); !slices.Equal(whole, cut) {
				t.Errorf("%s: PathCut(%d, %v) = %v, of both parts from %v on %v", k.what, k.r, path, cut, path[i], whole)
			}
		}
	}
}

// P75 and P76: the limit of 400 points.
func TestPathCutOfManyPoints(t *testing.T) {
	a, b, far := impl.Pt{X: 3, Y: 3}, impl.Pt{X: 4, Y: 3}, impl.Pt{X: 8, Y: 8}
	for _, r := range allTools() {
		few := impl.PathCut(r, []impl.Pt{a, b})
		for _, many := range []int{399, pathMost} {
			path := toAndFro(a, b, many)
			if cut := impl.PathCut(r, path); !slices.Equal(cut, few) {
				t.Errorf("PathCut(%d, ..) of %d points = %v, not %v", r, many, cut, few)
			}
			checkCut(t, r, insteadAt(path, many-1, far))
			checkCut(t, r, insteadAt(path, 0, far))
		}
		checkCut(t, r, slices.Repeat([]impl.Pt{far}, pathMost))
		for _, many := range []int{pathMost + 1, pathMost + 2, 1<<16 + 1} {
			checkNoCut(t, "too many points", r, toAndFro(a, b, many))
			checkNoCut(t, "too many points", r, slices.Repeat([]impl.Pt{far}, many))
		}
	}
}

// P75 to P77: points that are not of the grid, and numbers that are no tool.
func TestPathCutWrong(t *testing.T) {
	for _, r := range append(badTools(), 1, 2, impl.ToolMax) {
		checkNoCut(t, "nil", r, nil)
		checkNoCut(t, "no point", r, []impl.Pt{})
		for _, bad := range badPts() {
			checkNoCut(t, "not of the grid", r, []impl.Pt{bad})
			checkNoCut(t, "not of the grid, twice", r, []impl.Pt{bad, bad})
			checkNoCut(t, "its first one is not of the grid", r, append([]impl.Pt{bad}, ptsOf(4, 4, 5, 4)...))
			checkNoCut(t, "its last one is not of the grid", r, append(ptsOf(4, 4, 5, 4), bad))
			checkNoCut(t, "one within is not of the grid", r, append(ptsOf(4, 4), bad, impl.Pt{X: 5, Y: 4}))
		}
	}
	for _, r := range badTools() {
		for _, k := range knownCuts() {
			checkNoCut(t, "no tool", r, plainPts(k.path))
		}
	}
}

// P78.
func TestPathCutIsNeverBeyond(t *testing.T) {
	beside := 0
	check := func(one run, path []impl.Pt) {
		for _, at := range impl.PathCut(one.r, path) {
			if impl.PlateIn(one.p, at) != 1 || plateInByRay(one.p, at) != 1 {
				t.Fatalf("PathCut(%d, %v) has %v, that is not in %v", one.r, path, at, one.p)
			}
			if !slices.Contains(path, at) {
				beside++
			}
		}
	}
	eachWandering(2, func(one run, ways map[impl.Pt][]impl.Pt, path []impl.Pt) {
		check(one, path)
		if !impl.PathOk(one.p, one.r, path) {
			t.Fatalf("PathOk(%v, %d, %v) = false", one.p, one.r, path)
		}
	})
	for _, k := range knownWays() {
		check(run{p: plainPlate(k.text), r: k.r}, plainPts(k.way))
	}
	if beside < 1000 {
		t.Errorf("there are but %d points that are cut, and on no path", beside)
	}
}

// P79.
func TestPathCutOfAll(t *testing.T) {
	for i, one := range someRuns() {
		reach := impl.ToolReach(one.p, one.r, one.part[i%len(one.part)])
		cut := impl.PathCut(one.r, impl.PathAll(one.p, one.r, one.part[i%len(one.part)]))
		if near := cutOfPts(one.r, reach); !within(near, cut) || !within(reach, cut) {
			t.Fatalf("all that the tool %d cuts on %v is %v, but nearer to where it comes are %v", one.r, one.p, cut, near)
		}
		if !within(cut, impl.MidAll(one.p)) {
			t.Fatalf("all that the tool %d cuts on %v is %v, and that is not all in it", one.r, one.p, cut)
		}
	}
}

// P80: what is left of plates.
func TestKnownLeft(t *testing.T) {
	cases := []struct {
		what string
		text string
		cut  string
		left string
	}{
		{"nothing is cut", smallRoom, "", "1,1 2,1 3,1 1,2 2,2 3,2 1,3 2,3 3,3"},
		{"the first row is", smallRoom, "1,1 2,1 3,1", "1,2 2,2 3,2 1,3 2,3 3,3"},
		{"not row by row", smallRoom, "3,3 1,3 2,1 1,1", "3,1 1,2 2,2 3,2 2,3"},
		{"a point twice", smallRoom, "2,2 2,2 1,2 2,2 1,2", "1,1 2,1 3,1 3,2 1,3 2,3 3,3"},
		{"points on edges, and beyond", smallRoom, "0,0 4,4 2,4 9,9 2,2", "1,1 2,1 3,1 1,2 3,2 1,3 2,3 3,3"},
		{"all", smallRoom, "1,1 2,1 3,1 1,2 2,2 3,2 1,3 2,3 3,3", ""},
		{"all, and more, in no order", smallRoom, "3,3 0,0 3,2 3,1 2,2 2,1 1,1 1,3 2,3 1,2 9,9 3,3", ""},
		{"none is in it", "0,0 1,0 0,1\n", "", ""},
		{"none is in it, and the corners are cut", "0,0 1,0 0,1\n", "0,0 1,0 0,1", ""},
		{"points of a hole", "0,0 5,0 5,5 0,5\n2,2 3,2 3,3 2,3\n", "2,2 3,3 1,1 2,1 3,1 4,1 1,2", "4,2 1,3 4,3 1,4 2,4 3,4 4,4"},
		{"points of one of two holes, and beside", "0,0 8,0 8,8 0,8\n1,1 3,1 3,7 1,7\n5,1 7,1 7,7 5,7\n", "2,2 4,2 6,2 4,4", "4,1 4,3 4,5 4,6 4,7"},
	}
	for _, c := range cases {
		p, cut := plainPlate(c.text), plainPts(c.cut)
		if left := impl.PathLeft(p, cut); !slices.Equal(left, plainPts(c.left)) {
			t.Errorf("%s: PathLeft(%v, %v) = %v, not %s", c.what, p, cut, left, c.left)
		}
		with := slices.Concat(badPts(), cut, badPts(), cut)
		if left := impl.PathLeft(p, with); !slices.Equal(left, plainPts(c.left)) {
			t.Errorf("%s: PathLeft(%v, %v), with points that are not of the grid, = %v, not %s", c.what, p, cut, left, c.left)
		}
	}
}

// P80.
func TestPathLeft(t *testing.T) {
	dice := rand.New(rand.NewSource(80))
	for _, p := range someToolPlates() {
		all := impl.MidAll(p)
		left := impl.PathLeft(p, nil)
		if !slices.Equal(left, all) || len(impl.PathLeft(p, all)) != 0 || len(impl.PathLeft(p, allPts())) != 0 {
			t.Fatalf("PathLeft(%v, nil) = %v, but in it are %v, or without all some are left", p, left, all)
		}
		var cut []impl.Pt
		for range 12 {
			cut = append(cut, impl.Pt{X: dice.Intn(12) - 1, Y: dice.Intn(12) - 1})
			now := impl.PathLeft(p, cut)
			if want := where(all, func(at impl.Pt) bool { return !slices.Contains(cut, at) }); !slices.Equal(now, want) {
				t.Fatalf("PathLeft(%v, %v) = %v, not %v", p, cut, now, want)
			}
			if !within(now, left) {
				t.Fatalf("PathLeft(%v, %v) = %v, with one point less %v", p, cut, now, left)
			}
			left = now
		}
	}
}

// P80: of many points, and of all that a tool cuts.
func TestPathLeftOfAllThatIsCut(t *testing.T) {
	for i, one := range someRuns() {
		cut := impl.PathCut(one.r, impl.PathAll(one.p, one.r, one.part[0]))
		left := impl.PathLeft(one.p, cut)
		if whole := inRows(slices.Concat(left, cut)); !slices.Equal(whole, impl.MidAll(one.p)) {
			t.Fatalf("PathLeft(%v, %v) = %v, and both are not all in it", one.p, cut, left)
		}
		if i%50 == 0 {
			if again := impl.PathLeft(one.p, slices.Repeat(cut, 500)); !slices.Equal(again, left) {
				t.Fatalf("PathLeft(%v, ..) of %v 500 times = %v, not %v", one.p, cut, again, left)
			}
		}
	}
}

// P69 to P82: what is no plate has no path.
func TestPathsOfWrongPlates(t *testing.T) {
	eachWrongPlate(func(what string, p impl.Plate) {
		for _, r := range []int{1, impl.ToolMax, 0} {
			checkNoPathsAt(t, what, p, r, impl.Pt{X: 4, Y: 4})
			checkNoPathWay(t, what, p, r, impl.Pt{X: 1, Y: 1}, impl.Pt{X: 2, Y: 2})
		}
		for _, cut := range [][]impl.Pt{nil, ptsOf(4, 4, 1, 1), badPts()} {
			if left := impl.PathLeft(p, cut); len(left) != 0 {
				t.Fatalf("%s: PathLeft(%v, %v) = %v", what, p, cut, left)
			}
		}
	})
}

// P69 to P82: what is no tool has no path.
func TestPathsOfWrongTools(t *testing.T) {
	for _, r := range badTools() {
		for _, at := range allPts() {
			checkNoPathsAt(t, "no tool", plainPlate(wholeGrid), r, at)
		}
		for _, k := range knownWays() {
			p := plainPlate(k.text)
			checkNoPathWay(t, k.what, p, r, plainPts(k.from)[0], plainPts(k.to)[0])
			checkNoPath(t, k.what, p, r, plainPts(k.way))
		}
	}
}

// P69, P71 and P74: nil, and points that are not of the grid.
func TestPathsByWrongPoints(t *testing.T) {
	for _, text := range []string{wholeGrid, oneHole} {
		p := plainPlate(text)
		for _, r := range []int{1, 2, impl.ToolMax} {
			checkNoPath(t, "nil", p, r, nil)
			checkNoPath(t, "no point", p, r, []impl.Pt{})
			for _, bad := range badPts() {
				checkNoPathsAt(t, "not of the grid", p, r, bad)
				for _, at := range ptsOf(3, 3, 2, 2, 6, 6) {
					checkNoPathWay(t, "to a point that is not of the grid", p, r, at, bad)
					checkNoPathWay(t, "from a point that is not of the grid", p, r, bad, at)
					checkNoPath(t, "to a point that is not of the grid", p, r, []impl.Pt{at, bad})
					checkNoPath(t, "from a point that is not of the grid", p, r, []impl.Pt{bad, at})
					checkNoPath(t, "by a point that is not of the grid", p, r, []impl.Pt{at, bad, at})
				}
			}
		}
	}
}

// P69: numbers so far apart that what is between them is one, or nothing, when it is reckoned in an int, or in one of 32 bits.
func TestPathOkOfNumbersFarApart(t *testing.T) {
	p := plainPlate(wholeGrid)
	for _, far := range []int{math.MinInt, math.MaxInt, 1 << 32, -1 << 32, 1 << 31, 1 << 16, 1 << 62} {
		for d := -1; d <= 1; d++ {
			for _, to := range ptsOf(4+far+d, 4, 4, 4+far+d, 4+d, 4+far, 4+far, 4+d) {
				checkNoPath(t, "far apart", p, 1, append(ptsOf(4, 4), to))
				checkNoPath(t, "far apart, and back", p, 1, append(ptsOf(4, 4), to, impl.Pt{X: 4, Y: 4}))
				checkNoPathWay(t, "far apart", p, 1, impl.Pt{X: 4, Y: 4}, to)
				checkNoCut(t, "far apart", 1, append(ptsOf(4, 4), to))
			}
		}
	}
	ends := ptsOf(math.MinInt, 4, math.MaxInt, 4)
	checkNoPath(t, "from one end of all numbers to the other one", p, 1, ends)
	checkNoCut(t, "from one end of all numbers to the other one", 1, ends)
}

// P69 to P82: nothing is written into an argument, or behind its end.
func TestPathsLeaveArgumentsAlone(t *testing.T) {
	plates := slices.Clone(someToolPlates())
	for _, k := range knownBadPlates() {
		plates = append(plates, plateOf(k.loops...))
	}
	spared := plainPts("2,1 1,1 1,2 1,1 1,1 2,1 9,9 3,3 4,4")
	long := slices.Clone(spared)
	for i, p := range plates {
		if i%3 != 0 {
			continue
		}
		given, whole := withSpare(p)
		_, want := withSpare(p)
		for _, r := range []int{0, 1, 2, impl.ToolMax} {
			for _, at := range ptsOf(1, 1, 4, 4, -1, 4) {
				impl.PathWay(given, r, at, oneAcross(at))
				impl.PathAll(given, r, at)
			}
			for n := range 7 {
				impl.PathOk(given, r, long[:n])
				impl.PathCut(r, long[:n])
				impl.PathLeft(given, long[:n])
			}
		}
		if !slices.EqualFunc(whole, want, slices.Equal) || !slices.Equal(long, spared) {
			t.Fatalf("%v was made %v, or %v %v", want, whole, spared, long)
		}
	}
}

// checkNewPts asks twice, and writes over the one answer, spare room included: the other one, and what was given, must stay.
func checkNewPts(t *testing.T, what string, given []impl.Pt, ask func() []impl.Pt) {
	t.Helper()
	was := slices.Clone(given)
	first, second := ask(), ask()
	want := slices.Clone(second)
	clear(first[:cap(first)])
	if !slices.Equal(second, want) || !slices.Equal(ask(), want) || !slices.Equal(given, was) {
		t.Fatalf("%s: answers share memory with each other, or with an argument", what)
	}
}

// P71, P74, P75 and P80: each answer is new memory, spare room included.
func TestPathAnswersAreNew(t *testing.T) {
	for _, k := range knownWays() {
		p, way := plainPlate(k.text), plainPts(k.way)
		checkNewPts(t, k.what, p.Outer, func() []impl.Pt {
			way, _ := impl.PathWay(p, k.r, plainPts(k.from)[0], plainPts(k.to)[0])
			return way
		})
		checkNewPts(t, k.what, way, func() []impl.Pt { return impl.PathCut(k.r, way) })
		checkNewPts(t, k.what, way, func() []impl.Pt { return impl.PathLeft(p, way) })
		if !samePlate(p, plainPlate(k.text)) {
			t.Fatalf("%s: answers share memory with the plate", k.what)
		}
	}
	for _, k := range knownAlls() {
		p := plainPlate(k.text)
		checkNewPts(t, k.what, p.Outer, func() []impl.Pt { return impl.PathAll(p, k.r, plainPts(k.from)[0]) })
		if !samePlate(p, plainPlate(k.text)) {
			t.Fatalf("%s: answers share memory with the plate", k.what)
		}
	}
}

// P69 to P82: the same is told while others ask, too, and no call leaves a goroutine behind.
func TestPathsWhileOthersAsk(t *testing.T) {
	before := runtime.NumGoroutine()
	for _, k := range knownAlls() {
		p, from := plainPlate(k.text), plainPts(k.from)[0]
		ask := func() []impl.Pt {
			all := impl.PathAll(p, k.r, from)
			cut := impl.PathCut(k.r, all)
			way, _ := impl.PathWay(p, k.r, from, impl.Pt{X: 3, Y: 1})
			return slices.Concat(all, cut, impl.PathLeft(p, cut), way)
		}
		want := ask()
		told := make([][]impl.Pt, 16)
		var all sync.WaitGroup
		for i := range told {
			all.Go(func() { told[i] = ask() })
		}
		all.Wait()
		for _, pts := range told {
			if !slices.Equal(pts, want) {
				t.Fatalf("%s: while others ask %v, alone %v", k.what, pts, want)
			}
		}
	}
	checkNoMoreRun(t, before)
}
