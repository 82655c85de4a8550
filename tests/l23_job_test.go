package tests

import (
	"runtime"
	"slices"
	"strconv"
	"strings"
	"sync"
	"testing"

	"loop.example/mortiser/impl"
)

// besideHoles is a plate with two holes that leave one column between them.
const besideHoles = "0,0 8,0 8,8 0,8\n1,1 3,1 3,7 1,7\n5,1 7,1 7,7 5,7\n"

// knownJob is a plate, tools, the text of their job, and all points that they cut.
type knownJob struct {
	what  string
	text  string
	tools []int
	run   string
	cut   string
}

func knownJobs() []knownJob {
	room := "G0 X1 Y1\nG1 X3 Y1\nG1 X3 Y3\nG1 X1 Y3\nG1 X1 Y2\nG1 X2 Y2\nG1 X1 Y2\nG1 X1 Y3\nG1 X3 Y3\nG1 X3 Y1\nG1 X1 Y1\n"
	allRoom := "1,1 2,1 3,1 1,2 2,2 3,2 1,3 2,3 3,3"
	grid := "G0 X3 Y3\nG1 X6 Y3\nG1 X6 Y6\nG1 X3 Y6\nG1 X3 Y5\nG1 X5 Y5\nG1 X5 Y4\nG1 X3 Y4\nG1 X5 Y4\nG1 X5 Y5\nG1 X3 Y5\nG1 X3 Y6\nG1 X6 Y6\nG1 X6 Y3\nG1 X3 Y3\n"
	corners := "G0 X2 Y2\nG0 X6 Y2\nG0 X2 Y6\nG0 X6 Y6\n"
	allCorners := "2,1 6,1 1,2 2,2 3,2 5,2 6,2 7,2 2,3 6,3 2,5 6,5 1,6 2,6 3,6 5,6 6,6 7,6 2,7 6,7"
	rooms := "G0 X2 Y2\nG1 X7 Y2\nG1 X2 Y2\nG0 X2 Y7\nG1 X7 Y7\nG1 X2 Y7\n"
	stem := "G0 X2 Y2\nG1 X7 Y2\nG1 X3 Y2\nG1 X3 Y7\nG1 X3 Y2\nG1 X2 Y2\n"
	arms := "G0 X1 Y1\nG1 X5 Y1\nG1 X3 Y1\nG1 X3 Y3\nG1 X3 Y1\nG1 X1 Y1\n"
	allArms := "1,1 2,1 3,1 4,1 5,1 3,2 3,3"
	column := "G0 X4 Y1\nG1 X4 Y7\nG1 X4 Y1\n"
	allColumn := "4,1 4,2 4,3 4,4 4,5 4,6 4,7"
	return []knownJob{
		{"a tool that reaches one part", smallRoom, []int{1}, "T1\n" + room, allRoom},
		{"a tool that fits at one point, and cuts all beside it", smallRoom, []int{4}, "T4\nG0 X2 Y2\n", allRoom},
		{"a tool that fits nowhere", smallRoom, []int{9}, "T9\n", ""},
		{"a tool that fits nowhere, one too large", smallRoom, []int{5}, "T5\n", ""},
		{"two tools", smallRoom, []int{1, 4}, "T1\n" + room + "T4\nG0 X2 Y2\n", allRoom},
		{"two tools, the larger one first", smallRoom, []int{4, 1}, "T4\nG0 X2 Y2\nT1\n" + room, allRoom},
		{"two tools, the last one nowhere", smallRoom, []int{4, 9}, "T4\nG0 X2 Y2\nT9\n", allRoom},
		{"two tools, the first one nowhere", smallRoom, []int{9, 4}, "T9\nT4\nG0 X2 Y2\n", allRoom},
		{"three tools, the middle one nowhere", smallRoom, []int{4, 9, 2}, "T4\nG0 X2 Y2\nT9\nT2\nG0 X2 Y2\n", allRoom},
		{"three tools, but one nowhere", smallRoom, []int{9, 8, 4}, "T9\nT8\nT4\nG0 X2 Y2\n", allRoom},
		{"a tool twice", smallRoom, []int{4, 4}, "T4\nG0 X2 Y2\nT4\nG0 X2 Y2\n", allRoom},
		{"a tool twice, with another one between", smallRoom, []int{4, 1, 4}, "T4\nG0 X2 Y2\nT1\n" + room + "T4\nG0 X2 Y2\n", allRoom},
		{"the same tool three times", smallRoom, []int{1, 1, 1}, "T1\n" + room + "T1\n" + room + "T1\n" + room, allRoom},
		{"the same tool three times, nowhere", smallRoom, []int{9, 9, 9}, "T9\nT9\nT9\n", ""},
		{"the smallest plate", "0,0 1,0 0,1\n", []int{1}, "T1\n", ""},
		{"the smallest plate, three tools", "0,0 1,0 0,1\n", []int{1, 4, 9}, "T1\nT4\nT9\n", ""},
		{"a plate with no point in it", "0,0 1,0 1,1 0,1\n", []int{9, 1}, "T9\nT1\n", ""},
		{"a plate with a point in it at which no tool fits", "0,0 3,0 0,3\n", []int{1}, "T1\n", ""},
		{"the smallest plate at which a tool fits", "0,0 2,0 2,2 0,2\n", []int{1}, "T1\nG0 X1 Y1\n", "1,1"},
		{"the smallest plate at which a tool fits, and one too large", "0,0 2,0 2,2 0,2\n", []int{2, 1}, "T2\nT1\nG0 X1 Y1\n", "1,1"},
		{"a plate at the grid's end", "9,9 7,9 7,7 9,7\n", []int{1}, "T1\nG0 X8 Y8\n", "8,8"},
		{"forth and back", "0,0 4,0 4,2 0,2\n", []int{1}, "T1\nG0 X1 Y1\nG1 X3 Y1\nG1 X1 Y1\n", "1,1 2,1 3,1"},
		{"the largest tool on the whole grid", wholeGrid, []int{9}, "T9\n" + grid, rowsOfPts(1, 1, 8, 8)},
		{"one that fits at the same points, and cuts all but the corners", wholeGrid, []int{6}, "T6\n" + grid, without(rowsOfPts(1, 1, 8, 8), "1,1 8,1 1,8 8,8")},
		{"one that fits at the same points, and cuts less at the corners", wholeGrid, []int{5}, "T5\n" + grid, without(rowsOfPts(1, 1, 8, 8), "1,1 2,1 7,1 8,1 1,2 8,2 1,7 8,7 1,8 2,8 7,8 8,8")},
		{"the largest tool at one point", "1,1 7,1 7,7 1,7\n", []int{9}, "T9\nG0 X4 Y4\n", rowsOfPts(2, 2, 6, 6)},
		{"a tool that reaches four parts", oneHole, []int{2}, "T2\n" + corners, allCorners},
		{"a tool that reaches four parts, twice", oneHole, []int{2, 2}, "T2\n" + corners + "T2\n" + corners, allCorners},
		{"a tool that reaches four parts, with ones that fit nowhere", oneHole, []int{3, 2, 9}, "T3\nT2\n" + corners + "T9\n", allCorners},
		{"a tool that reaches two parts", twoRooms, []int{4}, "T4\n" + rooms, rowsOfPts(1, 1, 8, 3) + " " + rowsOfPts(1, 6, 8, 8)},
		{"a bar and its stem", barAndStem, []int{4}, "T4\n" + stem, rowsOfPts(1, 1, 8, 3) + " " + rowsOfPts(2, 4, 4, 8)},
		{"a bar and its stem, by a smaller tool that fits at the same points", barAndStem, []int{3}, "T3\n" + stem, rowsOfPts(1, 1, 8, 3) + " " + rowsOfPts(2, 4, 4, 8)},
		{"three arms", threeArms, []int{1}, "T1\n" + arms, allArms},
		{"three arms, and a tool that is too large, between", threeArms, []int{1, 2, 1}, "T1\n" + arms + "T2\nT1\n" + arms, allArms},
		{"between two holes", besideHoles, []int{1}, "T1\n" + column, allColumn},
		{"between two holes, and ones that are too large", besideHoles, []int{2, 1, 4}, "T2\nT1\n" + column + "T4\n", allColumn},
	}
}

// rowsOfPts is the text of all points from one to another one, row by row.
func rowsOfPts(left int, low int, right int, high int) string {
	var words []string
	for y := low; y <= high; y++ {
		for x := left; x <= right; x++ {
			words = append(words, strconv.Itoa(x)+","+strconv.Itoa(y))
		}
	}
	return strings.Join(words, " ")
}

// without is the text of some points but others.
func without(text string, others string) string {
	gone := strings.Fields(others)
	return strings.Join(slices.DeleteFunc(strings.Fields(text), func(word string) bool { return slices.Contains(gone, word) }), " ")
}

// knownBest is a plate, how many points the tools 1, 4 and 9 cut, and the largest of these that cuts as many as 1.
type knownBest struct {
	what string
	text string
	many [3]int
	best int
}

func knownBests() []knownBest {
	return []knownBest{
		{"no point in it", "0,0 1,0 1,1 0,1\n", [3]int{0, 0, 0}, 0},
		{"the smallest plate", "0,0 1,0 0,1\n", [3]int{0, 0, 0}, 0},
		{"a point in it, too near to a slant", "0,0 3,0 0,3\n", [3]int{0, 0, 0}, 0},
		{"no room around a hole", "0,0 9,0 9,9 0,9\n1,1 8,1 8,8 1,8\n", [3]int{0, 0, 0}, 0},
		{"no room around two holes", "0,0 9,0 9,9 0,9\n1,1 4,1 4,8 1,8\n5,1 8,1 8,8 5,8\n", [3]int{0, 0, 0}, 0},
		{"one point, both others one fewer", "0,0 2,0 2,2 0,2\n", [3]int{1, 0, 0}, 1},
		{"a small room", smallRoom, [3]int{9, 9, 0}, 4},
		{"the whole grid", wholeGrid, [3]int{64, 64, 64}, 9},
		{"a large square, not all of the grid", "1,8 8,8 8,1 1,1\n", [3]int{36, 36, 36}, 9},
		{"around a hole 4 and 9 fit nowhere", oneHole, [3]int{40, 0, 0}, 1},
		{"two rooms, as many as 1", twoRooms, [3]int{48, 48, 0}, 4},
		{"4 and 9 as many, and slants", "9,0 9,9 0,9 0,1\n", [3]int{56, 56, 56}, 9},
		{"4 as many, 9 one fewer", "7,0 9,9 0,8 4,0\n", [3]int{26, 26, 25}, 4},
		{"4 as many, 9 one fewer, and more corners", "9,1 3,0 0,4 6,9 9,9 9,4\n", [3]int{36, 36, 35}, 4},
		{"4 more, 9 one fewer", "0,0 9,1 6,9 0,9\n", [3]int{42, 43, 41}, 4},
		{"4 more, 9 none", "0,0 9,0 0,9\n", [3]int{21, 22, 0}, 4},
		{"4 one fewer, 9 as many", "9,7 6,0 0,0 0,8\n", [3]int{36, 35, 36}, 9},
		{"4 two fewer, 9 as many", "4,9 9,3 7,0 0,0\n", [3]int{25, 23, 25}, 9},
		{"4 one fewer, 9 one more", "6,2 2,0 0,9 9,9\n", [3]int{29, 28, 30}, 9},
		{"4 and 9 one fewer", "3,9 9,9 9,0 2,3\n", [3]int{31, 30, 30}, 1},
		{"4 three fewer, 9 one", "0,5 6,9 9,8 7,4 9,0 0,0\n", [3]int{36, 33, 35}, 1},
		{"4 and 9 more, 9 fewer than 4", "9,9 9,5 5,0 0,0 0,9\n", [3]int{52, 55, 53}, 9},
		{"4 and 9 more, 9 more than 4", "9,6 6,0 0,0 0,6 6,9\n", [3]int{36, 41, 45}, 9},
		{"a hole: 4 one fewer", "0,0 9,0 9,9 0,9\n7,5 6,5 7,4\n", [3]int{60, 59, 40}, 1},
		{"a hole: 4 one more", "0,0 9,0 9,9 0,9\n5,8 4,8 5,7\n", [3]int{60, 61, 48}, 4},
		{"a hole: 4 and 9 more", "0,0 9,0 9,9 0,9\n1,2 3,1 2,3\n", [3]int{55, 56, 57}, 9},
		{"a hole: 4 more, 9 one fewer", "9,7 9,2 9,0 2,0 0,7 7,9\n2,2 3,2 2,3\n", [3]int{41, 43, 40}, 4},
		{"a hole: 4 two fewer, 9 one more", "2,0 0,0 0,5 3,9 9,2 9,0\n7,3 8,3 7,4\n", [3]int{34, 32, 35}, 9},
		{"two holes: 4 one fewer", "0,0 9,0 9,9 0,9\n2,4 3,4 2,5\n4,4 5,4 4,5\n", [3]int{56, 55, 0}, 1},
		{"two holes: 4 as many", "0,0 9,0 9,9 0,9\n1,1 3,1 3,3 1,3\n5,5 8,5 8,8 5,8\n", [3]int{39, 39, 0}, 4},
		{"two holes: 4 one more", "0,0 9,0 9,9 0,9\n4,4 5,4 4,5\n6,1 8,1 8,3 6,3\n", [3]int{51, 52, 0}, 4},
	}
}

// bestSizes are the tools of which the best one is told.
func bestSizes() []int {
	return []int{1, 4, 9}
}

// someJobPlates are plates on which jobs are asked for.
var someJobPlates = sync.OnceValue(func() []impl.Plate {
	var out []impl.Plate
	for i, p := range someToolPlates() {
		// The plates with a part written out stand last.
		if i%9 == 0 || i >= len(someMiddlePlates()) {
			out = append(out, p)
		}
	}
	for _, k := range knownBests() {
		out = append(out, plainPlate(k.text))
	}
	return out
})

// eachJob goes through jobs of one to three tools on some plates, of each plate other ones.
func eachJob(f func(p impl.Plate, tools []int)) {
	tools := allTools()
	for i, p := range someJobPlates() {
		one, other, third := tools[i%9], tools[(i/2+3)%9], tools[(i/5+1)%9]
		f(p, []int{one})
		f(p, []int{other, 1})
		f(p, []int{1, one})
		f(p, []int{one, one})
		f(p, []int{one, other, third})
		f(p, []int{2, 4, one})
		f(p, []int{third, third, third})
	}
}

// cutsOf are the points that tools cut, each as a job of its own.
func cutsOf(p impl.Plate, tools []int) []impl.Pt {
	var out []impl.Pt
	for _, r := range tools {
		out = append(out, impl.JobCut(p, []int{r})...)
	}
	return slices.Compact(inRows(out))
}

// fittingAny are the points of the grid at which any of some tools fits.
func fittingAny(p impl.Plate, tools []int) []impl.Pt {
	return where(allPts(), func(at impl.Pt) bool {
		return slices.ContainsFunc(tools, func(r int) bool { return impl.ToolFits(p, r, at) })
	})
}

// jobByCalls is the text of a job, and all that it cuts, part by part, by the functions of the chapters before.
func jobByCalls(p impl.Plate, tools []int) (string, []impl.Pt) {
	var run string
	var cut []impl.Pt
	for _, r := range tools {
		run += "T" + string(rune('0'+r)) + "\n"
		for _, part := range impl.ToolParts(p, r) {
			all := impl.PathAll(p, r, part[0])
			run += impl.CodeWrite(all)
			cut = append(cut, impl.PathCut(r, all)...)
		}
	}
	return run, slices.Compact(inRows(cut))
}

// jobByFoot is the text of a job, and all that it cuts, by the nearest points of edges, and none of the functions of the program.
func jobByFoot(p impl.Plate, tools []int) (string, []impl.Pt) {
	var run string
	var cut []impl.Pt
	for _, r := range tools {
		run += "T" + string(rune('0'+r)) + "\n"
		ways := waysByFoot(p, r)
		for _, part := range partsByLabels(p, r) {
			all := allByCalls(ways, part[0])
			run += textBytes(turnsByMiddles(all))
			cut = append(cut, cutByFoot(r, all)...)
		}
	}
	return run, slices.Compact(inRows(cut))
}

// checkJob asks for the text of a job, and for what it cuts.
func checkJob(t *testing.T, what string, p impl.Plate, tools []int, run string, cut []impl.Pt) {
	t.Helper()
	if got := impl.JobRun(p, tools); got != run {
		t.Fatalf("%s: JobRun(%v, %v) = %q, not %q", what, p, tools, got, run)
	}
	if got := impl.JobCut(p, tools); !slices.Equal(got, cut) {
		t.Fatalf("%s: JobCut(%v, %v) = %v, not %v", what, p, tools, got, cut)
	}
}

// P92, P93, P95 and P98: by jobs that are known; each loop from any point on, and the other way about, and the holes in any order.
func TestKnownJobs(t *testing.T) {
	for _, k := range knownJobs() {
		p, cut := plainPlate(k.text), plainPts(k.cut)
		checkJob(t, k.what, p, k.tools, k.run, cut)
		eachBegun(p, func(q impl.Plate) {
			checkJob(t, k.what, q, k.tools, k.run, cut)
		})
		checkJob(t, k.what, withHoles(p, aboutHoles(p)...), k.tools, k.run, cut)
	}
}

// P92: on many plates, part by part.
func TestJobRunOfEachPart(t *testing.T) {
	several, nowhere := 0, 0
	eachJob(func(p impl.Plate, tools []int) {
		run, cut := jobByCalls(p, tools)
		checkJob(t, "part by part", p, tools, run, cut)
		ways := strings.Count(run, "G0")
		if ways > len(tools) {
			several++
		}
		if ways < len(tools) {
			nowhere++
		}
	})
	if several < 50 || nowhere < 100 {
		t.Errorf("there are but %d jobs with a tool that reaches several parts, and %d with one that fits nowhere", several, nowhere)
	}
}

// P92 and P93: by the nearest points of edges.
func TestJobsByFoot(t *testing.T) {
	for i, k := range knownTools() {
		p := plainPlate(k.text)
		for _, tools := range [][]int{{k.r}, {1, k.r, 9}, {allTools()[i%9], 4}, {2, 1 + i%4, 1}} {
			run, cut := jobByFoot(p, tools)
			checkJob(t, k.what, p, tools, run, cut)
		}
	}
	for _, k := range knownBests() {
		p := plainPlate(k.text)
		tools := bestSizes()
		run, cut := jobByFoot(p, tools)
		checkJob(t, k.what, p, tools, run, cut)
	}
}

// P92: each way of a text is read as a path on which its tool may go, and all points at which a tool fits are on these.
func TestJobRunIsRead(t *testing.T) {
	eachJob(func(p impl.Plate, tools []int) {
		rest := impl.JobRun(p, tools)
		for _, r := range tools {
			first, behind, _ := strings.Cut(rest, "\n")
			if first != "T"+strconv.Itoa(r) {
				t.Fatalf("JobRun(%v, %v) = %q, and the line of %d is %q", p, tools, impl.JobRun(p, tools), r, first)
			}
			rest = behind
			var came []impl.Pt
			for strings.HasPrefix(rest, "G0") {
				text := rest
				if next := strings.IndexAny(rest[2:], "T") + 2; next > 1 {
					text = rest[:next]
				}
				if next := strings.Index(text[2:], "G0") + 2; next > 1 {
					text = text[:next]
				}
				path, ok := impl.CodeRead(text)
				if !ok || !impl.PathOk(p, r, path) {
					t.Fatalf("JobRun(%v, %v) has %q, that is no way for %d", p, tools, text, r)
				}
				came = append(came, path...)
				rest = rest[len(text):]
			}
			if fits := fitting(p, r); !slices.Equal(slices.Compact(inRows(came)), fits) {
				t.Fatalf("JobRun(%v, %v) comes with %d to %v, but it fits at %v", p, tools, r, came, fits)
			}
		}
		if rest != "" {
			t.Fatalf("JobRun(%v, %v) has %q behind all tools", p, tools, rest)
		}
	})
}

// P93.
func TestJobsOneBehindTheOther(t *testing.T) {
	more := 0
	eachJob(func(p impl.Plate, tools []int) {
		run, cut := impl.JobRun(p, tools), impl.JobCut(p, tools)
		for i := range len(tools) + 1 {
			if parts := impl.JobRun(p, tools[:i]) + impl.JobRun(p, tools[i:]); parts != run {
				t.Fatalf("JobRun(%v, %v) = %q, of the first %d and the others %q", p, tools, run, i, parts)
			}
		}
		first, others := impl.JobCut(p, tools[:1]), impl.JobCut(p, tools[1:])
		if any := slices.Compact(inRows(slices.Concat(first, others))); !slices.Equal(any, cut) {
			t.Fatalf("JobCut(%v, %v) = %v, of the first one and the others %v", p, tools, cut, any)
		}
		if len(tools) > 2 {
			if any := cutsOf(p, tools); !slices.Equal(any, cut) {
				t.Fatalf("JobCut(%v, %v) = %v, by any %v", p, tools, cut, any)
			}
		}
		if len(cut) > len(first) {
			more++
		}
	})
	if more < 100 {
		t.Errorf("there are but %d jobs that cut more than their first tool", more)
	}
}

// P94.
func TestJobCutIsNeverBeyond(t *testing.T) {
	beside := 0
	eachJob(func(p impl.Plate, tools []int) {
		cut, fits := impl.JobCut(p, tools), fittingAny(p, tools)
		for _, at := range cut {
			if impl.PlateIn(p, at) != 1 || plateInByRay(p, at) != 1 {
				t.Fatalf("JobCut(%v, %v) has %v, that is not in it", p, tools, at)
			}
		}
		if !within(fits, cut) || !within(cut, impl.MidAll(p)) {
			t.Fatalf("JobCut(%v, %v) = %v, but its tools fit at %v", p, tools, cut, fits)
		}
		if rows := slices.Compact(inRows(cut)); !slices.Equal(rows, cut) {
			t.Fatalf("JobCut(%v, %v) = %v, that is not row by row, each once", p, tools, cut)
		}
		beside += len(cut) - len(fits)
	})
	if beside < 1000 {
		t.Errorf("there are but %d points that are cut, and at which no tool fits", beside)
	}
}

// P95.
func TestJobCutInAnyOrder(t *testing.T) {
	eachJob(func(p impl.Plate, tools []int) {
		cut := impl.JobCut(p, tools)
		var orders [][]int
		switch len(tools) {
		case 1:
			orders = [][]int{{tools[0], tools[0]}, {tools[0], tools[0], tools[0]}}
		case 2:
			orders = [][]int{{tools[1], tools[0]}, {tools[1], tools[0], tools[1]}, {tools[0], tools[0], tools[1]}}
		default:
			orders = [][]int{{tools[2], tools[1], tools[0]}, {tools[1], tools[2], tools[0]}}
		}
		for _, other := range orders {
			if again := impl.JobCut(p, other); !slices.Equal(again, cut) {
				t.Fatalf("JobCut(%v, %v) = %v, of %v it is %v", p, tools, cut, other, again)
			}
		}
	})
}

// P96.
func TestJobCutElsewhere(t *testing.T) {
	eachJob(func(p impl.Plate, tools []int) {
		fits, cut := fittingAny(p, tools), impl.JobCut(p, tools)
		for _, move := range []func(impl.Pt) impl.Pt{otherSide, exchanged} {
			there := impl.JobCut(movedPlate(p, move), tools)
			if !within(movedPts(fits, move), there) {
				t.Fatalf("the tools %v fit on %v at %v, on the other side, or exchanged, %v is cut", tools, p, fits, there)
			}
			// A step is of length one, so a point of the grid that is near to it is as near to one of its ends: the same is cut, whatever the order of steps.
			if !slices.Equal(there, inRows(movedPts(cut, move))) {
				t.Fatalf("JobCut(%v, %v) = %v, on the other side, or exchanged, %v", p, tools, cut, there)
			}
		}
	})
}

// P97: by plates whose best tool is known; each loop from any point on, and the other way about, on the other side, and exchanged.
func TestKnownBests(t *testing.T) {
	for _, k := range knownBests() {
		p := plainPlate(k.text)
		for i, r := range bestSizes() {
			if cut := impl.JobCut(p, []int{r}); len(cut) != k.many[i] {
				t.Errorf("%s: JobCut(%v, [%d]) = %v, of %d points, not %d", k.what, p, r, cut, len(cut), k.many[i])
			}
		}
		check := func(q impl.Plate) {
			if best := impl.JobBest(q); best != k.best {
				t.Errorf("%s: JobBest(%v) = %d, not %d", k.what, q, best, k.best)
			}
		}
		check(p)
		eachBegun(p, check)
		check(withHoles(p, aboutHoles(p)...))
		check(movedPlate(p, otherSide))
		check(movedPlate(p, exchanged))
	}
}

// P97.
func TestJobBest(t *testing.T) {
	bests := map[int]int{}
	for _, p := range someJobPlates() {
		many := map[int]int{}
		for _, r := range bestSizes() {
			many[r] = len(impl.JobCut(p, []int{r}))
		}
		best := impl.JobBest(p)
		bests[best]++
		if (best == 0) != (many[1] == 0) {
			t.Fatalf("JobBest(%v) = %d, but the tool 1 cuts %d points", p, best, many[1])
		}
		if best == 0 {
			continue
		}
		if !slices.Contains(bestSizes(), best) || many[best] < many[1] {
			t.Fatalf("JobBest(%v) = %d, but 1, 4 and 9 cut %v", p, best, many)
		}
		for _, r := range bestSizes() {
			if r > best && many[r] >= many[1] {
				t.Fatalf("JobBest(%v) = %d, but 1, 4 and 9 cut %v", p, best, many)
			}
		}
	}
	for _, r := range append(bestSizes(), 0) {
		if bests[r] < 10 {
			t.Errorf("there are but %d plates of which the best is %d", bests[r], r)
		}
	}
}

// checkNoJob asks for what is answered of tools that are no job.
func checkNoJob(t *testing.T, what string, p impl.Plate, tools []int) {
	t.Helper()
	if run := impl.JobRun(p, tools); run != "" {
		t.Fatalf("%s: JobRun(%v, %v) = %q", what, p, tools, run)
	}
	if cut := impl.JobCut(p, tools); len(cut) != 0 {
		t.Fatalf("%s: JobCut(%v, %v) = %v", what, p, tools, cut)
	}
}

// P98: no tools, numbers that are no tool, in any place, and too many tools.
func TestNoJobs(t *testing.T) {
	for _, text := range []string{wholeGrid, oneHole, twoHoles, smallRoom, "0,0 1,0 0,1\n"} {
		p := plainPlate(text)
		checkNoJob(t, "nil", p, nil)
		checkNoJob(t, "no tools", p, []int{})
		for _, bad := range badTools() {
			for _, tools := range [][]int{{bad}, {bad, bad}, {bad, 1}, {1, bad}, {9, bad}, {bad, 1, 4}, {1, bad, 4}, {1, 4, bad}, {bad, bad, bad}, {bad, 1, 4, 9}, {1, 4, 9, bad}} {
				checkNoJob(t, "no tool", p, tools)
			}
		}
		for _, r := range allTools() {
			for _, many := range []int{impl.JobMax + 1, impl.JobMax + 2, 9, 1<<8 + 1, 1<<8 + 3, 1<<16 + 1, 1<<16 + 3} {
				checkNoJob(t, "too many tools", p, slices.Repeat([]int{r}, many))
			}
		}
		for _, tools := range [][]int{{1, 2, 3, 4}, {9, 4, 1, 1}, {1, 1, 1, 9}, allTools()} {
			checkNoJob(t, "too many tools", p, tools)
		}
	}
}

// P98: of just as many tools as a job may have.
func TestJobsOfAsManyToolsAsMayBe(t *testing.T) {
	if impl.JobMax != 3 {
		t.Fatalf("JobMax = %d", impl.JobMax)
	}
	tools := allTools()
	for _, text := range []string{wholeGrid, oneHole, twoHoles} {
		p := plainPlate(text)
		for i := range tools {
			for j := range tools {
				three := []int{tools[i], tools[j], tools[(i+2*j)%9]}
				run, cut := jobByCalls(p, three)
				checkJob(t, "three tools", p, three, run, cut)
				if run == "" || strings.Count(run, "T") != impl.JobMax {
					t.Fatalf("JobRun(%v, %v) = %q", p, three, run)
				}
			}
		}
	}
}

// P99.
func TestLeftWithOneToolMore(t *testing.T) {
	less := 0
	eachJob(func(p impl.Plate, tools []int) {
		left := impl.PathLeft(p, impl.JobCut(p, tools))
		for i := range tools {
			more := impl.PathLeft(p, impl.JobCut(p, slices.Delete(slices.Clone(tools), i, i+1)))
			if !within(left, more) {
				t.Fatalf("what %v leaves of %v is %v, without the tool at %d %v", tools, p, left, i, more)
			}
			if len(left) < len(more) {
				less++
			}
		}
	})
	if less < 100 {
		t.Errorf("there are but %d jobs that leave more without a tool", less)
	}
}

// P100.
func TestJobCutOfTheLeastTool(t *testing.T) {
	for _, p := range someToolPlates() {
		cut := impl.JobCut(p, []int{1})
		if fits := fitting(p, 1); !slices.Equal(cut, fits) {
			t.Fatalf("JobCut(%v, [1]) = %v, but it fits at %v", p, cut, fits)
		}
	}
}

// P92 to P100: what is no plate has no job.
func TestJobsOfWrongPlates(t *testing.T) {
	eachWrongPlate(func(what string, p impl.Plate) {
		for _, tools := range [][]int{nil, {1}, {9}, {1, 4, 9}, {0}, {1, 1, 1, 1}} {
			checkNoJob(t, what, p, tools)
		}
		if best := impl.JobBest(p); best != 0 {
			t.Fatalf("%s: JobBest(%v) = %d", what, p, best)
		}
	})
}

// P92 to P100: nothing is written into an argument, or behind its end.
func TestJobsLeaveArgumentsAlone(t *testing.T) {
	plates := slices.Clone(someJobPlates())
	for _, k := range knownBadPlates() {
		plates = append(plates, plateOf(k.loops...))
	}
	spared := []int{9, 1, 4, 4, 2, 0, -1, 9}
	tools := slices.Clone(spared)
	for _, p := range plates {
		given, whole := withSpare(p)
		_, want := withSpare(p)
		for n := range len(tools) + 1 {
			impl.JobRun(given, tools[:n])
			impl.JobCut(given, tools[:n])
		}
		impl.JobBest(given)
		if !slices.EqualFunc(whole, want, slices.Equal) || !slices.Equal(tools, spared) {
			t.Fatalf("%v was made %v, or %v %v", want, whole, spared, tools)
		}
	}
}

// P93 and P94: each answer is new memory, spare room included.
func TestJobAnswersAreNew(t *testing.T) {
	for _, k := range knownJobs() {
		p := plainPlate(k.text)
		checkNewPts(t, k.what, p.Outer, func() []impl.Pt { return impl.JobCut(p, k.tools) })
		if !samePlate(p, plainPlate(k.text)) {
			t.Fatalf("%s: answers share memory with the plate", k.what)
		}
	}
}

// P92 to P100: the same is told while others ask, too, and no call leaves a goroutine behind.
func TestJobsWhileOthersAsk(t *testing.T) {
	before := runtime.NumGoroutine()
	for _, k := range knownJobs() {
		p := plainPlate(k.text)
		checkWhileOthersAsk(t, k.what, func() string {
			return impl.JobRun(p, k.tools) + textBytes(impl.JobCut(p, k.tools)) + strconv.Itoa(impl.JobBest(p))
		})
	}
	checkNoMoreRun(t, before)
}
