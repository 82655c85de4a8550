package tests

import (
	"math"
	"math/rand"
	"runtime"
	"slices"
	"strings"
	"sync"
	"testing"

	"loop.example/mortiser/impl"
)

// codeMost is how many bytes a text may have that is read as a path.
const codeMost = 4000

// knownCode is a path, its turns, and its text.
type knownCode struct {
	what  string
	path  string
	turns string
	text  string
}

func knownCodes() []knownCode {
	return []knownCode{
		{"one point", "4,2", "4,2", "G0 X4 Y2\n"},
		{"one point, in the grid's first corner", "0,0", "0,0", "G0 X0 Y0\n"},
		{"one point, in the grid's last corner", "9,9", "9,9", "G0 X9 Y9\n"},
		{"a step to the right", "4,2 5,2", "4,2 5,2", "G0 X4 Y2\nG1 X5 Y2\n"},
		{"a step up", "4,2 4,3", "4,2 4,3", "G0 X4 Y2\nG1 X4 Y3\n"},
		{"a step to the left", "4,2 3,2", "4,2 3,2", "G0 X4 Y2\nG1 X3 Y2\n"},
		{"a step down", "4,2 4,1", "4,2 4,1", "G0 X4 Y2\nG1 X4 Y1\n"},
		{"two steps to the right", "4,2 5,2 6,2", "4,2 6,2", "G0 X4 Y2\nG1 X6 Y2\n"},
		{"all of a row", "0,3 1,3 2,3 3,3 4,3 5,3 6,3 7,3 8,3 9,3", "0,3 9,3", "G0 X0 Y3\nG1 X9 Y3\n"},
		{"all of a column, down", "9,9 9,8 9,7 9,6 9,5 9,4 9,3 9,2 9,1 9,0", "9,9 9,0", "G0 X9 Y9\nG1 X9 Y0\n"},
		{"a step, and back", "1,1 2,1 1,1", "1,1 2,1 1,1", "G0 X1 Y1\nG1 X2 Y1\nG1 X1 Y1\n"},
		{"two steps, and back", "1,1 2,1 3,1 2,1 1,1", "1,1 3,1 1,1", "G0 X1 Y1\nG1 X3 Y1\nG1 X1 Y1\n"},
		{"two steps, and one back", "1,1 1,2 1,3 1,2", "1,1 1,3 1,2", "G0 X1 Y1\nG1 X1 Y3\nG1 X1 Y2\n"},
		{"a step back at the first step", "1,1 2,1 1,1 0,1", "1,1 2,1 0,1", "G0 X1 Y1\nG1 X2 Y1\nG1 X0 Y1\n"},
		{"a step back at the last step", "0,1 1,1 2,1 1,1", "0,1 2,1 1,1", "G0 X0 Y1\nG1 X2 Y1\nG1 X1 Y1\n"},
		{"a step back at the first step, and at the last one", "4,4 4,3 4,4 4,5 4,4", "4,4 4,3 4,5 4,4", "G0 X4 Y4\nG1 X4 Y3\nG1 X4 Y5\nG1 X4 Y4\n"},
		{"forth and back, and forth", "4,4 5,4 4,4 5,4", "4,4 5,4 4,4 5,4", "G0 X4 Y4\nG1 X5 Y4\nG1 X4 Y4\nG1 X5 Y4\n"},
		{"into an arm, and back, and aside", "1,1 2,1 3,1 3,2 3,1", "1,1 3,1 3,2 3,1", "G0 X1 Y1\nG1 X3 Y1\nG1 X3 Y2\nG1 X3 Y1\n"},
		{"by an arm, and on straight as before it", "1,1 2,1 2,2 2,1 3,1", "1,1 2,1 2,2 2,1 3,1", "G0 X1 Y1\nG1 X2 Y1\nG1 X2 Y2\nG1 X2 Y1\nG1 X3 Y1\n"},
		{"left", "1,1 2,1 2,2", "1,1 2,1 2,2", "G0 X1 Y1\nG1 X2 Y1\nG1 X2 Y2\n"},
		{"right", "1,1 2,1 2,0", "1,1 2,1 2,0", "G0 X1 Y1\nG1 X2 Y1\nG1 X2 Y0\n"},
		{"at each step", "0,0 1,0 1,1 2,1 2,2", "0,0 1,0 1,1 2,1 2,2", "G0 X0 Y0\nG1 X1 Y0\nG1 X1 Y1\nG1 X2 Y1\nG1 X2 Y2\n"},
		{"at each second step", "9,9 8,9 7,9 7,8 7,7 6,7 5,7", "9,9 7,9 7,7 5,7", "G0 X9 Y9\nG1 X7 Y9\nG1 X7 Y7\nG1 X5 Y7\n"},
		{"around, to the first point again", "3,3 4,3 4,4 3,4 3,3", "3,3 4,3 4,4 3,4 3,3", "G0 X3 Y3\nG1 X4 Y3\nG1 X4 Y4\nG1 X3 Y4\nG1 X3 Y3\n"},
		{"around, and on straight by the first point", "3,3 4,3 4,4 3,4 3,3 3,2", "3,3 4,3 4,4 3,4 3,2", "G0 X3 Y3\nG1 X4 Y3\nG1 X4 Y4\nG1 X3 Y4\nG1 X3 Y2\n"},
		{"around, and on as it began", "3,3 4,3 4,4 3,4 3,3 4,3", "3,3 4,3 4,4 3,4 3,3 4,3", "G0 X3 Y3\nG1 X4 Y3\nG1 X4 Y4\nG1 X3 Y4\nG1 X3 Y3\nG1 X4 Y3\n"},
		{"across its own way", "1,2 2,2 3,2 3,3 2,3 2,2 2,1", "1,2 3,2 3,3 2,3 2,1", "G0 X1 Y2\nG1 X3 Y2\nG1 X3 Y3\nG1 X2 Y3\nG1 X2 Y1\n"},
		{"around a hole", "2,4 2,5 2,6 3,6 4,6 5,6 6,6 6,5 6,4", "2,4 2,6 6,6 6,4", "G0 X2 Y4\nG1 X2 Y6\nG1 X6 Y6\nG1 X6 Y4\n"},
		{"by all points of a room, and back", "2,2 3,2 3,3 2,3 1,3 1,2 1,1 2,1 3,1 2,1 1,1 1,2 1,3 2,3 3,3 3,2 2,2", "2,2 3,2 3,3 1,3 1,1 3,1 1,1 1,3 3,3 3,2 2,2",
			"G0 X2 Y2\nG1 X3 Y2\nG1 X3 Y3\nG1 X1 Y3\nG1 X1 Y1\nG1 X3 Y1\nG1 X1 Y1\nG1 X1 Y3\nG1 X3 Y3\nG1 X3 Y2\nG1 X2 Y2\n"},
		{"no point", "", "", ""},
		{"a point twice", "4,4 4,4", "", ""},
		{"a point twice, within", "3,4 4,4 4,4 5,4", "", ""},
		{"a point twice, first", "4,4 4,4 5,4", "", ""},
		{"a point twice, last", "3,4 4,4 5,4 5,4", "", ""},
		{"aslant", "4,4 5,5", "", ""},
		{"aslant, last", "4,4 5,4 6,3", "", ""},
		{"two steps at once", "4,4 6,4", "", ""},
		{"two steps at once, within", "4,4 4,5 4,7 4,8", "", ""},
		{"two steps at once, last", "4,4 3,4 1,4", "", ""},
		{"as far as a knight goes", "4,4 5,6", "", ""},
		{"to the other side of the grid", "9,4 0,4", "", ""},
		{"into the next row", "8,4 9,4 0,5 1,5", "", ""},
	}
}

// knownStay is points, and the path between them, if there is one.
type knownStay struct {
	what  string
	turns string
	path  string
}

func knownStays() []knownStay {
	return []knownStay{
		{"going on in one way", "1,1 3,1 5,1", "1,1 2,1 3,1 4,1 5,1"},
		{"going on in one way, step by step", "1,1 2,1 3,1", "1,1 2,1 3,1"},
		{"going on in one way, and then aside", "1,1 1,2 1,4 2,4", "1,1 1,2 1,3 1,4 2,4"},
		{"back by more than all", "3,3 5,3 1,3", "3,3 4,3 5,3 4,3 3,3 2,3 1,3"},
		{"back by less than all", "3,3 3,7 3,5", "3,3 3,4 3,5 3,6 3,7 3,6 3,5"},
		{"forth and back", "2,2 2,4 2,2 2,4", "2,2 2,3 2,4 2,3 2,2 2,3 2,4"},
		{"around the grid", "0,0 9,0 9,9 0,9 0,0", "0,0 1,0 2,0 3,0 4,0 5,0 6,0 7,0 8,0 9,0 9,1 9,2 9,3 9,4 9,5 9,6 9,7 9,8 9,9 8,9 7,9 6,9 5,9 4,9 3,9 2,9 1,9 0,9 0,8 0,7 0,6 0,5 0,4 0,3 0,2 0,1 0,0"},
		{"to the left, and down", "5,5 3,5 3,2", "5,5 4,5 3,5 3,4 3,3 3,2"},
		{"no point", "", ""},
		{"a point twice", "4,4 4,4", ""},
		{"a point twice, first", "4,4 4,4 6,4", ""},
		{"a point twice, within", "2,4 4,4 4,4 6,4", ""},
		{"a point twice, last", "2,4 4,4 4,4", ""},
		{"aslant", "4,4 6,6", ""},
		{"aslant, by a step", "4,4 3,5", ""},
		{"aslant, first", "4,4 5,8 5,9", ""},
		{"aslant, within", "4,4 4,5 6,3 6,4", ""},
		{"aslant, last", "4,4 4,5 6,5 7,9", ""},
		{"the same X, but not the next one", "4,4 5,6 4,8", ""},
	}
}

// textBytes is the text of turns, byte by byte.
func textBytes(turns []impl.Pt) string {
	var out []byte
	for i, at := range turns {
		word := byte('1')
		if i == 0 {
			word = '0'
		}
		out = append(out, 'G', word, ' ', 'X', byte('0'+at.X), ' ', 'Y', byte('0'+at.Y), '\n')
	}
	return string(out)
}

// turnsByMiddles are a path's first and last points, and those between that are not in the middle of the one ahead and the one behind.
func turnsByMiddles(path []impl.Pt) []impl.Pt {
	var out []impl.Pt
	for i, at := range path {
		if i > 0 && i < len(path)-1 && path[i-1].X+path[i+1].X == 2*at.X && path[i-1].Y+path[i+1].Y == 2*at.Y {
			continue
		}
		out = append(out, at)
	}
	return out
}

// stayBySegs is the path between points, by all points of the grid that the segments between them have.
func stayBySegs(turns []impl.Pt) ([]impl.Pt, bool) {
	if len(turns) < 1 || len(turns) > pathMost {
		return nil, false
	}
	out := []impl.Pt{turns[0]}
	for i, to := range turns[1:] {
		from := turns[i]
		if from == to || from.X != to.X && from.Y != to.Y {
			return nil, false
		}
		out = append(out, hadPts(impl.Seg{A: from, B: to})[1:]...)
	}
	if len(out) > pathMost {
		return nil, false
	}
	return out, true
}

// isWay says whether points are 1 to 400 of the grid, each one step from the one ahead.
func isWay(path []impl.Pt) bool {
	for i, at := range path {
		if !slices.Contains(allPts(), at) || i > 0 && !slices.Contains(stepped(path[i-1]), at) {
			return false
		}
	}
	return len(path) >= 1 && len(path) <= pathMost
}

// besideOnGrid are, of each point of the grid, those one step from it.
var besideOnGrid = sync.OnceValue(func() map[impl.Pt][]impl.Pt {
	out := map[impl.Pt][]impl.Pt{}
	eachStep(func(from impl.Pt, to impl.Pt) { out[from] = append(out[from], to) })
	return out
})

// stride is a path of so many points from one on, that goes straight on as often as not, if it can.
func stride(dice *rand.Rand, from impl.Pt, many int) []impl.Pt {
	path := wander(dice, besideOnGrid(), from, min(many, 2))
	for len(path) < many {
		at, by := path[len(path)-1], path[len(path)-2]
		tos := besideOnGrid()[at]
		on := impl.Pt{X: 2*at.X - by.X, Y: 2*at.Y - by.Y}
		if dice.Intn(4) > 0 && slices.Contains(tos, on) {
			path = append(path, on)
		} else {
			path = append(path, tos[dice.Intn(len(tos))])
		}
	}
	return path
}

// eachShort goes through all paths of up to so many points from one on.
func eachShort(from impl.Pt, many int, f func(path []impl.Pt)) {
	var visit func(path []impl.Pt)
	visit = func(path []impl.Pt) {
		f(slices.Clone(path))
		if len(path) == many {
			return
		}
		for _, to := range besideOnGrid()[path[len(path)-1]] {
			visit(append(slices.Clone(path), to))
		}
	}
	visit([]impl.Pt{from})
}

// someCodePaths are paths, short and long ones, each once.
var someCodePaths = sync.OnceValue(func() [][]impl.Pt {
	var out [][]impl.Pt
	add := func(path []impl.Pt) { out = append(out, path) }
	for _, from := range ptsOf(0, 0, 9, 9, 0, 9, 9, 0, 9, 4) {
		eachShort(from, 4, add)
	}
	eachShort(impl.Pt{X: 4, Y: 4}, 6, add)
	dice := rand.New(rand.NewSource(83))
	for _, many := range []int{6, 7, 12, 30, 100, 399, pathMost} {
		for i := range 12 {
			from := allPts()[dice.Intn(len(allPts()))]
			if i%3 == 0 {
				add(wander(dice, besideOnGrid(), from, many))
			} else {
				add(stride(dice, from, many))
			}
		}
	}
	for _, k := range knownCodes() {
		if k.turns != "" {
			add(plainPts(k.path))
		}
	}
	for _, k := range knownAlls() {
		add(plainPts(k.all))
	}
	slices.SortFunc(out, func(a []impl.Pt, b []impl.Pt) int { return strings.Compare(textBytes(a), textBytes(b)) })
	return slices.DeleteFunc(slices.CompactFunc(out, slices.Equal), func(path []impl.Pt) bool { return len(path) == 0 })
})

// eachInLine goes through lists of points of which any two, one behind the other, are in line, and not one; turns of a path, and ones that go on in one way.
func eachInLine(f func(turns []impl.Pt)) {
	pts := ptsAt([]int{0, 1, 4, 9})
	dice := rand.New(rand.NewSource(87))
	ways := map[impl.Pt][]impl.Pt{}
	for _, from := range pts {
		ways[from] = where(pts, func(to impl.Pt) bool { return from != to && (from.X == to.X || from.Y == to.Y) })
	}
	for _, from := range pts {
		f([]impl.Pt{from})
		for _, to := range ways[from] {
			f([]impl.Pt{from, to})
			for _, on := range ways[to] {
				f([]impl.Pt{from, to, on})
			}
		}
		for many := 4; many < 60; many += 5 {
			f(wander(dice, ways, from, many))
		}
	}
}

// checkNoCode asks for what is answered of what is no path.
func checkNoCode(t *testing.T, what string, path []impl.Pt) {
	t.Helper()
	if text := impl.CodeWrite(path); text != "" {
		t.Fatalf("%s: CodeWrite(%v) = %q", what, path, text)
	}
	if turns := impl.CodeTurns(path); len(turns) != 0 {
		t.Fatalf("%s: CodeTurns(%v) = %v", what, path, turns)
	}
}

func checkNoStay(t *testing.T, what string, turns []impl.Pt) {
	t.Helper()
	if path, ok := impl.CodeStay(turns); ok || len(path) != 0 {
		t.Fatalf("%s: CodeStay(%v) = %v, %v", what, turns, path, ok)
	}
}

func checkNoCodeRead(t *testing.T, what string, text string) {
	t.Helper()
	if path, ok := impl.CodeRead(text); ok || len(path) != 0 {
		t.Fatalf("%s: CodeRead(%q) = %v, %v", what, text, path, ok)
	}
}

// P83 to P86: by paths that are known.
func TestKnownCodes(t *testing.T) {
	for _, k := range knownCodes() {
		path, want := plainPts(k.path), plainPts(k.turns)
		if turns := impl.CodeTurns(path); !slices.Equal(turns, want) {
			t.Errorf("%s: CodeTurns(%v) = %v, not %s", k.what, path, turns, k.turns)
		}
		if text := impl.CodeWrite(path); text != k.text {
			t.Errorf("%s: CodeWrite(%v) = %q, not %q", k.what, path, text, k.text)
		}
		if k.text == "" {
			continue
		}
		if read, ok := impl.CodeRead(k.text); !ok || !slices.Equal(read, path) {
			t.Errorf("%s: CodeRead(%q) = %v, %v, not %s", k.what, k.text, read, ok, k.path)
		}
		if stay, ok := impl.CodeStay(want); !ok || !slices.Equal(stay, path) {
			t.Errorf("%s: CodeStay(%v) = %v, %v, not %s", k.what, want, stay, ok, k.path)
		}
	}
}

// P87: by points that are known.
func TestKnownStays(t *testing.T) {
	for _, k := range knownStays() {
		turns, want := plainPts(k.turns), plainPts(k.path)
		if path, ok := impl.CodeStay(turns); ok != (k.path != "") || !slices.Equal(path, want) {
			t.Errorf("%s: CodeStay(%v) = %v, %v, not %s", k.what, turns, path, ok, k.path)
		}
		if path, ok := impl.CodeStay(backwards(turns)); ok != (k.path != "") || !slices.Equal(path, backwards(want)) {
			t.Errorf("%s: CodeStay(%v) = %v, %v, the other way about", k.what, backwards(turns), path, ok)
		}
	}
}

// P83 and P86.
func TestCodeReadBack(t *testing.T) {
	most := 0
	for _, path := range someCodePaths() {
		turns, text := impl.CodeTurns(path), impl.CodeWrite(path)
		if want := turnsByMiddles(path); !slices.Equal(turns, want) || text != textBytes(want) {
			t.Fatalf("CodeTurns(%v) = %v, and the text is %q, but it turns at %v", path, turns, text, want)
		}
		if read, ok := impl.CodeRead(text); !ok || !slices.Equal(read, path) {
			t.Fatalf("CodeRead(CodeWrite(%v)) = %v, %v", path, read, ok)
		}
		if stay, ok := impl.CodeStay(turns); !ok || !slices.Equal(stay, path) {
			t.Fatalf("CodeStay(CodeTurns(%v)) = %v, %v", path, stay, ok)
		}
		if lines := strings.Count(text, "\n"); lines != len(turns) || strings.Count(text, "G1 ") != lines-1 {
			t.Fatalf("CodeWrite(%v) = %q, of %d turns", path, text, len(turns))
		}
		most = max(most, len(turns))
	}
	if len(someCodePaths()) < 800 || most < 300 {
		t.Errorf("there are but %d paths, of at most %d turns", len(someCodePaths()), most)
	}
}

// P85.
func TestCodeTextsAreTheSameJustIfPathsAre(t *testing.T) {
	whose := map[string][]impl.Pt{}
	for _, path := range someCodePaths() {
		text := impl.CodeWrite(path)
		if other, there := whose[text]; there {
			t.Fatalf("CodeWrite of %v and of %v is %q", path, other, text)
		}
		whose[text] = path
		if !strings.HasPrefix(text, "G0") || text != impl.CodeWrite(slices.Clone(path)) {
			t.Fatalf("CodeWrite(%v) = %q, that does not begin with G0, or is another one again", path, text)
		}
	}
}

// P86.
func TestCodeTurnsGoOnInNoWay(t *testing.T) {
	back := 0
	for _, path := range someCodePaths() {
		turns := impl.CodeTurns(path)
		if len(turns) == 0 || turns[0] != path[0] || turns[len(turns)-1] != path[len(path)-1] {
			t.Fatalf("CodeTurns(%v) = %v", path, turns)
		}
		for i := 2; i < len(turns); i++ {
			a, b, c := turns[i-2], turns[i-1], turns[i]
			if a == b || b == c || a != c && impl.SegHas(impl.Seg{A: a, B: c}, b) {
				t.Fatalf("CodeTurns(%v) = %v, that goes on in one way by %v, %v and %v", path, turns, a, b, c)
			}
			if impl.SegTurn(a, b, c) == 0 {
				back++
			}
		}
	}
	if back < 1000 {
		t.Errorf("there are but %d steps back", back)
	}
}

// P87 and P88: points of which any two, one behind the other, are in line.
func TestCodeStay(t *testing.T) {
	fewer := 0
	eachInLine(func(turns []impl.Pt) {
		want, wantOk := stayBySegs(turns)
		path, ok := impl.CodeStay(turns)
		if ok != wantOk || !slices.Equal(path, want) {
			t.Fatalf("CodeStay(%v) = %v, %v, not %v", turns, path, ok, want)
		}
		if !ok {
			return
		}
		long := 1
		for i := range turns[1:] {
			way := minus(turns[i+1], turns[i])
			long += max(way.X, -way.X) + max(way.Y, -way.Y)
		}
		if !isWay(path) || len(path) != long {
			t.Fatalf("CodeStay(%v) = %v, that is no path of %d points", turns, path, long)
		}
		next := 0
		for _, at := range path {
			if next < len(turns) && at == turns[next] {
				next++
			}
		}
		if next != len(turns) {
			t.Fatalf("CodeStay(%v) = %v, that does not come to all, in order", turns, path)
		}
		few := impl.CodeTurns(path)
		if len(few) > len(turns) {
			t.Fatalf("CodeTurns(CodeStay(%v)) = %v", turns, few)
		}
		if again, ok := impl.CodeStay(few); !ok || !slices.Equal(again, path) {
			t.Fatalf("CodeStay(%v) = %v, but of its turns %v it is %v, %v", turns, path, few, again, ok)
		}
		if len(few) < len(turns) {
			fewer++
		}
	})
	if fewer < 100 {
		t.Errorf("there are but %d lists with points at which nothing turns", fewer)
	}
}

// P87: it is false just if two, one behind the other, are not in line, or are one.
func TestCodeStayOfAnyPoints(t *testing.T) {
	ok, not := 0, 0
	check := func(turns []impl.Pt) {
		want, wantOk := stayBySegs(turns)
		if path, got := impl.CodeStay(turns); got != wantOk || !slices.Equal(path, want) {
			t.Fatalf("CodeStay(%v) = %v, %v, not %v", turns, path, got, want)
		}
		if wantOk {
			ok++
		} else {
			not++
		}
	}
	pts := allPts()
	for i, a := range pts {
		for j, b := range pts {
			check([]impl.Pt{a, b})
			check([]impl.Pt{a, b, pts[(7*i+3*j)%len(pts)]})
			check([]impl.Pt{a, {X: b.X, Y: a.Y}, b})
		}
	}
	eachJumping(check)
	eachInLine(func(turns []impl.Pt) {
		for i, at := range turns {
			check(withAt(turns, i, at))
			check(withoutAt(turns, i))
			check(insteadAt(turns, i, impl.Pt{X: (at.X + 1) % 10, Y: at.Y}))
			check(insteadAt(turns, i, impl.Pt{X: at.Y, Y: at.X}))
		}
	})
	if ok < 5000 || not < 5000 {
		t.Errorf("there are but %d lists between which there is a path, and %d between which there is none", ok, not)
	}
}

// P89.
func TestCodeTurnsElsewhere(t *testing.T) {
	for _, path := range someCodePaths() {
		turns := impl.CodeTurns(path)
		for _, move := range []func(impl.Pt) impl.Pt{otherSide, exchanged} {
			if there := impl.CodeTurns(movedPts(path, move)); !slices.Equal(there, movedPts(turns, move)) {
				t.Fatalf("CodeTurns(%v) = %v, on the other side, or exchanged, %v", path, turns, there)
			}
		}
		if back := impl.CodeTurns(backwards(path)); !slices.Equal(back, backwards(turns)) {
			t.Fatalf("CodeTurns(%v) = %v, the other way about %v", path, turns, back)
		}
	}
}

// P90: without its last bytes, and without its last lines.
func TestCodeReadOfFirstLines(t *testing.T) {
	for _, path := range someCodePaths() {
		text, turns := impl.CodeWrite(path), impl.CodeTurns(path)
		for begun := len(text) - 1; begun >= 0 && begun > len(text)-40; begun-- {
			if begun%9 != 0 {
				checkNoCodeRead(t, "without its last bytes", text[:begun])
				continue
			}
			lines := begun / 9
			want, wantOk := stayBySegs(turns[:lines])
			if wantOk && !slices.Equal(want, path[:len(want)]) {
				t.Fatalf("%v does not begin with %v", path, want)
			}
			if read, ok := impl.CodeRead(text[:begun]); ok != (lines > 0) || !slices.Equal(read, want) {
				t.Fatalf("CodeRead(%q) = %v, %v, not %v", text[:begun], read, ok, want)
			}
		}
	}
}

// P91.
func TestCodeStayOfOnePoint(t *testing.T) {
	checkNoStay(t, "nil", nil)
	checkNoStay(t, "no point", []impl.Pt{})
	for _, at := range allPts() {
		one := []impl.Pt{at}
		if path, ok := impl.CodeStay(one); !ok || !slices.Equal(path, one) {
			t.Errorf("CodeStay(%v) = %v, %v", one, path, ok)
		}
		if turns := impl.CodeTurns(one); !slices.Equal(turns, one) {
			t.Errorf("CodeTurns(%v) = %v", one, turns)
		}
		for many := 2; many < 6; many++ {
			checkNoStay(t, "a point twice, or more often", slices.Repeat(one, many))
			checkNoCode(t, "a point twice, or more often", slices.Repeat(one, many))
		}
	}
}

// P83 and P86: what is a path, and what is one point off.
func TestCodeOfWhatIsOnePointOff(t *testing.T) {
	ok, not := 0, 0
	check := func(path []impl.Pt) {
		if !isWay(path) {
			not++
			checkNoCode(t, "one point off", path)
			return
		}
		ok++
		if text := impl.CodeWrite(path); text != textBytes(turnsByMiddles(path)) {
			t.Fatalf("CodeWrite(%v) = %q", path, text)
		}
	}
	for i, path := range someCodePaths() {
		if len(path) > 40 {
			continue
		}
		for place, at := range path {
			check(withAt(path, place, at))
			check(withoutAt(path, place))
			check(insteadAt(path, place, stepped(at)[(i+place)%4]))
			check(insteadAt(path, place, impl.Pt{X: at.X + 2, Y: at.Y}))
			check(insteadAt(path, place, impl.Pt{X: at.X - 1, Y: at.Y - 1}))
		}
	}
	if ok < 1000 || not < 1000 {
		t.Errorf("there are but %d paths, and %d that are none", ok, not)
	}
}

// P83 to P86: the limit of 400 points of a path.
func TestCodeOfManyPoints(t *testing.T) {
	dice := rand.New(rand.NewSource(400))
	for range 20 {
		path := stride(dice, impl.Pt{X: 5, Y: 3}, pathMost+1)
		for _, many := range []int{399, pathMost} {
			turns := turnsByMiddles(path[:many])
			text := impl.CodeWrite(path[:many])
			if text != textBytes(turns) || !slices.Equal(impl.CodeTurns(path[:many]), turns) {
				t.Errorf("CodeWrite of %d points, that turn at %v, is %q", many, turns, text)
			}
			if read, ok := impl.CodeRead(text); !ok || !slices.Equal(read, path[:many]) {
				t.Errorf("CodeRead of the text of %d points is %v, %v", many, read, ok)
			}
		}
		checkNoCode(t, "401 points", path)
		checkNoStay(t, "turns of 401 points", turnsByMiddles(path))
		checkNoCodeRead(t, "a text of 401 points", textBytes(turnsByMiddles(path)))
	}
	for _, many := range []int{pathMost + 1, pathMost + 2, pathMost + 1<<8, 1<<16 + 1} {
		checkNoCode(t, "too many points", toAndFro(impl.Pt{X: 3, Y: 3}, impl.Pt{X: 4, Y: 3}, many))
		checkNoStay(t, "too many points", toAndFro(impl.Pt{X: 3, Y: 3}, impl.Pt{X: 4, Y: 3}, many))
	}
}

// P87: turns of which the path has 400 points, and 401; and 400 turns, and 401.
func TestCodeStayOfManyPoints(t *testing.T) {
	for far := 1; far <= impl.GridMax; far++ {
		for _, steps := range []int{398, 399, 400, 401, 500, 3000} {
			turns := toAndFro(impl.Pt{X: 0, Y: 9}, impl.Pt{X: far, Y: 9}, steps/far+1)
			if rest := steps % far; rest > 0 {
				turns = append(turns, impl.Pt{X: turns[len(turns)-1].X, Y: 9 - rest})
			}
			if steps >= pathMost {
				checkNoStay(t, "too many points", turns)
				checkNoCodeRead(t, "too many points", textBytes(turns))
				continue
			}
			want, _ := stayBySegs(turns)
			if path, ok := impl.CodeStay(turns); !ok || len(path) != steps+1 || !slices.Equal(path, want) {
				t.Errorf("CodeStay of %d steps, %d by %d, = %v, %v", steps, far, far, path, ok)
			}
			if path, ok := impl.CodeRead(textBytes(turns)); !ok || !slices.Equal(path, want) {
				t.Errorf("CodeRead of %d steps, %d by %d, = %v, %v", steps, far, far, path, ok)
			}
		}
	}
	checkNoStay(t, "401 turns that go on in one way, and back", slices.Repeat(ptsOf(0, 0, 1, 0, 2, 0, 1, 0), 101)[:pathMost+1])
}

// P84: what is read is a path, and its text is that text.
func checkCodeRead(t *testing.T, text string) bool {
	t.Helper()
	path, ok := impl.CodeRead(text)
	if !ok && len(path) != 0 {
		t.Fatalf("CodeRead(%q) = %v, false", text, path)
	}
	if ok && (!isWay(path) || textBytes(turnsByMiddles(path)) != text || impl.CodeWrite(path) != text) {
		t.Fatalf("CodeRead(%q) = %v, true, of which the text is %q", text, path, impl.CodeWrite(path))
	}
	return ok
}

// P84: one byte another one, one more, or one less.
func TestCodeReadOneByteOff(t *testing.T) {
	read := 0
	for i, k := range knownCodes() {
		if i%3 == 0 && len(k.text) < 60 {
			eachByteOff(k.text, func(off string) {
				if checkCodeRead(t, off) {
					read++
				}
			})
		}
	}
	if read < 100 {
		t.Errorf("there are but %d texts that are read, one byte off another one", read)
	}
}

// P84: all texts of three lines with some points, and with all words.
func TestCodeReadOfThreeLines(t *testing.T) {
	pts := ptsOf(1, 1, 1, 2, 1, 3, 2, 1, 3, 3, 9, 1)
	words := []string{"G0", "G1", "G2"}
	read := 0
	eachThree := func(f func(i int, j int, k int)) {
		for n := range len(pts) * len(pts) * len(pts) {
			f(n%len(pts), n/len(pts)%len(pts), n/len(pts)/len(pts))
		}
	}
	eachThree(func(i int, j int, k int) {
		turns := []impl.Pt{pts[i], pts[j], pts[k]}
		text := textBytes(turns)
		path, ok := stayBySegs(turns)
		wantOk := ok && slices.Equal(turnsByMiddles(path), turns)
		if checkCodeRead(t, text) != wantOk {
			t.Fatalf("CodeRead(%q) is %v", text, !wantOk)
		}
		if !wantOk {
			return
		}
		read++
		for n := range 27 {
			first, second, third := words[n%3], words[n/3%3], words[n/9]
			other := first + text[2:9] + second + text[11:18] + third + text[20:]
			if checkCodeRead(t, other) != (other == text) {
				t.Fatalf("CodeRead(%q) is not %v", other, other == text)
			}
		}
	})
	if read < 20 {
		t.Errorf("there are but %d texts that are read", read)
	}
}

// P84: texts that are none.
func TestCodeReadWrong(t *testing.T) {
	good := "G0 X1 Y1\nG1 X3 Y1\nG1 X3 Y2\n"
	if read, ok := impl.CodeRead(good); !ok || !slices.Equal(read, ptsOf(1, 1, 2, 1, 3, 1, 3, 2)) {
		t.Fatalf("CodeRead(%q) = %v, %v", good, read, ok)
	}
	texts := []string{
		"", " ", "\n", "\n\n", "\x00", "G", "G0", "G0 ", "G0\n", "G0 X1\n", "G0 Y1\n", "G0 X1 Y\n", "G0 X Y1\n", "G0 X Y\n", "X1 Y1\n", "1 1\n", "G0 1 1\n", "1,1\n", "1,1 3,1 3,2",
		// blanks
		" " + good, good + " ", "G0  X1 Y1\n", "G0 X1  Y1\n", "G0 X1 Y1 \n", "G0X1 Y1\n", "G0 X1Y1\n", "G0X1Y1\n", "G0 X 1 Y1\n", "G0 X1 Y 1\n", "G 0 X1 Y1\n", "G0\tX1 Y1\n", "G0 X1\tY1\n", "G0\u00a0X1 Y1\n",
		"G0 X1 Y1\n G1 X3 Y1\n", "G0 X1 Y1\nG1 X3 Y1 \n", "G0 X1 Y1\nG1  X3 Y1\n", "G0 X1 Y1\nG1 X3  Y1\n", "G0 X1 Y1\nG1X3 Y1\n", "G0 X1 Y1\nG1 X3Y1\n",
		// signs, needless zeros, and other numbers
		"G0 X+1 Y1\n", "G0 X1 Y+1\n", "G0 X-1 Y1\n", "G0 X-0 Y1\n", "G0 X1 Y-0\n", "G0 X01 Y1\n", "G0 X1 Y01\n", "G0 X00 Y1\n", "G00 X1 Y1\n", "G0 X1. Y1\n", "G0 X1.0 Y1\n", "G0 X1 Y1e0\n", "G0 X0x1 Y1\n", "G0 X1_0 Y1\n",
		"G0 X1 Y1\nG1 X+3 Y1\n", "G0 X1 Y1\nG1 X3 Y01\n", "G0 X1 Y1\nG01 X3 Y1\n",
		// places beyond the grid
		"G0 X10 Y1\n", "G0 X1 Y10\n", "G0 X-1 Y1\n", "G0 X1 Y-1\n", "G0 X1 Y1\nG1 X10 Y1\n", "G0 X1 Y1\nG1 X1 Y-1\n", "G0 X99999999999999999999 Y1\n", "G0 X9223372036854775807 Y1\n", "G0 X-9223372036854775808 Y1\n", "G0 X4294967297 Y1\n", "G0 X1 Y18446744073709551617\n",
		// newlines
		"G0 X1 Y1", "G0 X1 Y1\n\n", "\nG0 X1 Y1\n", "G0 X1 Y1\r\n", "G0 X1 Y1\r", "G0 X1 Y1\n\r", "G0 X1 Y1\v", "G0 X1 Y1\f", "G0 X1 Y1\x00", "G0 X1 Y1\\n", "G0 X1 Y1\u2028", "G0 X1 Y1\u0085", "G0 X1 Y1;", "G0 X1\nY1\n", "G0\nX1 Y1\n",
		"G0 X1 Y1\n\nG1 X3 Y1\n", "G0 X1 Y1G1 X3 Y1\n", "G0 X1 Y1 G1 X3 Y1\n", "G0 X1 Y1\nG1 X3 Y1", "G0 X1 Y1\r\nG1 X3 Y1\r\n", "G0 X1 Y1\rG1 X3 Y1\r", "G0 X1 Y1\nG1 X3 Y1\n\n",
		// words
		"G1 X1 Y1\n", "G1 X1 Y1\nG1 X3 Y1\n", "G0 X1 Y1\nG0 X3 Y1\n", "G1 X1 Y1\nG0 X3 Y1\n", "G0 X1 Y1\nG1 X3 Y1\nG0 X3 Y2\n", "G0 X1 Y1\nG0 X3 Y1\nG1 X3 Y2\n", "G2 X1 Y1\n", "G0 X1 Y1\nG2 X3 Y1\n", "X0 G1 Y1\n", "G0 Y1 X1\n", "G0 X1 X1\n", "G0 X1 Z1\n", "M0 X1 Y1\n", "0 X1 Y1\n", "G X1 Y1\n",
		// small letters, and other bytes
		strings.ToLower(good), "g0 X1 Y1\n", "G0 x1 Y1\n", "G0 X1 y1\n", "G0 X1 Y1\ng1 X3 Y1\n", "GO X1 Y1\n", "G0 XI Y1\n", "G0 Xa Y1\n", "G0 X\uff11 Y1\n", "G0 X\u0661 Y1\n", "G0 X\xb1 Y1\n", "\ufeff" + good, "\x00" + good, "G0 X1 Y1\n\xff", "G0 X1 Y1 ; here\n", "(here)\n" + good, good + "M2\n", "%\n" + good,
		// a line at which nothing turns
		"G0 X1 Y1\nG1 X2 Y1\nG1 X3 Y1\n", "G0 X1 Y1\nG1 X1 Y4\nG1 X1 Y6\n", "G0 X9 Y1\nG1 X5 Y1\nG1 X4 Y1\nG1 X4 Y2\n", "G0 X3 Y3\nG1 X3 Y5\nG1 X3 Y1\nG1 X3 Y0\n",
		// lines that are not in line, or a point twice
		"G0 X1 Y1\nG1 X2 Y2\n", "G0 X1 Y1\nG1 X3 Y1\nG1 X4 Y2\n", "G0 X1 Y1\nG1 X2 Y3\nG1 X2 Y4\n", "G0 X1 Y1\nG1 X1 Y1\n", "G0 X1 Y1\nG1 X3 Y1\nG1 X3 Y1\n", "G0 X1 Y1\nG1 X1 Y1\nG1 X3 Y1\n", good + good,
	}
	for _, text := range texts {
		checkNoCodeRead(t, "wrong", text)
	}
	for _, k := range knownStays() {
		if k.path == "" {
			checkNoCodeRead(t, k.what, textBytes(plainPts(k.turns)))
		}
	}
}

// P84: of how many bytes a text may be: the longest one of a path has 3600.
func TestCodeReadLongTexts(t *testing.T) {
	a, b := impl.Pt{X: 3, Y: 3}, impl.Pt{X: 4, Y: 3}
	longest := textBytes(toAndFro(a, b, pathMost))
	if read, ok := impl.CodeRead(longest); len(longest) != 3600 || !ok || !slices.Equal(read, toAndFro(a, b, pathMost)) {
		t.Errorf("CodeRead of %d bytes is %v, %v", len(longest), read, ok)
	}
	for _, size := range []int{3601, 3609, 3996, 3999, codeMost, codeMost + 1, codeMost + 5, 1 << 20} {
		checkNoCodeRead(t, "a long text of lines", strings.Repeat("G0 X3 Y3\n", size)[:size])
		checkNoCodeRead(t, "a long text of lines", textBytes(toAndFro(a, b, size/9+1))[:size])
		for _, fill := range []string{" ", "0", "\n", "G1 X3 Y3\n", "\x00"} {
			tail := strings.Repeat(fill, size)[:size-len(longest)]
			checkNoCodeRead(t, "a long text", longest+tail)
			checkNoCodeRead(t, "a long text", tail+longest)
			checkNoCodeRead(t, "a long text", "G0 X3 Y3\n"+strings.Repeat(fill, size)[:size-9])
		}
	}
}

// P83 to P91: nil, and points that are not of the grid.
func TestCodeOfWrongPoints(t *testing.T) {
	checkNoCode(t, "nil", nil)
	checkNoCode(t, "no point", []impl.Pt{})
	for _, bad := range badPts() {
		for _, path := range [][]impl.Pt{{bad}, {bad, bad}, {bad, {X: 4, Y: 4}}, {{X: 4, Y: 4}, bad}, {{X: 4, Y: 4}, bad, {X: 4, Y: 4}}, {bad, {X: bad.X + 1, Y: bad.Y}}, {bad, {X: bad.X, Y: bad.Y - 1}}} {
			checkNoCode(t, "not of the grid", path)
			checkNoStay(t, "not of the grid", path)
		}
	}
	for _, at := range allPts() {
		for _, beside := range stepped(at) {
			if !slices.Contains(allPts(), beside) {
				checkNoCode(t, "a step beyond the grid", []impl.Pt{at, beside})
				checkNoStay(t, "a step beyond the grid", []impl.Pt{at, beside})
				checkNoStay(t, "a step from beyond the grid", []impl.Pt{beside, at})
			}
		}
	}
}

// P83 to P91: numbers so far apart that what is between them is one, or nothing, when it is reckoned in an int, or in one of 32 bits.
func TestCodeOfNumbersFarApart(t *testing.T) {
	at := impl.Pt{X: 4, Y: 4}
	for _, far := range []int{math.MinInt, math.MaxInt, 1 << 32, -1 << 32, 1 << 31, 1 << 16, 1 << 62} {
		for d := -1; d <= 1; d++ {
			for _, to := range ptsOf(4+far+d, 4, 4, 4+far+d, 4+d, 4+far, 4+far, 4+d) {
				for _, path := range [][]impl.Pt{{at, to}, {to, at}, {at, to, at}} {
					checkNoCode(t, "far apart", path)
					checkNoStay(t, "far apart", path)
				}
			}
		}
	}
	for _, ends := range [][]impl.Pt{ptsOf(math.MinInt, 4, math.MaxInt, 4), ptsOf(4, math.MaxInt, 4, math.MinInt)} {
		checkNoCode(t, "from one end of all numbers to the other one", ends)
		checkNoStay(t, "from one end of all numbers to the other one", ends)
	}
}

// P83 to P91: nothing is written into an argument, or behind its end.
func TestCodesLeaveArgumentsAlone(t *testing.T) {
	for _, text := range []string{"1,1 2,1 3,1 3,2 3,1 3,2 9,9 4,4", "1,1 3,1 3,3 1,3 1,1 5,5", "4,4 4,4 4,4", "1,1 2,2 3,3", "0,0 0,9 9,9 9,0 0,0 9,0"} {
		given, want := plainPts(text), plainPts(text)
		for n := range len(given) + 1 {
			impl.CodeWrite(given[:n])
			impl.CodeTurns(given[:n])
			impl.CodeStay(given[:n])
		}
		if !slices.Equal(given, want) {
			t.Errorf("%s was made %v", text, given)
		}
	}
}

// P83, P86 and P87: each answer is new memory, spare room included.
func TestCodeAnswersAreNew(t *testing.T) {
	for _, k := range knownCodes() {
		path, turns := plainPts(k.path), plainPts(k.turns)
		checkNewPts(t, k.what, path, func() []impl.Pt { return impl.CodeTurns(path) })
		checkNewPts(t, k.what, turns, func() []impl.Pt { return impl.CodeTurns(turns) })
		checkNewPts(t, k.what, turns, func() []impl.Pt {
			stay, _ := impl.CodeStay(turns)
			return stay
		})
		checkNewPts(t, k.what, path, func() []impl.Pt {
			stay, _ := impl.CodeStay(path)
			return stay
		})
		checkNewPts(t, k.what, nil, func() []impl.Pt {
			read, _ := impl.CodeRead(k.text)
			return read
		})
	}
}

// P83 to P91: the same is told while others ask, too, and no call leaves a goroutine behind, be the text one or none.
func TestCodesWhileOthersAsk(t *testing.T) {
	before := runtime.NumGoroutine()
	for i, path := range someCodePaths() {
		if i%20 != 0 {
			continue
		}
		ask := func() string {
			text := impl.CodeWrite(path)
			read, _ := impl.CodeRead(text)
			stay, _ := impl.CodeStay(impl.CodeTurns(path))
			impl.CodeRead("G1" + text)
			impl.CodeRead(text + "G")
			return text + textBytes(read) + textBytes(stay)
		}
		checkWhileOthersAsk(t, textBytes(path), ask)
	}
	checkNoMoreRun(t, before)
}

// checkWhileOthersAsk asks alone, and then often at one time: the same must be told.
func checkWhileOthersAsk(t *testing.T, what string, ask func() string) {
	t.Helper()
	want := ask()
	told := make([]string, 12)
	var all sync.WaitGroup
	for i := range told {
		all.Go(func() { told[i] = ask() })
	}
	all.Wait()
	for _, text := range told {
		if text != want {
			t.Fatalf("%s: while others ask %q, alone %q", what, text, want)
		}
	}
}
