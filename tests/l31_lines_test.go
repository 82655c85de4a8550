package tests

import (
	"math/rand/v2"
	"regexp"
	"runtime"
	"slices"
	"strconv"
	"strings"
	"testing"

	"loop.example/mortiser/impl"
)

// linesMost is how many bytes a text of lines may have.
const linesMost = 300

// Plates of which lines ask, besides those of the chapters before.
const (
	noneInIt  = "0,0 1,0 0,1\n"
	oneAslant = "0,0 3,0 0,3\n"
	aroundGap = "0,0 6,0 6,6 4,6 4,2 2,2 2,6 0,6\n"
	noRoom    = "0,0 9,0 9,9 0,9\n1,1 8,1 8,8 1,8\n"
)

// knownLine is a plate, a text of lines, and what is told of it.
type knownLine struct {
	what  string
	plate string
	text  string
	told  string
}

func knownLines() []knownLine {
	room := "T1\nG0 X1 Y1\nG1 X3 Y1\nG1 X3 Y3\nG1 X1 Y3\nG1 X1 Y2\nG1 X2 Y2\nG1 X1 Y2\nG1 X1 Y3\nG1 X3 Y3\nG1 X3 Y1\nG1 X1 Y1\n"
	corners := "T2\nG0 X2 Y2\nG0 X6 Y2\nG0 X2 Y6\nG0 X6 Y6\n"
	return []knownLine{
		{"in it", smallRoom, "in 2,2\n", "in\n"},
		{"on an edge", smallRoom, "in 4,3\n", "edge\n"},
		{"on a corner", smallRoom, "in 0,0\n", "edge\n"},
		{"beyond", smallRoom, "in 5,2\n", "beyond\n"},
		{"far beyond", smallRoom, "in 9,9\n", "beyond\n"},
		{"beside a hole", oneHole, "in 2,4\n", "in\n"},
		{"on the edge of a hole", oneHole, "in 3,4\n", "edge\n"},
		{"in a hole", oneHole, "in 4,4\n", "beyond\n"},
		{"in the first hole of two", besideHoles, "in 2,4\n", "beyond\n"},
		{"in the second hole of two", besideHoles, "in 6,4\n", "beyond\n"},
		{"on the edge of the second hole", besideHoles, "in 5,4\n", "edge\n"},
		{"between two holes", besideHoles, "in 4,4\n", "in\n"},
		{"across and up are not the same", "0,0 4,0 4,2 0,2\n", "in 3,1\nin 1,3\nfar 4,1\nfar 1,4\n", "in\nbeyond\n0\n4\n"},

		{"how far, in it", smallRoom, "far 2,2\n", "4\n"},
		{"how far, on an edge", smallRoom, "far 4,3\n", "0\n"},
		{"how far, beyond", smallRoom, "far 9,4\n", "25\n"},
		{"how far, aslant", smallRoom, "far 9,9\n", "50\n"},
		{"how far, no whole number", oneAslant, "far 1,1\n", "1/2\n"},
		{"how far, no whole number, beyond", oneAslant, "far 3,3\n", "9/2\n"},
		{"how far, of two numbers of many figures", "4,0 9,4 5,9 0,5\n", "far 4,4\n", "256/41\n"},
		{"how far, beside a hole", oneHole, "far 2,2\n", "2\n"},
		{"how far, in a hole", oneHole, "far 4,4\n", "1\n"},
		{"how far, between two holes", besideHoles, "far 4,4\n", "1\n"},

		{"the middle is one point", smallRoom, "mid\n", "2,2\n"},
		{"the middle is no point, around a hole", oneHole, "mid\n", "\n"},
		{"the middle is no point, of all of the grid", wholeGrid, "mid\n", "\n"},
		{"the middle is no point, as none is in it", noneInIt, "mid\n", "\n"},
		{"the middle between two holes", besideHoles, "mid\n", "4,1 4,2 4,3 4,4 4,5 4,6 4,7\n"},
		{"the middle is more points than a loop may have", aroundGap, "mid\n", "2,1 3,1 4,1 1,2 5,2 1,3 5,3 1,4 5,4 1,5 5,5\n"},
		{"the middle is two points, that are no loop", "0,0 4,0 8,0 8,9 0,9\n", "mid\n", "4,4 4,5\n"},
		{"the middle, no point, among others", oneHole, "mid\nmid\nin 1,1\nmid\n", "\n\nin\n\n"},

		{"the farthest", smallRoom, "most\n", "2,2 4\n"},
		{"the farthest, around a hole", oneHole, "most\n", "2,2 2\n"},
		{"the farthest, between two holes", besideHoles, "most\n", "4,1 1\n"},
		{"the farthest, of all of the grid", wholeGrid, "most\n", "4,4 16\n"},
		{"the farthest, no whole number", oneAslant, "most\n", "1,1 1/2\n"},
		{"the farthest, of two numbers of many figures", "4,0 9,4 5,9 0,5\n", "most\n", "4,4 256/41\n"},
		{"no farthest", noneInIt, "most\n", "none\n"},
		{"no farthest, as a hole leaves none", noRoom, "most\n", "none\n"},

		{"one part", smallRoom, "parts 1\n", "1\n"},
		{"one part, of one point", smallRoom, "parts 4\n", "1\n"},
		{"no part", smallRoom, "parts 5\n", "0\n"},
		{"four parts", oneHole, "parts 2\n", "4\n"},
		{"two parts", twoRooms, "parts 4\n", "2\n"},
		{"no part, as none is in it", noneInIt, "parts 1\n", "0\n"},
		{"no part, of the largest tool", oneHole, "parts 9\n", "0\n"},

		{"all is cut", smallRoom, "cut 1\n", "9\n"},
		{"all beside one point is cut", smallRoom, "cut 4\n", "9\n"},
		{"all that is one step from one point is cut", smallRoom, "cut 2\n", "5\n"},
		{"nothing is cut", smallRoom, "cut 9\n", "0\n"},
		{"what is cut in four parts", oneHole, "cut 2\n", "20\n"},
		{"what is cut in two parts", twoRooms, "cut 4\n", "48\n"},
		{"what is cut between two holes", besideHoles, "cut 1\n", "7\n"},
		{"what the largest tool cuts", wholeGrid, "cut 9\n", "64\n"},
		{"what a large tool cuts", wholeGrid, "cut 6\n", "60\n"},

		{"a job of many lines", smallRoom, "job 1\n", room},
		{"a job of one point", smallRoom, "job 4\n", "T4\nG0 X2 Y2\n"},
		{"a job of nothing", smallRoom, "job 9\n", "T9\n"},
		{"a job in four parts", oneHole, "job 2\n", corners},
		{"a job between two holes", besideHoles, "job 1\n", "T1\nG0 X4 Y1\nG1 X4 Y7\nG1 X4 Y1\n"},
		{"jobs, one behind the other", oneHole, "job 2\njob 9\njob 2\n", corners + "T9\n" + corners},

		{"a tool of one figure", oneHole, "parts 2\ncut 2\njob 2\n", "4\n20\n" + corners},
		{"a tool of two figures", oneHole, "parts 02\ncut 02\njob 02\n", "4\n20\n" + corners},
		{"the least tool, of two figures", smallRoom, "parts 01\ncut 01\njob 01\n", "1\n9\n" + room},
		{"the largest tool, of one figure", wholeGrid, "parts 9\ncut 9\n", "1\n64\n"},
		{"the largest tool, of two figures", wholeGrid, "parts 09\ncut 09\n", "1\n64\n"},
		{"two figures, and too large", wholeGrid, "parts 10\ncut 10\njob 10\n", "what\nwhat\nwhat\n"},

		{"no line", smallRoom, "", ""},
		{"one empty line", smallRoom, "\n", "what\n"},
		{"empty lines", smallRoom, "\n\n\n", "what\nwhat\nwhat\n"},
		{"a line of blanks", smallRoom, " \n   \n", "what\nwhat\n"},
		{"no newline", smallRoom, "mid", ""},
		{"no newline behind the last one", smallRoom, "mid\nmost", "2,2\n"},
		{"what is behind the last newline is no line", smallRoom, "mid\nhello", "2,2\n"},
		{"blanks behind the last newline", smallRoom, "mid\n  ", "2,2\n"},
		{"all that may be asked", smallRoom, "in 1,1\nfar 1,1\nmid\nmost\nparts 1\ncut 1\njob 4\n", "in\n1\n2,2\n2,2 4\n1\n9\nT4\nG0 X2 Y2\n"},
		{"all that may be asked, around a hole", oneHole, "job 3\ncut 1\nparts 1\nmost\nmid\nfar 4,4\nin 4,4\n", "T3\n40\n1\n2,2 2\n\n1\nbeyond\n"},
		{"all that may be asked, between two holes", besideHoles, "in 4,1\nfar 4,1\nmost\nparts 1\ncut 1\nparts 2\ncut 2\njob 2\n", "in\n1\n4,1 1\n1\n7\n0\n0\nT2\n"},
		{"lines that are none among others", smallRoom, "hello\nin 1,1\n\nin 1\nmost\njob\njob 4\nwhat\n", "what\nin\nwhat\nwhat\n2,2 4\nwhat\nT4\nG0 X2 Y2\nwhat\n"},

		{"further words", smallRoom, "in 1,1 2,2\nfar 2,2 9,9 hello\nmid 1\nmost 1,1 what\nparts 1 5\ncut 4 0 1\njob 4 1 1\n", "in\n4\n2,2\n2,2 4\n1\n9\nT4\nG0 X2 Y2\n"},
		{"blanks at the beginning", smallRoom, " in 1,1\n  far 2,2\n mid\n   most\n parts 1\n cut 4\n job 4\n", "in\n4\n2,2\n2,2 4\n1\n9\nT4\nG0 X2 Y2\n"},
		{"blanks at the end", smallRoom, "in 1,1 \nfar 2,2  \nmid \nmost   \nparts 1 \ncut 4 \njob 4 \n", "in\n4\n2,2\n2,2 4\n1\n9\nT4\nG0 X2 Y2\n"},
		{"blanks one behind the other", smallRoom, "in  1,1\nfar   2,2\nparts  1\ncut  4\njob    4\n", "in\n4\n1\n9\nT4\nG0 X2 Y2\n"},
		{"blanks everywhere", smallRoom, "  in  1,1  2  \n  mid  hello  \n  job  04  04  \n", "in\n2,2\nT4\nG0 X2 Y2\n"},
	}
}

// firstWords are words that are no first word of a line, or a beginning of one, with what may stand behind them.
func firstWords() []string {
	return []string{
		"i 1,1", "n 1,1", "inn 1,1", "in1,1", "in,1,1", "in,1", "In 1,1", "IN 1,1", "iN 1,1", "inside 1,1", "in\t1,1", "in\u00a01,1", "\tin 1,1", "\rin 1,1", "\x00in 1,1", "\ufeffin 1,1", "in: 1,1", "-in 1,1",
		"f 1,1", "fa 1,1", "farr 1,1", "Far 1,1", "far1,1", "near 1,1", "far\v1,1", "far\x001,1",
		"m", "mi", "midd", "middle", "Mid", "MID", "mid,", "mid.", "mid\t", "mid\r", "mid\x00", "mid\xff", "\tmid", "mid\u00a0", "mid\u2028", "mid\\n", "mid;mid",
		"mo", "mos", "mostly", "Most", "most\t", "most\r", "most,", "mostmid",
		"p 1", "part 1", "par 1", "partss 1", "parts1", "Parts 1", "parts\t1", "parts,1", "art 1",
		"c 1", "cu 1", "cuts 1", "cut1", "Cut 1", "cut\t1", "cut,1",
		"j 1", "jo 1", "jobs 1", "job1", "Job 1", "JOB 1", "job\t1", "job,1", "ob 1",
		"T1", "G0 X1 Y1", "1", "1 in", "1,1", "1,1 in", "2,2 4", "what", "edge", "beyond", "none", "no plate", "too long", "hello", "hello in 1,1", "all", "fits 1 1,1", "best", "0", "-", ",", ".", "\t", "\r", "\x00", "\xff", "\u00e4",
	}
}

// noPoints are words that are no point, or none at all.
func noPoints() []string {
	return []string{
		"", "1", "11", ",", ",1", "1,", ",,", "1,,1", "1,1,", ",1,1", "1,1,1", "1,2,3", "1 1", "1, 1", "1 ,1", "1 , 1", ", 1,1", "1;1", "1.1", "1:1", "1/1", "1x1", "1-1", "1\t1", "1,\t1", "1,1\t", "\t1,1", "1,1\r", "1,1\x00", "1,1,\x00", "1,1;",
		"10,1", "1,10", "10,10", "99,99", "-1,1", "1,-1", "-1,-1", "-0,1", "1,-0", "+1,1", "1,+1", "+0,0", "-,1", "1,+", "01,1", "1,01", "00,0", "0,00", "001,1",
		"a,1", "1,b", "x,y", "X1,Y1", "one,two", "1a,1", "a1,1", "1,1a", "0x1,1", "1e0,1", "1,1e0", "1_0,1", "1.0,1", "1,.1", "(1,1)", "[1,1]", "'1','1'", "\uff11,1", "1,\u0661", "1\uff0c1", "\xb1,1", "1,\xff",
		"4294967297,1", "1,4294967297", "9223372036854775807,1", "-9223372036854775808,1", "1,9223372036854775808", "18446744073709551617,1", "1,340282366920938463463374607431768211457",
		"in 1,1", "far 1,1", "x 1,1",
	}
}

// noTools are words that are no tool, or none at all.
func noTools() []string {
	return []string{
		"", "0", "00", "000", "10", "11", "12", "19", "20", "90", "99", "001", "009", "010", "100", "101", "109", "0001", "0000000009", "257", "65537",
		"a", "b1", "1b", "ab", "one", "I", "l", "O1", "x1", "1x", "0x1", "0b1", "e1", "1e", "1e0", "01a",
		"+1", "-1", "+9", "-9", "-0", "+0", "+", "-", "--", "+-", "1+", "1-", "+01", "-01", "1.", ".1", "1.0", "1,", ",1", "1,1", "1;", "1_", "_1", "1_0", "(1)", "T1", "#1", "1%", "1/1",
		"\uff11", "\u0661", "\u00b9", "\u00b2", "\xb9", "1\xff", "\xff1", "1\x00", "\x001", "1\t", "\t1", "1\r", "1\v", "1\u00a0",
		"4294967297", "4294967305", "9223372036854775807", "-9223372036854775807", "18446744073709551617", "340282366920938463463374607431768211457",
		"job 1", "x 1",
	}
}

// textOf is the text of however many points.
func textOf(pts []impl.Pt) string {
	var words []string
	for _, at := range pts {
		words = append(words, strconv.Itoa(at.X)+","+strconv.Itoa(at.Y))
	}
	return strings.Join(words, " ")
}

// whereWords are the words of where a point may be.
func whereWords() map[int]string {
	return map[int]string{1: "in", 0: "edge", -1: "beyond"}
}

var lineWritten = regexp.MustCompile(`\A *(?:(in|far) +([0-9]),([0-9])|(mid|most)|(parts|cut|job) +([0-9]{1,2}))(?: (?s:.*))?\z`)

// lineByCalls is what is told of one line, by how it must look, and by the functions of the chapters before.
func lineByCalls(p impl.Plate, line string) string {
	m := lineWritten.FindStringSubmatch(line)
	if m == nil {
		return "what\n"
	}
	if m[1] != "" {
		return pointByFoot(p, m[1], impl.Pt{X: int(m[2][0] - '0'), Y: int(m[3][0] - '0')})
	}
	if m[5] != "" {
		return toolByCalls(p, m[5], m[6])
	}
	if m[4] == "mid" {
		return textOf(impl.MidOf(p)) + "\n"
	}
	at, far, ok := impl.MidMost(p)
	if !ok {
		return "none\n"
	}
	return textOf([]impl.Pt{at}) + " " + impl.FracText(far) + "\n"
}

// pointByFoot is what is told of a point, by rays, and by the nearest points of edges.
func pointByFoot(p impl.Plate, word string, at impl.Pt) string {
	if word == "in" {
		return whereWords()[plateInByRay(p, at)] + "\n"
	}
	far, _ := nearByFoot(p, at)
	if far.D == 1 {
		return strconv.Itoa(far.N) + "\n"
	}
	return strconv.Itoa(far.N) + "/" + strconv.Itoa(far.D) + "\n"
}

// toolByCalls is what is told of a tool of one figure, or two.
func toolByCalls(p impl.Plate, word string, figures string) string {
	r := 0
	for _, figure := range figures {
		r = 10*r + int(figure-'0')
	}
	if !slices.Contains(allTools(), r) {
		return "what\n"
	}
	switch word {
	case "parts":
		return strconv.Itoa(len(impl.ToolParts(p, r))) + "\n"
	case "cut":
		return strconv.Itoa(len(impl.JobCut(p, []int{r}))) + "\n"
	}
	return impl.JobRun(p, []int{r})
}

// linesByCalls is what is told of a text, line by line.
func linesByCalls(p impl.Plate, text string) string {
	lines := strings.Split(text, "\n")
	told := ""
	for _, line := range lines[:len(lines)-1] {
		told += lineByCalls(p, line)
	}
	return told
}

// checkLines asks for what is told of a text, and whether that is as many lines at least, each with a newline.
func checkLines(t *testing.T, what string, plate string, text string, told string) {
	t.Helper()
	got := impl.LinesRun(plate, text)
	if got != told {
		t.Fatalf("%s: LinesRun(%q, %q) = %q, not %q", what, plate, text, got, told)
	}
	if len(text) <= linesMost && strings.Count(got, "\n") < strings.Count(text, "\n") {
		t.Fatalf("%s: LinesRun(%q, %q) = %q, of fewer lines", what, plate, text, got)
	}
	if got != "" && !strings.HasSuffix(got, "\n") {
		t.Fatalf("%s: LinesRun(%q, %q) = %q, without a newline at its end", what, plate, text, got)
	}
}

// linesPlates are the texts of the plates of which lines ask.
func linesPlates() []string {
	out := []string{smallRoom, oneHole, twoHoles, besideHoles, wholeGrid, twoRooms, cornerIn, barAndStem, threeArms, noneInIt, oneAslant, aroundGap, noRoom}
	for _, k := range knownPlates() {
		out = append(out, k.text)
	}
	for _, k := range knownMiddles() {
		out = append(out, k.text)
	}
	return out
}

// P101, P103, P104 and P105: by texts of which it is known what is told; each first word, and what may be wrong.
func TestKnownLines(t *testing.T) {
	for _, k := range knownLines() {
		checkLines(t, k.what, k.plate, k.text, k.told)
		if byCalls := linesByCalls(plainPlate(k.plate), k.text); byCalls != k.told {
			t.Errorf("%s: by calls %q is told %q, not %q", k.what, k.text, byCalls, k.told)
		}
	}
}

// P101: each first word, of all points, and of all tools, on many plates.
func TestLinesOfManyPlates(t *testing.T) {
	for i, plate := range linesPlates() {
		p := plainPlate(plate)
		for y := 0; y <= impl.GridMax; y++ {
			text, told := "", ""
			for x := 0; x <= impl.GridMax; x++ {
				at := impl.Pt{X: x, Y: y}
				text += "in " + textOf([]impl.Pt{at}) + "\nfar " + textOf([]impl.Pt{at}) + "\n"
				told += pointByFoot(p, "in", at) + pointByFoot(p, "far", at)
			}
			checkLines(t, "a row", plate, text, told)
		}
		tools := []int{1, 4, allTools()[i%9]}
		for _, r := range tools {
			figure := strconv.Itoa(r)
			run, cut := jobByCalls(p, []int{r})
			told := strconv.Itoa(len(impl.ToolParts(p, r))) + "\n" + strconv.Itoa(len(cut)) + "\n" + run
			checkLines(t, "a tool", plate, "parts "+figure+"\ncut "+figure+"\njob "+figure+"\n", told)
		}
	}
	for _, k := range knownMiddles() {
		most := "none\n"
		if k.most != "" {
			most = k.most + " " + k.far + "\n"
		}
		checkLines(t, k.what, k.text, "mid\nmost\n", k.mids+"\n"+most)
	}
	for _, k := range knownTools() {
		checkLines(t, k.what, k.text, "parts "+strconv.Itoa(k.r)+"\n", strconv.Itoa(len(k.sizes))+"\n")
	}
	for _, k := range knownJobs() {
		if len(k.tools) == 1 {
			r := strconv.Itoa(k.tools[0])
			checkLines(t, k.what, k.text, "job "+r+"\ncut "+r+"\n", k.run+strconv.Itoa(len(plainPts(k.cut)))+"\n")
		}
	}
}

// P101 and P105: all words of up to three figures, of which only those of one, or two, may be a tool.
func TestLinesOfFigures(t *testing.T) {
	p := plainPlate(oneHole)
	var words []string
	for n := range 1000 {
		figures := strconv.Itoa(n + 1000)[1:]
		words = append(words, figures)
		if n < 100 {
			words = append(words, figures[1:])
		}
		if n < 10 {
			words = append(words, figures[2:])
		}
	}
	tools := 0
	for _, word := range words {
		for _, ask := range []string{"parts", "cut", "job"} {
			told := "what\n"
			if len(word) < 3 {
				told = toolByCalls(p, ask, word)
			}
			checkLines(t, "figures", oneHole, ask+" "+word+"\n", told)
			if told != "what\n" {
				tools++
			}
		}
	}
	if tools != 3*2*impl.ToolMax {
		t.Errorf("there are %d lines of a tool", tools)
	}
}

// P102: any two known texts of one plate, one behind the other, and some of other ones; the first one ends with its last newline.
func TestLinesOneBehindTheOther(t *testing.T) {
	known := knownLines()
	both := 0
	for i, one := range known {
		if one.text != "" && !strings.HasSuffix(one.text, "\n") {
			continue
		}
		for j, other := range known {
			what := one.what + ", " + other.what
			switch {
			case len(one.text)+len(other.text) > linesMost:
			case one.plate == other.plate:
				checkLines(t, what, one.plate, one.text+other.text, one.told+other.told)
				both++
			case (i+j)%10 == 0:
				checkLines(t, what, one.plate, one.text+other.text, one.told+impl.LinesRun(one.plate, other.text))
			}
		}
	}
	if both < 1000 {
		t.Errorf("there are but %d texts of two", both)
	}
}

// P102: what the first text leaves behind its last newline goes on in the second one.
func TestLinesThatGoOn(t *testing.T) {
	cases := []struct{ one, other, told string }{
		{"mi", "d\n", "2,2\n"},
		{"mid", "\n", "2,2\n"},
		{"in 1,1", "\nmid\n", "in\n2,2\n"},
		{"in 1,1", "mid\n", "what\n"},
		{"in 1,", "1\n", "in\n"},
		{"cut ", "4\n", "9\n"},
		{"cut", "4\n", "what\n"},
		{"cut 0", "4\n", "9\n"},
		{"mid", " \n", "2,2\n"},
		{"most\nmid", "most\n", "2,2 4\nwhat\n"},
	}
	for _, c := range cases {
		checkLines(t, "goes on", smallRoom, c.one+c.other, c.told)
	}
}

// eachSquareAt goes through where a square of some steps may be on the grid.
func eachSquareAt(steps int, f func(left int, low int)) {
	for low := 0; low+steps <= impl.GridMax; low++ {
		for left := 0; left+steps <= impl.GridMax; left++ {
			f(left, low)
		}
	}
}

// squareText is the line of a square, from its lowest point on the left on.
func squareText(left int, low int, steps int) string {
	right, high := left+steps, low+steps
	return textOf(ptsOf(left, low, right, low, right, high, left, high)) + "\n"
}

// deepIn is how deep a place is in a stretch; below 0 beyond it.
func deepIn(n int, first int, steps int) int {
	return min(n-first, first+steps-n)
}

// squareAndFar is how deep a point is in a square, below 0 beyond it, and how far from its edges, squared.
func squareAndFar(at impl.Pt, left int, low int, steps int) (int, int) {
	across, up := deepIn(at.X, left, steps), deepIn(at.Y, low, steps)
	deep := min(across, up)
	if deep >= 0 {
		return deep, deep * deep
	}
	past, above := min(across, 0), min(up, 0)
	return deep, past*past + above*above
}

// P103: wherever the square is, from each of its points on, and both ways about.
func TestLinesOfASquareOfFour(t *testing.T) {
	parts, cuts := []int{1, 1, 1, 1, 0, 0, 0, 0, 0}, []int{9, 5, 9, 9, 0, 0, 0, 0, 0}
	eachSquareAt(4, func(left int, low int) {
		plate := squareText(left, low, 4)
		for y := 0; y <= impl.GridMax; y++ {
			text, told := "", ""
			for x := 0; x <= impl.GridMax; x++ {
				at := impl.Pt{X: x, Y: y}
				deep, far := squareAndFar(at, left, low, 4)
				text += "in " + textOf([]impl.Pt{at}) + "\nfar " + textOf([]impl.Pt{at}) + "\n"
				told += whereWords()[max(-1, min(deep, 1))] + "\n" + strconv.Itoa(far) + "\n"
			}
			checkLines(t, "a row", plate, text, told)
		}
		middle := textOf(ptsOf(left+2, low+2))
		text, told := "mid\nmost\n", middle+"\n"+middle+" 4\n"
		for i, r := range allTools() {
			text += "parts " + strconv.Itoa(r) + "\ncut 0" + strconv.Itoa(r) + "\n"
			told += strconv.Itoa(parts[i]) + "\n" + strconv.Itoa(cuts[i]) + "\n"
		}
		for _, r := range []string{"2", "3", "4"} {
			text += "job " + r + "\n"
			told += "T" + r + "\nG0 X" + strconv.Itoa(left+2) + " Y" + strconv.Itoa(low+2) + "\n"
		}
		text += "job 5\n"
		told += "T5\n"
		checkLines(t, "a square of four", plate, text, told)
		eachBegun(plainPlate(plate), func(q impl.Plate) {
			checkLines(t, "a square of four", impl.PlateText(q), text, told)
		})
	})
}

// P104: wherever the square is, both loops from any point on, and both ways about.
func TestLinesOfASquareOfEightWithAHole(t *testing.T) {
	eachSquareAt(8, func(left int, low int) {
		plate := squareText(left, low, 8) + squareText(left+3, low+3, 2)
		for y := 0; y <= impl.GridMax; y++ {
			text, told := "", ""
			for x := 0; x <= impl.GridMax; x++ {
				at := impl.Pt{X: x, Y: y}
				deep, far := squareAndFar(at, left, low, 8)
				holeDeep, holeFar := squareAndFar(at, left+3, low+3, 2)
				text += "far " + textOf([]impl.Pt{at}) + "\nin " + textOf([]impl.Pt{at}) + "\n"
				told += strconv.Itoa(min(far, holeFar)) + "\n" + whereWords()[max(-1, min(deep, -holeDeep, 1))] + "\n"
			}
			checkLines(t, "a row", plate, text, told)
		}
		text := "parts 1\nparts 2\nparts 3\nparts 4\nparts 9\ncut 1\ncut 2\ncut 3\nmid\nmost\n"
		told := "1\n4\n0\n0\n0\n40\n20\n0\n\n" + textOf(ptsOf(left+2, low+2)) + " 2\n"
		checkLines(t, "a square of eight", plate, text, told)
		eachBegun(plainPlate(plate), func(q impl.Plate) {
			checkLines(t, "a square of eight", impl.PlateText(q), text, told)
		})
	})
}

// P105: each by itself, and among lines that are some.
func TestLinesThatAreNone(t *testing.T) {
	var lines []string
	lines = append(lines, firstWords()...)
	for _, point := range noPoints() {
		lines = append(lines, "in "+point, "far "+point)
	}
	for _, tool := range noTools() {
		lines = append(lines, "parts "+tool, "cut "+tool, "job "+tool)
	}
	lines = append(lines, "", " ", "  ", "in", "far", "parts", "cut", "job", " in", "job  ", "  cut  ")
	for _, line := range lines {
		for _, plate := range []string{smallRoom, oneHole, besideHoles, noneInIt} {
			checkLines(t, "no line", plate, line+"\n", "what\n")
			checkLines(t, "no newline", plate, line, "")
			checkLines(t, "no line, twice", plate, line+"\n"+line+"\n", "what\nwhat\n")
		}
		checkLines(t, "no line, among others", smallRoom, "in 1,1\n"+line+"\nmost\n"+line+"\n", "in\nwhat\n2,2 4\nwhat\n")
		checkLines(t, "no line, behind blanks", smallRoom, "  "+line+"\nmid\n", "what\n2,2\n")
	}
}

// P101 and P105: lines of which one byte is another one, one more, or one less.
func TestLinesOneByteOff(t *testing.T) {
	p := plainPlate(smallRoom)
	some, what := 0, 0
	for _, line := range []string{"in 1,1\n", "far 3,9\n", "mid\n", "most\n", "parts 2\n", "cut 04\n", "job 1\n", "  in  2,2  0\n", "cut 9\nmid\n"} {
		eachByteOff(line, func(off string) {
			told := linesByCalls(p, off)
			checkLines(t, "one byte off", smallRoom, off, told)
			if strings.Contains(told, "what\n") {
				what++
			} else if told != "" {
				some++
			}
		})
	}
	if some < 500 || what < 5000 {
		t.Errorf("there are but %d texts of lines that are told, and %d of one that is none", some, what)
	}
}

// someLines is a text of words that a line may have, and of some that are none, as chance has it.
func someLines(dice *rand.Rand) string {
	words := []string{"in", "far", "mid", "most", "parts", "cut", "job", "in", "far", "job", "what", "i", "In", "1,1", "4,0", "9,9", "2,2", "10,1", "1", "4", "09", "9", "10", "0", "-1", "x"}
	between := []string{" ", " ", " ", "\n", "\n", "  ", "\t", "", "\n\n", " \n"}
	text := ""
	for range dice.IntN(40) {
		text += words[dice.IntN(len(words))] + between[dice.IntN(len(between))]
	}
	return text[:min(len(text), linesMost)]
}

// P101, P102 and P105: texts as chance has them, the same each time; what is told of the first lines, and of the others, is told of all.
func TestLinesOfSomeWords(t *testing.T) {
	dice := rand.New(rand.NewPCG(31, 101))
	plates := linesPlates()
	long := 0
	for i := range 3000 {
		plate, text := plates[i%len(plates)], someLines(dice)
		told := linesByCalls(plainPlate(plate), text)
		checkLines(t, "some words", plate, text, told)
		if strings.Count(text, "\n") < 2 {
			continue
		}
		long++
		cut := strings.IndexByte(text, '\n') + 1
		if parts := impl.LinesRun(plate, text[:cut]) + impl.LinesRun(plate, text[cut:]); parts != told {
			t.Fatalf("LinesRun(%q, %q) = %q, of the first line and the others %q", plate, text, told, parts)
		}
	}
	if long < 1000 {
		t.Errorf("there are but %d texts of two lines, or more", long)
	}
}

// P101 and P105: texts of just as many bytes as may be, and of one more.
func TestLinesOfAsManyBytesAsMayBe(t *testing.T) {
	cases := []struct {
		what string
		text string
		told string
	}{
		{"lines", strings.Repeat("mid\n", 75), strings.Repeat("2,2\n", 75)},
		{"lines, and some behind the last newline", strings.Repeat("mid\n", 74) + "most", strings.Repeat("2,2\n", 74)},
		{"empty lines", strings.Repeat("\n", 300), strings.Repeat("what\n", 300)},
		{"jobs", strings.Repeat("job 4\n", 50), strings.Repeat("T4\nG0 X2 Y2\n", 50)},
		{"one line, and blanks at its end", "mid" + strings.Repeat(" ", 296) + "\n", "2,2\n"},
		{"one line, and blanks at its beginning", strings.Repeat(" ", 296) + "mid\n", "2,2\n"},
		{"one line, and blanks between its words", "in" + strings.Repeat(" ", 294) + "1,1\n", "in\n"},
		{"one line, and further words", "mid" + strings.Repeat(" x", 148) + "\n", "2,2\n"},
		{"one word", strings.Repeat("m", 299) + "\n", "what\n"},
		{"blanks", strings.Repeat(" ", 300), ""},
		{"no newline", strings.Repeat("m", 300), ""},
		{"runes of two bytes", strings.Repeat("\u00e4", 150), ""},
		{"runes of three bytes", strings.Repeat("\u20ac", 99) + "\u00e4\n", "what\n"},
	}
	for _, c := range cases {
		if len(c.text) != linesMost {
			t.Fatalf("%s: %q has %d bytes", c.what, c.text, len(c.text))
		}
		checkLines(t, c.what, smallRoom, c.text, c.told)
		checkLines(t, c.what+", without the first byte", smallRoom, c.text[1:], linesByCalls(plainPlate(smallRoom), c.text[1:]))
		for _, more := range []string{"\n", " ", "m", "\x00", "mid\n", "\xff"} {
			checkLines(t, c.what+", and more", smallRoom, c.text+more, "too long\n")
			checkLines(t, c.what+", and more ahead", smallRoom, more+c.text, "too long\n")
			checkLines(t, c.what+", and more", oneHole, c.text+more, "too long\n")
			checkLines(t, c.what+", and more, of no plate", "", c.text+more, "no plate\n")
		}
	}
	for _, size := range []int{301, 302, 400, 511, 512, 513, 600, 1<<16 + 4, 1 << 20} {
		for _, fill := range []string{"mid\n", "\n", " ", "m", "\x00", "\u00e4"} {
			checkLines(t, "too long", smallRoom, strings.Repeat(fill, size)[:size], "too long\n")
		}
	}
	if text := strings.Repeat("\u00e4", 151); impl.LinesRun(smallRoom, text) != "too long\n" {
		t.Errorf("LinesRun of 151 runes, of two bytes each, is %q", impl.LinesRun(smallRoom, text))
	}
}

// P101 and P105: what is no plate, whatever the other text is.
func TestLinesOfNoPlate(t *testing.T) {
	texts := []string{"", "\n", "mid", "mid\n", "in 1,1\nmost\n", "hello\n", strings.Repeat("mid\n", 75), strings.Repeat("mid\n", 75) + "m", strings.Repeat("\n", 1<<16)}
	check := func(what string, plate string) {
		t.Helper()
		for _, text := range texts {
			checkNoLines(t, what, plate, text)
		}
	}
	for _, k := range knownBadPlates() {
		check(k.what, strings.Join(k.loops, "\n")+"\n")
	}
	for _, k := range knownPlates() {
		check("no newline", k.text[:len(k.text)-1])
		check("an empty line at its end", k.text+"\n")
		check("an empty line at its beginning", "\n"+k.text)
		check("a blank at its beginning", " "+k.text)
		check("its last loop twice", k.text+k.text[strings.LastIndexByte(k.text[:len(k.text)-1], '\n')+1:])
		check("a line of the other text behind it", k.text+"mid\n")
		check("too long", k.text+strings.Repeat("1,1 2,1 1,2\n", 20))
	}
	for _, plate := range []string{"", "\n", " ", "mid\n", "in 1,1\n", "0,0\n", "0,0 4,0\n", "0,0 4,0 4,4 0,10\n", "0,0 4,0 4,4 0,4\r\n", "\x00", "\xff\n", "hello", strings.Repeat(" ", 1<<16)} {
		check("no plate", plate)
	}
}

func checkNoLines(t *testing.T, what string, plate string, text string) {
	t.Helper()
	if told := impl.LinesRun(plate, text); told != "no plate\n" {
		t.Fatalf("%s: LinesRun(%q, a text of %d bytes) = %q", what, plate, len(text), told)
	}
}

// P101: a text that is one byte off that of a plate is told no plate just if PlateRead does not take it.
func TestLinesOfPlatesOneByteOff(t *testing.T) {
	plates := 0
	for _, plate := range []string{smallRoom, oneHole} {
		eachByteOff(plate, func(off string) {
			if _, ok := impl.PlateRead(off); !ok {
				checkNoLines(t, "one byte off", off, "most\n")
				return
			}
			plates++
			checkLines(t, "one byte off", off, "most\n", linesByCalls(plainPlate(off), "most\n"))
		})
	}
	if plates < 100 {
		t.Errorf("there are but %d plates one byte off another one", plates)
	}
}

// P101 to P105: the same is told while others ask, too, lines that are none among them, and no call leaves a goroutine behind.
func TestLinesWhileOthersAsk(t *testing.T) {
	before := runtime.NumGoroutine()
	for _, k := range knownLines() {
		checkWhileOthersAsk(t, k.what, func() string {
			return impl.LinesRun(k.plate, k.text) + impl.LinesRun(k.plate, "\nhello\n"+k.text) + impl.LinesRun(k.text, k.text)
		})
	}
	checkNoMoreRun(t, before)
}
