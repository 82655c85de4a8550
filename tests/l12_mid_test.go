package tests

import (
	"cmp"
	"runtime"
	"slices"
	"sync"
	"testing"
	"time"

	"loop.example/mortiser/impl"
)

// knownMiddle is a plate, how many points of the grid are in it, which of them are in the middle, and which is the farthest, and how far.
type knownMiddle struct {
	what string
	text string
	many int
	mids string
	most string
	far  string
}

func knownMiddles() []knownMiddle {
	return []knownMiddle{
		{"none in it, the smallest plate", "0,0 1,0 0,1\n", 0, "", "", ""},
		{"none in it, the smallest square", "0,0 1,0 1,1 0,1\n", 0, "", "", ""},
		{"none in it, but some on a slant", "0,0 2,0 0,2\n", 0, "", "", ""},
		{"none in it, all across", "0,0 9,0 9,1\n", 0, "", "", ""},
		{"none in it, as a hole leaves none", "0,0 9,0 9,9 0,9\n1,1 8,1 8,8 1,8\n", 0, "", "", ""},
		{"none in it, as two holes leave none", "0,0 9,0 9,9 0,9\n1,1 4,1 4,8 1,8\n5,1 8,1 8,8 5,8\n", 0, "", "", ""},
		{"one, between four edges", "0,0 2,0 2,2 0,2\n", 1, "1,1", "1,1", "1"},
		{"one, nearest to one edge", "0,0 3,0 0,3\n", 1, "", "1,1", "1/2"},
		{"one, in the grid's last corner", "9,9 7,9 7,7 9,7\n", 1, "8,8", "8,8", "1"},
		{"one, as a hole leaves no other", "0,0 4,0 4,4 0,4\n1,1 3,1 3,2 2,2 2,3 1,3\n", 1, "3,3", "3,3", "1"},
		{"all of the grid: two nearest edges touch in a corner; four are farthest", "0,0 9,0 9,9 0,9\n", 64, "", "4,4", "16"},
		{"all of the grid, to the right", "0,0 0,9 9,9 9,0\n", 64, "", "4,4", "16"},
		{"a square, with four edges as near to one point", "0,0 4,0 4,4 0,4\n", 9, "2,2", "2,2", "4"},
		{"a square that stands on a corner", "4,0 8,4 4,8 0,4\n", 25, "4,4", "4,4", "8"},
		{"a strip: three edges as near at its ends, of which two do not touch", "0,0 6,0 6,2 0,2\n", 5, "1,1 2,1 3,1 4,1 5,1", "1,1", "1"},
		{"a strip that goes up", "0,0 2,0 2,6 0,6\n", 5, "1,1 1,2 1,3 1,4 1,5", "1,1", "1"},
		{"a strip of three steps: no point is in its middle", "0,0 6,0 6,3 0,3\n", 10, "", "1,1", "1"},
		{"three edges as near, of which each touches both others", "0,0 4,0 0,3\n", 3, "", "1,1", "1"},
		{"two slants as near, that touch", "0,0 8,0 4,8\n", 25, "", "4,3", "5"},
		{"aslant, none as near to two", "4,0 9,4 5,9 0,5\n", 40, "", "4,4", "256/41"},
		{"as near to two edges, in the corner that comes in", "0,0 6,0 6,3 3,3 3,6 0,6\n", 16, "", "2,2", "2"},
		{"as near to an edge, and to a corner that comes in", "0,0 6,0 6,2 2,2 2,6 0,6\n", 9, "2,1 3,1 4,1 5,1 1,2 1,3 1,4 1,5", "1,1", "1"},
		{"as near to two edges in one line, that do not touch", "0,3 3,3 3,0 5,0 5,3 8,3 8,6 0,6\n", 17, "4,1 4,2 4,3 4,4", "4,4", "2"},
		{"as near to two edges in one line, that meet where nothing turns", "0,0 4,0 8,0 8,9 0,9\n", 56, "4,4 4,5", "4,4", "16"},
		{"a strip, with points at which nothing turns", "0,0 4,0 8,0 8,2 4,2 0,2\n", 7, "1,1 2,1 3,1 4,1 5,1 6,1 7,1", "1,1", "1"},
		{"a square, with a point at which nothing turns", "0,0 2,0 4,0 4,4 0,4\n", 9, "2,2", "2,2", "4"},
		{"around a gap", "0,0 6,0 6,6 4,6 4,2 2,2 2,6 0,6\n", 13, "2,1 3,1 4,1 1,2 5,2 1,3 5,3 1,4 5,4 1,5 5,5", "1,1", "1"},
		{"the farthest ones begin low on the right", "3,0 5,0 5,5 0,5 0,3 3,3\n", 7, "4,1 4,2 4,3 1,4 2,4 3,4", "4,1", "1"},
		{"as near to the hole and the outer loop", "0,0 8,0 8,8 0,8\n2,2 6,2 6,6 2,6\n", 24, "2,1 3,1 4,1 5,1 6,1 1,2 7,2 1,3 7,3 1,4 7,4 1,5 7,5 1,6 7,6 2,7 3,7 4,7 5,7 6,7", "1,1", "1"},
		{"as near to two edges of the hole, that touch", "0,0 8,0 8,8 0,8\n3,3 5,3 5,5 3,5\n", 40, "", "2,2", "2"},
		{"as near to the hole and the outer loop, on two sides", "0,0 9,0 9,9 0,9\n4,2 6,2 6,4 4,4\n", 55, "4,1 5,1 6,1 2,2 2,3 2,4", "3,6", "5"},
		{"the same, to the right", "0,9 9,9 9,0 0,0\n4,4 6,4 6,2 4,2\n", 55, "4,1 5,1 6,1 2,2 2,3 2,4", "3,6", "5"},
		{"a hole with points at which nothing turns", "0,0 9,0 9,9 0,9\n3,3 4,3 5,3 5,4 5,5 4,5 3,5 3,4\n", 55, "7,3 7,4 7,5 3,7 4,7 5,7", "7,2", "4"},
		{"as near to two holes", "0,0 8,0 8,8 0,8\n1,1 3,1 3,7 1,7\n5,1 7,1 7,7 5,7\n", 7, "4,1 4,2 4,3 4,4 4,5 4,6 4,7", "4,1", "1"},
		{"as near to two holes, or to one and the outer loop", "0,0 9,0 9,9 0,9\n1,1 3,1 3,3 1,3\n5,5 5,8 8,8 8,5\n", 39, "4,1 5,2 5,3 7,3 1,4 4,4 8,4 2,5 3,5 3,7 4,8", "5,2", "4"},
		{"two holes, one in the other one's gap", "0,0 9,0 9,9 0,9\n4,4 5,4 5,7 4,7\n1,1 8,1 8,8 6,8 6,3 3,3 3,8 1,8\n", 2, "4,8 5,8", "4,8", "1"},
	}
}

// someMiddlePlates are plates whose middle is asked for.
var someMiddlePlates = sync.OnceValue(func() []impl.Plate {
	out := slices.Clone(somePlates())
	for _, k := range knownMiddles() {
		out = append(out, plainPlate(k.text))
	}
	for _, l := range someLoops() {
		out = append(out, impl.Plate{Outer: l})
	}
	return out
})

// inRows are points row by row.
func inRows(pts []impl.Pt) []impl.Pt {
	return slices.SortedFunc(slices.Values(pts), func(a impl.Pt, b impl.Pt) int {
		return cmp.Or(cmp.Compare(a.Y, b.Y), cmp.Compare(a.X, b.X))
	})
}

// where are the points of which something holds, in their order.
func where(pts []impl.Pt, holds func(at impl.Pt) bool) []impl.Pt {
	var out []impl.Pt
	for _, at := range pts {
		if holds(at) {
			out = append(out, at)
		}
	}
	return out
}

// checkNoMiddle asks all functions of the chapter for what they answer of what has no point in it, or is no plate.
func checkNoMiddle(t *testing.T, what string, p impl.Plate) {
	t.Helper()
	if all := impl.MidAll(p); len(all) != 0 {
		t.Fatalf("%s: MidAll(%v) = %v", what, p, all)
	}
	if mids := impl.MidOf(p); len(mids) != 0 {
		t.Fatalf("%s: MidOf(%v) = %v", what, p, mids)
	}
	if at, far, ok := impl.MidMost(p); ok || at != (impl.Pt{}) || far != (impl.Frac{}) {
		t.Fatalf("%s: MidMost(%v) = %v, %v, %v", what, p, at, far, ok)
	}
}

// P50, P52 and P54: by plates whose middle is known; each loop from any point on, and the other way about.
func TestKnownMiddles(t *testing.T) {
	for _, k := range knownMiddles() {
		p := plainPlate(k.text)
		checkKnownMiddle(t, k, p)
		eachBegun(p, func(q impl.Plate) {
			checkKnownMiddle(t, k, q)
		})
		checkKnownMiddle(t, k, withHoles(p, aboutHoles(p)...))
	}
}

func checkKnownMiddle(t *testing.T, k knownMiddle, p impl.Plate) {
	t.Helper()
	if !impl.PlateOk(p) {
		t.Fatalf("%s: PlateOk(%v) = false", k.what, p)
	}
	if k.many == 0 {
		checkNoMiddle(t, k.what, p)
		return
	}
	if all := impl.MidAll(p); len(all) != k.many {
		t.Errorf("%s: MidAll(%v) = %v, of %d points, not %d", k.what, p, all, len(all), k.many)
	}
	if mids := impl.MidOf(p); !slices.Equal(mids, plainPts(k.mids)) {
		t.Errorf("%s: MidOf(%v) = %v, not %s", k.what, p, mids, k.mids)
	}
	if at, far, ok := impl.MidMost(p); !ok || at != plainPts(k.most)[0] || impl.FracText(far) != k.far {
		t.Errorf("%s: MidMost(%v) = %v, %v, %v, not %s, %s", k.what, p, at, far, ok, k.most, k.far)
	}
}

// P50.
func TestMidAll(t *testing.T) {
	pts := allPts()
	for _, p := range someMiddlePlates() {
		all := impl.MidAll(p)
		if want := where(pts, func(at impl.Pt) bool { return impl.PlateIn(p, at) == 1 }); !slices.Equal(all, want) {
			t.Fatalf("MidAll(%v) = %v, but by PlateIn %v", p, all, want)
		}
		if want := where(pts, func(at impl.Pt) bool { return plateInByRay(p, at) == 1 }); !slices.Equal(all, want) {
			t.Fatalf("MidAll(%v) = %v, but by rays %v", p, all, want)
		}
	}
}

// P51.
func TestMidAllByLoops(t *testing.T) {
	pts := allPts()
	for _, p := range someMiddlePlates() {
		want := len(where(pts, func(at impl.Pt) bool { return impl.LoopIn(p.Outer, at) == 1 }))
		for _, hole := range p.Holes {
			want -= len(where(pts, func(at impl.Pt) bool { return impl.LoopIn(hole, at) != -1 }))
		}
		if all := impl.MidAll(p); len(all) != want {
			t.Fatalf("MidAll(%v) are %d, by its loops %d", p, len(all), want)
		}
	}
}

// P51: by the area of each loop, and by how many points of the grid its edges have.
func TestMidAllByPick(t *testing.T) {
	for _, p := range someMiddlePlates() {
		want := 0
		for i, l := range loopsOf(p) {
			size, on := impl.LoopSize(l), 0
			for _, e := range plainEdges(l) {
				on += len(hadPts(e)) - 1
			}
			in := (max(size, -size) - on + 2) / 2
			if i == 0 {
				want += in
			} else {
				want -= in + on
			}
		}
		if all := impl.MidAll(p); len(all) != want {
			t.Fatalf("MidAll(%v) are %d, by areas %d", p, len(all), want)
		}
	}
}

// P52.
func TestMidOf(t *testing.T) {
	some, none := 0, 0
	for _, p := range someMiddlePlates() {
		all, mids := impl.MidAll(p), impl.MidOf(p)
		edges := impl.PlateEdges(p)
		want := where(all, func(at impl.Pt) bool {
			near := impl.PlateNear(p, at)
			return slices.ContainsFunc(near, func(i int) bool {
				return slices.ContainsFunc(near, func(j int) bool { return !impl.SegMeet(edges[i], edges[j]) })
			})
		})
		if !slices.Equal(mids, want) {
			t.Fatalf("MidOf(%v) = %v, but by PlateNear %v", p, mids, want)
		}
		if len(mids) > 0 {
			some++
		} else if len(all) > 0 {
			none++
		}
	}
	if some < 50 || none < 50 {
		t.Errorf("there are but %d plates with a point in the middle, and %d with none of those in them", some, none)
	}
}

// P52: by the nearest points of all edges, and by where their lines cross.
func TestMidOfByFoot(t *testing.T) {
	pts := allPts()
	for _, p := range someMiddlePlates() {
		want := where(pts, func(at impl.Pt) bool {
			if plateInByRay(p, at) != 1 {
				return false
			}
			_, near := nearByFoot(p, at)
			return slices.ContainsFunc(near, func(e impl.Seg) bool {
				return slices.ContainsFunc(near, func(u impl.Seg) bool { return !meetByLines(e, u) })
			})
		})
		if mids := impl.MidOf(p); !slices.Equal(mids, want) {
			t.Fatalf("MidOf(%v) = %v, not %v", p, mids, want)
		}
	}
}

// P53.
func TestMiddleElsewhere(t *testing.T) {
	for _, p := range someMiddlePlates() {
		for _, move := range []func(impl.Pt) impl.Pt{otherSide, exchanged} {
			q := movedPlate(p, move)
			if all, there := impl.MidAll(p), impl.MidAll(q); !slices.Equal(there, inRows(movedPts(all, move))) {
				t.Fatalf("MidAll(%v) = %v, on the other side, or exchanged, %v", p, all, there)
			}
			if mids, there := impl.MidOf(p), impl.MidOf(q); !slices.Equal(there, inRows(movedPts(mids, move))) {
				t.Fatalf("MidOf(%v) = %v, on the other side, or exchanged, %v", p, mids, there)
			}
		}
	}
}

// P54.
func TestMidMost(t *testing.T) {
	several, none := 0, 0
	for _, p := range someMiddlePlates() {
		all := impl.MidAll(p)
		at, far, ok := impl.MidMost(p)
		if ok != (len(all) > 0) {
			t.Fatalf("MidMost(%v) is %v, with %d points in it", p, ok, len(all))
		}
		if !ok {
			none++
			checkNoMiddle(t, "no point in it", p)
			continue
		}
		if impl.PlateIn(p, at) != 1 || far != impl.PlateFar(p, at) {
			t.Fatalf("MidMost(%v) = %v, %v, but PlateIn is %d, and PlateFar %v", p, at, far, impl.PlateIn(p, at), impl.PlateFar(p, at))
		}
		farthest := where(all, func(other impl.Pt) bool { return notMoreThan(t, far, impl.PlateFar(p, other)) })
		if farthest[0] != at || slices.ContainsFunc(farthest, func(other impl.Pt) bool { return impl.PlateFar(p, other) != far }) {
			t.Fatalf("MidMost(%v) = %v, %v, but as far, or farther, are %v", p, at, far, farthest)
		}
		if len(farthest) > 1 {
			several++
		}
	}
	if several < 50 || none < 20 {
		t.Errorf("there are but %d plates with several points that are farthest, and %d with none", several, none)
	}
}

// P54: by rays, and by the nearest points of all edges.
func TestMidMostByFoot(t *testing.T) {
	pts := allPts()
	for _, p := range someMiddlePlates() {
		var want impl.Pt
		var most impl.Frac
		for _, at := range where(pts, func(at impl.Pt) bool { return plateInByRay(p, at) == 1 }) {
			far, _ := nearByFoot(p, at)
			if most.D == 0 || rat(far.N, far.D).Cmp(rat(most.N, most.D)) > 0 {
				want, most = at, far
			}
		}
		if at, far, ok := impl.MidMost(p); at != want || far != most || ok != (most.D > 0) {
			t.Fatalf("MidMost(%v) = %v, %v, %v, not %v, %v", p, at, far, ok, want, most)
		}
	}
}

// P55.
func TestMidMostElsewhere(t *testing.T) {
	for _, p := range someMiddlePlates() {
		_, far, ok := impl.MidMost(p)
		for _, move := range []func(impl.Pt) impl.Pt{otherSide, exchanged} {
			if _, there, ok2 := impl.MidMost(movedPlate(p, move)); there != far || ok2 != ok {
				t.Fatalf("MidMost(%v) is %v, %v, on the other side, or exchanged, %v, %v", p, far, ok, there, ok2)
			}
		}
	}
}

// P55.
func TestMidMostWithoutAHole(t *testing.T) {
	as, farther := 0, 0
	for _, p := range someMiddlePlates() {
		_, far, ok := impl.MidMost(p)
		for i := range p.Holes {
			_, without, found := impl.MidMost(withoutHole(p, i))
			if !found {
				t.Fatalf("there is no point in %v without hole %d", p, i)
			}
			if ok && !notMoreThan(t, far, without) {
				t.Fatalf("MidMost(%v) is as far as %v, without hole %d %v", p, far, i, without)
			}
			if far == without {
				as++
			} else {
				farther++
			}
		}
	}
	if as < 10 || farther < 10 {
		t.Errorf("without a hole but %d are as far, and %d farther", as, farther)
	}
}

// P56.
func TestMidOfIsNearToTwoEdges(t *testing.T) {
	for _, p := range someMiddlePlates() {
		edges := impl.PlateEdges(p)
		for _, at := range impl.MidOf(p) {
			if near := impl.PlateNear(p, at); len(near) < 2 {
				t.Fatalf("of %v, %v is in the middle, but nearest are %v", p, at, near)
			}
			if impl.PlateIn(p, at) != 1 || slices.ContainsFunc(edges, func(e impl.Seg) bool { return impl.SegHas(e, at) }) {
				t.Fatalf("of %v, %v is in the middle, but on an edge, or beyond", p, at)
			}
		}
	}
}

// P50, P52 and P54: of a plate that is moved all points move with it.
func TestMiddleMoved(t *testing.T) {
	stays := 0
	for _, p := range someMiddlePlates() {
		for _, move := range []func(impl.Pt) impl.Pt{oneAcross, oneUp} {
			q := movedPlate(p, move)
			if !impl.PlateOk(q) {
				checkNoMiddle(t, "moved beyond the grid", q)
				continue
			}
			stays++
			if all, there := impl.MidAll(p), impl.MidAll(q); !slices.Equal(there, movedPts(all, move)) {
				t.Fatalf("MidAll(%v) = %v, moved %v", p, all, there)
			}
			if mids, there := impl.MidOf(p), impl.MidOf(q); !slices.Equal(there, movedPts(mids, move)) {
				t.Fatalf("MidOf(%v) = %v, moved %v", p, mids, there)
			}
			at, far, ok := impl.MidMost(p)
			if to, there, ok2 := impl.MidMost(q); ok2 != ok || there != far || ok && to != move(at) {
				t.Fatalf("MidMost(%v) = %v, %v, %v, moved %v, %v, %v", p, at, far, ok, to, there, ok2)
			}
		}
	}
	if stays < 50 {
		t.Errorf("there are but %d plates that may be moved", stays)
	}
}

// P50 to P56: what is no plate has no middle.
func TestMiddleOfWrongPlates(t *testing.T) {
	eachWrongPlate(func(what string, p impl.Plate) {
		checkNoMiddle(t, what, p)
	})
}

// P50 to P56: nothing is written into an argument, or behind its end.
func TestMiddlesLeaveArgumentsAlone(t *testing.T) {
	plates := slices.Clone(someMiddlePlates())
	for _, k := range knownBadPlates() {
		plates = append(plates, plateOf(k.loops...))
	}
	for _, p := range plates {
		given, whole := withSpare(p)
		_, want := withSpare(p)
		impl.MidOf(given)
		impl.MidMost(given)
		impl.MidAll(given)
		if !slices.EqualFunc(whole, want, slices.Equal) {
			t.Fatalf("%v was made %v", want, whole)
		}
	}
}

// P50 and P52: each answer is new memory, spare room included.
func TestMiddleAnswersAreNew(t *testing.T) {
	for _, k := range knownMiddles() {
		p := plainPlate(k.text)
		for _, ask := range []func(impl.Plate) []impl.Pt{impl.MidOf, impl.MidAll} {
			first, second := ask(p), ask(p)
			want := slices.Clone(second)
			clear(first[:cap(first)])
			if !slices.Equal(second, want) || !samePlate(p, plainPlate(k.text)) {
				t.Fatalf("%s: answers share memory with each other, or with the plate", k.what)
			}
		}
	}
}

// middleOf is all that the chapter tells of a plate.
type middleOf struct {
	mids []impl.Pt
	all  []impl.Pt
	at   impl.Pt
	far  impl.Frac
	ok   bool
}

func askMiddle(p impl.Plate) middleOf {
	m := middleOf{mids: impl.MidOf(p), all: impl.MidAll(p)}
	m.at, m.far, m.ok = impl.MidMost(p)
	return m
}

func (m middleOf) same(other middleOf) bool {
	return slices.Equal(m.mids, other.mids) && slices.Equal(m.all, other.all) && m.at == other.at && m.far == other.far && m.ok == other.ok
}

// P50, P52 and P54: the same is told however the rows are reckoned: by one processor, and while others ask, too.
func TestMiddleHoweverItIsReckoned(t *testing.T) {
	for _, k := range knownMiddles() {
		p := plainPlate(k.text)
		want := askMiddle(p)
		before := runtime.GOMAXPROCS(1)
		alone := askMiddle(p)
		runtime.GOMAXPROCS(before)
		if !alone.same(want) {
			t.Fatalf("%s: by one processor %v, by several %v", k.what, alone, want)
		}
		told := make([]middleOf, 16)
		var all sync.WaitGroup
		for i := range told {
			all.Go(func() { told[i] = askMiddle(p) })
		}
		all.Wait()
		for _, m := range told {
			if !m.same(want) {
				t.Fatalf("%s: while others ask %v, alone %v", k.what, m, want)
			}
		}
	}
}

// P50, P52 and P54: no call leaves a goroutine behind.
func TestMiddleLeavesNothingRunning(t *testing.T) {
	before := runtime.NumGoroutine()
	for _, p := range someMiddlePlates() {
		askMiddle(p)
	}
	checkNoMoreRun(t, before)
}

// checkNoMoreRun asks whether there are more goroutines than before.
func checkNoMoreRun(t *testing.T, before int) {
	t.Helper()
	// One that has told that it is done may need a moment to end.
	for range 1000 {
		if runtime.NumGoroutine() <= before {
			return
		}
		time.Sleep(time.Millisecond)
	}
	t.Errorf("there were %d goroutines, and now there are %d", before, runtime.NumGoroutine())
}
