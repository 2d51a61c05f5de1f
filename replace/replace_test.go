package replace_test

import (
	"math"
	"slices"
	"testing"

	"samara/api"
	"samara/arena"
	"samara/cell"
	"samara/latch"
	"samara/rcu"
	"samara/replace"
	"samara/seek"
	"samara/slot"
	"samara/trail"
	"samara/walk"
)

// access is what a task is awaited to do next: to load the value v from a cell, or to
// store it there. A cell that isn't there is -1.
type access struct {
	store bool
	at    int
	v     int64
}

func load(at int, v int64) access  { return access{false, at, v} }
func store(at int, v int64) access { return access{true, at, v} }

// handle puts a slot and a generation together.
func handle(slot, generation int64) int64 {
	return generation*65536 + slot
}

// word answers where a slot's word stands in a land of n slots.
func word(n, slot, w int) int {
	return 24 + 2*n + 28*(slot-1) + w
}

// cells tells all cells of a land.
func cells(l *replace.Land) []int64 {
	return l.M.Look(0, l.M.Size())
}

// lay makes a land's cells what is given.
func lay(l *replace.Land, w []int64) {
	for i, v := range w {
		l.M.Store(i, v)
	}
}

// get tells what is in a cell.
func get(l *replace.Land, at int) int64 {
	return l.M.Look(at, 1)[0]
}

// run runs a task till it is over, and answers how many accesses that took.
func run(t *testing.T, l *replace.Land, task trail.Task) int {
	t.Helper()
	x := trail.New(l.M)
	for i := 0; i < 10000 && !x.Over(); i++ {
		x.Step(i, task)
	}
	if !x.Over() {
		t.Fatal("the task isn't over")
	}
	return x.Steps()
}

// take, and what follows it, do one call by a trail of its own.
func take(t *testing.T, l *replace.Land) (h int64) {
	t.Helper()
	run(t, l, func(x *trail.Trail) { h = replace.Take(x, l) })
	return h
}

func give(t *testing.T, l *replace.Land, h int64) {
	t.Helper()
	run(t, l, func(x *trail.Trail) { replace.Give(x, l, h) })
}

func reserve(t *testing.T, l *replace.Land, n int) (h []int64, ok bool) {
	t.Helper()
	run(t, l, func(x *trail.Trail) { h, ok = replace.Reserve(x, l, n) })
	return h, ok
}

func retire(t *testing.T, l *replace.Land, h, tag int64) {
	t.Helper()
	run(t, l, func(x *trail.Trail) { replace.Retire(x, l, h, tag) })
}

func reclaim(t *testing.T, l *replace.Land, most int) (n int) {
	t.Helper()
	run(t, l, func(x *trail.Trail) { n = replace.Reclaim(x, l, most) })
	return n
}

// follow holds that a task does just these accesses, one a step, and is over by the
// last one. While one is done all other cells are rubbish, so it can't be another one;
// behind it, see is told how many were done.
func follow(t *testing.T, l *replace.Land, task trail.Task, want []access, see func(done int)) {
	t.Helper()
	start := cells(l)
	for _, far := range []int64{1 << 40, -1 << 40} {
		if far < 0 {
			// The witness has seen this once: for it the second time is another one.
			see = nil
		}
		followBy(t, l, task, want, see, start, far)
	}
}

func followBy(t *testing.T, l *replace.Land, task trail.Task, want []access, see func(int), start []int64, far int64) {
	t.Helper()
	x, now := trail.New(l.M), slices.Clone(start)
	for i, a := range want {
		rubbish := make([]int64, len(now))
		for j := range rubbish {
			rubbish[j] = far + int64(j)
		}
		if !a.store && a.at >= 0 {
			if now[a.at] != a.v {
				t.Fatalf("access %d: the test awaits %d in the cell %d, where %d is", i, a.v, a.at, now[a.at])
			}
			rubbish[a.at] = a.v
		}
		lay(l, rubbish)
		count := l.M.Count()
		over := x.Step(i, task)
		if a.store && a.at >= 0 {
			rubbish[a.at], now[a.at] = a.v, a.v
		}
		if counted := l.M.Count() - count; counted != min(a.at+1, 1) || x.Steps() != i+1 {
			t.Fatalf("access %d %v: %d counted, %d steps", i, a, counted, x.Steps())
		}
		if !slices.Equal(cells(l), rubbish) {
			t.Fatalf("access %d: not %v", i, a)
		}
		if over != (i == len(want)-1) {
			t.Fatalf("access %d %v: over is %v", i, a, over)
		}
		lay(l, now)
		if see != nil {
			see(i + 1)
		}
	}
}

// root is the words of a new land's root.
func root() []int64 {
	w := make([]int64, 28)
	w[0], w[1], w[2], w[18], w[27] = 17, 16*4096, 512*4096, 496*4096, 1
	return w
}

// fresh is all cells of a new land.
func fresh(n int) []int64 {
	w := make([]int64, 24)
	w[2], w[3] = 65537, 16*4096
	if n > 1 {
		w[21] = 2
	}
	w = append(w, make([]int64, 2*n)...)
	w = append(w, root()...)
	for s := 2; s <= n; s++ {
		free := make([]int64, 28)
		if s < n {
			free[0] = int64(s + 1)
		}
		w = append(w, free...)
	}
	return w
}

// P19.1: each number of slots, and numbers of which there is no land.
func TestNew(t *testing.T) {
	sizes := map[int]int{0: 1, -1: 1, math.MinInt: 1, 1001: 1000, math.MaxInt: 1000}
	for n := 1; n <= 1000; n++ {
		sizes[n] = n
	}
	for n, slots := range sizes {
		l := replace.New(n)
		if l.N != slots || l.A.Slots() != slots || l.M.Size() != 24+30*slots {
			t.Fatal(n, l.N, l.A.Slots(), l.M.Size())
		}
		if !slices.Equal(cells(l), fresh(slots)) {
			t.Fatal(n)
		}
		if !slices.Equal(l.A.Live(), []int64{65537}) || l.A.Stale() || l.A.Double() {
			t.Fatal(n, l.A.Live())
		}
		for s := 1; s <= slots; s++ {
			if l.A.Cell(int64(s), 0) != word(slots, s, 0) {
				t.Fatal(n, s)
			}
		}
	}
}

// P19.1: what layers 4, 5, 15 and 17 say of the cells of a new land.
func TestNewIsWhatOtherLayersSay(t *testing.T) {
	if replace.AtRoot != replace.AtLatch+latch.Words || replace.AtFree != replace.AtBoard+rcu.Words {
		t.Error("the places")
	}
	for _, n := range []int{1, 2, 1000} {
		l := replace.New(n)
		h := get(l, replace.AtRoot)
		run(t, l, func(x *trail.Trail) {
			e, nodes, ok := walk.All(x, l.A, h)
			if x.Dry() {
				return
			}
			if !ok || len(e) != 1 || e[0].Lo != api.Least || e[0].End != api.Most || e[0].H != 0 {
				t.Error(n, e, ok)
			}
			if !slices.Equal(nodes, []int64{h}) {
				t.Error(n, nodes)
			}
			if !latch.Idle(x, replace.AtLatch) && !x.Dry() {
				t.Error("the latch")
			}
		})
		node, ok := slot.Unpack(append(l.M.Look(l.A.Cell(h, 0), 26), 0, 0))
		if !ok || node.Inner {
			t.Error(n, node)
		}
	}
}

// P19.1: two lands don't hang on one another.
func TestLandsAreApart(t *testing.T) {
	a, b := replace.New(3), replace.New(3)
	take(t, a)
	retire(t, a, 65538, 7)
	if !slices.Equal(cells(b), fresh(3)) || len(b.A.Live()) != 1 {
		t.Error("the other land is another one")
	}
	if take(t, b) != 65538 || b.A.Double() {
		t.Error("the other land's slots")
	}
}

// The chapter's example.
func TestExample(t *testing.T) {
	l := replace.New(3)
	for _, want := range []int64{65538, 65539, 0} {
		if h := take(t, l); h != want {
			t.Error(h, want)
		}
	}
}

// P19.1: Take's accesses, in their order, and when the witness is told.
func TestTakeStepByStep(t *testing.T) {
	cases := []struct {
		free, next, generation int64
	}{
		{2, 3, 0}, {2, 0, 0}, {4, 2, 6}, {3, 3, 1 << 40}, {1, 5, 1}, {5, 1, math.MaxInt32},
	}
	for _, c := range cases {
		l := replace.New(5)
		l.A.Died(65537)
		l.M.Store(21, c.free)
		first, last := word(5, int(c.free), 0), word(5, int(c.free), 27)
		l.M.Store(first, c.next)
		l.M.Store(last, c.generation)
		var got int64
		task := func(x *trail.Trail) { got = replace.Take(x, l) }
		want := []access{
			load(21, c.free), load(first, c.next), load(last, c.generation),
			store(last, c.generation+1), store(21, c.next),
		}
		follow(t, l, task, want, func(done int) {
			if l.A.Double() || done < 5 && (got != 0 || len(l.A.Live()) != 0) {
				t.Error(c, done, got, l.A.Live())
			}
			if done == 5 && (got != handle(c.free, c.generation+1) || len(l.A.Live()) != 1 || arena.Slot(l.A.Live()[0]) != int(c.free)) {
				t.Error(c, got, l.A.Live())
			}
		})
		if l.A.Stale() {
			t.Error(c, "the slot was touched")
		}
	}
}

// P19.1: where there is no free slot, one access tells so; so does a number that is no
// slot's.
func TestTakeNone(t *testing.T) {
	for _, n := range []int{1, 4} {
		for _, free := range []int64{0, -1, int64(n) + 1, 1001, 65536, 65537, 65538, math.MaxInt64, math.MinInt64} {
			l := replace.New(n)
			l.M.Store(21, free)
			got := int64(-1)
			task := func(x *trail.Trail) { got = replace.Take(x, l) }
			follow(t, l, task, []access{load(21, free)}, func(int) {
				if got != 0 || !slices.Equal(l.A.Live(), []int64{65537}) || l.A.Stale() || l.A.Double() {
					t.Error(n, free, got)
				}
			})
		}
	}
}

// P19.1: by generations that no slot comes to, nothing falls over.
func TestTakeFarGenerations(t *testing.T) {
	for _, g := range []int64{-1, -2, math.MaxInt64, math.MinInt64, 1 << 47, 1<<47 - 1} {
		l := replace.New(2)
		l.M.Store(word(2, 2, 27), g)
		if h := take(t, l); h != (g+1)<<16|2 || get(l, word(2, 2, 27)) != g+1 {
			t.Error(g, h)
		}
	}
}

// P19.1: Give's accesses, in their order, and when the witness is told.
func TestGiveStepByStep(t *testing.T) {
	for _, c := range []struct{ slot, first int64 }{{2, 3}, {3, 0}, {1, 2}, {4, 1}} {
		l := replace.New(4)
		l.A.Died(65537)
		h := l.A.Born(int(c.slot))
		l.M.Store(21, c.first)
		at := word(4, int(c.slot), 0)
		task := func(x *trail.Trail) { replace.Give(x, l, h) }
		want := []access{load(21, c.first), store(at, c.first), store(21, c.slot)}
		follow(t, l, task, want, func(done int) {
			if l.A.Right(h) != (done < 3) || l.A.Double() || l.A.Stale() {
				t.Error(c, done)
			}
		})
	}
}

// P19.1: a handle that isn't right is found out by the witness, when the last access is
// done, and not ahead of it.
func TestGiveWrong(t *testing.T) {
	none := -1
	cases := []struct {
		h        int64
		at, slot int
	}{
		{0, none, 0}, {-1, none, 0}, {math.MinInt64, none, 0}, {handle(9, 1), none, 9}, {65536, none, 0},
		{handle(2, 1), word(3, 2, 0), 2}, // given ahead of this
		{handle(3, 2), word(3, 3, 0), 3}, // of a generation that isn't yet
		{3, word(3, 3, 0), 3}, {math.MaxInt64, none, 65535},
	}
	for _, c := range cases {
		l := replace.New(3)
		give(t, l, take(t, l)) // slot 2, in its first generation
		task := func(x *trail.Trail) { replace.Give(x, l, c.h) }
		want := []access{load(21, 2), store(c.at, 2), store(21, int64(c.slot))}
		follow(t, l, task, want, func(done int) {
			if l.A.Double() != (done == 3) || l.A.Stale() {
				t.Error(c, done)
			}
		})
	}
}

// P19.1: a task that is run again tells the witness of nothing again, and comes to the
// same handles.
func TestToldOnce(t *testing.T) {
	l := replace.New(4)
	var seen [][]int64
	x := trail.New(l.M)
	task := func(x *trail.Trail) {
		a := replace.Take(x, l)
		b := replace.Take(x, l)
		replace.Give(x, l, a)
		c := replace.Take(x, l)
		replace.Give(x, l, b)
		replace.Give(x, l, c)
		d := replace.Take(x, l)
		seen = append(seen, []int64{a, b, c, d})
	}
	for i := 0; i < 100 && !x.Over(); i++ {
		x.Step(i, task)
		if l.A.Double() || l.A.Stale() {
			t.Fatal("the witness was told twice", i)
		}
	}
	want := []int64{handle(2, 1), handle(3, 1), handle(2, 2), handle(2, 3)}
	behind := []int{5, 10, 18, 29} // how many steps it takes to each handle
	for i, got := range seen {
		for j := range want {
			if i+1 >= behind[j] && got[j] != want[j] || i+1 < behind[j] && got[j] != 0 {
				t.Fatal(i, got)
			}
		}
	}
	if len(seen) != 29 || !slices.Equal(l.A.Live(), []int64{65537, handle(2, 3)}) {
		t.Error(len(seen), l.A.Live())
	}
}

// P19.2: Reserve is so many Takes.
func TestReserve(t *testing.T) {
	for _, n := range []int{1, 2, 5, 9, 1000} {
		for _, k := range []int{math.MinInt, -1, 0, 1, 2, 4, 7, 8, 9, 10, 999, 1000, math.MaxInt} {
			l := replace.New(n)
			var got []int64
			ok := false
			steps := run(t, l, func(x *trail.Trail) { got, ok = replace.Reserve(x, l, k) })
			k = max(k, 0)
			if k > n-1 {
				if ok || len(got) != 0 || steps != 8*(n-1)+1 {
					t.Fatal(n, k, got, ok, steps)
				}
				continue
			}
			if !ok || len(got) != k || steps != 5*k {
				t.Fatal(n, k, got, ok, steps)
			}
			for i, h := range got {
				if h != handle(int64(i+2), 1) || !l.A.Right(h) {
					t.Fatal(n, k, got)
				}
			}
			if len(l.A.Live()) != k+1 || l.A.Double() || l.A.Stale() {
				t.Fatal(n, k, l.A.Live())
			}
		}
	}
}

// P19.2: what can't be had wholly is given back, the last one first, access by access;
// ahead of the last one nothing is answered.
func TestReserveTooMany(t *testing.T) {
	l := replace.New(4)
	l.M.Store(21, 4) // the free ones: 4, 2
	l.M.Store(word(4, 4, 0), 2)
	l.M.Store(word(4, 2, 0), 0)
	ok, got := true, []int64{1}
	task := func(x *trail.Trail) { got, ok = replace.Reserve(x, l, 3) }
	want := []access{
		load(21, 4), load(word(4, 4, 0), 2), load(word(4, 4, 27), 0), store(word(4, 4, 27), 1), store(21, 2),
		load(21, 2), load(word(4, 2, 0), 0), load(word(4, 2, 27), 0), store(word(4, 2, 27), 1), store(21, 0),
		load(21, 0),
		load(21, 0), store(word(4, 2, 0), 0), store(21, 2),
		load(21, 2), store(word(4, 4, 0), 2), store(21, 4),
	}
	follow(t, l, task, want, func(done int) {
		live := []int64{65537}
		if done >= 10 && done < 14 {
			live = append(live, handle(2, 1))
		}
		if done >= 5 && done < 17 {
			live = append(live, handle(4, 1))
		}
		if ok || len(got) != 0 || !slices.Equal(l.A.Live(), live) || l.A.Double() || l.A.Stale() {
			t.Error(done, got, ok, l.A.Live())
		}
	})
}

// P19.2: nothing is otherwise behind it but the generations.
func TestReserveTooManyLeaves(t *testing.T) {
	for n := 1; n <= 6; n++ {
		l := replace.New(n)
		was := cells(l)
		if _, ok := reserve(t, l, n); ok {
			t.Error(n)
		}
		for s := 2; s <= n; s++ {
			was[word(n, s, 27)]++
		}
		if !slices.Equal(cells(l), was) || len(l.A.Live()) != 1 || l.A.Double() {
			t.Error(n, l.A.Live())
		}
		if h, ok := reserve(t, l, n-1); !ok || len(h) != n-1 || n > 1 && h[0] != handle(2, 2) {
			t.Error(n, h, ok)
		}
	}
}

// P19.2: while the trail is dry none, false; so too of no slots at all.
func TestReserveDry(t *testing.T) {
	l := replace.New(5)
	x := trail.New(l.M)
	for i := 1; i <= 10; i++ {
		var got []int64
		ok := true
		x.Step(i, func(x *trail.Trail) { got, ok = replace.Reserve(x, l, 2) })
		if ok != (i == 10) || len(got) != 2*(i/10) {
			t.Error(i, got, ok)
		}
	}
	x = trail.New(l.M)
	var seen []bool
	task := func(x *trail.Trail) {
		x.Load(0)
		x.Load(0)
		got, ok := replace.Reserve(x, l, 0)
		seen = append(seen, ok)
		if len(got) != 0 {
			t.Error(got)
		}
	}
	x.Step(0, task)
	x.Step(1, task)
	if !slices.Equal(seen, []bool{false, true}) {
		t.Error(seen)
	}
}

// P19.2: each answer is new memory.
func TestReserveAnswersNewMemory(t *testing.T) {
	l := replace.New(5)
	var lists [][]int64
	x := trail.New(l.M)
	for i := 0; !x.Over(); i++ {
		x.Step(i, func(x *trail.Trail) {
			a, ok := replace.Reserve(x, l, 2)
			b, okToo := replace.Reserve(x, l, 2)
			if ok && okToo {
				lists = append(lists, a, b)
			}
			// What the task does with a list is told to nobody, as it is run again.
			for i := range a[:cap(a)] {
				a[:cap(a)][i] = -7
			}
		})
	}
	if len(lists) != 2 || !slices.Equal(lists[1], []int64{handle(4, 1), handle(5, 1)}) {
		t.Error(lists)
	}
}

// some answers n words, none of them like another one, or 0.
func some(n int) []int64 {
	var w []int64
	for i := range n {
		w = append(w, int64(100+i))
	}
	return w
}

// P19.2: Write's accesses, in their order: as many as there are words, but no more than
// 26.
func TestWriteStepByStep(t *testing.T) {
	for n := range 41 {
		l := replace.New(3)
		h := take(t, l)
		words := some(n)
		var want []access
		for i := range min(n, 26) {
			want = append(want, store(word(3, 2, i), int64(100+i)))
		}
		task := func(x *trail.Trail) { replace.Write(x, l, h, words) }
		follow(t, l, task, want, nil)
		if n == 0 && run(t, l, task) != 0 {
			t.Error("no words")
		}
		if l.A.Stale() || l.A.Double() || !slices.Equal(words, some(n)) {
			t.Error(n)
		}
	}
}

// P19.2: a slot's last two words stay, whatever is written.
func TestWriteLeavesTheLastTwo(t *testing.T) {
	l := replace.New(3)
	h := take(t, l)
	l.M.Store(word(3, 2, 26), 9)
	was := cells(l)
	run(t, l, func(x *trail.Trail) { replace.Write(x, l, h, some(100)) })
	copy(was[word(3, 2, 0):], some(26))
	if !slices.Equal(cells(l), was) || get(l, word(3, 2, 27)) != 1 {
		t.Error(cells(l))
	}
	give(t, l, h)
	if take(t, l) != handle(2, 2) {
		t.Error("the generation")
	}
}

// P19.2: the witness is told of each word, when it is stored, and never again.
func TestWriteTouches(t *testing.T) {
	for _, dies := range []int{0, 1, 2, 3} {
		l := replace.New(3)
		h := take(t, l)
		task := func(x *trail.Trail) {
			replace.Write(x, l, h, some(3))
			x.Load(0)
		}
		x := trail.New(l.M)
		for i := range 4 {
			if i == dies {
				l.A.Died(h)
			}
			x.Step(i, task)
			if l.A.Stale() != (dies < 3 && i >= dies) {
				t.Error(dies, i)
			}
		}
	}
}

// P19.2: by a handle that isn't right the accesses are the same, as far as there are
// cells, and the witness finds it out.
func TestWriteWrong(t *testing.T) {
	cases := []struct {
		h    int64
		slot int
	}{
		{0, 0}, {-1, 0}, {math.MinInt64, 0}, {math.MaxInt64, 0}, {handle(4, 1), 0},
		{2, 2}, {handle(2, 2), 2}, {handle(3, 1), 3},
	}
	for _, c := range cases {
		for n := range 30 {
			l := replace.New(3)
			take(t, l)
			var want []access
			for i := range min(n, 26) {
				at := -1
				if c.slot > 0 {
					at = word(3, c.slot, i)
				}
				want = append(want, store(at, int64(100+i)))
			}
			task := func(x *trail.Trail) { replace.Write(x, l, c.h, some(n)) }
			follow(t, l, task, want, nil)
			if l.A.Stale() != (n > 0) || l.A.Double() {
				t.Error(c, n)
			}
		}
	}
}

// P19.2: the words that are handed in stay, their spare room too, and aren't kept.
func TestWriteLeavesItsWords(t *testing.T) {
	l := replace.New(2)
	h := take(t, l)
	room := some(40)
	x := trail.New(l.M)
	for i := range 3 {
		x.Step(i, func(x *trail.Trail) { replace.Write(x, l, h, room[:3]) })
	}
	if !slices.Equal(room, some(40)) {
		t.Error(room)
	}
	room[0] = -1
	if get(l, word(2, 2, 0)) != 100 || get(l, word(2, 2, 3)) != 0 {
		t.Error("what was written")
	}
}

// P19.2: Retire's accesses, in their order, at each place of the ring.
func TestRetireStepByStep(t *testing.T) {
	for _, n := range []int{1, 2, 3, 7} {
		for put := range int64(3 * n) {
			l := replace.New(n)
			l.M.Store(23, put)
			at := 24 + 2*(int(put)%n)
			task := func(x *trail.Trail) { replace.Retire(x, l, 70+put, 90+put) }
			want := []access{load(23, put), store(at, 70+put), store(at+1, 90+put), store(23, put+1)}
			follow(t, l, task, want, nil)
			if !slices.Equal(l.A.Live(), []int64{65537}) || l.A.Stale() || l.A.Double() {
				t.Error(n, put)
			}
		}
	}
}

// P19.2: any handle and any tag are put, and by counts that no land comes to nothing
// outside the ring is stored.
func TestRetireFar(t *testing.T) {
	for _, n := range []int{1, 2, 3, 1000} {
		for _, put := range []int64{-1, -2, -7, math.MinInt64, math.MaxInt64, 1<<40 + 5} {
			for _, v := range []int64{0, -1, math.MinInt64, math.MaxInt64} {
				l := replace.New(n)
				l.M.Store(23, put)
				was := cells(l)
				retire(t, l, v, -v)
				place := put % int64(n)
				if place < 0 {
					place += int64(n)
				}
				was[24+2*place], was[24+2*place+1], was[23] = v, -v, put+1
				if !slices.Equal(cells(l), was) {
					t.Error(n, put, v)
				}
			}
		}
	}
}

// P19.2, R1: a land that was put together by hand may have any N.
func TestRingOfNoSlots(t *testing.T) {
	for _, n := range []int{0, -1, math.MinInt, math.MaxInt, 1 << 62} {
		for _, put := range []int64{0, 1, -1, math.MaxInt64 - 1, math.MaxInt64, math.MinInt64} {
			l := &replace.Land{M: cell.New(2100), A: arena.New(2050, 1), N: n}
			l.M.Store(22, put)
			l.M.Store(23, put)
			retire(t, l, 5, 6)
			if !slices.Equal(l.M.Look(0, 22), make([]int64, 22)) || get(l, 23) != put+1 {
				t.Error(n, put, cells(l))
			}
			l.M.Store(replace.AtBoard, 8)
			if reclaim(t, l, 3) != 1 || get(l, 22) != put+1 {
				t.Error(n, put)
			}
		}
	}
}

// held is a land of n slots, all of them taken; of the tags as many are in the ring as
// there are tags, put there from a count on: slot 2 by the first tag, and so on.
func held(t *testing.T, n int, from int64, tags ...int64) *replace.Land {
	t.Helper()
	l := replace.New(n)
	h, ok := reserve(t, l, n-1)
	if !ok {
		t.Fatal("the slots")
	}
	l.M.Store(22, from)
	l.M.Store(23, from)
	for i, tag := range tags {
		retire(t, l, h[i], tag)
	}
	return l
}

// round is the accesses by which one that is in the ring is freed.
func round(n int, head, tail, slot, tag, first int64) []access {
	at := 24 + 2*(int(head)%n)
	return []access{
		load(22, head), load(23, tail), load(at, handle(slot, 1)), load(at+1, tag),
		load(21, first), store(word(n, int(slot), 0), first), store(21, slot), store(22, head+1),
	}
}

// P19.3: Reclaim's accesses, in their order, up to each of its ends: as many as are
// asked for, an empty ring, one that may not be freed.
func TestReclaimStepByStep(t *testing.T) {
	for _, from := range []int64{0, 3, 4, 11} {
		for most := range 5 {
			for epoch := int64(3); epoch <= 9; epoch++ {
				tags := []int64{3, 3, 6}
				l := held(t, 5, from, tags...)
				l.M.Store(replace.AtBoard, epoch)
				want := []access{load(4, epoch)}
				first, freed := int64(0), 0
				for freed < most {
					head := from + int64(freed)
					if freed == 3 {
						want = append(want, load(22, head), load(23, head))
						break
					}
					next := round(5, head, from+3, int64(freed+2), tags[freed], first)
					if tags[freed]+2 > epoch {
						want = append(want, next[:4]...)
						break
					}
					want = append(want, next...)
					first = int64(freed + 2)
					freed++
				}
				got := -1
				task := func(x *trail.Trail) { got = replace.Reclaim(x, l, most) }
				follow(t, l, task, want, func(done int) {
					// Those are freed whose slot was stored as the first free one.
					given := 0
					for i := range freed {
						if done >= 1+8*i+7 {
							given++
						}
					}
					if got != given || len(l.A.Live()) != 5-given || l.A.Double() || l.A.Stale() {
						t.Fatal(from, most, epoch, done, got, given, l.A.Live())
					}
				})
				if got != freed {
					t.Fatal(from, most, epoch, got, freed)
				}
			}
		}
	}
}

// P19.3: numbers of most that are none, or beyond all.
func TestReclaimMost(t *testing.T) {
	for most, want := range map[int]int{math.MinInt: 0, -1: 0, 0: 0, 1: 1, 2: 2, 3: 3, 4: 3, math.MaxInt: 3} {
		l := held(t, 6, 0, 0, 0, 0)
		l.M.Store(replace.AtBoard, 2)
		if n := reclaim(t, l, most); n != want || get(l, 22) != int64(want) || get(l, 23) != 3 {
			t.Error(most, n)
		}
	}
}

// P19.3: the tags and epochs that layer 4 tells apart, far ones too.
func TestReclaimTags(t *testing.T) {
	far := []int64{
		math.MinInt64, math.MinInt64 + 1, math.MinInt64 + 2, -3, -2, -1, 0, 1, 2, 3,
		math.MaxInt64 - 3, math.MaxInt64 - 2, math.MaxInt64 - 1, math.MaxInt64,
	}
	for _, tag := range far {
		for _, epoch := range far {
			l := held(t, 3, 0, tag)
			l.M.Store(replace.AtBoard, epoch)
			want := 0
			if rcu.Free(tag, epoch) {
				want = 1
			}
			if n := reclaim(t, l, 2); n != want || l.A.Right(handle(2, 1)) != (want == 0) {
				t.Error(tag, epoch, n)
			}
		}
	}
}

// P19.3: behind one that may not be freed none is, though it might.
func TestReclaimStopsAtTheFirst(t *testing.T) {
	l := held(t, 5, 0, 0, 2, 0)
	l.M.Store(replace.AtBoard, 3)
	if n := reclaim(t, l, 9); n != 1 || !l.A.Right(handle(3, 1)) || !l.A.Right(handle(4, 1)) {
		t.Error(n, l.A.Live())
	}
	l.M.Store(replace.AtBoard, 4)
	if n := reclaim(t, l, 9); n != 2 || !slices.Equal(l.A.Live(), []int64{65537, handle(5, 1)}) {
		t.Error(n, l.A.Live())
	}
	if n := reclaim(t, l, 9); n != 0 {
		t.Error(n)
	}
}

// P19.3: the epoch is that of the beginning; how many were put is asked each time.
func TestReclaimWhileOthersGoOn(t *testing.T) {
	l := held(t, 5, 0, 0, 1)
	l.M.Store(replace.AtBoard, 2)
	n := 0
	task := func(x *trail.Trail) { n = replace.Reclaim(x, l, 9) }
	x := trail.New(l.M)
	x.Step(0, task)
	l.M.Store(replace.AtBoard, 3)
	for i := 1; i < 100 && !x.Over(); i++ {
		x.Step(i, task)
	}
	if n != 1 || x.Steps() != 1+8+4 {
		t.Error(n, x.Steps())
	}
	x = trail.New(l.M)
	for i := range 9 {
		x.Step(i, task)
	}
	retire(t, l, handle(4, 1), 0)
	for i := 0; i < 100 && !x.Over(); i++ {
		x.Step(i, task)
	}
	if n != 2 || x.Steps() != 1+8+8+2 || l.A.Double() {
		t.Error(n, x.Steps())
	}
}

// P19.3: what isn't right in the ring is given all the same, and found out.
func TestReclaimWrong(t *testing.T) {
	for _, h := range []int64{0, -1, handle(2, 2), handle(9, 1), math.MaxInt64, math.MinInt64} {
		l := held(t, 3, 0, 0)
		l.M.Store(24, h)
		l.M.Store(replace.AtBoard, 2)
		if n := reclaim(t, l, 1); n != 1 || !l.A.Double() || len(l.A.Live()) != 3 {
			t.Error(h, n)
		}
	}
	// More were taken out than put: they aren't the same.
	l := held(t, 3, 5)
	l.M.Store(22, 6)
	l.M.Store(replace.AtBoard, 2)
	if n := reclaim(t, l, 2); n != 2 || get(l, 22) != 8 {
		t.Error(n)
	}
}

// R1: on a trail that has no step, and on one that is over, all ends, and nothing is
// done.
func TestWithoutStep(t *testing.T) {
	l := held(t, 4, 0, 0)
	l.M.Store(replace.AtBoard, 2)
	was, live := cells(l), l.A.Live()
	between, over := trail.New(l.M), trail.New(l.M)
	over.Step(0, func(*trail.Trail) {})
	for _, x := range []*trail.Trail{between, over} {
		if h := replace.Take(x, l); h != 0 {
			t.Error(h)
		}
		replace.Give(x, l, live[1])
		replace.Give(x, l, 0)
		if h, ok := replace.Reserve(x, l, 2); ok || len(h) != 0 {
			t.Error(h, ok)
		}
		replace.Write(x, l, 0, some(30))
		replace.Retire(x, l, live[2], 0)
		if n := replace.Reclaim(x, l, math.MaxInt); n != 0 {
			t.Error(n)
		}
	}
	if !slices.Equal(cells(l), was) || !slices.Equal(l.A.Live(), live) || l.A.Stale() || l.A.Double() {
		t.Error("something was done")
	}
}

// chain tells the free slots, the first one first; false, if there is no end of them.
func chain(l *replace.Land) ([]int, bool) {
	var free []int
	for s := get(l, 21); s != 0; s = get(l, word(l.N, int(s), 0)) {
		if s < 1 || s > int64(l.N) || len(free) == l.N {
			return nil, false
		}
		free = append(free, int(s))
	}
	return free, true
}

// apart holds that no slot is free twice, or free and live, and tells the free ones.
func apart(t *testing.T, l *replace.Land) []int {
	t.Helper()
	free, ok := chain(l)
	if !ok {
		t.Fatal("the free slots have no end")
	}
	has := make([]int, l.N+1)
	for _, s := range free {
		has[s]++
	}
	for _, h := range l.A.Live() {
		has[arena.Slot(h)]++
	}
	if slices.Max(has) > 1 {
		t.Fatal("a slot is free twice, or free and live", free, l.A.Live())
	}
	if l.A.Double() || l.A.Stale() {
		t.Fatal("the witness")
	}
	return free
}

// tagged is what a plain model has in its ring.
type tagged struct{ h, tag int64 }

// plain is the land of a model that has no cells: its free slots, the last one of them
// taken first, how often each was taken, what is live, and the ring.
type plain struct {
	free  []int
	times []int64
	live  []int64
	ring  []tagged
	epoch int64
}

func newPlain(n int) *plain {
	p := &plain{times: make([]int64, n+1), live: []int64{65537}}
	p.times[1] = 1
	for s := n; s > 1; s-- {
		p.free = append(p.free, s)
	}
	return p
}

func (p *plain) take() int64 {
	if len(p.free) == 0 {
		return 0
	}
	s := p.free[len(p.free)-1]
	p.free = p.free[:len(p.free)-1]
	p.times[s]++
	h := handle(int64(s), p.times[s])
	p.live = append(p.live, h)
	return h
}

func (p *plain) give(h int64) {
	p.free = append(p.free, int(h%65536))
	p.live = slices.DeleteFunc(p.live, func(g int64) bool { return g == h })
}

func (p *plain) reclaim(most int) int {
	n := 0
	for n < most && len(p.ring) > 0 && p.ring[0].tag+2 <= p.epoch {
		p.give(p.ring[0].h)
		p.ring = p.ring[1:]
		n++
	}
	return n
}

// idle tells the live handles that are neither the root's nor in the ring.
func (p *plain) idle() []int64 {
	var l []int64
	for _, h := range p.live[1:] {
		if !slices.ContainsFunc(p.ring, func(r tagged) bool { return r.h == h }) {
			l = append(l, h)
		}
	}
	return l
}

// P19.4: many calls one behind the other: step by step no slot is both free and live,
// or twice anything, and all comes out as by the plain model.
func TestSlotsAreApart(t *testing.T) {
	for _, n := range []int{1, 2, 3, 5, 12, 40} {
		l, p := replace.New(n), newPlain(n)
		seed := uint32(n)
		pick := func(k int) int {
			seed = seed*1664525 + 1013904223
			return int(seed>>16) % k
		}
		for range 1500 {
			one(t, l, p, pick)
			free := apart(t, l)
			slices.Reverse(free)
			live := slices.SortedFunc(slices.Values(p.live), func(a, b int64) int { return arena.Slot(a) - arena.Slot(b) })
			if !slices.Equal(free, p.free) || !slices.Equal(l.A.Live(), live) {
				t.Fatal(n, free, p.free, l.A.Live(), live)
			}
		}
		if n > 2 && p.times[2] < 10 {
			t.Error("few slots were taken again", p.times)
		}
	}
}

// one does one call that is picked, on the land and on the model, and looks at the land
// at each step.
func one(t *testing.T, l *replace.Land, p *plain, pick func(int) int) {
	t.Helper()
	step := func(task trail.Task) {
		x := trail.New(l.M)
		for i := 0; !x.Over(); i++ {
			x.Step(i, task)
			apart(t, l)
		}
	}
	idle := p.idle()
	var h int64
	if len(idle) > 0 {
		h = idle[pick(len(idle))]
	}
	switch kind := pick(7); {
	case kind == 0:
		var got int64
		step(func(x *trail.Trail) { got = replace.Take(x, l) })
		if want := p.take(); got != want {
			t.Fatal(got, want)
		}
	case kind == 1 && h != 0:
		step(func(x *trail.Trail) { replace.Give(x, l, h) })
		p.give(h)
	case kind == 2:
		k := pick(6)
		var got, want []int64
		ok := false
		step(func(x *trail.Trail) { got, ok = replace.Reserve(x, l, k) })
		for len(want) < k {
			g := p.take()
			if g == 0 {
				break
			}
			want = append(want, g)
		}
		if len(want) < k {
			for len(want) > 0 {
				p.give(want[len(want)-1])
				want = want[:len(want)-1]
			}
			k = -1
		}
		if ok != (k >= 0) || !slices.Equal(got, want) {
			t.Fatal(got, ok, want)
		}
	case kind == 3 && h != 0:
		step(func(x *trail.Trail) { replace.Write(x, l, h, some(pick(2)+29)) })
	case kind == 4 && h != 0:
		step(func(x *trail.Trail) { replace.Retire(x, l, h, rcu.Epoch(x, replace.AtBoard)) })
		p.ring = append(p.ring, tagged{h, p.epoch})
	case kind == 5:
		step(func(x *trail.Trail) { rcu.Advance(x, replace.AtBoard) })
		p.epoch++
	case kind == 6:
		most, got := pick(4), 0
		step(func(x *trail.Trail) { got = replace.Reclaim(x, l, most) })
		if want := p.reclaim(most); got != want {
			t.Fatal(got, want)
		}
	}
}

// P19.4: while a reader that saw a slot hasn't left, that is neither given nor taken
// anew, wherever it is stopped; when it has left, it is.
func TestReadersKeepSlots(t *testing.T) {
	const words = 3
	for stop := range 3 + words {
		l := replace.New(3)
		h := take(t, l)
		l.M.Store(replace.AtRoot, h)
		x := trail.New(l.M)
		reader := func(x *trail.Trail) {
			rcu.Enter(x, replace.AtBoard, 4)
			g := x.Load(replace.AtRoot)
			for i := range words {
				seek.Read(x, l.A, g, i)
			}
			rcu.Leave(x, replace.AtBoard, 4)
		}
		for i := range stop {
			x.Step(i, reader)
		}
		run(t, l, func(x *trail.Trail) {
			x.Store(replace.AtRoot, 65537)
			replace.Retire(x, l, h, rcu.Epoch(x, replace.AtBoard))
		})
		freed := 0
		for range 5 {
			run(t, l, func(x *trail.Trail) { rcu.Advance(x, replace.AtBoard) })
			freed += reclaim(t, l, 8)
		}
		reads := stop >= 2 // ahead of that the epoch isn't held back
		if (freed == 0) != reads {
			t.Error(stop, freed)
		}
		for i := 0; !x.Over(); i++ {
			x.Step(i, reader)
		}
		for range 3 {
			run(t, l, func(x *trail.Trail) { rcu.Advance(x, replace.AtBoard) })
			freed += reclaim(t, l, 8)
		}
		if freed != 1 || l.A.Stale() || l.A.Double() {
			t.Error(stop, freed)
		}
	}
}
