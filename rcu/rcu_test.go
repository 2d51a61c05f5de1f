package rcu_test

import (
	"math"
	"slices"
	"testing"

	"samara/cell"
	"samara/rcu"
	"samara/trail"
)

// readers is how many a board has.
const readers = 16

// board answers a memory whose cells are other numbers, but for a board that
// stands at a cell of it: the epoch, and the readers' cells.
func board(at int, epoch int64, cells map[int]int64) *cell.Memory {
	m := cell.New(at + rcu.Words + 3)
	for i := range m.Size() {
		m.Store(i, int64(-100-i))
	}
	m.Store(at, epoch)
	for reader := range readers {
		m.Store(at+1+reader, cells[reader])
	}
	return m
}

// look answers all cells.
func look(m *cell.Memory) []int64 {
	return m.Look(0, m.Size())
}

// same checks that the cells are these.
func same(t *testing.T, what string, m *cell.Memory, want []int64) {
	t.Helper()
	if got := look(m); !slices.Equal(got, want) {
		t.Errorf("%s: cells %v, want %v", what, got, want)
	}
}

// with answers these cells, but for one.
func with(cells []int64, i int, v int64) []int64 {
	changed := slices.Clone(cells)
	changed[i] = v
	return changed
}

// run takes steps till the task is over, and answers how many accesses it did.
func run(t *testing.T, m *cell.Memory, task trail.Task) int {
	t.Helper()
	x := trail.New(m)
	for time := range 100 {
		if x.Step(time, task) {
			return x.Steps()
		}
	}
	t.Fatal("the task doesn't end")
	return 0
}

// advance runs an Advance, and answers what it did and how many accesses.
func advance(t *testing.T, m *cell.Memory, at int) (bool, int) {
	t.Helper()
	went := false
	n := run(t, m, func(x *trail.Trail) { went = rcu.Advance(x, at) })
	return went, n
}

func TestExample(t *testing.T) {
	m := board(0, 3, nil)
	run(t, m, func(x *trail.Trail) { rcu.Enter(x, 0, 5) })
	if got := m.Look(6, 1); got[0] != 4 {
		t.Errorf("the reader's cell: %d, want 4", got[0])
	}
	if went, _ := advance(t, m, 0); !went {
		t.Error("the first Advance: false")
	}
	if went, _ := advance(t, m, 0); went {
		t.Error("the second Advance: true")
	}
	run(t, m, func(x *trail.Trail) { rcu.Leave(x, 0, 5) })
	if went, _ := advance(t, m, 0); !went {
		t.Error("the third Advance: false")
	}
	if got := m.Look(0, 1); got[0] != 5 {
		t.Errorf("the epoch: %d, want 5", got[0])
	}
}

func TestWords(t *testing.T) {
	if rcu.Words != 1+readers {
		t.Errorf("Words: %d", rcu.Words)
	}
}

func TestEnterIsALoadThenAStore(t *testing.T) {
	for _, at := range []int{0, 1, 4, 40} {
		for reader := range readers {
			for _, epoch := range []int64{0, 1, 3, 1 << 40, -1, -7, math.MaxInt64 - 1} {
				m := board(at, epoch, map[int]int64{reader: 77})
				was := look(m)
				x := trail.New(m)
				task := func(x *trail.Trail) { rcu.Enter(x, at, reader) }
				if x.Step(0, task) {
					t.Fatal("over by one access")
				}
				same(t, "the load", m, was)
				// What the epoch becomes now isn't seen any more.
				m.Store(at, 500)
				if !x.Step(1, task) || x.Steps() != 2 {
					t.Fatalf("not over by two accesses: %d", x.Steps())
				}
				same(t, "the store", m, with(with(was, at, 500), at+1+reader, epoch+1))
			}
		}
	}
}

func TestLeaveIsAStore(t *testing.T) {
	for _, at := range []int{0, 1, 4, 40} {
		for reader := range readers {
			for _, found := range []int64{0, 4, -1, math.MinInt64} {
				m := board(at, 3, map[int]int64{reader: found})
				was := look(m)
				n := run(t, m, func(x *trail.Trail) { rcu.Leave(x, at, reader) })
				if n != 1 {
					t.Errorf("Leave: %d accesses", n)
				}
				same(t, "Leave", m, with(was, at+1+reader, 0))
			}
		}
	}
}

func TestNoReaders(t *testing.T) {
	for _, reader := range []int{math.MinInt, -65536, -17, -16, -2, -1, 16, 17, 18, 65536, math.MaxInt - 1, math.MaxInt} {
		m := board(20, 3, nil)
		was, count := look(m), m.Count()
		for _, at := range []int{20, 3, math.MinInt, math.MaxInt} {
			n := run(t, m, func(x *trail.Trail) {
				rcu.Enter(x, at, reader)
				rcu.Leave(x, at, reader)
			})
			if n != 0 || m.Count() != count {
				t.Errorf("reader %d, board at %d: %d accesses", reader, at, n)
			}
		}
		same(t, "no reader", m, was)
	}
}

func TestEpochIsALoad(t *testing.T) {
	for _, at := range []int{0, 4, 40} {
		for _, epoch := range []int64{0, 3, -1, math.MinInt64, math.MaxInt64} {
			m := board(at, epoch, map[int]int64{0: 4, 15: 9})
			was := look(m)
			var told int64
			n := run(t, m, func(x *trail.Trail) { told = rcu.Epoch(x, at) })
			if n != 1 || told != epoch {
				t.Errorf("Epoch: %d by %d accesses, want %d by 1", told, n, epoch)
			}
			same(t, "Epoch", m, was)
		}
	}
}

func TestAdvanceGoesOn(t *testing.T) {
	for _, at := range []int{0, 1, 4, 40} {
		for _, epoch := range []int64{0, 1, 3, 1 << 40, -7, math.MaxInt64 - 1} {
			all := map[int]int64{}
			for reader := range readers {
				all[reader] = epoch + 1
			}
			boards := []map[int]int64{
				nil,
				{0: epoch + 1},
				{7: epoch + 1, 8: epoch + 1},
				{15: epoch + 1},
				all,
			}
			for _, cells := range boards {
				m := board(at, epoch, cells)
				was := look(m)
				went, n := advance(t, m, at)
				if !went || n != 18 {
					t.Errorf("epoch %d, readers %v: %t by %d accesses", epoch, cells, went, n)
				}
				same(t, "Advance", m, with(was, at, epoch+1))
			}
		}
	}
}

func TestAdvanceIsHeldBack(t *testing.T) {
	const epoch = 30
	for _, at := range []int{0, 4, 40} {
		for reader := range readers {
			for _, found := range []int64{1, epoch - 1, epoch, epoch + 2, epoch + 3, -1, -epoch, -epoch - 1, math.MinInt64, math.MaxInt64} {
				// One ahead of it lets it go on; one behind it is not asked.
				cells := map[int]int64{15: 5, 0: epoch + 1}
				cells[reader] = found
				m := board(at, epoch, cells)
				was := look(m)
				went, n := advance(t, m, at)
				if went || n != reader+2 {
					t.Errorf("reader %d, cell %d: %t by %d accesses", reader, found, went, n)
				}
				same(t, "held back", m, was)
			}
		}
	}
}

// The cells that were loaded already, and those that weren't, are changed
// between the steps: so it shows which access comes when.
func TestAdvanceLoadsInOrder(t *testing.T) {
	const at, epoch = 4, 3
	m := board(at, epoch, nil)
	for reader := range readers {
		m.Store(at+1+reader, 99)
	}
	x := trail.New(m)
	var went []bool
	task := func(x *trail.Trail) { went = append(went, rcu.Advance(x, at)) }
	x.Step(0, task)
	m.Store(at, 50)
	for reader := range readers {
		m.Store(at+1+reader, int64(reader%2)*(epoch+1))
		was := look(m)
		if x.Step(1+reader, task) {
			t.Fatalf("over at the reader %d", reader)
		}
		same(t, "a reader's load", m, was)
		m.Store(at+1+reader, 99)
	}
	was := look(m)
	if !x.Step(17, task) || x.Steps() != 18 {
		t.Fatalf("not over by 18 accesses: %d", x.Steps())
	}
	same(t, "the store", m, with(was, at, epoch+1))
	for i, w := range went {
		if w != (i == 17) {
			t.Errorf("step %d: %t", i, w)
		}
	}
}

func TestDry(t *testing.T) {
	m := board(0, 3, nil)
	was := look(m)
	x := trail.New(m)
	calls := 0
	x.Step(0, func(x *trail.Trail) {
		x.Load(1)
		x.Load(2)
		if !x.Dry() {
			t.Fatal("not dry")
		}
		if rcu.Advance(x, 0) {
			t.Error("Advance: true on a dry trail")
		}
		if e := rcu.Epoch(x, 0); e != 0 {
			t.Errorf("Epoch: %d on a dry trail", e)
		}
		rcu.Enter(x, 0, 1)
		rcu.Leave(x, 0, 2)
		calls++
	})
	if calls != 1 || x.Steps() != 1 {
		t.Errorf("calls: %d, accesses: %d", calls, x.Steps())
	}
	same(t, "dry", m, was)
}

// Between steps a trail is dry, too.
func TestNoStep(t *testing.T) {
	m := board(0, 3, nil)
	was, count := look(m), m.Count()
	x := trail.New(m)
	if rcu.Advance(x, 0) {
		t.Error("Advance: true without a step")
	}
	if e := rcu.Epoch(x, 0); e != 0 {
		t.Errorf("Epoch: %d without a step", e)
	}
	rcu.Enter(x, 0, 1)
	rcu.Leave(x, 0, 1)
	if m.Count() != count || x.Steps() != 0 {
		t.Error("an access without a step")
	}
	same(t, "no step", m, was)
}

// A store that is done makes it true, though the task goes on behind it.
func TestAdvanceAheadOfOthers(t *testing.T) {
	m := board(0, 3, nil)
	x := trail.New(m)
	var first, second []bool
	task := func(x *trail.Trail) {
		first = append(first, rcu.Advance(x, 0))
		second = append(second, rcu.Advance(x, 0))
	}
	for time := range 36 {
		if x.Step(time, task) != (time == 35) {
			t.Fatalf("over: %t at the step %d", x.Over(), time)
		}
	}
	for i := range first {
		if first[i] != (i >= 17) || second[i] != (i == 35) {
			t.Errorf("step %d: %t, %t", i, first[i], second[i])
		}
	}
	if got := m.Look(0, 1); got[0] != 5 {
		t.Errorf("the epoch: %d, want 5", got[0])
	}
}

func TestEpochsThatGoRound(t *testing.T) {
	m := board(0, math.MaxInt64, nil)
	run(t, m, func(x *trail.Trail) { rcu.Enter(x, 0, 9) })
	if got := m.Look(10, 1); got[0] != math.MinInt64 {
		t.Errorf("the reader's cell: %d", got[0])
	}
	if went, _ := advance(t, m, 0); !went {
		t.Error("the reader that saw the last epoch holds it back")
	}
	if got := m.Look(0, 1); got[0] != math.MinInt64 {
		t.Errorf("the epoch: %d", got[0])
	}
	if went, n := advance(t, m, 0); went || n != 11 {
		t.Errorf("the next: %t by %d accesses", went, n)
	}
}

// Of cells that aren't there 0 is told, and nothing becomes of what is stored.
func TestBoardsThatArentThere(t *testing.T) {
	for _, at := range []int{math.MinInt, math.MinInt + 1, -65536, -17, 24, 25, 65536, math.MaxInt - 17, math.MaxInt - 16, math.MaxInt - 1, math.MaxInt} {
		m := board(4, 3, map[int]int64{5: 4})
		was, count := look(m), m.Count()
		if went, n := advance(t, m, at); !went || n != 18 {
			t.Errorf("Advance at %d: %t by %d accesses", at, went, n)
		}
		told := int64(-1)
		n := run(t, m, func(x *trail.Trail) {
			told = rcu.Epoch(x, at)
			rcu.Enter(x, at, 0)
			rcu.Enter(x, at, 15)
			rcu.Leave(x, at, 15)
		})
		if told != 0 || n != 6 {
			t.Errorf("at %d: the epoch %d, %d accesses", at, told, n)
		}
		if m.Count() != count {
			t.Errorf("at %d: cells had accesses", at)
		}
		same(t, "no board", m, was)
	}
}

// A board that begins ahead of the cells, or ends behind them.
func TestBoardsThatAreCutOff(t *testing.T) {
	m := cell.New(3)
	run(t, m, func(x *trail.Trail) { rcu.Enter(x, -1, 2) })
	same(t, "Enter without an epoch", m, []int64{0, 0, 1})
	if went, n := advance(t, m, -1); !went || n != 18 {
		t.Errorf("Advance without an epoch: %t by %d accesses", went, n)
	}
	same(t, "Advance without an epoch", m, []int64{0, 0, 1})
	m.Store(1, 6)
	run(t, m, func(x *trail.Trail) { rcu.Enter(x, 1, 1) })
	same(t, "Enter without a reader's cell", m, []int64{0, 6, 1})
	if went, n := advance(t, m, 1); went || n != 2 {
		t.Errorf("Advance: %t by %d accesses", went, n)
	}
	run(t, m, func(x *trail.Trail) { rcu.Leave(x, 1, 0) })
	if went, n := advance(t, m, 1); !went || n != 18 {
		t.Errorf("Advance: %t by %d accesses", went, n)
	}
	same(t, "Advance without most readers' cells", m, []int64{0, 7, 0})
}

func TestBoardsAreApart(t *testing.T) {
	m := cell.New(2 * rcu.Words)
	other := cell.New(2 * rcu.Words)
	run(t, m, func(x *trail.Trail) { rcu.Enter(x, 0, 15) })
	if went, _ := advance(t, m, 0); !went {
		t.Error("the first board's epoch doesn't go on")
	}
	if went, _ := advance(t, m, 0); went {
		t.Error("the first board's epoch goes on")
	}
	for range 3 {
		if went, _ := advance(t, m, rcu.Words); !went {
			t.Error("the second board's epoch is held back by the first one's reader")
		}
	}
	want := make([]int64, 2*rcu.Words)
	same(t, "another memory", other, want)
	want[0], want[16], want[17] = 1, 1, 3
	same(t, "two boards", m, want)
}

func TestFree(t *testing.T) {
	tests := []struct {
		tag, epoch int64
		free       bool
	}{
		{0, 0, false},
		{0, 1, false},
		{0, 2, true},
		{0, 3, true},
		{3, 5, true},
		{4, 5, false},
		{5, 5, false},
		{6, 5, false},
		{7, 5, false},
		{8, 5, false},
		{-1, 0, false},
		{-1, 1, true},
		{-2, 0, true},
		{-3, -2, false},
		{-3, -1, true},
		{1 << 62, -1 << 63, false},
		{-1 << 63, 1 << 62, true},
		{math.MinInt64, math.MinInt64, false},
		{math.MinInt64, math.MinInt64 + 1, false},
		{math.MinInt64, math.MinInt64 + 2, true},
		{math.MinInt64, -1, true},
		{math.MinInt64, math.MaxInt64, true},
		{math.MinInt64 + 1, math.MinInt64, false},
		{math.MinInt64 + 2, math.MinInt64, false},
		{math.MaxInt64 - 3, math.MaxInt64, true},
		{math.MaxInt64 - 2, math.MaxInt64, true},
		{math.MaxInt64 - 2, math.MaxInt64 - 1, false},
		{math.MaxInt64 - 1, math.MaxInt64, false},
		{math.MaxInt64 - 1, math.MinInt64, false},
		{math.MaxInt64 - 1, math.MinInt64 + 2, false},
		{math.MaxInt64, math.MaxInt64, false},
		{math.MaxInt64, math.MinInt64, false},
		{math.MaxInt64, math.MinInt64 + 1, false},
		{math.MaxInt64, math.MinInt64 + 5, false},
		{math.MaxInt64, 0, false},
	}
	for _, c := range tests {
		if got := rcu.Free(c.tag, c.epoch); got != c.free {
			t.Errorf("Free(%d, %d): %t", c.tag, c.epoch, got)
		}
	}
}

// While a reader hasn't left, the epoch goes on at most once, whoever advances,
// and wherever the Advance was when it entered.
func TestEpochGoesOnAtMostOnce(t *testing.T) {
	for reader := range readers {
		for ahead := range 19 { // accesses of the Advance ahead of the store
			for late := range 4 { // epochs that go by between the load and the store
				m := board(0, 3, nil)
				enter := trail.New(m)
				task := func(x *trail.Trail) { rcu.Enter(x, 0, reader) }
				enter.Step(0, task)
				for range late {
					advance(t, m, 0)
				}
				x := trail.New(m)
				step := func(x *trail.Trail) { rcu.Advance(x, 0) }
				for time := range ahead {
					x.Step(time, step)
				}
				if !enter.Step(1, task) {
					t.Fatal("Enter isn't over")
				}
				then := m.Look(0, 1)[0]
				for time := range 18 {
					x.Step(time, step)
				}
				for range 3 {
					advance(t, m, 0)
				}
				if now := m.Look(0, 1)[0]; now-then > 1 || now < then {
					t.Fatalf("reader %d: from %d to %d", reader, then, now)
				}
				run(t, m, func(x *trail.Trail) { rcu.Leave(x, 0, reader) })
				if went, _ := advance(t, m, 0); !went {
					t.Fatalf("reader %d has left, and the epoch doesn't go on", reader)
				}
			}
		}
	}
}

// things is what readers read, in a cell behind the board, and what of it was
// taken out of use, with its tag.
type things struct {
	m       *cell.Memory
	last    int64
	retired map[int64]int64
}

const current = rcu.Words

// reading is a reader that enters, reads what is there, stays for some
// accesses, and leaves; again and again.
type reading struct {
	x       *trail.Trail
	task    trail.Task
	thing   int64 // that it has read; 0: none
	entered int64 // the epoch when it had entered
	inside  bool
}

// begin makes the reader enter anew.
func (r *reading) begin(m *cell.Memory, reader, stay int) {
	r.x, r.inside, r.thing = trail.New(m), false, 0
	r.task = func(x *trail.Trail) {
		rcu.Enter(x, 0, reader)
		if x.Fresh() {
			r.inside, r.entered = true, m.Look(0, 1)[0]
		}
		if thing := x.Load(current); !x.Dry() {
			r.thing = thing
		}
		for range stay {
			x.Load(current)
		}
		rcu.Leave(x, 0, reader)
	}
}

// check says what is wrong with what a reader that hasn't left sees.
func (l *things) check(t *testing.T, turn int, r *reading) {
	t.Helper()
	if !r.inside {
		return
	}
	if now := l.m.Look(0, 1)[0]; now-r.entered > 1 || now < r.entered {
		t.Fatalf("turn %d: the epoch is %d, it was %d", turn, now, r.entered)
	}
	if r.thing == 0 || r.thing == l.last {
		return
	}
	if _, kept := l.retired[r.thing]; !kept {
		t.Fatalf("turn %d: the thing %d is freed and read", turn, r.thing)
	}
}

// writing is a task of whoever changes, one behind the other: it advances,
// frees what may be freed, and puts a new thing in the old one's place.
func (l *things) writing(freed *int) trail.Task {
	return func(x *trail.Trail) {
		rcu.Advance(x, 0)
		epoch := rcu.Epoch(x, 0)
		if x.Fresh() {
			for thing, tag := range l.retired {
				if rcu.Free(tag, epoch) {
					delete(l.retired, thing)
					*freed++
				}
			}
		}
		old := x.Load(current)
		x.Store(current, old+1)
		if x.Fresh() {
			// It is out of use, and not to be freed till it has its tag.
			l.last, l.retired[old] = old+1, math.MaxInt64
		}
		if tag := rcu.Epoch(x, 0); x.Fresh() {
			l.retired[old] = tag
		}
	}
}

// What was in use when a reader entered isn't freed till it has left, however
// the steps are picked; and what may be freed is freed in the end.
func TestNothingIsFreedThatIsRead(t *testing.T) {
	seed := uint64(11)
	pick := func(n int) int {
		seed = seed*6364136223846793005 + 1442695040888963407
		return int(seed>>33) % n
	}
	l := &things{m: cell.New(rcu.Words + 1), last: 1, retired: map[int64]int64{}}
	l.m.Store(current, 1)
	var all [readers]reading
	for reader := range all {
		all[reader].begin(l.m, reader, pick(9))
	}
	freed := 0
	writer, task := trail.New(l.m), l.writing(&freed)
	for turn := range 120000 {
		// Now few read, now all do: else the epoch would hardly go on.
		few := 1 + turn/20000*3
		if who := pick(2 * few); who < few {
			r := &all[who]
			if r.x.Step(turn, r.task) {
				r.begin(l.m, who, pick(9))
			}
		} else if writer.Step(turn, task) {
			writer, task = trail.New(l.m), l.writing(&freed)
		}
		for reader := range all {
			l.check(t, turn, &all[reader])
		}
	}
	if freed < 100 {
		t.Errorf("freed: %d", freed)
	}
}
