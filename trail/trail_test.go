package trail_test

import (
	"math"
	"slices"
	"testing"

	"samara/cell"
	"samara/trail"
)

// filled answers a memory of these cells, and how many accesses it had by that.
func filled(values ...int64) (*cell.Memory, int) {
	m := cell.New(len(values))
	for i, v := range values {
		m.Store(i, v)
	}
	return m, m.Count()
}

// holds checks a memory's cells, and how many accesses it has had.
func holds(t *testing.T, m *cell.Memory, count int, values ...int64) {
	t.Helper()
	if got := m.Look(0, m.Size()); !slices.Equal(got, values) {
		t.Errorf("cells: %v, want %v", got, values)
	}
	if got := m.Count(); got != count {
		t.Errorf("accesses: %d, want %d", got, count)
	}
}

// stands checks what a trail between steps tells of itself.
func stands(t *testing.T, x *trail.Trail, steps int, over bool, marks ...trail.Mark) {
	t.Helper()
	if got := x.Steps(); got != steps {
		t.Errorf("Steps: %d, want %d", got, steps)
	}
	if got := x.Over(); got != over {
		t.Errorf("Over: %t, want %t", got, over)
	}
	if got := x.Dry(); got == over {
		t.Errorf("Dry: %t between steps, Over: %t", got, over)
	}
	if x.Fresh() {
		t.Error("Fresh between steps")
	}
	if got := x.Marks(); !slices.Equal(got, marks) {
		t.Errorf("Marks: %v, want %v", got, marks)
	}
}

// step takes a step, and checks whether the task is over then.
func step(t *testing.T, x *trail.Trail, time int, task trail.Task, over bool) {
	t.Helper()
	if got := x.Step(time, task); got != over {
		t.Errorf("Step at %d: %t, want %t", time, got, over)
	}
}

// finish takes steps till the task is over, and answers how many.
func finish(t *testing.T, x *trail.Trail, task trail.Task) int {
	t.Helper()
	for n := 1; n <= 1000; n++ {
		if x.Step(n, task) {
			return n
		}
	}
	t.Fatal("the task doesn't end")
	return 0
}

// access is one way to do an access. What it is told is a number: 1 is true.
type access struct {
	name string
	do   func(x *trail.Trail, i int) int64
	told int64 // of a cell that is 7
	left int64 // in it
}

func number(b bool) int64 {
	if b {
		return 1
	}
	return 0
}

// accesses is all kinds of them.
func accesses() []access {
	return []access{
		{"Load", func(x *trail.Trail, i int) int64 { return x.Load(i) }, 7, 7},
		{"Store", func(x *trail.Trail, i int) int64 { x.Store(i, 3); return 0 }, 0, 3},
		{"Add", func(x *trail.Trail, i int) int64 { return x.Add(i, -2) }, 7, 5},
		{"Swap", func(x *trail.Trail, i int) int64 { return number(x.Swap(i, 7, 9)) }, 1, 9},
		{"Swap in vain", func(x *trail.Trail, i int) int64 { return number(x.Swap(i, 8, 9)) }, 0, 7},
		{"Wait", func(x *trail.Trail, i int) int64 { x.Wait(i, 7); return 0 }, 0, 7},
	}
}

var noCells = []int{math.MinInt, -65536, -1, 2, 3, 65536, math.MaxInt}

func TestExample(t *testing.T) {
	m := cell.New(2)
	x := trail.New(m)
	task := func(x *trail.Trail) {
		x.Add(0, 5)
		x.Add(1, 6)
	}
	step(t, x, 0, task, false)
	holds(t, m, 1, 5, 0)
	stands(t, x, 1, false)
	step(t, x, 1, task, true)
	holds(t, m, 2, 5, 6)
	stands(t, x, 2, true)
}

func TestNew(t *testing.T) {
	m, n := filled(1, 2)
	stands(t, trail.New(m), 0, false)
	holds(t, m, n, 1, 2)
}

func TestNothingToDo(t *testing.T) {
	m, n := filled(1)
	x := trail.New(m)
	runs := 0
	task := func(x *trail.Trail) {
		runs++
		if x.Dry() || x.Fresh() || x.Over() || x.Steps() != 0 {
			t.Error("Dry, Fresh, Over or Steps of a task that does nothing")
		}
	}
	step(t, x, 0, task, true)
	step(t, x, 1, task, true)
	if runs != 1 {
		t.Errorf("%d runs", runs)
	}
	stands(t, x, 0, true)
	holds(t, m, n, 1)
}

// TestEachAccess does one of each kind, and changes the cell behind it: the
// second step tells it again, and does it no more.
func TestEachAccess(t *testing.T) {
	for _, a := range accesses() {
		m, n := filled(7, 50)
		x := trail.New(m)
		var told []int64
		task := func(y *trail.Trail) {
			if y != x {
				t.Errorf("%s: the task is handed another trail", a.name)
			}
			told = append(told, a.do(y, 0), y.Load(1))
		}
		step(t, x, 0, task, false)
		holds(t, m, n+1, a.left, 50)
		stands(t, x, 1, false)

		m.Store(0, 100)
		m.Store(1, 60)
		step(t, x, 1, task, true)
		holds(t, m, n+4, 100, 60)
		stands(t, x, 2, true)
		if want := []int64{a.told, 0, a.told, 60}; !slices.Equal(told, want) {
			t.Errorf("%s: told %v, want %v", a.name, told, want)
		}
	}
}

// TestEachAccessDry asks for each kind behind an access that was done.
func TestEachAccessDry(t *testing.T) {
	for _, a := range accesses() {
		m, n := filled(0, 7)
		x := trail.New(m)
		var told []int64
		task := func(x *trail.Trail) {
			x.Load(0)
			for range 3 {
				told = append(told, a.do(x, 1))
				if !x.Dry() || x.Fresh() {
					t.Errorf("%s: Dry %t, Fresh %t", a.name, x.Dry(), x.Fresh())
				}
			}
		}
		step(t, x, 0, task, false)
		holds(t, m, n+1, 0, 7)
		stands(t, x, 1, false)
		if !slices.Equal(told, []int64{0, 0, 0}) {
			t.Errorf("%s: told %v", a.name, told)
		}
	}
}

// TestEachAccessOfNoCell: it is an access all the same, but for a Wait.
func TestEachAccessOfNoCell(t *testing.T) {
	for _, a := range accesses() {
		if a.name == "Wait" {
			continue
		}
		for _, i := range noCells {
			m, n := filled(7, 7)
			x := trail.New(m)
			var told []int64
			var fresh []bool
			task := func(x *trail.Trail) {
				told = append(told, a.do(x, i))
				fresh = append(fresh, x.Fresh())
				x.Mark(4)
				told = append(told, x.Load(0))
			}
			step(t, x, 8, task, false)
			stands(t, x, 1, false, trail.Mark{Kind: 4, Time: 8})
			holds(t, m, n, 7, 7)
			step(t, x, 9, task, true)
			stands(t, x, 2, true, trail.Mark{Kind: 4, Time: 8})
			holds(t, m, n+1, 7, 7)
			if !slices.Equal(told, []int64{0, 0, 0, 7}) || !slices.Equal(fresh, []bool{true, false}) {
				t.Errorf("%s of %d: told %v, fresh %v", a.name, i, told, fresh)
			}
		}
	}
}

func TestWaitOfNoCell(t *testing.T) {
	for _, i := range noCells {
		for _, v := range []int64{0, 7, -1, math.MinInt64} {
			m, n := filled(7, 0)
			x := trail.New(m)
			task := func(x *trail.Trail) {
				x.Wait(i, v)
				if !x.Dry() || !x.Fresh() {
					t.Errorf("Wait(%d, %d): Dry %t, Fresh %t", i, v, x.Dry(), x.Fresh())
				}
				x.Store(0, 1)
			}
			for time := range 5 {
				step(t, x, time, task, false)
				stands(t, x, 0, false)
			}
			holds(t, m, n, 7, 0)
		}
	}
}

func TestSwapAndAddAtTheEdges(t *testing.T) {
	m, _ := filled(math.MaxInt64, math.MinInt64)
	x := trail.New(m)
	var told []int64
	task := func(x *trail.Trail) {
		told = []int64{
			x.Add(0, 1), x.Add(1, -1),
			number(x.Swap(0, math.MinInt64, -1)), number(x.Swap(1, math.MinInt64, -2)),
			x.Load(0), x.Load(1),
		}
	}
	if n := finish(t, x, task); n != 6 {
		t.Errorf("%d steps", n)
	}
	want := []int64{math.MaxInt64, math.MinInt64, 1, 0, -1, math.MaxInt64}
	if !slices.Equal(told, want) {
		t.Errorf("told %v, want %v", told, want)
	}
}

func TestWait(t *testing.T) {
	m, n := filled(1, 0)
	x := trail.New(m)
	var told []int64
	task := func(x *trail.Trail) {
		x.Wait(0, 5)
		told = append(told, x.Add(1, 1))
	}
	for time := range 4 {
		step(t, x, time, task, false)
		stands(t, x, 0, false)
		holds(t, m, n+time+1, 1, 0)
	}
	m.Store(0, 5)
	step(t, x, 4, task, false)
	stands(t, x, 1, false)
	holds(t, m, n+6, 5, 0)
	// It has ended: what the cell becomes is no more asked.
	m.Store(0, 6)
	step(t, x, 5, task, true)
	stands(t, x, 2, true)
	holds(t, m, n+8, 6, 1)
	if !slices.Equal(told, []int64{0, 0, 0, 0, 0, 0}) {
		t.Errorf("told %v", told)
	}
}

func TestWaitAtOnce(t *testing.T) {
	m, n := filled(0, -3)
	x := trail.New(m)
	task := func(x *trail.Trail) {
		x.Wait(0, 0)
		x.Wait(1, -3)
	}
	step(t, x, 0, task, false)
	step(t, x, 1, task, true)
	stands(t, x, 2, true)
	holds(t, m, n+2, 0, -3)
}

// TestWaitInTheMiddle: what is ahead of it is told again while it waits, and
// isn't done again.
func TestWaitInTheMiddle(t *testing.T) {
	m, n := filled(10, 0)
	x := trail.New(m)
	var got int64
	task := func(x *trail.Trail) {
		v := x.Add(0, 1)
		x.Wait(1, v)
		x.Store(1, v+5)
		got = v
	}
	step(t, x, 0, task, false)
	holds(t, m, n+1, 11, 0)
	for time := range 3 {
		step(t, x, 1+time, task, false)
		stands(t, x, 1, false)
		holds(t, m, n+2+time, 11, 0)
	}
	m.Store(1, 10)
	step(t, x, 4, task, false)
	stands(t, x, 2, false)
	step(t, x, 5, task, true)
	stands(t, x, 3, true)
	holds(t, m, n+7, 11, 15)
	if got != 10 {
		t.Errorf("got %d", got)
	}
}

// TestBehindAWait: a Wait that goes on is fresh, as it has loaded its cell, and
// the trail is dry; each access behind it is dry and not fresh.
func TestBehindAWait(t *testing.T) {
	for _, a := range accesses() {
		m, n := filled(1, 7)
		x := trail.New(m)
		task := func(x *trail.Trail) {
			x.Wait(0, 5)
			if !x.Dry() || !x.Fresh() {
				t.Errorf("Wait: Dry %t, Fresh %t", x.Dry(), x.Fresh())
			}
			if got := a.do(x, 1); got != 0 || !x.Dry() || x.Fresh() {
				t.Errorf("%s: %d, Dry %t, Fresh %t", a.name, got, x.Dry(), x.Fresh())
			}
			x.Mark(2)
			x.Wait(0, 1)
			if !x.Dry() || x.Fresh() {
				t.Errorf("Wait behind it: Dry %t, Fresh %t", x.Dry(), x.Fresh())
			}
			x.Mark(3)
		}
		for time := range 3 {
			step(t, x, time, task, false)
			stands(t, x, 0, false)
			holds(t, m, n+time+1, 1, 7)
		}
	}
}

func TestOverIsOver(t *testing.T) {
	m, n := filled(1)
	x := trail.New(m)
	runs := 0
	task := func(x *trail.Trail) {
		runs++
		x.Add(0, 1)
	}
	step(t, x, 0, task, true)
	step(t, x, 1, task, true)
	step(t, x, 2, func(x *trail.Trail) {
		runs++
		x.Add(0, 1)
		x.Mark(1)
		x.Add(0, 1)
	}, true)
	step(t, x, 3, nil, true)
	if runs != 1 {
		t.Errorf("%d runs", runs)
	}
	stands(t, x, 1, true)
	holds(t, m, n+1, 2)
}

// TestOneRunAStep: each step runs the task once, from its beginning to its end.
func TestOneRunAStep(t *testing.T) {
	x := trail.New(cell.New(1))
	begun, ended := 0, 0
	task := func(x *trail.Trail) {
		begun++
		for range 4 {
			x.Add(0, 1)
		}
		ended++
	}
	for n := 1; n <= 4; n++ {
		step(t, x, n, task, n == 4)
		if begun != n || ended != n {
			t.Errorf("step %d: begun %d, ended %d", n, begun, ended)
		}
		stands(t, x, n, n == 4)
	}
}

func TestDryAndFreshInAStep(t *testing.T) {
	m, _ := filled(3, 4)
	x := trail.New(m)
	var dry, fresh []bool
	see := func() {
		// Asking changes nothing, so it is asked twice.
		for range 2 {
			dry = append(dry, x.Dry())
			fresh = append(fresh, x.Fresh())
		}
	}
	task := func(x *trail.Trail) {
		dry, fresh = nil, nil
		see()
		x.Load(0)
		see()
		x.Wait(1, 4)
		see()
		x.Store(0, 1)
		see()
		x.Load(9)
		see()
	}
	for n := range 4 {
		step(t, x, n, task, n == 3)
		for place := range 5 {
			for _, i := range []int{2 * place, 2*place + 1} {
				if want := place > n+1; dry[i] != want {
					t.Errorf("step %d: Dry behind %d accesses: %t", n, place, dry[i])
				}
				if want := place == n+1; fresh[i] != want {
					t.Errorf("step %d: Fresh behind %d accesses: %t", n, place, fresh[i])
				}
			}
		}
		stands(t, x, n+1, n == 3)
	}
}

func TestStepsAndOverInAStep(t *testing.T) {
	x := trail.New(cell.New(1))
	var steps []int
	task := func(x *trail.Trail) {
		for range 3 {
			steps = append(steps, x.Steps())
			x.Load(0)
			if x.Over() {
				t.Error("Over in a step")
			}
		}
		steps = append(steps, x.Steps())
	}
	finish(t, x, task)
	if want := []int{0, 1, 1, 1, 1, 1, 2, 2, 2, 2, 2, 3}; !slices.Equal(steps, want) {
		t.Errorf("Steps %v, want %v", steps, want)
	}
}

// TestBetweenSteps: what is asked of a trail outside a step does nothing, be
// its task over or not.
func TestBetweenSteps(t *testing.T) {
	for _, a := range accesses() {
		m, n := filled(7, 7)
		x := trail.New(m)
		task := func(x *trail.Trail) {
			x.Load(0)
			x.Load(1)
		}
		outside := func(steps int, over bool) {
			t.Helper()
			for range 3 {
				if got := a.do(x, 0); got != 0 {
					t.Errorf("%s between steps: %d", a.name, got)
				}
				x.Mark(1)
				stands(t, x, steps, over)
				holds(t, m, n+steps, 7, 7)
			}
		}
		outside(0, false)
		step(t, x, 0, task, false)
		outside(1, false)
		step(t, x, 1, task, true)
		outside(2, true)
		step(t, x, 2, task, true)
		outside(2, true)
	}
}

// TestMarks puts a mark at each place of a task: just those directly behind an
// access are remembered, each one once, with the time of that access.
func TestMarks(t *testing.T) {
	m := cell.New(2)
	x := trail.New(m)
	task := func(x *trail.Trail) {
		x.Mark(100)
		x.Load(0)
		x.Mark(1)
		x.Store(0, 3)
		x.Mark(2)
		x.Swap(0, 9, 9)
		x.Add(1, 1)
		x.Mark(4)
		x.Wait(0, 3)
		x.Mark(5)
	}
	all := []trail.Mark{{Kind: 1, Time: 10}, {Kind: 2, Time: -5}, {Kind: 4, Time: 10}, {Kind: 5, Time: 99}}
	for i, c := range []struct{ time, marks int }{{10, 1}, {-5, 2}, {7, 2}, {10, 3}, {99, 4}} {
		step(t, x, c.time, task, i == 4)
		stands(t, x, i+1, i == 4, all[:c.marks]...)
	}
	step(t, x, 1000, task, true)
	stands(t, x, 5, true, all...)
}

func TestMarksAtTheEdges(t *testing.T) {
	x := trail.New(cell.New(1))
	kinds := []int{math.MinInt, -1, 0, math.MaxInt}
	times := []int{math.MaxInt, 0, -1, math.MinInt}
	task := func(x *trail.Trail) {
		for _, kind := range kinds {
			x.Load(0)
			x.Mark(kind)
		}
	}
	var want []trail.Mark
	for i, time := range times {
		step(t, x, time, task, i == 3)
		want = append(want, trail.Mark{Kind: kinds[i], Time: time})
		stands(t, x, i+1, i == 3, want...)
	}
}

// TestManyMarks: all marks behind one access are behind it, ahead of any other.
func TestManyMarks(t *testing.T) {
	x := trail.New(cell.New(1))
	task := func(x *trail.Trail) {
		x.Load(0)
		x.Mark(3)
		x.Mark(1)
		if got := len(x.Marks()); got != 2 {
			t.Errorf("%d marks in the step", got)
		}
		x.Mark(3)
		x.Load(0)
	}
	want := []trail.Mark{{Kind: 3, Time: 6}, {Kind: 1, Time: 6}, {Kind: 3, Time: 6}}
	step(t, x, 6, task, false)
	stands(t, x, 1, false, want...)
	task2 := func(x *trail.Trail) {
		x.Load(0)
		x.Mark(3)
		x.Load(0)
	}
	step(t, x, 7, task2, true)
	stands(t, x, 2, true, want...)
}

func TestMarkBehindADryAccess(t *testing.T) {
	x := trail.New(cell.New(1))
	task := func(x *trail.Trail) {
		x.Load(0)
		x.Load(0)
		x.Mark(1)
		x.Load(0)
	}
	step(t, x, 0, task, false)
	stands(t, x, 1, false)
	step(t, x, 1, task, false)
	stands(t, x, 2, false, trail.Mark{Kind: 1, Time: 1})
	step(t, x, 2, task, true)
	stands(t, x, 3, true, trail.Mark{Kind: 1, Time: 1})
}

// TestMarkBehindAWait: each of its loads is an access that is fresh once.
func TestMarkBehindAWait(t *testing.T) {
	m := cell.New(1)
	x := trail.New(m)
	task := func(x *trail.Trail) {
		x.Wait(0, 1)
		x.Mark(8)
		x.Load(0)
		x.Mark(9)
	}
	want := []trail.Mark{{Kind: 8, Time: 3}, {Kind: 8, Time: 4}, {Kind: 8, Time: 5}, {Kind: 9, Time: 6}}
	step(t, x, 3, task, false)
	stands(t, x, 0, false, want[:1]...)
	step(t, x, 4, task, false)
	stands(t, x, 0, false, want[:2]...)
	m.Store(0, 1)
	step(t, x, 5, task, false)
	stands(t, x, 1, false, want[:3]...)
	step(t, x, 6, task, true)
	stands(t, x, 2, true, want...)
}

func TestMarksAreNewMemory(t *testing.T) {
	x := trail.New(cell.New(1))
	task := func(x *trail.Trail) {
		for kind := range 3 {
			x.Load(0)
			x.Mark(kind)
		}
	}
	want := []trail.Mark{{Kind: 0, Time: 1}, {Kind: 1, Time: 2}}
	x.Step(1, task)
	x.Step(2, task)
	l := x.Marks()
	l[0].Kind = 50
	_ = append(l, trail.Mark{Kind: 60})
	stands(t, x, 2, false, want...)
	l = x.Marks()
	x.Step(3, task)
	if !slices.Equal(l, want) {
		t.Errorf("a list that was told has become %v", l)
	}
	stands(t, x, 3, true, append(want, trail.Mark{Kind: 2, Time: 3})...)
}

// TestAnotherTask hands other tasks to a trail: what is remembered stays, and
// is told by the places of the accesses.
func TestAnotherTask(t *testing.T) {
	m, n := filled(3, 4)
	x := trail.New(m)
	var told []int64
	loads := func(x *trail.Trail) {
		told = []int64{x.Load(0), x.Load(1), x.Load(0)}
	}
	step(t, x, 0, loads, false)
	step(t, x, 1, func(x *trail.Trail) {
		if got := x.Add(1, 100); got != 3 {
			t.Errorf("told %d", got)
		}
		x.Mark(1)
		if got := x.Add(1, 200); got != 4 {
			t.Errorf("told %d", got)
		}
		x.Mark(2)
		x.Add(1, 300)
	}, false)
	stands(t, x, 2, false, trail.Mark{Kind: 2, Time: 1})
	holds(t, m, n+2, 3, 204)
	m.Store(0, 9)
	step(t, x, 2, loads, true)
	if !slices.Equal(told, []int64{3, 4, 9}) {
		t.Errorf("told %v", told)
	}
	stands(t, x, 3, true, trail.Mark{Kind: 2, Time: 1})
}

// TestAShorterTask: a step that ends before the trail is dry is the last one.
func TestAShorterTask(t *testing.T) {
	m, n := filled(3)
	x := trail.New(m)
	task := func(x *trail.Trail) {
		for range 9 {
			x.Add(0, 1)
		}
	}
	step(t, x, 0, task, false)
	step(t, x, 1, task, false)
	step(t, x, 2, func(x *trail.Trail) { x.Load(0) }, true)
	step(t, x, 3, task, true)
	stands(t, x, 2, true)
	holds(t, m, n+2, 5)
}

func TestNoTask(t *testing.T) {
	m, n := filled(3)
	x := trail.New(m)
	step(t, x, 0, nil, true)
	stands(t, x, 0, true)
	holds(t, m, n, 3)
}

// TestTaskThatPanics: it ends there; on a dry trail that isn't its end.
func TestTaskThatPanics(t *testing.T) {
	m, n := filled(3, 2)
	x := trail.New(m)
	got := int64(0)
	task := func(x *trail.Trail) {
		a := x.Load(0)
		b := x.Load(1)
		got = 100 / b * a
		x.Store(0, got)
	}
	step(t, x, 0, task, false)
	stands(t, x, 1, false)
	step(t, x, 1, task, false)
	step(t, x, 2, task, true)
	stands(t, x, 3, true)
	holds(t, m, n+3, 150, 2)

	y := trail.New(m)
	step(t, y, 0, func(y *trail.Trail) {
		y.Load(0)
		panic("no")
	}, true)
	stands(t, y, 1, true)
}

// TestStepInAStep: a task that steps its own trail gets no step, and ends.
func TestStepInAStep(t *testing.T) {
	m, n := filled(3)
	x := trail.New(m)
	var task trail.Task
	task = func(x *trail.Trail) {
		x.Add(0, 1)
		if x.Step(50, task) {
			t.Error("a step in a step")
		}
		x.Mark(1)
		x.Add(0, 1)
	}
	step(t, x, 0, task, false)
	stands(t, x, 1, false, trail.Mark{Kind: 1, Time: 0})
	holds(t, m, n+1, 4)
	step(t, x, 1, task, true)
	stands(t, x, 2, true, trail.Mark{Kind: 1, Time: 0})
	holds(t, m, n+2, 5)
}

func TestTrailsAreApart(t *testing.T) {
	m, _ := filled(0)
	other, _ := filled(0)
	x, y, z := trail.New(m), trail.New(m), trail.New(other)
	task := func(x *trail.Trail) {
		x.Add(0, 1)
		x.Mark(5)
		x.Add(0, 1)
	}
	step(t, x, 3, task, false)
	stands(t, x, 1, false, trail.Mark{Kind: 5, Time: 3})
	stands(t, y, 0, false)
	stands(t, z, 0, false)
	step(t, x, 4, task, true)
	stands(t, y, 0, false)
	holds(t, other, 1, 0)
	step(t, z, 9, task, false)
	stands(t, z, 1, false, trail.Mark{Kind: 5, Time: 9})
	holds(t, m, 3, 2)
}

// TestWhatWasTold: two tasks in turns, each of which adds by a load and a
// store; what one of them stores between gets lost, as its own access told it.
func TestWhatWasTold(t *testing.T) {
	m := cell.New(1)
	x, y := trail.New(m), trail.New(m)
	var saw []int64
	task := func(x *trail.Trail) {
		v := x.Load(0)
		x.Store(0, v+1)
		w := x.Load(0)
		if !x.Dry() {
			saw = append(saw, v, w)
		}
	}
	for i, z := range []*trail.Trail{x, y, x, x, y, y} {
		step(t, z, i, task, i == 3 || i == 5)
	}
	holds(t, m, 6, 1)
	if !slices.Equal(saw, []int64{0, 1, 0, 1}) {
		t.Errorf("saw %v", saw)
	}
}

// TestALatch: tasks that wait for one another end, whoever is picked.
func TestALatch(t *testing.T) {
	for _, order := range [][]int{{0, 1, 2}, {2, 1, 0}, {1, 1, 0, 2, 2}} {
		m := cell.New(3)
		trails := []*trail.Trail{trail.New(m), trail.New(m), trail.New(m)}
		task := func(x *trail.Trail) {
			ticket := x.Add(0, 1)
			x.Wait(1, ticket)
			v := x.Load(2)
			x.Store(2, v+1)
			x.Store(1, ticket+1)
		}
		for range 30 {
			for _, i := range order {
				trails[i].Step(0, task)
			}
		}
		if got := m.Look(0, 3); !slices.Equal(got, []int64{3, 3, 3}) {
			t.Errorf("%v: %v", order, got)
		}
		for _, x := range trails {
			stands(t, x, 5, true)
		}
	}
}

// thread is a task of a mixed run as a plain model has it: which access is
// next, and what it has made of what it was told so far.
type thread struct {
	seed, length int64
	next, sum    int64
	marks        []trail.Mark
}

// op tells the kind, the cell and the number of a task's access: all hang on
// what the task was told.
func op(seed, place, sum int64) (int64, int, int64) {
	h := (seed*1000003+place)*2654435761 + sum*40503
	h ^= int64(uint64(h) >> 15)
	h &= math.MaxInt64
	return h % 6, int(h/6%5) - 1, h / 30 % 3
}

// mix is what a task makes of what it was told.
func mix(sum, told int64) int64 {
	return sum*31 + told + 1
}

// run is a thread as a task.
func (h *thread) run(x *trail.Trail) int64 {
	sum := int64(0)
	for place := range h.length {
		kind, i, v := op(h.seed, place, sum)
		told := int64(0)
		switch kind {
		case 0:
			told = x.Load(i)
		case 1:
			x.Store(i, v)
		case 2:
			told = x.Add(i, v-1)
		case 3:
			told = number(x.Swap(i, v, v+1))
		default:
			x.Wait(max(i, 0), v)
		}
		sum = mix(sum, told)
		if v != 0 {
			x.Mark(int(sum))
		}
	}
	return sum
}

// advance does a thread's next access on the model's cells.
func (h *thread) advance(cells []int64, time int) {
	if h.next == h.length {
		return
	}
	kind, i, v := op(h.seed, h.next, h.sum)
	told, waits := int64(0), false
	switch {
	case kind >= 4:
		waits = cells[max(i, 0)] != v
	case i < 0:
	case kind == 0:
		told = cells[i]
	case kind == 1:
		cells[i] = v
	case kind == 2:
		told = cells[i]
		cells[i] += v - 1
	case cells[i] == v:
		told = 1
		cells[i] = v + 1
	}
	sum := mix(h.sum, told)
	if v != 0 {
		h.marks = append(h.marks, trail.Mark{Kind: int(sum), Time: time})
	}
	if !waits {
		h.sum = sum
		h.next++
	}
}

// TestInTurns runs tasks in all kinds of turns, and holds each step against a
// model that does each task's next access and nothing else.
func TestInTurns(t *testing.T) {
	state := uint64(1)
	random := func(n int) int {
		state = state*6364136223846793005 + 1442695040888963407
		return int(state >> 33 % uint64(n))
	}
	ended := 0
	for round := range 300 {
		cells := make([]int64, 4)
		m := cell.New(4)
		var threads []*thread
		var trails []*trail.Trail
		for i := range 1 + random(4) {
			threads = append(threads, &thread{seed: int64(round*10 + i), length: int64(random(12))})
			trails = append(trails, trail.New(m))
		}
		for time := range 150 {
			i := random(len(threads))
			h, x := threads[i], trails[i]
			ran, was, sum := false, x.Over(), int64(0)
			over := x.Step(time, func(x *trail.Trail) { ran, sum = true, h.run(x) })
			h.advance(cells, time)
			if ran == was || over != (h.next == h.length) || ran && over && sum != h.sum {
				t.Fatalf("round %d, time %d: ran %t, over %t with %d, want %d of %d with %d",
					round, time, ran, over, sum, h.next, h.length, h.sum)
			}
			stands(t, x, int(h.next), over, h.marks...)
			if got := m.Look(0, 4); !slices.Equal(got, cells) || t.Failed() {
				t.Fatalf("round %d, time %d: cells %v, want %v", round, time, got, cells)
			}
			if ran && over {
				ended++
			}
		}
	}
	if ended < 200 {
		t.Errorf("just %d tasks ended", ended)
	}
}
