package latch_test

import (
	"fmt"
	"math"
	"slices"
	"testing"

	"samara/cell"
	"samara/latch"
	"samara/trail"
)

// memory answers a memory whose cells are other numbers, but for a latch that
// stands at a cell of it: the ticket that is drawn next, and the one served.
func memory(at int, drawn, served int64) *cell.Memory {
	m := cell.New(at + latch.Words + 3)
	for i := range m.Size() {
		m.Store(i, int64(-100-i))
	}
	m.Store(at, drawn)
	m.Store(at+1, served)
	return m
}

// look answers all cells.
func look(m *cell.Memory) []int64 {
	return m.Look(0, m.Size())
}

// same checks that the cells are these.
func same(t *testing.T, what string, m *cell.Memory, want []int64) {
	t.Helper()
	if got := look(m); !slices.Equal(got, want) {
		t.Errorf("%s: cells %v, want %v", what, got, want)
	}
}

// with answers these cells, but for one.
func with(cells []int64, i int, v int64) []int64 {
	changed := slices.Clone(cells)
	changed[i] = v
	return changed
}

// run takes steps till the task is over, and answers how many accesses it did.
func run(t *testing.T, m *cell.Memory, task trail.Task) int {
	t.Helper()
	x := trail.New(m)
	for time := range 100 {
		if x.Step(time, task) {
			return x.Steps()
		}
	}
	t.Fatal("the task doesn't end")
	return 0
}

// take runs a Take that doesn't wait, and answers its ticket.
func take(t *testing.T, m *cell.Memory, at int) int64 {
	t.Helper()
	ticket := int64(-1)
	if n := run(t, m, func(x *trail.Trail) { ticket = latch.Take(x, at) }); n != 2 {
		t.Errorf("Take: %d accesses", n)
	}
	return ticket
}

// give runs a Give.
func give(t *testing.T, m *cell.Memory, at int, ticket int64) {
	t.Helper()
	if n := run(t, m, func(x *trail.Trail) { latch.Give(x, at, ticket) }); n != 1 {
		t.Errorf("Give: %d accesses", n)
	}
}

// idle runs an Idle, and answers what it tells.
func idle(t *testing.T, m *cell.Memory, at int) bool {
	t.Helper()
	told := false
	if n := run(t, m, func(x *trail.Trail) { told = latch.Idle(x, at) }); n != 2 {
		t.Errorf("Idle: %d accesses", n)
	}
	return told
}

var edges = []int64{0, 1, 2, 5, 1 << 40, -1, -2, -7, math.MinInt64, math.MaxInt64 - 1, math.MaxInt64}

func TestWords(t *testing.T) {
	if latch.Words != 2 {
		t.Errorf("Words: %d", latch.Words)
	}
}

func TestExample(t *testing.T) {
	m := cell.New(latch.Words)
	if ticket := take(t, m, 0); ticket != 0 {
		t.Errorf("Take: %d", ticket)
	}
	other := trail.New(m)
	ticket := int64(-1)
	task := func(x *trail.Trail) { ticket = latch.Take(x, 0) }
	for time := range 6 {
		if other.Step(time, task) || ticket != 0 {
			t.Errorf("the other one's Take at %d: %d, over: %t", time, ticket, other.Over())
		}
	}
	give(t, m, 0, 0)
	if !other.Step(6, task) || ticket != 1 {
		t.Errorf("the other one's Take: %d, over: %t", ticket, other.Over())
	}
	same(t, "both", m, []int64{2, 1})
}

func TestTakeIsAnAddThenAWait(t *testing.T) {
	for _, at := range []int{0, 1, 4, 40} {
		for _, ticket := range edges {
			m := memory(at, ticket, ticket)
			was, count := look(m), m.Count()
			x := trail.New(m)
			var told []int64
			task := func(x *trail.Trail) { told = append(told, latch.Take(x, at)) }
			if x.Step(0, task) || m.Count() != count+1 || x.Steps() != 1 {
				t.Fatalf("ticket %d: not one access", ticket)
			}
			taken := with(was, at, ticket+1)
			same(t, "the Add", m, taken)
			if !x.Step(1, task) || m.Count() != count+2 || x.Steps() != 2 {
				t.Fatalf("ticket %d: not over by two accesses", ticket)
			}
			same(t, "the wait", m, taken)
			if !slices.Equal(told, []int64{0, ticket}) {
				t.Errorf("ticket %d: told %v", ticket, told)
			}
		}
	}
}

// Whatever else is served, the one who waits goes on waiting, by a load a step,
// and isn't told its ticket.
func TestTakeWaits(t *testing.T) {
	const at = 4
	for _, ticket := range edges {
		m := memory(at, ticket, ticket+1)
		x := trail.New(m)
		var told int64
		task := func(x *trail.Trail) { told = latch.Take(x, at) }
		x.Step(0, task)
		for time, served := range []int64{ticket + 1, ticket - 1, ticket + 2, ^ticket, ticket ^ 1<<32, ticket ^ math.MinInt64} {
			m.Store(at+1, served)
			was, count := look(m), m.Count()
			if x.Step(1+time, task) || told != 0 || x.Steps() != 1 {
				t.Errorf("ticket %d, served %d: told %d, over: %t", ticket, served, told, x.Over())
			}
			if m.Count() != count+1 {
				t.Errorf("ticket %d: %d accesses", ticket, m.Count()-count)
			}
			same(t, "a wait", m, was)
		}
		m.Store(at+1, ticket)
		// What is drawn behind it is none of its business.
		m.Store(at, ticket+9)
		if !x.Step(9, task) || told != ticket || x.Steps() != 2 {
			t.Errorf("ticket %d: told %d, over: %t", ticket, told, x.Over())
		}
	}
}

// The ticket is told again at each access behind a Take that has ended, though
// the latch's cells are others then.
func TestTakeIsToldAgain(t *testing.T) {
	m := memory(0, 7, 7)
	x := trail.New(m)
	var told []int64
	task := func(x *trail.Trail) {
		told = append(told, latch.Take(x, 0))
		x.Store(2, 1)
		x.Store(3, 2)
	}
	for time := range 4 {
		if x.Step(time, task) != (time == 3) {
			t.Fatalf("step %d: over: %t", time, x.Over())
		}
		if time > 0 {
			m.Store(0, 50)
			m.Store(1, 60)
		}
	}
	if !slices.Equal(told, []int64{0, 7, 7, 7}) {
		t.Errorf("told %v", told)
	}
	same(t, "told again", m, []int64{50, 60, 1, 2, -104})
}

func TestGiveIsAStore(t *testing.T) {
	for _, at := range []int{0, 1, 4, 40} {
		for _, ticket := range edges {
			// What was drawn and served isn't asked.
			for _, served := range []int64{ticket, ticket + 1, 33, -33} {
				m := memory(at, 44, served)
				was, count := look(m), m.Count()
				give(t, m, at, ticket)
				if m.Count() != count+1 {
					t.Errorf("Give(%d): %d accesses", ticket, m.Count()-count)
				}
				same(t, "Give", m, with(was, at+1, ticket+1))
			}
		}
	}
}

func TestIdle(t *testing.T) {
	for _, at := range []int{0, 1, 4, 40} {
		for _, drawn := range edges {
			for _, served := range edges {
				m := memory(at, drawn, served)
				was, count := look(m), m.Count()
				if got := idle(t, m, at); got != (drawn == served) {
					t.Errorf("drawn %d, served %d: %t", drawn, served, got)
				}
				if m.Count() != count+2 {
					t.Errorf("Idle: %d accesses", m.Count()-count)
				}
				same(t, "Idle", m, was)
			}
		}
	}
}

// Both cells are changed between the loads: so it shows which one comes first.
func TestIdleLoadsWhatIsServedFirst(t *testing.T) {
	tests := []struct {
		served, drawn int64 // as the loads in their order find them
		idle          bool
	}{
		{3, 3, true},
		{3, 4, false},
		{0, 0, true},
		{0, 1, false},
	}
	for _, c := range tests {
		m := memory(4, 77, c.served)
		x := trail.New(m)
		var told bool
		task := func(x *trail.Trail) { told = latch.Idle(x, 4) }
		if x.Step(0, task) {
			t.Fatal("over by one access")
		}
		m.Store(4, c.drawn)
		m.Store(5, 88)
		if !x.Step(1, task) || x.Steps() != 2 || told != c.idle {
			t.Errorf("%v: %t, over: %t", c, told, x.Over())
		}
	}
}

func TestIdleIsBetweenGiveAndTake(t *testing.T) {
	m := cell.New(latch.Words)
	for ticket := range int64(5) {
		if !idle(t, m, 0) {
			t.Errorf("not idle ahead of the ticket %d", ticket)
		}
		if got := take(t, m, 0); got != ticket {
			t.Errorf("Take: %d, want %d", got, ticket)
		}
		if idle(t, m, 0) {
			t.Errorf("idle while %d has the latch", ticket)
		}
		give(t, m, 0, ticket)
	}
	x := trail.New(m)
	x.Step(0, func(x *trail.Trail) { latch.Take(x, 0) })
	if idle(t, m, 0) {
		t.Error("idle while a ticket is drawn")
	}
}

func TestDry(t *testing.T) {
	m := memory(0, 5, 5)
	was := look(m)
	x := trail.New(m)
	calls := 0
	x.Step(0, func(x *trail.Trail) {
		x.Load(2)
		x.Load(3)
		if !x.Dry() {
			t.Fatal("not dry")
		}
		if ticket := latch.Take(x, 0); ticket != 0 {
			t.Errorf("Take: %d on a dry trail", ticket)
		}
		latch.Give(x, 0, 7)
		latch.Idle(x, 0)
		calls++
	})
	if calls != 1 || x.Steps() != 1 {
		t.Errorf("calls: %d, accesses: %d", calls, x.Steps())
	}
	same(t, "dry", m, was)
}

// Between steps a trail is dry, too, and nothing is done behind a task's end.
func TestNoStep(t *testing.T) {
	m := memory(0, 5, 5)
	was, count := look(m), m.Count()
	over := trail.New(m)
	over.Step(0, func(*trail.Trail) {})
	for _, x := range []*trail.Trail{trail.New(m), over} {
		if ticket := latch.Take(x, 0); ticket != 0 {
			t.Errorf("Take: %d without a step", ticket)
		}
		latch.Give(x, 0, 7)
		latch.Idle(x, 0)
		if m.Count() != count || x.Steps() != 0 {
			t.Error("an access without a step")
		}
	}
	same(t, "no step", m, was)
}

// Of cells that aren't there 0 is told, nothing becomes of what is stored, and
// a wait never ends.
func TestLatchesThatArentThere(t *testing.T) {
	for _, at := range []int{math.MinInt, math.MinInt + 1, -65536, -3, -2, 9, 10, 65536, math.MaxInt - 1, math.MaxInt} {
		m := memory(4, 3, 3)
		was, count := look(m), m.Count()
		x := trail.New(m)
		told := int64(-1)
		for time := range 9 {
			if x.Step(time, func(x *trail.Trail) { told = latch.Take(x, at) }) || told != 0 {
				t.Errorf("Take at %d: %d, over: %t", at, told, x.Over())
			}
		}
		if x.Steps() != 1 {
			t.Errorf("Take at %d: %d accesses", at, x.Steps())
		}
		give(t, m, at, 7)
		if !idle(t, m, at) {
			t.Errorf("Idle at %d: false", at)
		}
		if m.Count() != count {
			t.Errorf("at %d: cells had accesses", at)
		}
		same(t, "no latch", m, was)
	}
}

// A latch that begins ahead of the cells, or ends behind them.
func TestLatchesThatAreCutOff(t *testing.T) {
	m := cell.New(3)
	if ticket := take(t, m, -1); ticket != 0 {
		t.Errorf("Take without a first cell: %d", ticket)
	}
	give(t, m, -1, 4)
	same(t, "without a first cell", m, []int64{5, 0, 0})
	if idle(t, m, -1) {
		t.Error("idle without a first cell: 0 is drawn, 5 is served")
	}
	m.Store(2, 6)
	x := trail.New(m)
	for time := range 9 {
		if x.Step(time, func(x *trail.Trail) { latch.Take(x, 2) }) {
			t.Fatal("Take ends without a second cell")
		}
	}
	give(t, m, 2, 6)
	same(t, "without a second cell", m, []int64{5, 0, 7})
	if idle(t, m, 2) {
		t.Error("idle without a second cell: 7 is drawn, 0 is served")
	}
}

func TestLatchesAreApart(t *testing.T) {
	m, other := cell.New(2*latch.Words), cell.New(2*latch.Words)
	take(t, m, 0)
	if !idle(t, m, latch.Words) {
		t.Error("the second latch isn't idle")
	}
	for ticket := range int64(3) {
		if got := take(t, m, latch.Words); got != ticket {
			t.Errorf("the second latch: %d, want %d", got, ticket)
		}
		give(t, m, latch.Words, ticket)
	}
	if idle(t, m, 0) {
		t.Error("the first latch is idle")
	}
	same(t, "two latches", m, []int64{1, 0, 3, 3})
	same(t, "another memory", other, make([]int64, 2*latch.Words))
}

// Behind the greatest ticket comes the least one.
func TestTicketsGoRound(t *testing.T) {
	m := cell.New(latch.Words)
	m.Store(0, math.MaxInt64-1)
	m.Store(1, math.MaxInt64-1)
	for _, ticket := range []int64{math.MaxInt64 - 1, math.MaxInt64, math.MinInt64, math.MinInt64 + 1} {
		if !idle(t, m, 0) {
			t.Errorf("not idle ahead of %d", ticket)
		}
		if got := take(t, m, 0); got != ticket {
			t.Errorf("Take: %d, want %d", got, ticket)
		}
		give(t, m, 0, ticket)
	}
}

// Who gives back a ticket that was not its own serves the one behind that.
func TestGiveOfAnotherTicket(t *testing.T) {
	m := cell.New(latch.Words)
	take(t, m, 0)
	waiting := [3]*trail.Trail{}
	task := func(x *trail.Trail) { latch.Take(x, 0) }
	for i := range waiting {
		waiting[i] = trail.New(m)
		waiting[i].Step(0, task)
	}
	give(t, m, 0, 1) // the ticket 2, which waiting[1] has, is served
	for i, x := range waiting {
		if x.Step(1, task) != (i == 1) {
			t.Errorf("ticket %d: over: %t", i+1, x.Over())
		}
	}
}

// What stands behind the latch in the memory of users: one counts how often it
// was had, by a load and a store that would lose one if two had it.
const (
	counted = latch.Words
	cells   = counted + 1
)

// user is one who takes the latch, counts, and gives it back.
type user struct {
	x      *trail.Trail
	task   trail.Task
	ticket int64 // -1: it has drawn none
	inside bool
}

// users share a latch.
type users struct {
	m     *cell.Memory
	all   []*user
	order []int64 // the tickets of those who had it, in order
}

func newUsers(n int, first int64) *users {
	l := &users{m: cell.New(cells)}
	l.m.Store(0, first)
	l.m.Store(1, first)
	for range n {
		l.all = append(l.all, l.newUser())
	}
	return l
}

func (l *users) newUser() *user {
	u := &user{x: trail.New(l.m), ticket: -1}
	u.task = func(x *trail.Trail) {
		ticket := latch.Take(x, 0)
		if !x.Dry() && !u.inside {
			u.inside = true
			l.order = append(l.order, ticket)
		}
		x.Store(counted, x.Load(counted)+1)
		latch.Give(x, 0, ticket)
		if !x.Dry() {
			u.inside = false
		}
	}
	return u
}

// step takes a step of one user, and answers whether it did more than wait. It
// checks that those who have drawn a ticket have the latch in that order.
func (l *users) step(t *testing.T, who, time int) bool {
	t.Helper()
	u := l.all[who]
	before := l.m.Look(0, cells)
	had, steps := u.inside, u.x.Steps()
	u.x.Step(time, u.task)
	if steps == 0 {
		u.ticket = before[0]
	}
	went := u.x.Steps() > steps
	if steps == 1 && went != (u.ticket == before[1]) {
		t.Fatalf("time %d: ticket %d, served %d: got it: %t", time, u.ticket, before[1], went)
	}
	if u.inside && !had && l.order[len(l.order)-1] != u.ticket {
		t.Fatalf("time %d: told the ticket %d, drew %d", time, l.order[len(l.order)-1], u.ticket)
	}
	inside := 0
	for _, other := range l.all {
		if other.inside {
			inside++
		}
	}
	if inside > 1 {
		t.Fatalf("time %d: %d have the latch", time, inside)
	}
	return went
}

// inOrder checks that the latch was had in the order of the tickets, none left
// out, and that nothing was lost of what was counted.
func (l *users) inOrder(t *testing.T, first int64) {
	t.Helper()
	for i, ticket := range l.order {
		if ticket != first+int64(i) {
			t.Fatalf("tickets: %v", l.order)
		}
	}
}

// allOver checks what stands in the cells when all of n turns are over.
func (l *users) allOver(t *testing.T, first int64, n int) {
	t.Helper()
	l.inOrder(t, first)
	want := []int64{first + int64(n), first + int64(n), int64(n)}
	if got := l.m.Look(0, cells); !slices.Equal(got, want) || len(l.order) != n {
		t.Fatalf("all over: %v, want %v; tickets: %v", got, want, l.order)
	}
}

// Three users, in whatever order their steps are picked: at each place someone
// can go on, till all are over. Steps that only wait change nothing, so they
// aren't followed.
func TestEveryOrderOfSteps(t *testing.T) {
	const n = 3
	orders := 0
	var follow func(picks []int)
	follow = func(picks []int) {
		stuck := true
		for who := range n {
			l := newUsers(n, 0)
			for time, picked := range picks {
				l.step(t, picked, time)
			}
			if l.all[who].x.Over() || !l.step(t, who, len(picks)) {
				continue
			}
			stuck = false
			follow(append(slices.Clone(picks), who))
		}
		if !stuck {
			return
		}
		l := newUsers(n, 0)
		for time, picked := range picks {
			l.step(t, picked, time)
		}
		l.allOver(t, 0, n)
		orders++
	}
	follow(nil)
	if orders < 100 {
		t.Errorf("orders: %d", orders)
	}
}

// picker answers numbers below n, the same ones at each run.
func picker(seed uint64) func(n int) int {
	return func(n int) int {
		seed = seed*6364136223846793005 + 1442695040888963407
		return int(seed>>33) % n
	}
}

// A long run of users that begin anew when they are over; at its end no more
// begin, and all that have drawn a ticket come to have the latch.
func TestHadInTurns(t *testing.T) {
	for _, n := range []int{1, 2, 3, 7, 16} {
		for _, first := range []int64{0, math.MaxInt64 - 50} {
			t.Run(fmt.Sprint(n, " from ", first), func(t *testing.T) {
				pick := picker(uint64(n))
				l := newUsers(n, first)
				turns := n
				for time := range 6000 {
					who := pick(n)
					l.step(t, who, time)
					if l.all[who].x.Over() {
						l.all[who] = l.newUser()
						turns++
					}
				}
				for time := range 6 * n {
					for who := range n {
						l.step(t, who, 6000+time)
					}
				}
				l.allOver(t, first, turns)
			})
		}
	}
}

// One who has the latch and stands still keeps all others waiting, however
// often they are picked; when it goes on, they have it in the order of tickets,
// not in that of picks.
func TestOneStandsStill(t *testing.T) {
	const n = 5
	l := newUsers(n, 0)
	l.step(t, 2, 0)
	l.step(t, 2, 1)
	drawn := []int{4, 0, 3, 1}
	for time, who := range drawn {
		l.step(t, who, 2+time)
	}
	for time := range 300 {
		who := []int{1, 3, 0, 4}[time%4]
		if l.step(t, who, 6+time) {
			t.Fatalf("user %d goes on", who)
		}
	}
	for time := range 3 {
		l.step(t, 2, 306+time)
	}
	for time := range 40 {
		for _, who := range []int{1, 3, 0, 4} {
			l.step(t, who, 310+time)
		}
	}
	l.allOver(t, 0, n)
	for i, who := range drawn {
		if got := l.all[who].ticket; got != int64(1+i) {
			t.Errorf("user %d: ticket %d", who, got)
		}
	}
}

// Whenever Idle says so, nobody had the latch, or waited for it, from its first
// load to its second one.
func TestIdleIsRight(t *testing.T) {
	const n = 2
	pick := picker(5)
	l := newUsers(n, 0)
	var told, busy bool
	task := func(x *trail.Trail) { told = latch.Idle(x, 0) }
	x := trail.New(l.m)
	count := map[bool]int{}
	for time := range 20000 {
		who := pick(n + 2)
		if now := l.m.Look(0, latch.Words); who >= n || x.Steps() > 0 {
			busy = busy || now[0] != now[1]
		}
		if who < n {
			l.step(t, who, time)
			// Who is over seldom begins anew: else someone would always be there.
			if l.all[who].x.Over() && pick(20) == 0 {
				l.all[who] = l.newUser()
			}
			continue
		}
		if !x.Step(time, task) {
			continue
		}
		if told && busy {
			t.Fatalf("time %d: idle, but the latch was had", time)
		}
		count[told]++
		x, busy = trail.New(l.m), false
	}
	if count[false] < 100 || count[true] < 100 {
		t.Errorf("idle or not: %v", count)
	}
}
