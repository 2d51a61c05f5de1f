package seek_test

import (
	"math"
	"slices"
	"testing"

	"samara/api"
	"samara/arena"
	"samara/cell"
	"samara/seek"
	"samara/slot"
	"samara/trail"
)

const page = api.Page

// first is the arena's first cell in these tests: another one than 0, so that a
// word isn't taken for its cell.
const first = 5

// ground is a memory with an arena of three slots in it, of which two are live.
type ground struct {
	m    *cell.Memory
	a    *arena.Arena
	h, g int64 // of slot 2, born a second time, and of slot 3
	old  int64 // of slot 2, not right any more
}

func newGround() ground {
	s := ground{m: cell.New(first + 3*api.Width), a: arena.New(first, 3)}
	s.old = s.a.Born(2)
	s.a.Died(s.old)
	s.h, s.g = s.a.Born(2), s.a.Born(3)
	return s
}

// lay puts words into h's slot.
func (s ground) lay(h int64, w []int64) {
	for i, v := range w {
		s.m.Store(s.a.Cell(h, i), v)
	}
}

// run runs a task till it is over, and answers how many accesses that took.
func run(t *testing.T, m *cell.Memory, task trail.Task) int {
	t.Helper()
	x := trail.New(m)
	for i := 0; i < 200 && !x.Over(); i++ {
		x.Step(i, task)
	}
	if !x.Over() {
		t.Fatal("the task isn't over")
	}
	return x.Steps()
}

// equal holds nodes against each other without asking a package.
func equal(a, b slot.Node) bool {
	return a.Inner == b.Inner && a.Lo == b.Lo &&
		slices.Equal(a.Ends, b.Ends) && slices.Equal(a.Slots, b.Slots) && slices.Equal(a.Gaps, b.Gaps)
}

// zero tells whether n is no node at all.
func zero(n slot.Node) bool {
	return equal(n, slot.Node{})
}

// nodes answers both kinds of each count of entries, with entries of two pages or
// more, the last one up to the space's end.
func nodes() []slot.Node {
	var l []slot.Node
	for n := int64(1); n <= api.Fan; n++ {
		leaf, inner := slot.Node{Lo: 18 * page}, slot.Node{Inner: true, Lo: api.Least}
		for i := range n {
			end := (20 + 3*i) * page
			if i == n-1 {
				end = api.Most
			}
			from := leaf.Lo
			if i > 0 {
				from = leaf.Ends[i-1]
			}
			leaf.Ends, inner.Ends = append(leaf.Ends, end), append(inner.Ends, end)
			inner.Slots, inner.Gaps = append(inner.Slots, 65536*(i+1)+2), append(inner.Gaps, (i%3)*page)
			if i%2 == n%2 { // the last one is an area, so its gap is a nought
				leaf.Slots, leaf.Gaps = append(leaf.Slots, 0), append(leaf.Gaps, end-from)
			} else {
				leaf.Slots, leaf.Gaps = append(leaf.Slots, 131072+i), append(leaf.Gaps, 0)
			}
		}
		l = append(l, leaf, inner)
	}
	short := slot.Node{Lo: 16 * page, Ends: []int64{17 * page, 18 * page}, Slots: []int64{0, 0}, Gaps: []int64{page, page}}
	return append(l, short)
}

// areas answers areas that are formed.
func areas() []api.Area {
	return []api.Area{
		{Start: 16 * page, End: 512 * page},
		{Start: 16 * page, End: 17 * page, Prot: 7, Shared: true, Back: 9, Off: api.MaxOff - page},
		{Start: 511 * page, End: 512 * page, Prot: 1, Back: 1},
		{Start: 30 * page, End: 44 * page, Prot: 2, Shared: true},
		{Start: 20 * page, End: 22 * page, Prot: 4, Back: 3, Off: 7 * page},
	}
}

// TestNodesAreFormed keeps what the other tests stand on.
func TestNodesAreFormed(t *testing.T) {
	for _, n := range nodes() {
		if !slot.Formed(n) {
			t.Error(n)
		}
	}
	for _, a := range areas() {
		if len(slot.PackArea(a, false)) != api.Width {
			t.Error(a)
		}
	}
}

// P16.1: Read tells what is in the cell, and is one access, whatever it is given;
// the arena is told of just the handle.
func TestReadAll(t *testing.T) {
	words := []int{0, 1, 2, 7, 8, 26, 27, 28, 29, -1, -28, 100, math.MaxInt, math.MinInt}
	probe := newGround()
	handles := []int64{
		probe.h, probe.g, probe.old, 0, 1, 2, 3, 4, 65535, 65537, -1, -65536,
		probe.h + 65536, probe.h + 2, math.MaxInt64, math.MinInt64,
	}
	for _, h := range handles {
		for _, word := range words {
			s := newGround()
			for i := range s.m.Size() {
				s.m.Store(i, int64(1000+i))
			}
			at, want, cells := first+api.Width*(int(h&65535)-1)+word, int64(0), 0
			if n := h & 65535; h > 0 && n >= 1 && n <= 3 && word >= 0 && word < api.Width {
				want, cells = int64(1000+at), 1
			}
			ahead := s.m.Count()
			var got int64
			steps := run(t, s.m, func(t *trail.Trail) { got = seek.Read(t, s.a, h, word) })
			if got != want || steps != 1 || s.m.Count() != ahead+cells {
				t.Error(h, word, ":", got, want, steps, s.m.Count()-ahead)
			}
			if right := h == s.h || h == s.g; s.a.Stale() == right || s.a.Double() {
				t.Error(h, word, s.a.Stale())
			}
		}
	}
}

// P16.1: a cell of the arena's that the memory hasn't is no such cell either.
func TestReadBehindTheMemory(t *testing.T) {
	m, a := cell.New(10), arena.New(0, 2)
	m.Store(9, 4)
	h, g := a.Born(1), a.Born(2)
	var v [3]int64
	steps := run(t, m, func(t *trail.Trail) {
		v = [3]int64{seek.Read(t, a, h, 9), seek.Read(t, a, h, 10), seek.Read(t, a, g, 0)}
	})
	if v != [3]int64{4, 0, 0} || steps != 3 || a.Stale() {
		t.Error(v, steps, a.Stale())
	}
}

// P16.1: what is told again is not touched again, though the slot died since, and
// is told as it was.
func TestReadToldAgain(t *testing.T) {
	s := newGround()
	s.lay(s.h, []int64{7})
	s.lay(s.g, []int64{8})
	var v [3]int64
	task := func(t *trail.Trail) {
		v = [3]int64{seek.Read(t, s.a, s.h, 0), seek.Read(t, s.a, s.g, 0), seek.Read(t, s.a, s.g, 1)}
	}
	x := trail.New(s.m)
	x.Step(0, task)
	if v != [3]int64{7, 0, 0} || s.a.Stale() {
		t.Fatal(v, s.a.Stale())
	}
	s.a.Died(s.h)
	s.lay(s.h, []int64{9})
	x.Step(1, task)
	if v != [3]int64{7, 8, 0} || s.a.Stale() {
		t.Fatal(v, s.a.Stale())
	}
	s.a.Died(s.g)
	if x.Step(2, task); v != [3]int64{7, 8, 0} || !s.a.Stale() || x.Steps() != 3 || !x.Over() {
		t.Fatal(v, s.a.Stale(), x.Steps())
	}
}

// P16.1: a fresh read of a slot that was born anew is found out, by the handle that
// it had ahead of that; the cell is read all the same.
func TestReadStale(t *testing.T) {
	s := newGround()
	s.lay(s.h, []int64{7})
	var v int64
	steps := run(t, s.m, func(t *trail.Trail) { v = seek.Read(t, s.a, s.old, 0) })
	if v != 7 || steps != 1 || !s.a.Stale() {
		t.Error(v, steps, s.a.Stale())
	}
}

// P16.1: where nothing is done nothing is touched: on a dry trail, behind a Wait
// that goes on, between steps.
func TestReadOnADryTrail(t *testing.T) {
	s := newGround()
	s.lay(s.h, []int64{7})
	var v [2]int64
	behind := func(t *trail.Trail) {
		v[0] = t.Load(0)
		v[1] = seek.Read(t, s.a, s.old, 0)
	}
	x := trail.New(s.m)
	ahead := s.m.Count()
	x.Step(0, behind)
	if v[1] != 0 || s.a.Stale() || x.Steps() != 1 || s.m.Count() != ahead+1 {
		t.Error(v, s.a.Stale(), x.Steps())
	}
	if got := seek.Read(x, s.a, s.old, 0); got != 0 || s.a.Stale() || s.m.Count() != ahead+1 {
		t.Error(got, s.a.Stale())
	}
	waiting := func(t *trail.Trail) {
		t.Wait(0, 1)
		v[1] = seek.Read(t, s.a, s.old, 0)
	}
	y := trail.New(s.m)
	for i := range 3 {
		y.Step(i, waiting)
	}
	if v[1] != 0 || s.a.Stale() || y.Steps() != 0 || s.m.Count() != ahead+4 {
		t.Error(v, s.a.Stale(), y.Steps())
	}
	over := trail.New(s.m)
	over.Step(0, func(t *trail.Trail) {})
	if got := seek.Read(over, s.a, s.old, 0); !over.Over() || got != 0 || s.a.Stale() || over.Steps() != 0 {
		t.Error(got, s.a.Stale())
	}
}

// P16.1: behind a fresh read the trail takes a mark, as behind any access.
func TestReadThenMark(t *testing.T) {
	s := newGround()
	x := trail.New(s.m)
	task := func(t *trail.Trail) {
		seek.Read(t, s.a, s.h, 0)
		t.Mark(3)
		seek.Read(t, s.a, s.h, 1)
		t.Mark(4)
	}
	x.Step(10, task)
	x.Step(11, task)
	if got := x.Marks(); !slices.Equal(got, []trail.Mark{{Kind: 3, Time: 10}, {Kind: 4, Time: 11}}) {
		t.Error(got)
	}
}

// plan is which words are read, in order.
type plan []int

// lookPlan answers what a look reads, the entry that it comes to, and whether there
// is one.
func lookPlan(n slot.Node, addr int64) (plan, int, bool) {
	p := plan{0}
	for i, end := range n.Ends {
		p = append(p, 2+i)
		if end > addr {
			return append(p, 10+i), i, true
		}
	}
	return p, 0, false
}

// nodePlan answers what reading a node of n entries reads.
func nodePlan(n int) plan {
	p := plan{0, 1}
	for i := range n {
		p = append(p, 2+i, 10+i, 18+i)
	}
	return p
}

// follow runs a task in which each step finds just that one word of the slot as it
// is, and all others as some other number: so what the task makes of it is right
// only if it reads just these words in just this order. It asks before each further
// step whether what the task answered so far is nothing.
func (s ground) follow(t *testing.T, w []int64, p plan, nothing func() bool, task trail.Task) {
	t.Helper()
	for other := range int64(2) {
		x := trail.New(s.m)
		for step, word := range p {
			for i := range s.m.Size() {
				s.m.Store(i, 19+other*math.MaxInt32)
			}
			s.m.Store(s.a.Cell(s.h, word), w[word])
			x.Step(step, task)
			if x.Steps() != step+1 {
				t.Fatal("steps", x.Steps(), step+1)
			}
			if x.Over() != (step == len(p)-1) {
				t.Fatal("over", x.Over(), step, len(p))
			}
			if !x.Over() && !nothing() {
				t.Fatal("something is answered on a dry trail, at", step)
			}
		}
		if s.a.Stale() || s.a.Double() {
			t.Fatal("stale")
		}
	}
}

// asked are the addresses that a look in n is asked for: those at and about its
// edges, and those beyond all.
func asked(n slot.Node) []int64 {
	l := []int64{math.MinInt64, -page, -1, 0, 1, n.Lo - 1, n.Lo, n.Lo + 1, api.Most, api.Most + 1, math.MaxInt64}
	for _, end := range n.Ends {
		l = append(l, end-1, end, end+1)
	}
	return l
}

// P16.1: Look reads the first word, the ends up to the first one above the address,
// and that entry's handle; and nothing is answered while the trail is dry.
func TestLook(t *testing.T) {
	longest := 0
	for _, n := range nodes() {
		for _, addr := range asked(n) {
			s := newGround()
			p, at, found := lookPlan(n, addr)
			longest = max(longest, len(p))
			var h int64
			var inner, ok bool
			s.follow(t, slot.Pack(n), p, func() bool { return h == 0 && !inner && !ok }, func(t *trail.Trail) {
				h, inner, ok = seek.Look(t, s.a, s.h, addr)
			})
			if !found {
				if h != 0 || inner || ok {
					t.Error(n, addr, ":", h, inner, ok)
				}
				continue
			}
			if h != n.Slots[at] || inner != n.Inner || !ok {
				t.Error(n, addr, ":", h, inner, ok)
			}
		}
	}
	if longest != 10 {
		t.Error(longest)
	}
}

// P16.1, by hand: the chapter's example, and both sides of an end.
func TestLookByHand(t *testing.T) {
	n := slot.Node{Lo: 16 * page, Ends: []int64{20 * page, 22 * page, 30 * page}, Slots: []int64{0, 65540, 65541}, Gaps: []int64{4 * page, 0, 0}}
	inner := n
	inner.Inner, inner.Slots = true, []int64{65538, 65540, 65541}
	for _, c := range []struct {
		n     slot.Node
		addr  int64
		h     int64
		inner bool
		ok    bool
		steps int
	}{
		{n, 21 * page, 65540, false, true, 4},
		{n, 20 * page, 65540, false, true, 4},
		{n, 20*page - 1, 0, false, true, 3},
		{n, 22*page - 1, 65540, false, true, 4},
		{n, 22 * page, 65541, false, true, 5},
		{n, 30*page - 1, 65541, false, true, 5},
		{n, 30 * page, 0, false, false, 4},
		{n, 15 * page, 0, false, true, 3},
		{inner, 20*page - 1, 65538, true, true, 3},
		{inner, 21 * page, 65540, true, true, 4},
		{inner, 30 * page, 0, false, false, 4},
	} {
		s := newGround()
		s.lay(s.h, slot.Pack(c.n))
		var h int64
		var in, ok bool
		steps := run(t, s.m, func(t *trail.Trail) { h, in, ok = seek.Look(t, s.a, s.h, c.addr) })
		if h != c.h || in != c.inner || ok != c.ok || steps != c.steps || s.a.Stale() {
			t.Error(c, ":", h, in, ok, steps, s.a.Stale())
		}
	}
}

// firstWords are first words of all kinds, about those that are a node's.
func firstWords() []int64 {
	l := []int64{
		math.MinInt64, math.MinInt64 + 1, math.MinInt64 + 17, math.MaxInt64, math.MaxInt64 - 14, 1 << 32, 1<<32 + 17, 1<<63 - 16 + 1, 1<<36 + 33,
		-1 << 32, 17 - 1<<32,
	}
	for v := int64(-200); v <= 400; v++ {
		l = append(l, v)
	}
	return l
}

// of answers how many entries a first word tells, and whether the node is inner; 0,
// if it is no node's.
func of(word int64) (int, bool) {
	for n := int64(1); n <= api.Fan; n++ {
		switch word {
		case 1 + 16*n:
			return int(n), false
		case 2 + 16*n:
			return int(n), true
		}
	}
	return 0, false
}

// P16.1, P16.2: where the first word is no node's nothing else is read; where it is
// one, as many entries are read as it tells.
func TestFirstWord(t *testing.T) {
	seen := 0
	for _, word := range firstWords() {
		count, in := of(word)
		s := newGround()
		w := make([]int64, api.Width)
		w[0], w[1] = word, 16*page
		for i := range api.Fan {
			w[2+i], w[10+i], w[18+i] = int64(17+i)*page, int64(70000+i), 0
		}
		s.lay(s.h, w)
		var h int64
		var inner, ok, is bool
		var n slot.Node
		look := run(t, s.m, func(t *trail.Trail) { h, inner, ok = seek.Look(t, s.a, s.h, int64(16+count)*page-1) })
		node := run(t, s.m, func(t *trail.Trail) { n, is = seek.Node(t, s.a, s.h) })
		if count == 0 {
			if h != 0 || inner || ok || look != 1 || !zero(n) || is || node != 1 {
				t.Error(word, ":", h, inner, ok, look, n, is, node)
			}
			continue
		}
		seen++
		if h != int64(70000+count-1) || inner != in || !ok || look != 2+count {
			t.Error(word, ":", h, inner, ok, look)
		}
		if !is || n.Inner != in || len(n.Ends) != count || node != 2+3*count {
			t.Error(word, ":", n, is, node)
		}
	}
	if seen != 16 {
		t.Error(seen)
	}
}

// P16.1: ends are asked in order, and the first one above the address is taken,
// whatever the others are; the handle is told as it stands there; neither Lo nor a
// gap is asked.
func TestLookInWhatIsNotFormed(t *testing.T) {
	w := make([]int64, api.Width)
	w[0], w[1] = 1+16*4, -7
	copy(w[2:], []int64{-3, 50, 40, math.MaxInt64, math.MaxInt64})
	copy(w[10:], []int64{-1, math.MinInt64, 5, math.MaxInt64, 6})
	for i := 18; i < api.Width; i++ {
		w[i] = -9
	}
	for _, c := range []struct {
		addr, h int64
		ok      bool
		steps   int
	}{
		{-4, -1, true, 3}, {math.MinInt64, -1, true, 3}, {-3, math.MinInt64, true, 4}, {0, math.MinInt64, true, 4},
		{45, math.MinInt64, true, 4}, {39, math.MinInt64, true, 4}, {50, math.MaxInt64, true, 6},
		{math.MaxInt64 - 1, math.MaxInt64, true, 6}, {math.MaxInt64, 0, false, 5},
	} {
		s := newGround()
		s.lay(s.h, w)
		var h int64
		var inner, ok bool
		steps := run(t, s.m, func(t *trail.Trail) { h, inner, ok = seek.Look(t, s.a, s.h, c.addr) })
		if h != c.h || inner || ok != c.ok || steps != c.steps {
			t.Error(c, ":", h, inner, ok, steps)
		}
	}
}

// P16.1, P16.2: a handle of no slot, and words that are all noughts, have nothing;
// the accesses are done all the same, and the arena is told.
func TestNothingThere(t *testing.T) {
	probe := newGround()
	for _, h := range []int64{probe.h, probe.old, 0, 4, 65536, 65540, -1, math.MinInt64, math.MaxInt64} {
		for _, addr := range []int64{math.MinInt64, -1, 0, 20 * page, math.MaxInt64} {
			s := newGround()
			var found int64
			var inner, ok, dead, isArea, isNode bool
			var a api.Area
			var n slot.Node
			look := run(t, s.m, func(t *trail.Trail) { found, inner, ok = seek.Look(t, s.a, h, addr) })
			node := run(t, s.m, func(t *trail.Trail) { n, isNode = seek.Node(t, s.a, h) })
			area := run(t, s.m, func(t *trail.Trail) { a, dead, isArea = seek.Area(t, s.a, h) })
			if found != 0 || inner || ok || !zero(n) || isNode || a != (api.Area{}) || dead || isArea {
				t.Error(h, addr, ":", found, inner, ok, n, isNode, a, dead, isArea)
			}
			if look != 1 || node != 1 || area != 8 || s.a.Stale() != (h != s.h) {
				t.Error(h, ":", look, node, area, s.a.Stale())
			}
		}
	}
}

// P16.2: Area reads the first eight words, in order, and answers nothing while the
// trail is dry, though the words that are missing were noughts.
func TestArea(t *testing.T) {
	for _, want := range areas() {
		for _, lies := range []bool{false, true} {
			s := newGround()
			var a api.Area
			var dead, ok bool
			p := plan{0, 1, 2, 3, 4, 5, 6, 7}
			s.follow(t, slot.PackArea(want, lies), p, func() bool { return a == (api.Area{}) && !dead && !ok }, func(t *trail.Trail) {
				a, dead, ok = seek.Area(t, s.a, s.h)
			})
			if a != want || dead != lies || !ok {
				t.Error(want, lies, ":", a, dead, ok)
			}
		}
	}
}

// P16.2: with any of the first eight words made another one, the area is none
// wherever layer 15 says so; the words behind count as noughts, and aren't read.
func TestAreaOfOtherWords(t *testing.T) {
	none, some := 0, 0
	for _, from := range areas() {
		for word := range api.Width {
			for _, v := range []int64{-1, 0, 1, 2, 3, 4, 8, 10, 17, 5000, page, 16 * page, 512 * page, api.MaxOff, math.MaxInt64, math.MinInt64, 1 << 32} {
				s := newGround()
				w := slot.PackArea(from, false)
				w[word] = v
				s.lay(s.h, w)
				clear(w[8:])
				want, lies, is := slot.UnpackArea(w)
				var a api.Area
				var dead, ok bool
				steps := run(t, s.m, func(t *trail.Trail) { a, dead, ok = seek.Area(t, s.a, s.h) })
				if a != want || dead != lies || ok != is || steps != 8 || s.a.Stale() {
					t.Error(from, word, v, ":", a, dead, ok, steps)
				}
				if word >= 8 && (a != from || !ok) {
					t.Error(from, word, v, ":", a, ok)
				}
				if ok {
					some++
				} else {
					none++
				}
			}
		}
	}
	if none < 100 || some < 100 {
		t.Error(none, some)
	}
}

// P16.2: a node's words are no area's, and the other way round.
func TestOneForTheOther(t *testing.T) {
	s := newGround()
	s.lay(s.h, slot.Pack(nodes()[7]))
	s.lay(s.g, slot.PackArea(areas()[1], true))
	var a api.Area
	var n slot.Node
	var h int64
	var dead, isArea, isNode, inner, ok bool
	area := run(t, s.m, func(t *trail.Trail) { a, dead, isArea = seek.Area(t, s.a, s.h) })
	node := run(t, s.m, func(t *trail.Trail) { n, isNode = seek.Node(t, s.a, s.g) })
	look := run(t, s.m, func(t *trail.Trail) { h, inner, ok = seek.Look(t, s.a, s.g, 16*page) })
	if a != (api.Area{}) || dead || isArea || !zero(n) || isNode || h != 0 || inner || ok {
		t.Error(a, dead, isArea, n, isNode, h, inner, ok)
	}
	if area != 8 || node != 1 || look != 1 {
		t.Error(area, node, look)
	}
}

// P16.2: Node reads the first word, Lo, and each entry's end, handle and gap, in
// this order, and answers nothing while the trail is dry, though the words that are
// missing were noughts.
func TestNode(t *testing.T) {
	for _, want := range nodes() {
		s := newGround()
		var n slot.Node
		var ok bool
		s.follow(t, slot.Pack(want), nodePlan(len(want.Ends)), func() bool { return zero(n) && !ok }, func(t *trail.Trail) {
			n, ok = seek.Node(t, s.a, s.h)
		})
		if !equal(n, want) || !ok {
			t.Error(want, ":", n, ok)
		}
	}
}

// P16.2: with any word made another one, the node is none wherever layer 15 says
// so of the words that are read; all others count as noughts.
func TestNodeOfOtherWords(t *testing.T) {
	none, some := 0, 0
	for _, from := range nodes() {
		for word := 1; word < api.Width; word++ {
			for _, v := range []int64{-1, 0, 1, 2, 4097, page, 16 * page, 19 * page, 20 * page, 512 * page, 513 * page, math.MaxInt64, math.MinInt64, 1 << 32} {
				s := newGround()
				w := slot.Pack(from)
				w[word] = v
				s.lay(s.h, w)
				p := nodePlan(len(from.Ends))
				for i := range w {
					if !slices.Contains(p, i) {
						w[i] = 0
					}
				}
				want, is := slot.Unpack(w)
				var n slot.Node
				var ok bool
				steps := run(t, s.m, func(t *trail.Trail) { n, ok = seek.Node(t, s.a, s.h) })
				if !equal(n, want) || ok != is || steps != len(p) || s.a.Stale() {
					t.Error(from, word, v, ":", n, ok, steps)
				}
				if !slices.Contains(p, word) && !ok {
					t.Error(from, word, v, ":", n, ok)
				}
				if ok {
					some++
				} else {
					none++
				}
			}
		}
	}
	if none < 100 || some < 100 {
		t.Error(none, some)
	}
}

// P16.1, P16.2: on a trail that was dry already nothing is read, touched or
// answered, for addresses below 0, too, of which a nought is above.
func TestDryAhead(t *testing.T) {
	s := newGround()
	s.lay(s.h, slot.Pack(nodes()[1]))
	s.lay(s.g, slot.PackArea(areas()[0], false))
	s.a.Died(s.h)
	s.a.Died(s.g)
	ask := func(x *trail.Trail) {
		for _, addr := range []int64{math.MinInt64, -1, 0, 20 * page} {
			if h, inner, ok := seek.Look(x, s.a, s.h, addr); h != 0 || inner || ok {
				t.Error(addr, h, inner, ok)
			}
		}
		if a, dead, ok := seek.Area(x, s.a, s.g); a != (api.Area{}) || dead || ok {
			t.Error(a, dead, ok)
		}
		if n, ok := seek.Node(x, s.a, s.h); !zero(n) || ok {
			t.Error(n, ok)
		}
	}
	x := trail.New(s.m)
	x.Step(0, func(t *trail.Trail) {
		t.Load(0)
		t.Load(0)
		ask(t)
	})
	ask(x) // between steps
	over := trail.New(s.m)
	over.Step(0, func(t *trail.Trail) {})
	ask(over) // behind its end, where a trail isn't dry
	if x.Steps() != 1 || over.Steps() != 0 || s.a.Stale() {
		t.Error(x.Steps(), over.Steps(), s.a.Stale())
	}
}

// P16.1, P16.2: each word that is read is touched when it is read, and by none
// other: a slot that dies behind the k-th access is found out by the next one, and
// one that dies behind the last by none.
func TestTouchedAtEachAccess(t *testing.T) {
	n := nodes()[5]
	for _, c := range []struct {
		words []int64
		steps int
		task  func(s ground) trail.Task
	}{
		{slot.Pack(n), 5, func(s ground) trail.Task {
			return func(t *trail.Trail) { seek.Look(t, s.a, s.h, n.Ends[2]-1) }
		}},
		{slot.Pack(n), 11, func(s ground) trail.Task {
			return func(t *trail.Trail) { seek.Node(t, s.a, s.h) }
		}},
		{slot.PackArea(areas()[1], false), 8, func(s ground) trail.Task {
			return func(t *trail.Trail) { seek.Area(t, s.a, s.h) }
		}},
	} {
		for k := 0; k <= c.steps; k++ {
			s := newGround()
			s.lay(s.h, c.words)
			task, x := c.task(s), trail.New(s.m)
			for i := range k {
				x.Step(i, task)
			}
			s.a.Died(s.h)
			if s.a.Stale() {
				t.Error("stale ahead", k)
			}
			x.Step(k, task)
			if s.a.Stale() != (k < c.steps) || x.Over() != (k >= c.steps-1) {
				t.Error(k, c.steps, s.a.Stale(), x.Over())
			}
		}
	}
}

// R5: a node that is answered is new memory each time, and the slots stay as they
// are.
func TestNodeIsNew(t *testing.T) {
	for _, want := range nodes() {
		s := newGround()
		s.lay(s.h, slot.Pack(want))
		ahead := s.m.Look(0, s.m.Size())
		var n, again slot.Node
		run(t, s.m, func(t *trail.Trail) {
			n, _ = seek.Node(t, s.a, s.h)
			again, _ = seek.Node(t, s.a, s.h)
		})
		for _, l := range [][]int64{n.Ends, n.Slots, n.Gaps} {
			l = l[:cap(l)]
			for i := range l {
				l[i] = -77
			}
		}
		if !equal(again, want) || !slices.Equal(s.m.Look(0, s.m.Size()), ahead) {
			t.Error(want, ":", again)
		}
		for _, l := range [][]int64{again.Ends, again.Slots} {
			for i := range l[:cap(l)] {
				l[:cap(l)][i] = -78
			}
		}
		if !slices.Equal(again.Gaps, want.Gaps) {
			t.Error("lists of one node share memory", want)
		}
	}
}

// P16.1, P16.2: what two accesses read need not be of one time: each word is told as
// it was when it was read.
func TestChangedBetween(t *testing.T) {
	s := newGround()
	was := slot.Node{Lo: 16 * page, Ends: []int64{20 * page, 22 * page}, Slots: []int64{7, 8}, Gaps: []int64{0, 0}}
	now := slot.Node{Lo: 16 * page, Ends: []int64{21 * page, 30 * page}, Slots: []int64{9, 10}, Gaps: []int64{0, 0}}
	s.lay(s.h, slot.Pack(was))
	var h int64
	var inner, ok bool
	task := func(t *trail.Trail) { h, inner, ok = seek.Look(t, s.a, s.h, 20*page) }
	x := trail.New(s.m)
	x.Step(0, task)
	x.Step(1, task) // the first end is read: it isn't above
	s.lay(s.h, slot.Pack(now))
	x.Step(2, task)
	x.Step(3, task)
	if h != 10 || inner || !ok || !x.Over() {
		t.Error(h, inner, ok, x.Steps())
	}
}
