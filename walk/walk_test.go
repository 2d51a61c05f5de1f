package walk_test

import (
	"math"
	"slices"
	"testing"

	"samara/api"
	"samara/arena"
	"samara/cell"
	"samara/slot"
	"samara/trail"
	"samara/walk"
)

const page = api.Page

// first is the arena's first cell in these tests: another one than 0, so that a
// word isn't taken for its cell.
const first = 5

// slots is how many slots the tests' arena has: more than a tree may have nodes.
const slots = 90

// ground is a memory with an arena in it, and the nodes that were laid there.
type ground struct {
	m    *cell.Memory
	a    *arena.Arena
	is   map[int64]slot.Node
	next int
	old  int64 // of slot 1, not right any more
}

func newGround() *ground {
	g := &ground{
		m: cell.New(first + slots*api.Width), a: arena.New(first, slots), is: map[int64]slot.Node{}, next: 1,
	}
	g.old = g.a.Born(1)
	g.a.Died(g.old)
	return g
}

// lay takes a slot for the words.
func (g *ground) lay(w []int64) int64 {
	h := g.a.Born(g.next)
	g.next++
	g.over(h, w)
	return h
}

// over puts words into h's slot.
func (g *ground) over(h int64, w []int64) {
	for i, v := range w {
		g.m.Store(g.a.Cell(h, i), v)
	}
}

// node takes a slot for a node that is formed.
func (g *ground) node(n slot.Node) int64 {
	h := g.lay(slot.Pack(n))
	g.is[h] = n
	return h
}

// renode puts another node into h's slot.
func (g *ground) renode(h int64, n slot.Node) {
	g.over(h, slot.Pack(n))
	g.is[h] = n
}

// leaf takes a slot for a leaf of count entries that splits from lo to end: areas
// and gaps in turns, if mixed, else areas. All but the last one are of one page.
func (g *ground) leaf(lo, end int64, count int, mixed bool) int64 {
	n := slot.Node{Lo: lo}
	from := lo
	for i := range count {
		to := lo + int64(i+1)*page
		if i == count-1 {
			to = end
		}
		n.Ends = append(n.Ends, to)
		if mixed && i%2 == 0 {
			n.Slots, n.Gaps = append(n.Slots, 0), append(n.Gaps, to-from)
		} else {
			n.Slots, n.Gaps = append(n.Slots, 1<<40+lo+int64(i)), append(n.Gaps, 0)
		}
		from = to
	}
	return g.node(n)
}

// inner takes a slot for an inner node above these ones, from where the first one
// begins.
func (g *ground) inner(below ...int64) int64 {
	n := slot.Node{Inner: true, Lo: g.is[below[0]].Lo}
	for _, h := range below {
		b := g.is[h]
		n.Ends = append(n.Ends, b.Ends[len(b.Ends)-1])
		n.Slots = append(n.Slots, h)
		n.Gaps = append(n.Gaps, slot.Largest(b))
	}
	return g.node(n)
}

// chain puts so many inner nodes of one entry above h.
func (g *ground) chain(h int64, above int) int64 {
	for range above {
		h = g.inner(h)
	}
	return h
}

// shape is a tree in a ground of its own.
type shape struct {
	name string
	g    *ground
	root int64
}

// leaves takes slots for so many leaves, one behind the other, that have count
// entries each; the last one goes up to the space's end.
func (g *ground) leaves(many, count int) []int64 {
	var l []int64
	for i := range int64(many) {
		lo, end := api.Least+7*i*page, api.Least+7*(i+1)*page
		if i == int64(many)-1 {
			end = api.Most
		}
		l = append(l, g.leaf(lo, end, count, i%2 == 0))
	}
	return l
}

// above puts inner nodes of at most Fan entries above these ones.
func (g *ground) above(l []int64) []int64 {
	var up []int64
	for part := range slices.Chunk(l, api.Fan) {
		up = append(up, g.inner(part...))
	}
	return up
}

// shapes answers trees that may be gone through.
func shapes() []shape {
	var l []shape
	add := func(name string, g *ground, root int64) { l = append(l, shape{name, g, root}) }
	g := newGround()
	add("one gap", g, g.leaf(api.Least, api.Most, 1, true))
	for count := range api.Fan {
		g = newGround()
		add("one leaf", g, g.leaf(20*page, 60*page, count+1, true))
	}
	for many := 1; many <= api.Fan; many++ {
		g = newGround()
		add("two high", g, g.inner(g.leaves(many, 1+many%5)...))
	}
	g = newGround()
	add("three high", g, g.inner(g.above(g.leaves(20, 3))...))
	g = newGround()
	add("64 nodes", g, g.inner(g.above(g.leaves(55, 6))...)) // 55, 7 and 1 are 63
	for height := 2; height <= api.MaxHeight; height++ {
		g = newGround()
		add("chain", g, g.chain(g.leaf(api.Least, api.Most, 3, true), height-1))
	}
	return append(l, lopsided(), twice(), eight(), sixtyFour())
}

// lopsided is a tree whose leaves don't stand at one height, so that what is below
// an entry comes ahead of the next one only if it is gone through in order.
func lopsided() shape {
	g := newGround()
	a := g.leaf(16*page, 20*page, 2, true)
	b := g.leaf(20*page, 25*page, 3, false)
	c := g.leaf(25*page, 40*page, 1, false)
	d := g.leaf(40*page, 44*page, 4, true)
	e := g.leaf(44*page, 512*page, 2, false)
	return shape{"lopsided", g, g.inner(g.inner(a, g.inner(b, c)), d, g.inner(e))}
}

// twice is a tree in which one node is reached by two entries.
func twice() shape {
	g := newGround()
	a := g.leaf(16*page, 20*page, 2, true)
	n := slot.Node{Inner: true, Lo: 16 * page, Ends: []int64{20 * page, 24 * page}, Slots: []int64{a, a}, Gaps: []int64{page, page}}
	return shape{"twice", g, g.node(n)}
}

// eight is a tree that is as high as may be, in which the last address is in the
// last one of eight entries each time.
func eight() shape {
	g := newGround()
	h, end := g.leaf(100*page, api.Most, api.Fan, false), int64(api.Most)
	for level := range int64(api.MaxHeight - 1) {
		n := slot.Node{Inner: true, Lo: (93 - 10*level) * page}
		for i := range int64(api.Fan) {
			to := n.Lo + (i+1)*page
			if i == api.Fan-1 {
				to = end
			}
			n.Ends, n.Slots, n.Gaps = append(n.Ends, to), append(n.Slots, h), append(n.Gaps, 0)
		}
		// Only the last entry's node lies where its entry does: the others are leaves.
		for i := range api.Fan - 1 {
			n.Slots[i] = g.leaf(n.Ends[i]-page, n.Ends[i], 1, i%3 == 1)
		}
		h = g.node(n)
	}
	return shape{"eight high", g, h}
}

// sixtyFour has just as many nodes as may be.
func sixtyFour() shape {
	g := newGround()
	l := g.above(g.leaves(49, 2)) // 49 and 7
	l[3] = g.chain(l[3], 5)
	l[6] = g.chain(l[6], 2)
	return shape{"64", g, g.inner(l...)}
}

// read is a word that a task is to read.
type read struct {
	h    int64
	word int
}

// wanted is what a tree is gone through to, by a plan of its own: a stack of what is
// still to come, in the other order. The heights are those of the nodes' own.
func (s shape) wanted() ([]walk.Entry, []int64, []read) {
	var l []walk.Entry
	var nodes []int64
	var p []read
	for todo := []int64{s.root}; len(todo) > 0; {
		h := todo[len(todo)-1]
		todo = todo[:len(todo)-1]
		nodes = append(nodes, h)
		n := s.g.is[h]
		p = append(p, read{h, 0}, read{h, 1})
		for i := range n.Ends {
			p = append(p, read{h, 2 + i}, read{h, 10 + i}, read{h, 18 + i})
		}
		if n.Inner {
			for i := len(n.Slots); i > 0; i-- {
				todo = append(todo, n.Slots[i-1])
			}
			continue
		}
		for i, end := range n.Ends {
			e := walk.Entry{Lo: n.Lo, End: end, H: n.Slots[i]}
			if i > 0 {
				e.Lo = n.Ends[i-1]
			}
			l = append(l, e)
		}
	}
	return l, nodes, p
}

// found is what an address is found as, and what is read for that.
func (s shape) found(addr int64) (int64, bool, []read) {
	var p []read
	for h, looked := s.root, 0; looked < 8; looked++ {
		n := s.g.is[h]
		p = append(p, read{h, 0})
		at := slices.IndexFunc(n.Ends, func(end int64) bool { return end > addr })
		for i := range n.Ends {
			if at >= 0 && i > at {
				break
			}
			p = append(p, read{h, 2 + i})
		}
		if at < 0 {
			return 0, false, p
		}
		p = append(p, read{h, 10 + at})
		if h = n.Slots[at]; !n.Inner {
			return h, true, p
		}
	}
	return 0, false, p
}

// run runs a task till it is over, and answers how many accesses that took.
func run(t *testing.T, m *cell.Memory, task trail.Task) int {
	t.Helper()
	x := trail.New(m)
	for i := 0; i < 3000 && !x.Over(); i++ {
		x.Step(i, task)
	}
	if !x.Over() {
		t.Fatal("the task isn't over")
	}
	return x.Steps()
}

// all runs All.
func (g *ground) all(t *testing.T, root int64) ([]walk.Entry, []int64, bool, int) {
	t.Helper()
	var l []walk.Entry
	var nodes []int64
	var ok bool
	steps := run(t, g.m, func(t *trail.Trail) { l, nodes, ok = walk.All(t, g.a, root) })
	return l, nodes, ok, steps
}

// find runs Find.
func (g *ground) find(t *testing.T, root, addr int64) (int64, bool, int) {
	t.Helper()
	var h int64
	var ok bool
	steps := run(t, g.m, func(t *trail.Trail) { h, ok = walk.Find(t, g.a, root, addr) })
	return h, ok, steps
}

// follow runs a task in which each step finds just that one word as it is, and all
// others as some other number: so what the task makes of it is right only if it
// reads just these words in just this order. It asks before each further step
// whether what the task answered so far is nothing.
func (g *ground) follow(t *testing.T, p []read, nothing func() bool, task trail.Task) {
	t.Helper()
	was := g.m.Look(0, g.m.Size())
	for i := range was {
		g.m.Store(i, 19)
	}
	x := trail.New(g.m)
	for step, r := range p {
		c := g.a.Cell(r.h, r.word)
		g.m.Store(c, was[c])
		x.Step(step, task)
		g.m.Store(c, 19)
		if x.Steps() != step+1 {
			t.Fatal("steps", x.Steps(), step+1)
		}
		if x.Over() != (step == len(p)-1) {
			t.Fatal("over", x.Over(), step, len(p))
		}
		if !x.Over() && !nothing() {
			t.Fatal("something is answered on a dry trail, at", step)
		}
	}
	for i, v := range was {
		g.m.Store(i, v)
	}
	if g.a.Stale() || g.a.Double() {
		t.Fatal("stale")
	}
}

// asked are the addresses that a tree is asked for: those at and about all edges of
// its nodes, and those beyond all.
func (s shape) asked() []int64 {
	l := []int64{math.MinInt64, -page, -1, 0, 1, api.Least, api.Most, api.Most + 1, math.MaxInt64}
	for _, n := range s.g.is {
		for _, edge := range append([]int64{n.Lo}, n.Ends...) {
			l = append(l, edge-1, edge, edge+1)
		}
	}
	slices.Sort(l)
	return slices.Compact(l)
}

// TestShapes keeps what the other tests stand on.
func TestShapes(t *testing.T) {
	most := 0
	for _, s := range shapes() {
		for h, n := range s.g.is {
			if !slot.Formed(n) {
				t.Error(s.name, h, n)
			}
		}
		_, nodes, _ := s.wanted()
		if most = max(most, len(nodes)); s.name == "64" && len(nodes) != 64 {
			t.Error(s.name, len(nodes))
		}
	}
	if most != 64 {
		t.Error(most)
	}
}

// P17.1: Find looks in the root, then in the node whose handle came, as long as the
// node was an inner one; nothing is answered while the trail is dry.
func TestFind(t *testing.T) {
	longest := 0
	for _, s := range shapes() {
		asked := s.asked()
		for i := 0; i < len(asked); i += 1 + len(asked)/150 {
			want, is, p := s.found(asked[i])
			longest = max(longest, len(p))
			var h int64
			var ok bool
			s.g.follow(t, p, func() bool { return h == 0 && !ok }, func(t *trail.Trail) {
				h, ok = walk.Find(t, s.g.a, s.root, asked[i])
			})
			if h != want || ok != is {
				t.Error(s.name, asked[i], ":", h, ok, want, is)
			}
		}
	}
	if longest < 70 {
		t.Error(longest)
	}
}

// P17.1: no Find does more than 80 accesses, and the longest one does as many.
func TestFindMost(t *testing.T) {
	longest := 0
	for _, s := range shapes() {
		for _, addr := range s.asked() {
			want, is, _ := s.found(addr)
			h, ok, steps := s.g.find(t, s.root, addr)
			if longest = max(longest, steps); h != want || ok != is {
				t.Error(s.name, addr, ":", h, ok, want, is)
			}
		}
	}
	if longest != 80 {
		t.Error(longest)
	}
}

// P17.1, by hand: an area's handle, a gap's, addresses at and beyond the edges.
func TestFindByHand(t *testing.T) {
	g := newGround()
	left := g.node(slot.Node{Lo: 16 * page, Ends: []int64{20 * page, 21 * page}, Slots: []int64{0, 7}, Gaps: []int64{4 * page, 0}})
	right := g.node(slot.Node{Lo: 21 * page, Ends: []int64{30 * page, 512 * page}, Slots: []int64{9, 0}, Gaps: []int64{0, 482 * page}})
	root := g.inner(left, right)
	for _, c := range []struct {
		addr, h int64
		ok      bool
		steps   int
	}{
		{16 * page, 0, true, 6},
		{20*page - 1, 0, true, 6},
		{20 * page, 7, true, 7},
		{21*page - 1, 7, true, 7},
		{21 * page, 9, true, 7},
		{30 * page, 0, true, 8},
		{512*page - 1, 0, true, 8},
		{512 * page, 0, false, 3},
		{math.MaxInt64, 0, false, 3},
		{0, 0, true, 6},
		{math.MinInt64, 0, true, 6},
	} {
		h, ok, steps := g.find(t, root, c.addr)
		if h != c.h || ok != c.ok || steps != c.steps || g.a.Stale() {
			t.Error(c, ":", h, ok, steps, g.a.Stale())
		}
	}
}

// P17.1: a leaf in the eighth place is looked in; if the node there is an inner one,
// nothing is found, and what is below isn't read.
func TestFindHeight(t *testing.T) {
	for above := 0; above <= 20; above++ {
		g := newGround()
		leaf := g.leaf(api.Least, api.Most, 1, false)
		root := g.chain(leaf, above)
		h, ok, steps := g.find(t, root, 30*page)
		if above < 8 {
			if h != g.is[leaf].Slots[0] || !ok || steps != 3*(above+1) {
				t.Error(above, ":", h, ok, steps)
			}
			continue
		}
		if h != 0 || ok || steps != 24 {
			t.Error(above, ":", h, ok, steps)
		}
		ninth := root
		for range 8 {
			ninth = g.is[ninth].Slots[0]
		}
		g.a.Died(ninth)
		if g.find(t, root, 30*page); g.a.Stale() {
			t.Error("the ninth node is read", above)
		}
	}
}

// P17.1, P17.2: a node that leads back to the root, or to itself, has nothing; the
// call ends all the same.
func TestRound(t *testing.T) {
	g := newGround()
	n := slot.Node{Inner: true, Lo: api.Least, Ends: []int64{api.Most}, Slots: []int64{1}, Gaps: []int64{0}}
	h := g.node(n)
	k := g.inner(g.inner(h))
	for _, to := range []int64{h, k} {
		n.Slots[0] = to
		g.renode(h, n)
		if found, ok, steps := g.find(t, h, 20*page); found != 0 || ok || steps != 24 {
			t.Error(to, found, ok, steps)
		}
		if l, nodes, ok, steps := g.all(t, h); len(l) != 0 || len(nodes) != 0 || ok || steps != 40 {
			t.Error(to, l, nodes, ok, steps)
		}
	}
	wide := slot.Node{Inner: true, Lo: api.Least}
	for i := range int64(api.Fan) {
		wide.Ends, wide.Slots, wide.Gaps = append(wide.Ends, (17+i)*page), append(wide.Slots, h), append(wide.Gaps, 0)
	}
	g.renode(h, wide)
	if found, ok, steps := g.find(t, h, 24*page-1); found != 0 || ok || steps != 80 {
		t.Error(found, ok, steps)
	}
	if l, nodes, ok, steps := g.all(t, h); len(l) != 0 || len(nodes) != 0 || ok || steps != 8*26 {
		t.Error(l, nodes, ok, steps)
	}
}

// P17.2: All reads the nodes, the root first, what is below an entry ahead of the
// next one, and answers nothing while the trail is dry.
func TestAll(t *testing.T) {
	for _, s := range shapes() {
		want, handles, p := s.wanted()
		var l []walk.Entry
		var nodes []int64
		var ok bool
		s.g.follow(t, p, func() bool { return len(l) == 0 && len(nodes) == 0 && !ok }, func(t *trail.Trail) {
			l, nodes, ok = walk.All(t, s.g.a, s.root)
		})
		if !ok || !slices.Equal(l, want) || !slices.Equal(nodes, handles) {
			t.Error(s.name, ":", l, nodes, ok)
		}
	}
}

// P17.2, by hand: the chapter's example, and a tree whose leaves don't stand at one
// height.
func TestAllByHand(t *testing.T) {
	g := newGround()
	root := g.leaf(api.Least, api.Most, 1, true)
	l, nodes, ok, steps := g.all(t, root)
	if !ok || !slices.Equal(l, []walk.Entry{{Lo: 16 * page, End: 512 * page}}) || !slices.Equal(nodes, []int64{root}) || steps != 5 {
		t.Error(l, nodes, ok, steps)
	}
	g = newGround()
	a := g.node(slot.Node{Lo: 16 * page, Ends: []int64{18 * page, 19 * page}, Slots: []int64{5, 0}, Gaps: []int64{0, page}})
	b := g.node(slot.Node{Lo: 19 * page, Ends: []int64{20 * page}, Slots: []int64{6}, Gaps: []int64{0}})
	c := g.node(slot.Node{Lo: 20 * page, Ends: []int64{512 * page}, Slots: []int64{0}, Gaps: []int64{492 * page}})
	ab := g.inner(a, b)
	root = g.inner(ab, c)
	l, nodes, ok, steps = g.all(t, root)
	want := []walk.Entry{
		{Lo: 16 * page, End: 18 * page, H: 5},
		{Lo: 18 * page, End: 19 * page},
		{Lo: 19 * page, End: 20 * page, H: 6},
		{Lo: 20 * page, End: 512 * page},
	}
	if !ok || !slices.Equal(l, want) || !slices.Equal(nodes, []int64{root, ab, a, b, c}) || steps != 8+8+8+5+5 || g.a.Stale() {
		t.Error(l, nodes, ok, steps)
	}
}

// P17.2: each entry is told as its leaf has it, whatever the node above says of
// where it ends, and whether or not leaves meet one another.
func TestAllAsTheLeavesSay(t *testing.T) {
	g := newGround()
	a := g.node(slot.Node{Lo: 30 * page, Ends: []int64{40 * page, 41 * page}, Slots: []int64{3, 4}, Gaps: []int64{0, 0}})
	b := g.node(slot.Node{Lo: 20 * page, Ends: []int64{35 * page}, Slots: []int64{0}, Gaps: []int64{15 * page}})
	root := g.node(slot.Node{Inner: true, Lo: 16 * page, Ends: []int64{17 * page, 18 * page}, Slots: []int64{a, b}, Gaps: []int64{page, 0}})
	l, nodes, ok, _ := g.all(t, root)
	want := []walk.Entry{{Lo: 30 * page, End: 40 * page, H: 3}, {Lo: 40 * page, End: 41 * page, H: 4}, {Lo: 20 * page, End: 35 * page}}
	if !ok || !slices.Equal(l, want) || !slices.Equal(nodes, []int64{root, a, b}) {
		t.Error(l, nodes, ok)
	}
}

// P17.2: 64 nodes may be; of more there is nothing, and the 65th isn't read.
func TestAllMostNodes(t *testing.T) {
	for many := 54; many <= 64; many++ {
		g := newGround()
		l := g.leaves(many, 1)
		up := g.above(l)
		root := g.inner(up...)
		count := many + len(up) + 1
		var nodes []int64
		for _, h := range up {
			nodes = append(append(nodes, h), g.is[h].Slots...)
		}
		nodes = append([]int64{root}, nodes...)
		if len(nodes) != count {
			t.Fatal(len(nodes), count)
		}
		for _, h := range nodes[min(64, count):] {
			g.a.Died(h)
		}
		entries, handles, ok, steps := g.all(t, root)
		want := 0
		for _, h := range nodes[:min(64, count)] {
			want += 2 + 3*len(g.is[h].Ends)
		}
		if steps != want || g.a.Stale() {
			t.Error(many, steps, want, g.a.Stale())
		}
		if ok != (count <= 64) || ok && (len(entries) != many || !slices.Equal(handles, nodes)) {
			t.Error(many, count, ":", entries, handles, ok)
		}
		if !ok && (len(entries) != 0 || len(handles) != 0) {
			t.Error(many, count, ":", entries, handles)
		}
	}
}

// P17.2: eight nodes may stand below one another, by any entry; of more there is
// nothing, and the ninth isn't read. Those beside one another don't count for that.
func TestAllHeight(t *testing.T) {
	for above := 0; above <= 20; above++ {
		for at := range 3 {
			g := newGround()
			lo := []int64{16 * page, 30 * page, 70 * page}[at]
			leaf := g.leaf(lo, lo+page, 1, false)
			l := []int64{g.leaf(18*page, 20*page, 2, true), g.leaf(50*page, 60*page, 1, true)}
			l = slices.Insert(l, at, g.chain(leaf, above))
			root := g.inner(l...)
			height := above + 2
			ninth := l[at]
			for range 7 {
				if g.is[ninth].Inner {
					ninth = g.is[ninth].Slots[0]
				}
			}
			if height > 8 {
				g.a.Died(ninth)
			}
			entries, nodes, ok, _ := g.all(t, root)
			if g.a.Stale() {
				t.Error("the ninth node is read", above, at)
			}
			if ok != (height <= 8) {
				t.Error(above, at, ":", entries, nodes, ok)
			}
			if ok && (len(entries) != 4 || len(nodes) != 4+above || entries[[]int{0, 2, 3}[at]].H != g.is[leaf].Slots[0]) {
				t.Error(above, at, ":", entries, nodes)
			}
			if !ok && (len(entries) != 0 || len(nodes) != 0) {
				t.Error(above, at, ":", entries, nodes)
			}
		}
	}
}

// P17.1, P17.2: a root that is no node's, though it may be a handle: of no slot, of a
// free one, of an area, of words that aren't formed.
func TestNoRoot(t *testing.T) {
	for _, h := range []int64{0, 1, slots, 1<<16 | slots, 1<<16 | (slots + 1), 65535, -1, math.MinInt64, math.MaxInt64} {
		for _, addr := range []int64{math.MinInt64, -1, 0, 20 * page, math.MaxInt64} {
			g := newGround()
			found, ok, steps := g.find(t, h, addr)
			if found != 0 || ok || steps != 1 || !g.a.Stale() {
				t.Error(h, addr, ":", found, ok, steps, g.a.Stale())
			}
		}
		g := newGround()
		if l, nodes, ok, steps := g.all(t, h); len(l) != 0 || len(nodes) != 0 || ok || steps != 1 || !g.a.Stale() {
			t.Error(h, ":", l, nodes, ok, steps)
		}
	}
	g := newGround()
	w := slot.Pack(slot.Node{Lo: 16 * page, Ends: []int64{20 * page}, Slots: []int64{5}, Gaps: []int64{0}})
	w[1] = 20 * page // begins where it ends
	unformed := g.lay(w)
	dead := g.lay(slot.PackArea(api.Area{Start: 16 * page, End: 20 * page, Prot: 1}, true))
	for _, c := range []struct {
		h     int64
		found int64
		is    bool
		steps [2]int
	}{
		{unformed, 5, true, [2]int{3, 5}}, // a look doesn't ask for Lo
		{dead, 0, false, [2]int{1, 1}},
	} {
		found, ok, look := g.find(t, c.h, 17*page)
		l, nodes, is, all := g.all(t, c.h)
		if found != c.found || ok != c.is || len(l) != 0 || len(nodes) != 0 || is || [2]int{look, all} != c.steps || g.a.Stale() {
			t.Error(c, ":", found, ok, l, nodes, is, look, all, g.a.Stale())
		}
	}
}

// P17.1, P17.2: below an inner node's entry there is something that is no node's:
// wherever that stands, All has nothing, and Find only of the other entries.
func TestNoNodeBelow(t *testing.T) {
	for at := range 4 {
		for _, kind := range []int{0, 1, 2, 3} {
			g := newGround()
			l := g.leaves(4, 2)
			n := g.is[g.inner(l...)]
			switch kind {
			case 0:
				n.Slots[at] = g.lay(slot.PackArea(api.Area{Start: 16 * page, End: 20 * page}, false))
			case 1:
				n.Slots[at] = g.lay(nil) // words that are all noughts
			case 2:
				n.Slots[at] = 1<<16 | (slots + 1)
			case 3:
				w := slot.Pack(g.is[l[at]])
				w[0] = 1 + 16*9
				n.Slots[at] = g.lay(w)
			}
			root := g.node(n)
			if entries, nodes, ok, steps := g.all(t, root); len(entries) != 0 || len(nodes) != 0 || ok || steps != 14+8*at+1 {
				t.Error(at, kind, ":", entries, nodes, ok, steps)
			}
			for i := range 4 {
				h, ok, steps := g.find(t, root, n.Ends[i]-1)
				if i == at {
					if h != 0 || ok || steps != 4+i {
						t.Error(at, kind, i, ":", h, ok, steps)
					}
					continue
				}
				if h != g.is[l[i]].Slots[1] || !ok || steps != 3+i+4 {
					t.Error(at, kind, i, ":", h, ok, steps)
				}
			}
		}
	}
}

// P17.1: an inner node's word that can be no handle is looked in as it stands there.
func TestNoHandleBelow(t *testing.T) {
	for _, v := range []int64{0, -1, math.MinInt64, math.MaxInt64} {
		g := newGround()
		leaf := g.leaf(api.Least, api.Most, 1, false)
		root := g.inner(leaf)
		g.m.Store(g.a.Cell(root, 10), v)
		if h, ok, steps := g.find(t, root, 20*page); h != 0 || ok || steps != 4 || !g.a.Stale() {
			t.Error(v, h, ok, steps)
		}
		l, nodes, ok, _ := g.all(t, root)
		if len(l) != 0 || len(nodes) != 0 || ok {
			t.Error(v, l, nodes, ok)
		}
	}
}

// P17.1: an address that is behind what a node below has, though the one above says
// otherwise, isn't found.
func TestFindBeyondANode(t *testing.T) {
	g := newGround()
	leaf := g.leaf(16*page, 20*page, 2, false)
	root := g.node(slot.Node{Inner: true, Lo: 16 * page, Ends: []int64{30 * page}, Slots: []int64{leaf}, Gaps: []int64{0}})
	for _, c := range []struct {
		addr  int64
		ok    bool
		steps int
	}{{20*page - 1, true, 7}, {20 * page, false, 6}, {30*page - 1, false, 6}, {30 * page, false, 2}} {
		h, ok, steps := g.find(t, root, c.addr)
		if ok != c.ok || !ok && h != 0 || steps != c.steps {
			t.Error(c, ":", h, ok, steps)
		}
	}
}

// P17.1, P17.2: on a trail that was dry already, or is no step's, nothing is read,
// touched or answered.
func TestDry(t *testing.T) {
	for _, s := range shapes() {
		for h := range s.g.is {
			s.g.a.Died(h)
		}
		ask := func(x *trail.Trail) {
			for _, addr := range []int64{math.MinInt64, -1, 0, 20 * page} {
				if h, ok := walk.Find(x, s.g.a, s.root, addr); h != 0 || ok {
					t.Error(s.name, addr, h, ok)
				}
			}
			if l, nodes, ok := walk.All(x, s.g.a, s.root); len(l) != 0 || len(nodes) != 0 || ok {
				t.Error(s.name, l, nodes, ok)
			}
		}
		x := trail.New(s.g.m)
		x.Step(0, func(t *trail.Trail) {
			t.Load(0)
			t.Load(0)
			ask(t)
		})
		waiting := trail.New(s.g.m)
		waiting.Step(0, func(t *trail.Trail) {
			t.Wait(0, 1)
			ask(t)
		})
		over := trail.New(s.g.m)
		over.Step(0, func(t *trail.Trail) {})
		for _, y := range []*trail.Trail{x, waiting, over} {
			ask(y)
		}
		if x.Steps() != 1 || waiting.Steps() != 0 || over.Steps() != 0 || s.g.a.Stale() {
			t.Error(s.name, x.Steps(), waiting.Steps(), over.Steps(), s.g.a.Stale())
		}
	}
}

// P17.1, P17.2: a slot that dies behind the k-th access is found out just if it is
// read yet; what is read is told as it was read.
func TestTouched(t *testing.T) {
	s := lopsided()
	want, handles, p := s.wanted()
	at, is, q := s.found(42 * page)
	for _, c := range []struct {
		p    []read
		task func(s shape, ok *bool) trail.Task
	}{
		{p, func(s shape, ok *bool) trail.Task {
			return func(t *trail.Trail) {
				l, nodes, good := walk.All(t, s.g.a, s.root)
				*ok = good && slices.Equal(l, want) && slices.Equal(nodes, handles)
			}
		}},
		{q, func(s shape, ok *bool) trail.Task {
			return func(t *trail.Trail) {
				h, good := walk.Find(t, s.g.a, s.root, 42*page)
				*ok = h == at && good == is
			}
		}},
	} {
		for h := range s.g.is {
			for k := 0; k <= len(c.p); k++ {
				s := lopsided()
				var ok bool
				task, x := c.task(s, &ok), trail.New(s.g.m)
				for i := range k {
					x.Step(i, task)
				}
				s.g.a.Died(h)
				for i := k; !x.Over(); i++ {
					x.Step(i, task)
				}
				left := slices.ContainsFunc(c.p[k:], func(r read) bool { return r.h == h })
				if s.g.a.Stale() != left || s.g.a.Double() || !ok || x.Steps() != len(c.p) {
					t.Error(h, k, ":", s.g.a.Stale(), left, ok, x.Steps())
				}
			}
		}
	}
}

// P17.1, P17.2: a root that was given back is read all the same, and found out.
func TestStaleRoot(t *testing.T) {
	g := newGround()
	root := g.leaf(api.Least, api.Most, 1, false)
	h, ok, _ := g.find(t, g.old, 20*page)
	if h != g.is[root].Slots[0] || !ok || !g.a.Stale() {
		t.Error(h, ok, g.a.Stale())
	}
	g = newGround()
	root = g.leaf(api.Least, api.Most, 1, false)
	l, nodes, ok, _ := g.all(t, g.old)
	if len(l) != 1 || l[0].H != g.is[root].Slots[0] || !slices.Equal(nodes, []int64{g.old}) || !ok || !g.a.Stale() {
		t.Error(l, nodes, ok, g.a.Stale())
	}
}

// P17.1: who has read the root's handle goes on in the old tree, whatever is put
// beside it meanwhile.
func TestOldTree(t *testing.T) {
	s := lopsided()
	_, _, p := s.found(30 * page)
	var h int64
	var ok bool
	task := func(t *trail.Trail) { h, ok = walk.Find(t, s.g.a, s.root, 30*page) }
	x := trail.New(s.g.m)
	for i := range p {
		s.g.leaf(16*page, 20*page, 1, true)
		x.Step(i, task)
	}
	want, _, _ := s.found(30 * page)
	if !x.Over() || h != want || want == 0 || !ok || s.g.a.Stale() {
		t.Error(h, ok, x.Steps())
	}
}

// R5: what is answered is new memory each time, and the slots stay as they are.
func TestAnswersAreNew(t *testing.T) {
	for _, s := range shapes() {
		want, handles, _ := s.wanted()
		ahead := s.g.m.Look(0, s.g.m.Size())
		var l, again []walk.Entry
		var nodes, still []int64
		run(t, s.g.m, func(t *trail.Trail) {
			l, nodes, _ = walk.All(t, s.g.a, s.root)
			again, still, _ = walk.All(t, s.g.a, s.root)
		})
		for i := range l[:cap(l)] {
			l[:cap(l)][i].H = -77
		}
		for i := range nodes[:cap(nodes)] {
			nodes[:cap(nodes)][i] = -77
		}
		if !slices.Equal(again, want) || !slices.Equal(still, handles) {
			t.Error(s.name, ":", again, still)
		}
		if !slices.Equal(s.g.m.Look(0, s.g.m.Size()), ahead) {
			t.Error("the memory is changed", s.name)
		}
	}
}
