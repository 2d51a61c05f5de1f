package slot_test

import (
	"math"
	"slices"
	"testing"

	"samara/api"
	"samara/slot"
)

const page = api.Page

// part is an entry: the page that it ends ahead of, its handle, its gap in pages.
type part struct{ end, h, gap int64 }

// node answers one from a page on.
func node(inner bool, lo int64, parts ...part) slot.Node {
	n := slot.Node{Inner: inner, Lo: lo * page}
	for _, p := range parts {
		n.Ends = append(n.Ends, p.end*page)
		n.Slots = append(n.Slots, p.h)
		n.Gaps = append(n.Gaps, p.gap*page)
	}
	return n
}

// leaf answers a leaf from a page on.
func leaf(lo int64, parts ...part) slot.Node {
	return node(false, lo, parts...)
}

// inner answers an inner node from a page on.
func inner(lo int64, parts ...part) slot.Node {
	return node(true, lo, parts...)
}

// even answers a node of n entries of two pages each, from page 20 on: in a leaf
// every other one is a gap.
func even(inside bool, n int64) slot.Node {
	var parts []part
	for i := range n {
		p := part{end: 22 + 2*i, h: 65536 + i}
		if inside {
			p.gap = i % 3
		} else if i%2 == 0 {
			p.h, p.gap = 0, 2
		}
		parts = append(parts, p)
	}
	return node(inside, 20, parts...)
}

// copied answers a node that shares nothing with n.
func copied(n slot.Node) slot.Node {
	n.Ends, n.Slots, n.Gaps = slices.Clone(n.Ends), slices.Clone(n.Slots), slices.Clone(n.Gaps)
	return n
}

// equal holds nodes against each other without asking the package.
func equal(a, b slot.Node) bool {
	return a.Inner == b.Inner && a.Lo == b.Lo &&
		slices.Equal(a.Ends, b.Ends) && slices.Equal(a.Slots, b.Slots) && slices.Equal(a.Gaps, b.Gaps)
}

// formed are nodes of many kinds that are formed, those at the edges too.
func formed() []slot.Node {
	l := []slot.Node{
		leaf(16, part{512, 0, 496}), leaf(16, part{512, 1, 0}), leaf(16, part{17, 0, 1}), leaf(511, part{512, 0, 1}),
		leaf(511, part{512, math.MaxInt64, 0}),
		leaf(16, part{20, 0, 4}, part{22, 65540, 0}, part{512, 0, 490}),
		leaf(16, part{20, 0, 4}, part{22, 0, 2}), leaf(30, part{31, 7, 0}, part{32, 7, 0}, part{33, 8, 0}),
		inner(16, part{512, 1, 0}), inner(16, part{512, 1, 496}), inner(16, part{512, 65537, 3}),
		inner(511, part{512, math.MaxInt64, 1}), inner(16, part{17, 1, 0}),
		inner(16, part{30, 2, 14}, part{31, 1, 0}, part{512, 131075, 480}),
		inner(40, part{50, 9, 1}, part{60, 9, 10}),
	}
	for n := int64(1); n <= 8; n++ {
		l = append(l, even(false, n), even(true, n))
	}
	odd := inner(16, part{20, 1, 0}, part{30, 2, 0}) // an inner one's gap is any number
	odd.Gaps = []int64{1, 10*page - 1}
	return append(l, odd)
}

// changed answers copies of n, each with one thing done to it.
func changed(n slot.Node, do ...func(*slot.Node)) []slot.Node {
	var l []slot.Node
	for _, f := range do {
		m := copied(n)
		f(&m)
		l = append(l, m)
	}
	return l
}

// unformed are nodes that fail by one thing each, as far as that can be.
func unformed() []slot.Node {
	lo := func(v int64) func(*slot.Node) { return func(n *slot.Node) { n.Lo = v } }
	end := func(i int, v int64) func(*slot.Node) { return func(n *slot.Node) { n.Ends[i] = v } }
	handle := func(i int, v int64) func(*slot.Node) { return func(n *slot.Node) { n.Slots[i] = v } }
	gap := func(i int, v int64) func(*slot.Node) { return func(n *slot.Node) { n.Gaps[i] = v } }
	all := []func(*slot.Node){
		lo(15 * page), lo(0), lo(-page), lo(16*page + 1), lo(17*page - 1), lo(20 * page), lo(21 * page), lo(math.MinInt64), lo(math.MaxInt64),
		end(0, 16*page), end(0, 15*page), end(0, 20*page-1), end(0, 20*page+1), end(0, 22*page), end(0, 23*page), end(0, 0), end(0, math.MinInt64), end(0, math.MaxInt64),
		end(1, 20*page), end(1, 19*page), end(1, 22*page+1), end(1, 512*page), end(1, math.MaxInt64),
		end(2, 513*page), end(2, 512*page+1), end(2, 512*page-1), end(2, 22*page), end(2, math.MaxInt64), end(2, math.MaxInt64-page+1), end(2, math.MinInt64),
		handle(0, -1), handle(1, -1), handle(2, -1), handle(0, math.MinInt64), handle(1, -65540),
		gap(0, -1), gap(1, -1), gap(2, -1), gap(0, -page), gap(0, math.MinInt64), gap(1, math.MinInt64),
		gap(0, 5*page), gap(0, 4*page+1), gap(1, 2*page+1), gap(1, 3*page), gap(2, 490*page+1), gap(2, math.MaxInt64), gap(0, 1<<32+4*page),
		func(n *slot.Node) { n.Ends = n.Ends[:2] }, func(n *slot.Node) { n.Slots = n.Slots[:2] }, func(n *slot.Node) { n.Gaps = n.Gaps[:2] },
		func(n *slot.Node) { n.Ends = nil }, func(n *slot.Node) { n.Slots = nil }, func(n *slot.Node) { n.Gaps = nil },
		func(n *slot.Node) { n.Slots = append(n.Slots, 1) }, func(n *slot.Node) { n.Gaps = append(n.Gaps, 0) },
		func(n *slot.Node) { n.Slots = append(n.Slots, 0) },
		func(n *slot.Node) { n.Ends, n.Slots, n.Gaps = nil, nil, nil },
		func(n *slot.Node) { n.Ends, n.Slots, n.Gaps = []int64{}, []int64{}, []int64{} },
	}
	a := leaf(16, part{20, 0, 4}, part{22, 65540, 0}, part{512, 0, 490})
	b := inner(16, part{20, 3, 4}, part{22, 65540, 0}, part{512, 4, 0})
	l := append(changed(a, all...), changed(b, all...)...)
	l = append(l, changed(a, // a leaf's gap hangs on the handle
		gap(0, 0), gap(0, 4*page-1), gap(0, 3*page), gap(2, 0), gap(2, 496*page), gap(1, 1), gap(1, 2*page),
		handle(0, 1), handle(1, 0), handle(2, 9))...)
	l = append(l, changed(b, handle(0, 0), handle(1, 0), handle(2, 0), func(n *slot.Node) { n.Slots = []int64{0, 0, 0} })...)
	for _, n := range []int64{9, 10, 16, 24, 64} {
		l = append(l, even(false, n), even(true, n))
	}
	return append(l, slot.Node{}, slot.Node{Inner: true}, slot.Node{Lo: 16 * page}, slot.Node{Ends: []int64{17 * page}})
}

// isNode says what a formed node is, asking of each entry all that the words say
// of it, and putting together what is asked.
func isNode(n slot.Node) bool {
	k := len(n.Ends)
	ok := k > 0 && k < 9 && len(n.Slots) == k && len(n.Gaps) == k
	for i := 0; ok && i < k; i++ {
		from := n.Lo
		if i > 0 {
			from = n.Ends[i-1]
		}
		ok = from/page >= 16 && from%page == 0 && n.Ends[i]/page <= 512 && n.Ends[i]%page == 0 && from < n.Ends[i] && n.Slots[i] >= 0
		if !ok {
			break
		}
		size, g := n.Ends[i]-from, n.Gaps[i]
		if n.Inner {
			ok = n.Slots[i] != 0 && 0 <= g && g <= size
		} else {
			ok = n.Slots[i] == 0 && g == size || n.Slots[i] != 0 && g == 0
		}
	}
	return ok
}

// wordsOf says what a formed node's words are, each one put at its place.
func wordsOf(n slot.Node) []int64 {
	w := make([]int64, 28)
	w[0], w[1] = int64(1+16*len(n.Ends)), n.Lo
	if n.Inner {
		w[0]++
	}
	for i := range n.Ends {
		w[2+i], w[10+i], w[18+i] = n.Ends[i], n.Slots[i], n.Gaps[i]
	}
	return w
}

// nodeOf says which node has these words: of all first words that can be it finds
// this one, and behind the last entry it wants noughts.
func nodeOf(w []int64) (slot.Node, bool) {
	if len(w) != 28 {
		return slot.Node{}, false
	}
	for k := 1; k <= 8; k++ {
		for mark := 1; mark <= 2; mark++ {
			if w[0] != int64(16*k+mark) {
				continue
			}
			n := slot.Node{Inner: mark == 2, Lo: w[1], Ends: w[2 : 2+k], Slots: w[10 : 10+k], Gaps: w[18 : 18+k]}
			rest := slices.Concat(w[2+k:10], w[10+k:18], w[18+k:])
			if isNode(n) && !slices.ContainsFunc(rest, func(v int64) bool { return v != 0 }) {
				return copied(n), true
			}
		}
	}
	return slot.Node{}, false
}

// unpacks holds what words are unpacked to against what must come.
func unpacks(t *testing.T, w []int64) bool {
	t.Helper()
	want, ok := nodeOf(w)
	got, is := slot.Unpack(w)
	if is != ok || !equal(got, want) {
		t.Fatalf("%v: %v, %t, not %v, %t", w, got, is, want, ok)
	}
	return ok
}

// others are what a word is made, beside the words next to what it was.
func others(was int64) []int64 {
	return []int64{
		was, was - 1, was + 1, was - page, was + page, was + 16, was - 16, -was, was + 1<<32, was ^ math.MinInt64,
		0, 1, 2, 3, 17, 18, 33, 34, 129, 130, 131, 145, 146, 16 * page, 20 * page, 512 * page, -1, math.MaxInt64, math.MinInt64,
	}
}

func TestFormed(t *testing.T) {
	for _, n := range formed() {
		if !slot.Formed(n) || !isNode(n) {
			t.Errorf("%v isn't formed", n)
		}
	}
	for _, n := range unformed() {
		if slot.Formed(n) || isNode(n) {
			t.Errorf("%v is formed", n)
		}
	}
}

// The number of entries is from 1 to 8, of either kind.
func TestFormedByEntries(t *testing.T) {
	for n := range int64(30) {
		for _, inside := range []bool{false, true} {
			if got := slot.Formed(even(inside, n)); got != (n >= 1 && n <= 8) {
				t.Errorf("%d entries, inner %t: %t", n, inside, got)
			}
		}
	}
}

// eachSmall goes through all nodes of one and two entries whose numbers are of a
// few, most of which aren't formed.
func eachSmall(f func(n slot.Node)) {
	ends := []int64{0, 15 * page, 16 * page, 17 * page, 18*page - 1, 18 * page, 512 * page, 513 * page}
	handles := []int64{-1, 0, 1, 65537}
	gaps := []int64{-1, 0, 1, page, 2 * page, 2*page + 1}
	for _, lo := range ends {
		for _, end := range ends {
			for _, h := range handles {
				for _, gap := range gaps {
					f(slot.Node{Lo: lo, Ends: []int64{end}, Slots: []int64{h}, Gaps: []int64{gap}})
					f(slot.Node{Inner: true, Lo: lo, Ends: []int64{end}, Slots: []int64{h}, Gaps: []int64{gap}})
					for _, last := range ends {
						for _, k := range handles {
							for _, g := range gaps {
								l, m, n := []int64{end, last}, []int64{h, k}, []int64{gap, g}
								f(slot.Node{Lo: lo, Ends: l, Slots: m, Gaps: n})
								f(slot.Node{Inner: true, Lo: lo, Ends: l, Slots: m, Gaps: n})
							}
						}
					}
				}
			}
		}
	}
}

// Of each small node all that is told is what the words say.
func TestEachSmallNode(t *testing.T) {
	some := 0
	eachSmall(func(n slot.Node) {
		want, words, largest := isNode(n), []int64(nil), int64(0)
		if want {
			some++
			words = wordsOf(n)
			for _, g := range n.Gaps {
				largest = max(largest, g)
			}
		}
		w := slot.Pack(n)
		if slot.Formed(n) != want || !slices.Equal(w, words) || slot.Largest(n) != largest {
			t.Fatalf("%v: %t, %v, %d, not %t, %v, %d", n, slot.Formed(n), w, slot.Largest(n), want, words, largest)
		}
		if m, ok := slot.Unpack(wordsOf(n)); ok != want || want && !equal(m, n) || !want && !equal(m, slot.Node{}) {
			t.Fatalf("%v: unpacked %v, %t", n, m, ok)
		}
	})
	if some < 100 {
		t.Error("only", some, "are formed")
	}
}

func TestPackByHand(t *testing.T) {
	tests := []struct {
		n slot.Node
		w []int64
	}{
		{leaf(16, part{512, 0, 496}), []int64{ // the chapter's example
			17, 65536,
			2097152, 0, 0, 0, 0, 0, 0, 0,
			0, 0, 0, 0, 0, 0, 0, 0,
			2031616, 0, 0, 0, 0, 0, 0, 0, 0, 0}},
		{leaf(16, part{20, 0, 4}, part{22, 65540, 0}, part{512, 0, 490}), []int64{
			49, 65536,
			81920, 90112, 2097152, 0, 0, 0, 0, 0,
			0, 65540, 0, 0, 0, 0, 0, 0,
			16384, 0, 2007040, 0, 0, 0, 0, 0, 0, 0}},
		{inner(20, part{21, 3, 1}, part{30, 131076, 0}), []int64{
			34, 81920,
			86016, 122880, 0, 0, 0, 0, 0, 0,
			3, 131076, 0, 0, 0, 0, 0, 0,
			4096, 0, 0, 0, 0, 0, 0, 0, 0, 0}},
		{inner(16, part{17, 1, 0}, part{18, 2, 1}, part{19, 3, 0}, part{20, 4, 1}, part{21, 5, 0}, part{22, 6, 1}, part{23, 7, 0}, part{24, 8, 1}), []int64{
			130, 65536,
			69632, 73728, 77824, 81920, 86016, 90112, 94208, 98304,
			1, 2, 3, 4, 5, 6, 7, 8,
			0, 4096, 0, 4096, 0, 4096, 0, 4096, 0, 0}},
	}
	for _, c := range tests {
		if w := slot.Pack(c.n); !slices.Equal(w, c.w) {
			t.Errorf("%v: %v, not %v", c.n, w, c.w)
		}
		if n, ok := slot.Unpack(c.w); !ok || !equal(n, c.n) {
			t.Errorf("%v: %v, %t, not %v", c.w, n, ok, c.n)
		}
	}
}

// What is packed is unpacked as it was.
func TestPackAndUnpack(t *testing.T) {
	for _, n := range formed() {
		w := slot.Pack(n)
		if !slices.Equal(w, wordsOf(n)) {
			t.Errorf("%v: %v", n, w)
		}
		if m, ok := slot.Unpack(w); !ok || !equal(m, n) {
			t.Errorf("%v: %v, %t, not %v", w, m, ok, n)
		}
	}
	for _, n := range unformed() {
		if w := slot.Pack(n); len(w) != 0 {
			t.Errorf("%v: %v", n, w)
		}
	}
}

// Words of a node that isn't formed, as it would be packed, are none's.
func TestUnpackOfUnformed(t *testing.T) {
	for _, n := range unformed() {
		k := len(n.Ends)
		if k > 8 || len(n.Slots) != k || len(n.Gaps) != k {
			continue
		}
		if m, ok := slot.Unpack(wordsOf(n)); ok || !equal(m, slot.Node{}) {
			t.Errorf("%v: %v, %t", n, m, ok)
		}
	}
}

// Whatever one word is made, or two are, the words are those of just one node, or
// of none.
func TestUnpackOfOtherWords(t *testing.T) {
	some := 0
	for _, n := range formed() {
		w := wordsOf(n)
		for i, was := range w {
			for _, v := range others(was) {
				w[i] = v
				if unpacks(t, w) {
					some++
				}
			}
			w[i] = was
		}
		for i := range w {
			for j := range i {
				a, b := w[i], w[j]
				for _, v := range []int64{0, 1, a + 1, a - page, a + 16} {
					for _, u := range []int64{0, 1, b - 1, b + page, b - 16} {
						w[i], w[j] = v, u
						unpacks(t, w)
					}
				}
				w[i], w[j] = a, b
			}
		}
	}
	if some < 1000 {
		t.Error("only", some, "are a node's")
	}
}

// Noughts are wanted at each place that no entry has, the last two too.
func TestUnpackWantsNoughtsBehind(t *testing.T) {
	for _, n := range formed() {
		w, k := wordsOf(n), len(n.Ends)
		for i := range w {
			behind := i >= 26 || i >= 2 && (i-2)%8 >= k
			for _, v := range []int64{1, -1, page, 512 * page, math.MaxInt64, math.MinInt64} {
				if !behind {
					continue
				}
				w[i] = v
				if m, ok := slot.Unpack(w); ok || !equal(m, slot.Node{}) {
					t.Fatalf("%v: %v, %t", w, m, ok)
				}
				w[i] = 0
			}
		}
	}
}

// No first word but sixteen is a node's, and no number of entries but its own is
// that of a node's words.
func TestUnpackByFirstWord(t *testing.T) {
	firsts := []int64{math.MinInt64, math.MinInt64 + 1, math.MaxInt64, math.MaxInt64 - 15, 1<<32 + 17, 1<<32 + 49, 1<<62 + 17, -1 << 32}
	for v := int64(-400); v < 400; v++ {
		firsts = append(firsts, v)
	}
	for _, n := range formed() {
		w := wordsOf(n)
		right := w[0]
		for _, v := range firsts {
			w[0] = v
			if m, ok := slot.Unpack(w); ok && v != right && v%16 == right%16 {
				t.Errorf("%v: %v", w, m)
			}
			unpacks(t, w)
		}
	}
}

// Words are Width, no fewer and no more, though noughts alone are missing.
func TestHowManyWords(t *testing.T) {
	lists := [][]int64{nil, {}, make([]int64, 28), make([]int64, 100)}
	whole := [][]int64{wordsOf(leaf(16, part{512, 0, 496})), wordsOf(even(true, 8)), areaWords(areas()[0], false), areaWords(areas()[0], true)}
	for _, w := range whole {
		for n := range 28 {
			lists = append(lists, w[:n:n], w[:n])
		}
		for n := 1; n < 40; n++ {
			lists = append(lists, append(slices.Clone(w), make([]int64, n)...))
		}
		lists = append(lists, slices.Concat([]int64{0}, w), slices.Concat(w, w), w[1:])
	}
	for _, w := range lists {
		if n, ok := slot.Unpack(w); ok || !equal(n, slot.Node{}) {
			t.Errorf("%v: %v, %t", w, n, ok)
		}
		if a, dead, ok := slot.UnpackArea(w); ok || dead || a != (api.Area{}) {
			t.Errorf("%v: %v, %t, %t", w, a, dead, ok)
		}
	}
}

func TestLargest(t *testing.T) {
	tests := []struct {
		n    slot.Node
		want int64
	}{
		{leaf(16, part{512, 0, 496}), 496 * page},
		{leaf(16, part{512, 1, 0}), 0},
		{leaf(16, part{20, 0, 4}, part{22, 65540, 0}, part{512, 0, 490}), 490 * page},
		{leaf(16, part{20, 0, 4}, part{22, 65540, 0}, part{23, 0, 1}), 4 * page},
		{leaf(16, part{17, 1, 0}, part{20, 0, 3}, part{22, 5, 0}), 3 * page},
		{leaf(16, part{17, 1, 0}, part{18, 2, 0}), 0},
		{inner(16, part{20, 1, 0}, part{22, 2, 0}), 0},
		{inner(16, part{20, 1, 4}, part{30, 2, 3}), 4 * page},
		{inner(16, part{20, 1, 2}, part{30, 2, 3}), 3 * page},
		{even(true, 8), 2 * page},
	}
	for _, c := range tests {
		if got := slot.Largest(c.n); got != c.want {
			t.Errorf("%v: %d, not %d", c.n, got, c.want)
		}
	}
	for _, n := range unformed() {
		if got := slot.Largest(n); got != 0 {
			t.Errorf("%v: %d", n, got)
		}
	}
}

// The greatest gap is found at each place, and none of another entry is added.
func TestLargestAtEachPlace(t *testing.T) {
	for k := 1; k <= 8; k++ {
		for at := range k {
			n := even(true, int64(k))
			for i := range n.Gaps {
				n.Gaps[i] = int64(i % 2)
			}
			n.Gaps[at] = 7
			if got := slot.Largest(n); got != 7 {
				t.Errorf("%v: %d", n, got)
			}
		}
	}
}

// areas are areas of many kinds that are formed, those at the edges too.
func areas() []api.Area {
	l := []api.Area{
		{Start: 16 * page, End: 17 * page, Prot: 5, Shared: true, Back: 2, Off: 3 * page},
		{Start: 16 * page, End: 17 * page},
		{Start: 16 * page, End: 512 * page, Prot: 7, Shared: true},
		{Start: 511 * page, End: 512 * page, Prot: 1, Back: 9, Off: api.MaxOff - page},
		{Start: 16 * page, End: 512 * page, Prot: 2, Back: 1, Off: api.MaxOff - 496*page},
		{Start: 100 * page, End: 101 * page, Prot: 4, Back: 1},
	}
	for prot := range 8 {
		l = append(l, api.Area{Start: 30 * page, End: 35 * page, Prot: prot, Shared: prot%2 == 0, Back: prot + 1, Off: int64(prot) * page})
	}
	return l
}

// noAreas are areas that fail by one thing each.
func noAreas() []api.Area {
	a := api.Area{Start: 20 * page, End: 24 * page, Prot: 3, Back: 1, Off: page}
	set := func(do func(*api.Area)) api.Area {
		b := a
		do(&b)
		return b
	}
	l := []api.Area{{}, {Prot: 3}}
	for _, v := range []int64{0, 15 * page, 20*page + 1, 24 * page, 25 * page, -page, math.MinInt64, math.MaxInt64} {
		l = append(l, set(func(b *api.Area) { b.Start = v }))
	}
	for _, v := range []int64{0, 20 * page, 19 * page, 24*page + 1, 513 * page, math.MinInt64, math.MaxInt64} {
		l = append(l, set(func(b *api.Area) { b.End = v }))
	}
	for _, v := range []int{-1, 8, 16, 1 << 32, 1<<32 + 3, math.MinInt, math.MaxInt} {
		l = append(l, set(func(b *api.Area) { b.Prot = v }))
	}
	for _, v := range []int{-1, 0, 10, 1 << 32, 1<<32 + 1, math.MinInt, math.MaxInt} {
		l = append(l, set(func(b *api.Area) { b.Back = v }))
	}
	for _, v := range []int64{-page, 1, page + 1, api.MaxOff, api.MaxOff - 3*page, math.MinInt64, math.MaxInt64} {
		l = append(l, set(func(b *api.Area) { b.Off = v }))
	}
	return l
}

// areaWords says what an area's words are, each one put at its place.
func areaWords(a api.Area, dead bool) []int64 {
	w := make([]int64, 28)
	w[0], w[2], w[3], w[4], w[6], w[7] = 3, a.Start, a.End, int64(a.Prot), int64(a.Back), a.Off
	if dead {
		w[1] = 1
	}
	if a.Shared {
		w[5] = 1
	}
	return w
}

// areaOf says which area has these words, and whether it is dead.
func areaOf(w []int64) (api.Area, bool, bool) {
	noughts := !slices.ContainsFunc(w[8:], func(v int64) bool { return v != 0 })
	bits := (w[1] == 0 || w[1] == 1) && (w[5] == 0 || w[5] == 1)
	place := w[2]%page == 0 && w[3]%page == 0 && w[2] >= 16*page && w[2] < w[3] && w[3] <= 512*page
	kinds := w[4] >= 0 && w[4] < 8 && w[6] >= 0 && w[6] < 10
	off := w[6] == 0 && w[7] == 0 || w[6] != 0 && w[7] >= 0 && w[7]%page == 0 && place && w[7] <= 1<<40-(w[3]-w[2])
	if w[0] != 3 || !noughts || !bits || !place || !kinds || !off {
		return api.Area{}, false, false
	}
	return api.Area{Start: w[2], End: w[3], Prot: int(w[4]), Shared: w[5] == 1, Back: int(w[6]), Off: w[7]}, w[1] == 1, true
}

// unpacksArea holds what words are unpacked to against what must come.
func unpacksArea(t *testing.T, w []int64) bool {
	t.Helper()
	want, dies, ok := areaOf(w)
	a, dead, is := slot.UnpackArea(w)
	if a != want || dead != dies || is != ok {
		t.Fatalf("%v: %v, %t, %t, not %v, %t, %t", w, a, dead, is, want, dies, ok)
	}
	return ok
}

func TestPackAreaByHand(t *testing.T) {
	a := api.Area{Start: 16 * page, End: 20 * page, Prot: 6, Shared: true, Back: 4, Off: 7 * page}
	live := append([]int64{3, 0, 65536, 81920, 6, 1, 4, 28672}, make([]int64, 20)...)
	dead := append([]int64{3, 1, 65536, 81920, 6, 1, 4, 28672}, make([]int64, 20)...)
	alone := append([]int64{3, 0, 65536, 81920, 1, 0, 0, 0}, make([]int64, 20)...)
	if w := slot.PackArea(a, false); !slices.Equal(w, live) {
		t.Error(w)
	}
	if w := slot.PackArea(a, true); !slices.Equal(w, dead) {
		t.Error(w)
	}
	if w := slot.PackArea(api.Area{Start: 65536, End: 81920, Prot: 1}, false); !slices.Equal(w, alone) {
		t.Error(w)
	}
	if b, dies, ok := slot.UnpackArea(live); b != a || dies || !ok {
		t.Error(b, dies, ok)
	}
	if b, dies, ok := slot.UnpackArea(dead); b != a || !dies || !ok {
		t.Error(b, dies, ok)
	}
	if b, dies, ok := slot.UnpackArea(alone); b != (api.Area{Start: 65536, End: 81920, Prot: 1}) || dies || !ok {
		t.Error(b, dies, ok)
	}
}

// What is packed is unpacked as it was, dead or not.
func TestPackAndUnpackArea(t *testing.T) {
	for _, dead := range []bool{false, true} {
		for _, a := range areas() {
			w := slot.PackArea(a, dead)
			if !slices.Equal(w, areaWords(a, dead)) {
				t.Errorf("%v: %v", a, w)
			}
			if b, dies, ok := slot.UnpackArea(w); b != a || dies != dead || !ok {
				t.Errorf("%v: %v, %t, %t, not %v", w, b, dies, ok, a)
			}
		}
		for _, a := range noAreas() {
			if w := slot.PackArea(a, dead); len(w) != 0 {
				t.Errorf("%v: %v", a, w)
			}
			if b, dies, ok := slot.UnpackArea(areaWords(a, dead)); b != (api.Area{}) || dies || ok {
				t.Errorf("%v: %v, %t, %t", a, b, dies, ok)
			}
		}
	}
}

// Whatever one word is made, or two are, the words are those of just one area, or
// of none.
func TestUnpackAreaOfOtherWords(t *testing.T) {
	some := 0
	for _, a := range areas() {
		for _, dead := range []bool{false, true} {
			w := areaWords(a, dead)
			for i, was := range w {
				for _, v := range others(was) {
					w[i] = v
					if unpacksArea(t, w) {
						some++
					}
				}
				for j := range i {
					had := w[j]
					for _, v := range []int64{0, 1, was + 1, was - page} {
						for _, u := range []int64{0, 1, had - 1, had + page} {
							w[i], w[j] = v, u
							unpacksArea(t, w)
						}
					}
					w[j] = had
				}
				w[i] = was
			}
		}
	}
	if some < 1000 {
		t.Error("only", some, "are an area's")
	}
}

// What is packed as one thing is no other.
func TestWordsAreOfOneKind(t *testing.T) {
	for _, n := range formed() {
		if a, dead, ok := slot.UnpackArea(slot.Pack(n)); a != (api.Area{}) || dead || ok {
			t.Errorf("%v: %v, %t, %t", n, a, dead, ok)
		}
	}
	for _, a := range areas() {
		for _, dead := range []bool{false, true} {
			if n, ok := slot.Unpack(slot.PackArea(a, dead)); !equal(n, slot.Node{}) || ok {
				t.Errorf("%v: %v, %t", a, n, ok)
			}
		}
	}
}

// guarded answers a copy of a list with spare room, and a function that tells
// whether list and room are still as they were.
func guarded(l []int64) ([]int64, func() bool) {
	whole := slices.Concat(l, slices.Repeat([]int64{-77}, 40))
	was := slices.Clone(whole)
	return whole[:len(l)], func() bool { return slices.Equal(whole, was) }
}

// spoil writes over a list and its spare room.
func spoil(l []int64) {
	l = l[:cap(l)]
	for i := range l {
		l[i] = -99
	}
}

// What is handed in is left as it is, its spare room too, and what is answered is
// new memory: no list of it shares any with an argument.
func TestAnswersAreNewAndArgumentsStay(t *testing.T) {
	for _, n := range append(formed(), unformed()...) {
		m, was := n, copied(n)
		var same [3]func() bool
		m.Ends, same[0] = guarded(n.Ends)
		m.Slots, same[1] = guarded(n.Slots)
		m.Gaps, same[2] = guarded(n.Gaps)
		slot.Formed(m)
		slot.Largest(m)
		spoil(slot.Pack(m))
		for _, ok := range same {
			if !ok() {
				t.Fatalf("%v has become %v", was, m)
			}
		}
	}
	for _, n := range formed() {
		w, same := guarded(wordsOf(n))
		m, _ := slot.Unpack(w)
		for _, l := range [][]int64{m.Ends, m.Slots, m.Gaps} {
			spoil(l)
		}
		if !same() {
			t.Fatalf("%v: words have become %v", n, w)
		}
	}
	for _, a := range areas() {
		w, same := guarded(areaWords(a, true))
		slot.UnpackArea(w)
		if !same() {
			t.Fatalf("%v: words have become %v", a, w)
		}
	}
}

// No two lists of one answer share memory, nor do those of two answers.
func TestAnswersShareNothing(t *testing.T) {
	for _, n := range formed() {
		w := wordsOf(n)
		one, _ := slot.Unpack(w)
		two, _ := slot.Unpack(w)
		spoil(one.Ends)
		if !slices.Equal(one.Slots, n.Slots) || !slices.Equal(one.Gaps, n.Gaps) {
			t.Fatalf("%v: %v", n, one)
		}
		spoil(one.Slots)
		if !slices.Equal(one.Gaps, n.Gaps) {
			t.Fatalf("%v: %v", n, one)
		}
		spoil(one.Gaps)
		if !equal(two, n) {
			t.Fatalf("%v: %v", n, two)
		}
		v := slot.Pack(n)
		spoil(slot.Pack(n))
		if !slices.Equal(v, w) {
			t.Fatalf("%v: %v", n, v)
		}
	}
	a := areas()[0]
	v := slot.PackArea(a, true)
	spoil(slot.PackArea(a, true))
	if !slices.Equal(v, areaWords(a, true)) {
		t.Error(v)
	}
}
