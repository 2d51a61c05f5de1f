package build_test

import (
	"math"
	"slices"
	"testing"

	"samara/api"
	"samara/arena"
	"samara/build"
	"samara/cell"
	"samara/list"
	"samara/seek"
	"samara/slot"
	"samara/trail"
	"samara/walk"
)

const page = api.Page

// far are numbers far beyond what may be asked.
var far = []int64{math.MinInt64, math.MinInt64 + 1, -1 << 40, 1 << 40, math.MaxInt64 - 1, math.MaxInt64}

// ints answers the numbers from first on, so many.
func ints(first int64, n int) []int64 {
	var l []int64
	for i := range int64(n) {
		l = append(l, first+i)
	}
	return l
}

// roomy answers l with spare room behind it, that is filled with v.
func roomy[T any](l []T, v T) []T {
	r := append(slices.Clone(l), v, v, v)
	return r[:len(l)]
}

// pages is an area of some pages.
func pages(from, to int64, prot int) api.Area {
	return api.Area{Start: from * page, End: to * page, Prot: prot}
}

// at is an entry.
func at(lo, end, h int64) walk.Entry {
	return walk.Entry{Lo: lo, End: end, H: h}
}

// apart answers so many areas of one page, with a gap of a page ahead of each.
func apart(n int) []api.Area {
	var l []api.Area
	for i := range int64(n) {
		l = append(l, pages(17+2*i, 18+2*i, int(i)%8))
	}
	return l
}

// dense answers areas of one page that fill the space, none of which goes on in the
// next.
func dense() []api.Area {
	var l []api.Area
	for i := int64(16); i < 512; i++ {
		l = append(l, pages(i, i+1, int(i)%2))
	}
	return l
}

// lists are right lists of areas.
func lists() [][]api.Area {
	backed := api.Area{Start: 30 * page, End: 40 * page, Prot: 7, Shared: true, Back: 9, Off: 5 * page}
	l := [][]api.Area{
		nil,
		{pages(16, 512, 0)},
		{pages(16, 17, 1)},
		{pages(511, 512, 1)},
		{pages(100, 200, 1)},
		{pages(16, 20, 1), pages(20, 25, 2)},
		{pages(16, 20, 1), pages(21, 25, 1)},
		{pages(16, 20, 1), pages(20, 30, 2), backed, pages(40, 41, 0), pages(500, 512, 7)},
		{pages(16, 100, 1), pages(100, 512, 2)},
		{pages(17, 100, 3), pages(100, 511, 2)},
		dense(),
	}
	for n := 1; n <= api.MaxAreas; n++ {
		l = append(l, apart(n))
	}
	return append(l, apart(247))
}

// entriesOf is what a list's entries are by a model of its own: each page's area is
// asked, and where that changes an entry begins.
func entriesOf(l []api.Area, handles []int64) []walk.Entry {
	var out []walk.Entry
	last := -2
	for addr := int64(api.Least); addr < api.Most; addr += page {
		at := slices.IndexFunc(l, func(a api.Area) bool { return a.Start <= addr && addr < a.End })
		if at == last {
			out[len(out)-1].End += page
			continue
		}
		e := walk.Entry{Lo: addr, End: addr + page}
		if at >= 0 {
			e.H = handles[at]
		}
		out, last = append(out, e), at
	}
	return out
}

// P18.1: a list's entries are the space, split into the areas and the gaps.
func TestEntries(t *testing.T) {
	for i, l := range lists() {
		handles := ints(65537+int64(i), len(l))
		slices.Reverse(handles)
		got := build.Entries(l, handles)
		if want := entriesOf(l, handles); !slices.Equal(got, want) {
			t.Errorf("list %d: %v, not %v", i, got, want)
		}
	}
}

// P18.1: by hand, what lies at the space's ends, and what meets.
func TestEntriesByHand(t *testing.T) {
	for _, c := range []struct {
		l       []api.Area
		handles []int64
		want    []walk.Entry
	}{
		{nil, nil, []walk.Entry{at(65536, 2097152, 0)}},
		{[]api.Area{}, []int64{}, []walk.Entry{at(65536, 2097152, 0)}},
		{[]api.Area{pages(16, 512, 1)}, []int64{9}, []walk.Entry{at(65536, 2097152, 9)}},
		{[]api.Area{pages(16, 512, 1)}, []int64{1}, []walk.Entry{at(65536, 2097152, 1)}},
		{[]api.Area{pages(16, 17, 1)}, []int64{math.MaxInt64}, []walk.Entry{at(65536, 69632, math.MaxInt64), at(69632, 2097152, 0)}},
		{[]api.Area{pages(511, 512, 1)}, []int64{9}, []walk.Entry{at(65536, 2093056, 0), at(2093056, 2097152, 9)}},
		{
			[]api.Area{pages(18, 20, 1), pages(20, 21, 2)}, []int64{9, 9},
			[]walk.Entry{at(65536, 73728, 0), at(73728, 81920, 9), at(81920, 86016, 9), at(86016, 2097152, 0)},
		},
	} {
		if got := build.Entries(c.l, c.handles); !slices.Equal(got, c.want) {
			t.Errorf("%v %v: %v, not %v", c.l, c.handles, got, c.want)
		}
	}
}

// P18.1: no entries of a list that isn't right.
func TestEntriesOfNoList(t *testing.T) {
	good := pages(100, 110, 1)
	for _, l := range [][]api.Area{
		{{}},
		{good, {}},
		{good, good},
		{good, pages(105, 120, 2)},
		{good, pages(109, 120, 2)},
		{good, pages(50, 60, 1)},
		{good, pages(110, 120, 1)},
		{good, pages(110, 110, 1)},
		{good, pages(120, 119, 1)},
		{good, pages(120, 121, 8)},
		{good, pages(120, 121, -1)},
		{good, pages(120, 513, 1)},
		{pages(15, 17, 1), good},
		{good, {Start: 120*page + 1, End: 121 * page}},
		{good, {Start: 120 * page, End: 121*page - 1}},
		{good, {Start: 120 * page, End: 121 * page, Back: 10}},
		{good, {Start: 120 * page, End: 121 * page, Off: page}},
		{good, {Start: 120 * page, End: 121 * page, Back: 1, Off: 1}},
		{good, {Start: math.MinInt64, End: math.MaxInt64}},
	} {
		if got := build.Entries(l, ints(1, len(l))); len(got) != 0 {
			t.Errorf("%v: %v", l, got)
		}
	}
	if got := build.Entries([]api.Area{good, pages(110, 120, 2)}, ints(1, 2)); len(got) != 4 {
		t.Errorf("what all of these are made of: %v", got)
	}
}

// P18.1: no entries without a handle above 0 for each area.
func TestEntriesWithoutHandles(t *testing.T) {
	for _, l := range lists() {
		n := len(l)
		for _, count := range []int{n - 2, n - 1, n + 1, n + 2, 2 * n, 0} {
			if count < 0 || count == n {
				continue
			}
			if got := build.Entries(l, ints(1, count)); len(got) != 0 {
				t.Errorf("%d areas, %d handles: %v", n, count, got)
			}
		}
		for i := range min(n, 30) {
			for _, h := range []int64{0, -1, math.MinInt64} {
				handles := ints(1, n)
				handles[i] = h
				if got := build.Entries(l, handles); len(got) != 0 {
					t.Errorf("%d areas, handle %d is %d: %v", n, i, h, got)
				}
			}
		}
	}
}

// P18.1: the pieces' sizes, by hand.
func TestCut(t *testing.T) {
	for n, want := range map[int][]int{
		1: {1}, 2: {2}, 7: {7}, 8: {8},
		9: {5, 4}, 10: {5, 5}, 11: {6, 5}, 15: {8, 7}, 16: {8, 8},
		17: {6, 6, 5}, 18: {6, 6, 6}, 19: {7, 6, 6}, 23: {8, 8, 7}, 24: {8, 8, 8},
		25: {7, 6, 6, 6}, 26: {7, 7, 6, 6}, 32: {8, 8, 8, 8},
		33: {7, 7, 7, 6, 6}, 40: {8, 8, 8, 8, 8},
		41: {7, 7, 7, 7, 7, 6}, 48: {8, 8, 8, 8, 8, 8},
		49: {7, 7, 7, 7, 7, 7, 7}, 50: {8, 7, 7, 7, 7, 7, 7}, 56: {8, 8, 8, 8, 8, 8, 8},
		57: {8, 7, 7, 7, 7, 7, 7, 7}, 63: {8, 8, 8, 8, 8, 8, 8, 7}, 64: {8, 8, 8, 8, 8, 8, 8, 8},
	} {
		if got := build.Cut(n); !slices.Equal(got, want) {
			t.Errorf("%d: %v, not %v", n, got, want)
		}
	}
}

// pieces is how n things are cut, by a model of its own: they are dealt out one by
// one to the least number of pieces that hold them.
func pieces(n int) []int {
	for k := 1; ; k++ {
		if 8*k < n {
			continue
		}
		l := make([]int, k)
		for i := range n {
			l[i%k]++
		}
		return l
	}
}

// P18.1: of each n that is cut.
func TestCutAll(t *testing.T) {
	for n := 1; n <= 64; n++ {
		if got := build.Cut(n); !slices.Equal(got, pieces(n)) {
			t.Errorf("%d: %v, not %v", n, got, pieces(n))
		}
	}
}

// P18.1: what isn't cut, and has no nodes.
func TestCutNone(t *testing.T) {
	for _, n := range []int{0, -1, -7, -8, -9, -64, 65, 66, 72, 73, 512, math.MaxInt32, math.MinInt64, math.MinInt64 + 8, math.MaxInt64 - 7, math.MaxInt64} {
		if got := build.Cut(n); len(got) != 0 {
			t.Errorf("%d: %v", n, got)
		}
		if got := build.Count(n); got != 0 {
			t.Errorf("%d: %d nodes", n, got)
		}
	}
}

// P18.1: how many nodes there are: one leaf, or the leaves and the root.
func TestCount(t *testing.T) {
	want := []int{1, 3, 4, 5, 6, 7, 8, 9}
	for n := 1; n <= 64; n++ {
		if got := build.Count(n); got != want[(n-1)/8] {
			t.Errorf("%d: %d, not %d", n, got, want[(n-1)/8])
		}
	}
}

// sorts are ways in which entries may have handles.
var sorts = []string{"mixed", "areas", "gaps", "one gap"}

// some answers n entries from lo on, of lengths that differ; the last one ends at
// end, if that isn't 0.
func some(n int, lo, end int64, sort string) []walk.Entry {
	var l []walk.Entry
	for i := range n {
		e := walk.Entry{Lo: lo, End: lo + int64(1+(i*i+3*n)%6)*page, H: int64(700000 + i)}
		if i == n-1 && end != 0 {
			e.End = end
		}
		if sort == "gaps" || sort == "mixed" && i%2 == 0 || sort == "one gap" && i == n/2 {
			e.H = 0
		}
		lo = e.End
		l = append(l, e)
	}
	return l
}

// places are where entries may begin and end; an end of 0 is any.
var places = [][2]int64{{api.Least, api.Most}, {api.Least, 0}, {100 * page, api.Most}, {33 * page, 0}}

// placed is what the entries' tree is, by a model of its own: as all that is cut is
// cut into at most eight leaves, it is one leaf, or leaves and a root.
func placed(l []walk.Entry, handles []int64) []build.Placed {
	var out []build.Placed
	root := slot.Node{Inner: true, Lo: l[0].Lo}
	from := 0
	for i, size := range pieces(len(l)) {
		n := slot.Node{Lo: l[from].Lo}
		var most int64
		for _, e := range l[from : from+size] {
			var gap int64
			if e.H == 0 {
				gap = e.End - e.Lo
			}
			most = max(most, gap)
			n.Ends, n.Slots, n.Gaps = append(n.Ends, e.End), append(n.Slots, e.H), append(n.Gaps, gap)
		}
		from += size
		out = append(out, build.Placed{H: handles[i], Node: n})
		root.Ends, root.Slots, root.Gaps = append(root.Ends, l[from-1].End), append(root.Slots, handles[i]), append(root.Gaps, most)
	}
	if len(out) > 1 {
		out = append(out, build.Placed{H: handles[len(out)], Node: root})
	}
	return out
}

// same tells whether two nodes are the same.
func same(a, b build.Placed) bool {
	m, n := a.Node, b.Node
	return a.H == b.H && m.Inner == n.Inner && m.Lo == n.Lo &&
		slices.Equal(m.Ends, n.Ends) && slices.Equal(m.Slots, n.Slots) && slices.Equal(m.Gaps, n.Gaps)
}

// P18.2: the nodes of trees of each number of entries.
func TestTree(t *testing.T) {
	for n := 1; n <= 64; n++ {
		for _, place := range places {
			for _, sort := range sorts {
				l := some(n, place[0], place[1], sort)
				handles := ints(int64(65537+n), build.Count(n))
				if n%2 == 0 {
					slices.Reverse(handles)
				}
				got, want := build.Tree(l, handles), placed(l, handles)
				if !slices.EqualFunc(got, want, same) {
					t.Fatalf("%d %s from %d: %v, not %v", n, sort, place[0], got, want)
				}
				for _, p := range got {
					if !slot.Formed(p.Node) {
						t.Fatalf("%d %s from %d: %v isn't formed", n, sort, place[0], p)
					}
				}
			}
		}
	}
}

// P18.2: by hand, ten entries: two leaves of five, and the root.
func TestTreeByHand(t *testing.T) {
	l := []walk.Entry{
		at(16*page, 20*page, 0), at(20*page, 21*page, 70), at(21*page, 22*page, 71), at(22*page, 27*page, 0), at(27*page, 28*page, 72),
		at(28*page, 30*page, 73), at(30*page, 40*page, 74), at(40*page, 41*page, 0), at(41*page, 44*page, 75), at(44*page, 47*page, 0),
	}
	want := []build.Placed{
		{H: 5, Node: slot.Node{
			Lo:    16 * page,
			Ends:  []int64{20 * page, 21 * page, 22 * page, 27 * page, 28 * page},
			Slots: []int64{0, 70, 71, 0, 72},
			Gaps:  []int64{4 * page, 0, 0, 5 * page, 0},
		}},
		{H: 3, Node: slot.Node{
			Lo:    28 * page,
			Ends:  []int64{30 * page, 40 * page, 41 * page, 44 * page, 47 * page},
			Slots: []int64{73, 74, 0, 75, 0},
			Gaps:  []int64{0, 0, page, 0, 3 * page},
		}},
		{H: 8, Node: slot.Node{
			Inner: true,
			Lo:    16 * page,
			Ends:  []int64{28 * page, 47 * page},
			Slots: []int64{5, 3},
			Gaps:  []int64{5 * page, 3 * page},
		}},
	}
	if got := build.Tree(l, []int64{5, 3, 8}); !slices.EqualFunc(got, want, same) {
		t.Errorf("%v, not %v", got, want)
	}
}

// P18.2: the chapter's example: 49 entries: 7 leaves of 7, and a root.
func TestTreeOf49(t *testing.T) {
	l := apart(24)
	e := build.Entries(l, ints(1000, 24))
	if len(e) != 49 || build.Count(49) != 8 {
		t.Fatalf("%d entries, %d nodes", len(e), build.Count(49))
	}
	got := build.Tree(e, ints(1, 8))
	if len(got) != 8 {
		t.Fatal(got)
	}
	for i, p := range got[:7] {
		if p.H != int64(i+1) || p.Node.Inner || !slices.Equal(p.Node.Ends, ends(e[7*i:7*i+7])) {
			t.Errorf("leaf %d: %v", i, p)
		}
	}
	root := got[7]
	if root.H != 8 || !root.Node.Inner || !slices.Equal(root.Node.Slots, ints(1, 7)) || root.Node.Ends[6] != api.Most || root.Node.Gaps[6] != 448*page {
		t.Errorf("root: %v", root)
	}
}

// ends answers where the entries end.
func ends(l []walk.Entry) []int64 {
	var out []int64
	for _, e := range l {
		out = append(out, e.End)
	}
	return out
}

// P18.2: no tree of entries that aren't from 1 to 64, however many handles come.
func TestTreeOfNoEntries(t *testing.T) {
	for _, n := range []int{0, 65, 66, 72, 73, 128, 400} {
		var l []walk.Entry
		for i := range int64(n) {
			l = append(l, walk.Entry{Lo: (16 + i) * page, End: (17 + i) * page, H: i % 2})
		}
		for _, count := range []int{0, 1, 3, 8, 9, 10, 11, 12, 13, 60} {
			if got := build.Tree(l, ints(1, count)); len(got) != 0 {
				t.Errorf("%d entries, %d handles: %v", n, count, got)
			}
		}
	}
}

// P18.2: no tree without a handle above 0 for each node.
func TestTreeWithoutHandles(t *testing.T) {
	for n := 1; n <= 64; n++ {
		l := some(n, api.Least, 0, "mixed")
		right := build.Count(n)
		for count := range 70 {
			if got := build.Tree(l, ints(1, count)); len(got) != 0 && count != right {
				t.Errorf("%d entries, %d handles: %v", n, count, got)
			}
		}
		for i := range right {
			for _, h := range []int64{0, -1, math.MinInt64} {
				handles := ints(1, right)
				handles[i] = h
				if got := build.Tree(l, handles); len(got) != 0 {
					t.Errorf("%d entries, handle %d is %d: %v", n, i, h, got)
				}
			}
		}
	}
}

// spoiled are ways to make an entry what none may be. What meets it is moved with
// it, where that shows that one question doesn't hang on another.
var spoiled = []struct {
	name string
	do   func(l []walk.Entry, i int)
}{
	{"handle -1", func(l []walk.Entry, i int) { l[i].H = -1 }},
	{"least handle", func(l []walk.Entry, i int) { l[i].H = math.MinInt64 }},
	{"begins a page later", func(l []walk.Entry, i int) {
		if i > 0 {
			l[i].Lo += page
			return
		}
		l[i].Lo = l[i].End
	}},
	{"begins a page ahead", func(l []walk.Entry, i int) {
		if i > 0 {
			l[i].Lo -= page
			return
		}
		l[i].Lo = api.Least - page
	}},
	{"ends a page later", func(l []walk.Entry, i int) {
		if i < len(l)-1 {
			l[i].End += page
			return
		}
		l[i].End = api.Most + page
	}},
	{"ends a page ahead", func(l []walk.Entry, i int) {
		if i < len(l)-1 {
			l[i].End -= page
			return
		}
		l[i].End = l[i].Lo
	}},
	{"ends in no whole page", func(l []walk.Entry, i int) {
		l[i].End--
		if i < len(l)-1 {
			l[i+1].Lo--
		}
	}},
	{"begins in no whole page", func(l []walk.Entry, i int) {
		l[i].Lo++
		if i > 0 {
			l[i-1].End++
		}
	}},
	{"of no length", func(l []walk.Entry, i int) {
		l[i].End = l[i].Lo
		if i < len(l)-1 {
			l[i+1].Lo = l[i].Lo
		}
	}},
	{"falls", func(l []walk.Entry, i int) {
		l[i].End = l[i].Lo - page
		if i < len(l)-1 {
			l[i+1].Lo = l[i].End
		}
	}},
	{"all ahead of the space", func(l []walk.Entry, i int) {
		by := l[i].End - api.Least + page
		for i := range l {
			l[i].Lo -= by
			l[i].End -= by
		}
	}},
	{"beyond the space", func(l []walk.Entry, i int) {
		by := api.Most - l[i].End + page
		for i := range l {
			l[i].Lo += by
			l[i].End += by
		}
	}},
}

// P18.2: no tree if an entry isn't right, wherever it stands.
func TestTreeOfWrongEntries(t *testing.T) {
	for _, n := range []int{1, 2, 3, 8, 9, 17, 64} {
		for _, sort := range sorts {
			good := some(n, 100*page, 0, sort)
			handles := ints(1, build.Count(n))
			if len(build.Tree(good, handles)) != len(handles) {
				t.Fatalf("%d %s: %v is right", n, sort, good)
			}
			for i := range n {
				for _, s := range spoiled {
					l := slices.Clone(good)
					s.do(l, i)
					if got := build.Tree(l, handles); len(got) != 0 {
						t.Errorf("%d %s, entry %d %s: %v", n, sort, i, s.name, got)
					}
				}
			}
		}
	}
}

// P18.2: no tree, and no panic, of numbers that are far off.
func TestTreeOfFarNumbers(t *testing.T) {
	for _, v := range far {
		for _, l := range [][]walk.Entry{
			{at(v, api.Most, 0)},
			{at(api.Least, v, 0)},
			{at(v, v, 0)},
			{at(v, v+page, 0)},
			{at(v-v%page, api.Most, 0)},
			{at(api.Least, v-v%page, 0)},
			{at(v-v%page, v-v%page+page, 0)},
			{at(api.Least, 20*page, 0), at(20*page, v, 0)},
			{at(api.Least, 20*page, 0), at(v, 30*page, 0)},
			{at(api.Least, v, 0), at(v, api.Most, 0)},
			{at(api.Least, v-v%page, 5), at(v-v%page, api.Most, 5)},
			{at(v, 20*page, 0), at(20*page, 30*page, 0)},
		} {
			if got := build.Tree(l, []int64{1}); len(got) != 0 {
				t.Errorf("%v: %v", l, got)
			}
		}
	}
}

// P18.2: the edges of what is right.
func TestTreeAtTheEdges(t *testing.T) {
	for _, l := range [][]walk.Entry{
		{at(api.Least, api.Most, 0)},
		{at(api.Least, api.Least+page, 1)},
		{at(api.Most-page, api.Most, math.MaxInt64)},
		{at(api.Least, api.Least+page, 4), at(api.Least+page, api.Least+2*page, 4)},
		{at(api.Most-2*page, api.Most-page, 0), at(api.Most-page, api.Most, 0)},
	} {
		for _, h := range []int64{1, math.MaxInt64} {
			if got := build.Tree(l, []int64{h}); !slices.EqualFunc(got, placed(l, []int64{h}), same) {
				t.Errorf("%v, %d: %v", l, h, got)
			}
		}
	}
	l := some(9, api.Least, 0, "mixed")
	if got := build.Tree(l, []int64{4, 4, 4}); !slices.EqualFunc(got, placed(l, []int64{4, 4, 4}), same) {
		t.Errorf("one handle for all: %v", got)
	}
}

// R5: what is handed in stays as it is, its spare room too.
func TestHandedIn(t *testing.T) {
	for _, l := range lists() {
		areas := roomy(l, pages(1, 2, 9))
		handles := roomy(ints(7, len(l)), -3)
		build.Entries(areas, handles)
		if !stays(areas, l, pages(1, 2, 9)) || !stays(handles, ints(7, len(l)), -3) {
			t.Error("Entries changed what was handed in")
		}
	}
	for n := 1; n <= 64; n++ {
		e := some(n, api.Least, api.Most, "mixed")
		entries := roomy(e, walk.Entry{Lo: 1, End: 2, H: 3})
		handles := roomy(ints(7, build.Count(n)), -3)
		build.Tree(entries, handles)
		if !stays(entries, e, walk.Entry{Lo: 1, End: 2, H: 3}) || !stays(handles, ints(7, build.Count(n)), -3) {
			t.Errorf("Tree of %d changed what was handed in", n)
		}
	}
}

// stays tells whether l is what it was, and its spare room is filled with v.
func stays[T comparable](l, was []T, v T) bool {
	spare := l[len(l) : len(was)+3]
	return slices.Equal(l, was) && slices.Equal(spare, []T{v, v, v})
}

// filled puts v wherever l has room.
func filled[T any](l []T, v T) {
	l = l[:cap(l)]
	for i := range l {
		l[i] = v
	}
}

// R5: what is answered is new memory each time, and no two lists of an answer share
// any.
func TestAnswersAreNew(t *testing.T) {
	for n := 1; n <= 64; n++ {
		filled(build.Cut(n), 99)
		if got := build.Cut(n); !slices.Equal(got, pieces(n)) {
			t.Errorf("Cut(%d): %v", n, got)
		}
		e, handles := some(n, api.Least, api.Most, "mixed"), ints(7, build.Count(n))
		got, want := build.Tree(e, handles), placed(e, handles)
		for i := range got {
			m := got[i].Node
			for _, l := range [][]int64{m.Ends, m.Slots, m.Gaps} {
				was := slices.Clone(l)
				filled(l, -5)
				copy(l, was)
			}
			if !slices.EqualFunc(got, want, same) || !slices.Equal(e, some(n, api.Least, api.Most, "mixed")) || !slices.Equal(handles, ints(7, build.Count(n))) {
				t.Fatalf("Tree of %d, node %d: its lists share memory", n, i)
			}
			filled(m.Ends, -5)
			filled(m.Slots, -6)
			filled(m.Gaps, -7)
			got[i] = want[i]
			if !slices.EqualFunc(got, want, same) || !slices.Equal(e, some(n, api.Least, api.Most, "mixed")) || !slices.Equal(handles, ints(7, build.Count(n))) {
				t.Fatalf("Tree of %d, node %d: it shares memory", n, i)
			}
		}
		if !slices.EqualFunc(build.Tree(e, handles), want, same) {
			t.Fatalf("Tree of %d is another one now", n)
		}
	}
	l := apart(5)
	filled(build.Entries(l, ints(7, 5)), walk.Entry{})
	if !slices.Equal(build.Entries(l, ints(7, 5)), entriesOf(apart(5), ints(7, 5))) {
		t.Error("Entries shares memory")
	}
}

// slots is how many slots the ground has.
const slots = 60

// ground is a memory with an arena in it, all of whose slots are live.
type ground struct {
	m       *cell.Memory
	a       *arena.Arena
	handles []int64
}

func newGround() *ground {
	g := &ground{m: cell.New(5 + slots*api.Width), a: arena.New(5, slots)}
	for i := range slots {
		g.handles = append(g.handles, g.a.Born(i+1))
	}
	return g
}

// lay puts words into h's slot.
func (g *ground) lay(h int64, w []int64) {
	for i, v := range w {
		g.m.Store(g.a.Cell(h, i), v)
	}
}

// grow lays the entries' tree into the ground's last slots, and answers its nodes'
// handles, as they were handed in.
func (g *ground) grow(l []walk.Entry) []int64 {
	handles := g.handles[slots-build.Count(len(l)):]
	for _, p := range build.Tree(l, handles) {
		g.lay(p.H, slot.Pack(p.Node))
	}
	return handles
}

// run runs a task till it is over.
func (g *ground) run(t *testing.T, task trail.Task) {
	t.Helper()
	x := trail.New(g.m)
	for i := 0; i < 3000 && !x.Over(); i++ {
		x.Step(i, task)
	}
	if !x.Over() || g.a.Stale() {
		t.Fatal("the task isn't over, or has read what it may not")
	}
}

// P18.3: what is built is gone through as it was, and each entry is found at the
// addresses that it has.
func TestGoneThrough(t *testing.T) {
	for n := 1; n <= 64; n++ {
		for _, place := range places {
			for _, sort := range sorts {
				l := some(n, place[0], place[1], sort)
				g := newGround()
				handles := g.grow(l)
				g.check(t, l, handles)
			}
		}
	}
}

// check goes through a tree, and asks for the addresses at its entries' edges.
func (g *ground) check(t *testing.T, l []walk.Entry, handles []int64) {
	t.Helper()
	root := handles[len(handles)-1]
	nodes := append([]int64{root}, handles[:len(handles)-1]...)
	g.run(t, func(x *trail.Trail) {
		got, seen, ok := walk.All(x, g.a, root)
		if !x.Dry() && (!ok || !slices.Equal(got, l) || !slices.Equal(seen, nodes)) {
			t.Fatalf("%d entries: %v %v %v", len(l), got, seen, ok)
		}
	})
	for _, e := range l {
		for _, addr := range []int64{e.Lo, e.Lo + 1, e.Lo + (e.End-e.Lo)/2, e.End - 1} {
			g.run(t, func(x *trail.Trail) {
				h, ok := walk.Find(x, g.a, root, addr)
				if !x.Dry() && (h != e.H || !ok) {
					t.Fatalf("%d entries, %d: %d %v, not %d", len(l), addr, h, ok, e.H)
				}
			})
		}
	}
}

// P18.3: a list's areas are found at their addresses, page by page, and nothing is
// where it has none.
func TestAreasFound(t *testing.T) {
	for _, l := range lists() {
		g := newGround()
		if len(l) > api.MaxAreas {
			continue
		}
		handles := g.handles[:len(l)]
		for i, a := range l {
			g.lay(handles[i], slot.PackArea(a, false))
		}
		tree := g.grow(build.Entries(l, handles))
		for addr := int64(api.Least); addr < api.Most; addr += 5*page - 1 {
			g.ask(t, l, tree[len(tree)-1], addr)
		}
		for _, a := range l {
			for _, addr := range []int64{a.Start - 1, a.Start, a.End - 1, a.End} {
				if addr >= api.Least && addr < api.Most {
					g.ask(t, l, tree[len(tree)-1], addr)
				}
			}
		}
	}
}

// ask finds an address in the tree, and holds it against the list.
func (g *ground) ask(t *testing.T, l []api.Area, root, addr int64) {
	t.Helper()
	want, there := list.Find(l, addr)
	g.run(t, func(x *trail.Trail) {
		h, ok := walk.Find(x, g.a, root, addr)
		if x.Dry() {
			return
		}
		if !ok || there != (h > 0) {
			t.Fatalf("%d areas, %d: %d %v", len(l), addr, h, ok)
		}
		if !there {
			return
		}
		if got, _, ok := seek.Area(x, g.a, h); !x.Dry() && (got != want || !ok) {
			t.Fatalf("%d areas, %d: %v, not %v", len(l), addr, got, want)
		}
	})
}
