package list_test

import (
	"maps"
	"math"
	"slices"
	"testing"

	"samara/api"
	"samara/area"
	"samara/list"
)

const page = api.Page

// pages answers an area from one page to ahead of another one, of no backing.
func pages(lo, hi int64, prot int) api.Area {
	return api.Area{Start: lo * page, End: hi * page, Prot: prot}
}

// backed answers such an area that may be read, of the backing 1, from a page of
// it on.
func backed(lo, hi, off int64) api.Area {
	a := pages(lo, hi, 1)
	a.Back, a.Off = 1, off*page
	return a
}

// shared answers the area as one that is shared.
func shared(a api.Area) api.Area {
	a.Shared = true
	return a
}

// table is what the pages have, by their numbers: the plainest way to say what a
// list is, against which all answers are held.
type table map[int64]api.Attr

// tableOf tells a list's pages. It doesn't ask the program how.
func tableOf(l []api.Area) table {
	x := table{}
	for _, a := range l {
		for p := a.Start / page; p < a.End/page; p++ {
			at := api.Attr{Prot: a.Prot, Shared: a.Shared, Back: a.Back}
			if a.Back != 0 {
				at.Off = a.Off + p*page - a.Start
			}
			x[p] = at
		}
	}
	return x
}

// follows tells whether a page that has y can be in one area with the page ahead
// of it, that has x.
func follows(x, y api.Attr) bool {
	if x.Back != 0 {
		x.Off += page
	}
	return x == y
}

// list answers the one right list whose pages are the table's.
func (x table) list() []api.Area {
	var l []api.Area
	for _, p := range slices.Sorted(maps.Keys(x)) {
		at := x[p]
		before, there := x[p-1]
		if there && follows(before, at) {
			l[len(l)-1].End += page
			continue
		}
		l = append(l, api.Area{
			Start: p * page, End: p*page + page,
			Prot: at.Prot, Shared: at.Shared, Back: at.Back, Off: at.Off,
		})
	}
	return l
}

// touches tells whether a range has a byte of the page p.
func touches(p, lo, hi int64) bool {
	return lo < hi && lo < p*page+page && hi > p*page
}

// kinds are what the small lists' pages have: nothing, or one of some attributes.
// Those of a backing go on from page to page, or don't.
func kinds(base int64) []func(p int64) (api.Attr, bool) {
	return []func(p int64) (api.Attr, bool){
		func(p int64) (api.Attr, bool) { return api.Attr{}, false },
		func(p int64) (api.Attr, bool) { return api.Attr{Prot: 1}, true },
		func(p int64) (api.Attr, bool) { return api.Attr{Prot: 3}, true },
		func(p int64) (api.Attr, bool) {
			return api.Attr{Prot: 1, Back: 1, Off: (p - base) * page}, true
		},
		func(p int64) (api.Attr, bool) {
			return api.Attr{Prot: 1, Back: 1, Off: api.MaxOff - page}, true
		},
	}
}

// small are all lists of n pages from base on.
func small(base int64, n int) [][]api.Area {
	all := []table{{}}
	for i := range n {
		var more []table
		p := base + int64(i)
		for _, kind := range kinds(base) {
			at, ok := kind(p)
			for _, x := range all {
				y := table{}
				for q, was := range x {
					y[q] = was
				}
				if ok {
					y[p] = at
				}
				more = append(more, y)
			}
		}
		all = more
	}
	var lists [][]api.Area
	for _, x := range all {
		lists = append(lists, x.list())
	}
	return lists
}

// edges are addresses around n pages from base on, and far from them.
func edges(base int64, n int) []int64 {
	l := []int64{math.MinInt64, -page, 0, math.MaxInt64 - page + 1, math.MaxInt64}
	for p := base; p <= base+int64(n); p++ {
		l = append(l, p*page-1, p*page, p*page+1)
	}
	return l
}

// ranges are all pairs of edges, those that aren't ranges too.
func ranges(base int64, n int) [][2]int64 {
	var l [][2]int64
	for _, lo := range edges(base, n) {
		for _, hi := range edges(base, n) {
			l = append(l, [2]int64{lo, hi})
		}
	}
	return l
}

// guarded answers a copy of a list with spare room, and a function that tells
// whether list and room are still as they were.
func guarded(l []api.Area) ([]api.Area, func() bool) {
	mark := api.Area{Start: -7, End: -7, Prot: -7}
	whole := slices.Clone(l)
	for range 4 {
		whole = append(whole, mark)
	}
	was := slices.Clone(whole)
	return whole[:len(l)], func() bool { return slices.Equal(whole, was) }
}

// held holds a list that was answered against the table of what it must be.
func held(t *testing.T, got []api.Area, want table, what ...any) {
	t.Helper()
	if right := want.list(); !slices.Equal(got, right) {
		t.Fatalf("%v: %v, not %v", what, got, right)
	}
	if !list.Right(got) {
		t.Fatalf("%v: %v isn't right", what, got)
	}
}

// places are where the small lists lie: at both ends of the space, and between.
var places = []struct {
	base int64
	n    int
}{{16, 3}, {100, 4}, {509, 3}}

// eachSmall goes through all small lists, each with its place.
func eachSmall(f func(l []api.Area, base int64, n int)) {
	for _, at := range places {
		for _, l := range small(at.base, at.n) {
			f(l, at.base, at.n)
		}
	}
}

// wrong are lists that aren't right, by one thing each.
func wrong() [][]api.Area {
	return [][]api.Area{
		{{}},
		{pages(16, 16, 1)},
		{pages(15, 17, 1)},
		{pages(511, 513, 1)},
		{pages(16, 18, 8)},
		{pages(16, 18, -1)},
		{pages(16, 18, 1), {}},
		{{}, pages(16, 18, 1)},
		{pages(16, 18, 1), pages(20, 22, 8)},
		{pages(16, 18, 1), pages(18, 20, 1)},
		{pages(16, 18, 1), pages(20, 22, 3), pages(22, 24, 3)},
		{pages(16, 19, 1), pages(18, 20, 3)},
		{pages(16, 20, 1), pages(17, 18, 3)},
		{pages(16, 18, 1), pages(16, 18, 1)},
		{pages(18, 20, 1), pages(16, 18, 3)},
		{pages(30, 32, 1), pages(20, 22, 1), pages(25, 27, 1)},
		{backed(16, 18, 0), backed(18, 20, 2)},
		{shared(pages(16, 18, 1)), shared(pages(18, 20, 1))},
		{backed(16, 18, api.MaxOff/page-1)},
		{{Start: 16*page + 1, End: 18 * page, Prot: 1}},
		{{Start: math.MinInt64, End: math.MaxInt64, Prot: 1}},
		{pages(16, 18, 1), {Start: math.MinInt64, End: math.MinInt64}},
	}
}

func TestRight(t *testing.T) {
	right := [][]api.Area{
		nil, {},
		{pages(16, 18, 1)}, {pages(16, 512, 7)},
		{pages(16, 18, 1), pages(18, 20, 3)},
		{pages(16, 18, 1), pages(19, 20, 1)},
		{pages(16, 18, 1), shared(pages(18, 20, 1))},
		{backed(16, 18, 0), backed(18, 20, 3)},
		{backed(16, 18, 0), backed(18, 20, 0)},
		{backed(16, 18, 0), pages(18, 20, 1)},
		{pages(16, 18, 1), backed(18, 20, 0), pages(20, 22, 1)},
		{pages(16, 17, 1), pages(511, 512, 1)},
	}
	for _, l := range right {
		if !list.Right(l) {
			t.Errorf("%v isn't right", l)
		}
	}
	for _, l := range wrong() {
		if list.Right(l) {
			t.Errorf("%v is right", l)
		}
	}
	eachSmall(func(l []api.Area, base int64, n int) {
		if !list.Right(l) {
			t.Fatalf("%v isn't right", l)
		}
	})
}

// A list of as many areas as there are pages is one, too.
func TestRightOfManyAreas(t *testing.T) {
	var l []api.Area
	for p := int64(16); p < 512; p++ {
		l = append(l, pages(p, p+1, int(1+p%2)))
	}
	if !list.Right(l) || list.Pages(l) != 496 {
		t.Error(list.Right(l), list.Pages(l))
	}
	if got := list.Set(l, api.Least, api.Most, 7); !list.Same(got, []api.Area{pages(16, 512, 7)}) {
		t.Error(got)
	}
	l[300].Prot = l[299].Prot
	if list.Right(l) || list.Pages(l) != 0 {
		t.Error("one goes on in the next")
	}
}

func TestFind(t *testing.T) {
	eachSmall(func(l []api.Area, base int64, n int) {
		for _, addr := range edges(base, n) {
			var want api.Area
			for _, a := range l {
				if a.Start <= addr && addr < a.End {
					want = a
				}
			}
			got, ok := list.Find(l, addr)
			if got != want || ok != (want != api.Area{}) {
				t.Fatalf("%v at %d: %v, %t, not %v", l, addr, got, ok, want)
			}
		}
	})
}

func TestWithin(t *testing.T) {
	eachSmall(func(l []api.Area, base int64, n int) {
		for _, r := range ranges(base, n) {
			want := table{}
			for p, at := range tableOf(l) {
				if touches(p, r[0], r[1]) {
					want[p] = at
				}
			}
			held(t, list.Within(l, r[0], r[1]), want, l, r)
		}
	})
}

func TestCovered(t *testing.T) {
	eachSmall(func(l []api.Area, base int64, n int) {
		has := tableOf(l)
		for _, r := range ranges(base, n) {
			touched, missing := 0, r[0] < (base-1)*page || r[1] > (base+int64(n)+1)*page
			for p := base - 1; p <= base+int64(n); p++ {
				_, ok := has[p]
				if touches(p, r[0], r[1]) {
					touched++
					missing = missing || !ok
				}
			}
			want := touched > 0 && !missing
			if got := list.Covered(l, r[0], r[1]); got != want {
				t.Fatalf("%v, %v: %t", l, r, got)
			}
		}
	})
}

func TestPages(t *testing.T) {
	eachSmall(func(l []api.Area, base int64, n int) {
		if got := list.Pages(l); got != int64(len(tableOf(l))) {
			t.Fatalf("%v: %d", l, got)
		}
	})
	if got := list.Pages([]api.Area{pages(16, 512, 0)}); got != 496 {
		t.Error(got)
	}
}

func TestSame(t *testing.T) {
	lists := small(100, 3)
	lists = append(lists, []api.Area{shared(pages(100, 101, 1))}, nil)
	for i, a := range lists {
		for j, b := range lists {
			want := i == j || len(a) == 0 && len(b) == 0
			if got := list.Same(slices.Clone(a), b); got != want {
				t.Fatalf("%v, %v: %t", a, b, got)
			}
		}
	}
	if !list.Same(nil, []api.Area{}) || !list.Same(nil, nil) {
		t.Error("none and none are the same")
	}
}

func TestCut(t *testing.T) {
	eachSmall(func(l []api.Area, base int64, n int) {
		for _, r := range ranges(base, n) {
			want := tableOf(l)
			for p := range tableOf(l) {
				if touches(p, r[0], r[1]) {
					delete(want, p)
				}
			}
			held(t, list.Cut(l, r[0], r[1]), want, l, r)
		}
	})
}

// comers are areas that are put into small lists: all their kinds, at all places.
func comers(base int64, n int) []api.Area {
	var l []api.Area
	for lo := base; lo < base+int64(n); lo++ {
		for hi := lo + 1; hi <= base+int64(n); hi++ {
			l = append(l, pages(lo, hi, 1), pages(lo, hi, 3), shared(pages(lo, hi, 1)),
				backed(lo, hi, lo-base), backed(lo, hi, lo-base+1), backed(lo, hi, api.MaxOff/page-(hi-lo)))
		}
	}
	return l
}

func TestPut(t *testing.T) {
	eachSmall(func(l []api.Area, base int64, n int) {
		for _, a := range comers(base, n) {
			want := tableOf(l)
			for p, at := range tableOf([]api.Area{a}) {
				want[p] = at
			}
			held(t, list.Put(l, a), want, l, a)
		}
	})
}

// What is put between two that it belongs to makes one of all three.
func TestPutJoinsBothSides(t *testing.T) {
	l := []api.Area{pages(16, 18, 1), pages(20, 22, 1)}
	if got := list.Put(l, pages(18, 20, 1)); !list.Same(got, []api.Area{pages(16, 22, 1)}) {
		t.Error(got)
	}
	l = []api.Area{backed(16, 18, 5), backed(20, 22, 9)}
	if got := list.Put(l, backed(18, 20, 7)); !list.Same(got, []api.Area{backed(16, 22, 5)}) {
		t.Error(got)
	}
	if got := list.Put(l, backed(18, 20, 8)); len(got) != 3 {
		t.Error(got)
	}
	if got := list.Put(nil, pages(16, 512, 0)); !list.Same(got, []api.Area{pages(16, 512, 0)}) {
		t.Error(got)
	}
}

func TestPutOfWhatIsNoArea(t *testing.T) {
	l := []api.Area{pages(16, 18, 1)}
	for _, x := range wrong() {
		for _, a := range x {
			if got := list.Put(l, a); !area.Formed(a) && len(got) != 0 {
				t.Errorf("%v: %v", a, got)
			}
		}
	}
}

func TestSet(t *testing.T) {
	eachSmall(func(l []api.Area, base int64, n int) {
		for _, r := range ranges(base, n) {
			for _, prot := range []int{1, 3} {
				want := tableOf(l)
				for p, at := range tableOf(l) {
					if touches(p, r[0], r[1]) {
						at.Prot = prot
						want[p] = at
					}
				}
				held(t, list.Set(l, r[0], r[1], prot), want, l, r, prot)
			}
		}
	})
}

func TestSetOfAllProts(t *testing.T) {
	l := []api.Area{pages(16, 20, 1)}
	for prot := range 8 {
		got := list.Set(l, 17*page, 18*page, prot)
		if a, ok := list.Find(got, 17*page); !ok || a.Prot != prot {
			t.Errorf("%d: %v", prot, got)
		}
	}
	for _, prot := range []int{-1, 8, 9, 15, math.MaxInt, math.MinInt, 1<<32 | 1} {
		for _, r := range [][2]int64{{17 * page, 18 * page}, {30 * page, 31 * page}, {5, 5}} {
			if got := list.Set(l, r[0], r[1], prot); len(got) != 0 {
				t.Errorf("%d, %v: %v", prot, r, got)
			}
		}
	}
}

// A range that is none leaves all as it is; and in one the byte alone makes its
// page belong to it.
func TestRangesOfNoBytesAndOfOne(t *testing.T) {
	l := []api.Area{pages(16, 20, 1)}
	for _, r := range [][2]int64{
		{17*page + 5, 17*page + 5}, {18 * page, 17 * page}, {18*page - 1, 17*page + 1},
		{17 * page, 17 * page}, {math.MaxInt64, math.MinInt64},
	} {
		if got := list.Within(l, r[0], r[1]); len(got) != 0 {
			t.Error(r, got)
		}
		if list.Covered(l, r[0], r[1]) {
			t.Error(r, "covered")
		}
		if got := list.Cut(l, r[0], r[1]); !list.Same(got, l) {
			t.Error(r, got)
		}
		if got := list.Set(l, r[0], r[1], 7); !list.Same(got, l) {
			t.Error(r, got)
		}
	}
	lo, hi := int64(17*page+5), int64(17*page+6)
	if got := list.Within(l, lo, hi); !list.Same(got, []api.Area{pages(17, 18, 1)}) {
		t.Error(got)
	}
	if got := list.Cut(l, lo, hi); !list.Same(got, []api.Area{pages(16, 17, 1), pages(18, 20, 1)}) {
		t.Error(got)
	}
	if got := list.Set(l, lo, hi, 7); len(got) != 3 || got[1] != pages(17, 18, 7) {
		t.Error(got)
	}
}

func TestListsThatAreNotRight(t *testing.T) {
	lo, hi := int64(api.Least), int64(api.Most)
	for _, l := range wrong() {
		if a, ok := list.Find(l, 16*page); ok || a != (api.Area{}) {
			t.Errorf("Find in %v: %v, %t", l, a, ok)
		}
		lists := [][]api.Area{
			list.Within(l, lo, hi), list.Within(l, math.MinInt64, math.MaxInt64), list.Cut(l, lo, hi),
			list.Cut(l, 300*page, 301*page), list.Cut(l, 0, 0), list.Put(l, pages(300, 301, 1)),
			list.Put(l, pages(16, 512, 1)), list.Put(l, api.Area{}), list.Set(l, lo, hi, 7),
			list.Set(l, 0, 0, 7), list.Set(l, lo, hi, 8),
		}
		for i, got := range lists {
			if len(got) != 0 {
				t.Errorf("%d of %v: %v", i, l, got)
			}
		}
		if list.Covered(l, 16*page, 17*page) || list.Pages(l) != 0 {
			t.Errorf("%v has pages", l)
		}
		if list.Same(l, l) || list.Same(l, nil) || list.Same(nil, l) {
			t.Errorf("%v is the same", l)
		}
	}
}

// What follows: each page's attributes are those that were there, or came, however
// many calls come one behind the other.
func TestAttributesAreThoseThatWereThereOrCame(t *testing.T) {
	var l []api.Area
	want := table{}
	n := int64(1)
	next := func(below int64) int64 {
		n = n * 48271 % (1<<31 - 1)
		return n % below
	}
	for range 3000 {
		lo := 16 + next(40)
		hi := lo + 1 + next(6)
		switch next(4) {
		case 0:
			l = list.Cut(l, lo*page+next(page), hi*page)
			for p := lo; p < hi; p++ {
				delete(want, p)
			}
		case 1:
			prot := int(next(8))
			l = list.Set(l, lo*page, hi*page-next(page), prot)
			for p := lo; p < hi; p++ {
				if at, ok := want[p]; ok {
					at.Prot = prot
					want[p] = at
				}
			}
		default:
			a := api.Area{Start: lo * page, End: hi * page, Prot: int(next(3)), Shared: next(4) == 0}
			if next(2) == 0 {
				a.Back, a.Off = 1, (lo+next(2))*page
			}
			l = list.Put(l, a)
			for p, at := range tableOf([]api.Area{a}) {
				want[p] = at
			}
		}
		held(t, l, want)
		for p := int64(15); p < 64; p++ {
			a, ok := list.Find(l, p*page)
			at, has := want[p]
			got, _ := area.Attr(a, p*page)
			if ok != has || got != at {
				t.Fatalf("page %d: %v, %t, not %v, %t", p, got, ok, at, has)
			}
		}
	}
}

// What is handed in is left as it is, its spare room too; what is answered is new.
func TestListsAreNewAndArgumentsStay(t *testing.T) {
	eachSmall(func(l []api.Area, base int64, n int) {
		in, same := guarded(l)
		for _, r := range [][2]int64{
			{math.MinInt64, math.MaxInt64}, {base * page, (base + 2) * page}, {0, 0},
			{(base + 1) * page, (base + 2) * page}, {base * page, (base + 1) * page},
		} {
			answers := [][]api.Area{
				list.Within(in, r[0], r[1]), list.Cut(in, r[0], r[1]), list.Set(in, r[0], r[1], 1),
				list.Put(in, pages(base+1, base+2, 1)), list.Put(in, pages(base+2, base+3, 3)),
			}
			list.Right(in)
			list.Find(in, base*page)
			list.Covered(in, r[0], r[1])
			list.Same(in, in)
			list.Pages(in)
			for _, got := range answers {
				got = got[:cap(got)]
				for i := range got {
					got[i] = api.Area{Start: 99}
				}
			}
			if !same() {
				t.Fatalf("%v, %v: changed", l, r)
			}
		}
	})
}

// Two answers to one question share nothing either.
func TestAnswersShareNothing(t *testing.T) {
	l := []api.Area{pages(16, 18, 1), pages(20, 22, 1)}
	asks := []func() []api.Area{
		func() []api.Area { return list.Within(l, api.Least, api.Most) },
		func() []api.Area { return list.Cut(l, 0, 0) },
		func() []api.Area { return list.Set(l, 0, 0, 1) },
		func() []api.Area { return list.Put(l, l[0]) },
	}
	for i, ask := range asks {
		a, b := ask(), ask()
		a[0].Prot = 7
		if !list.Same(b, l) {
			t.Error(i, b)
		}
	}
}

func TestExamples(t *testing.T) {
	l := list.Put([]api.Area{pages(18, 20, 1)}, pages(16, 18, 1))
	if !list.Same(l, []api.Area{pages(16, 20, 1)}) {
		t.Error(l)
	}
	l = list.Put([]api.Area{pages(16, 18, 1)}, pages(18, 20, 1))
	if !list.Same(l, []api.Area{pages(16, 20, 1)}) {
		t.Error(l)
	}
}
