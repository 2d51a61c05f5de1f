package mapping_test

import (
	"math"
	"slices"
	"testing"

	"samara/api"
	"samara/list"
	"samara/mapping"
)

const (
	page  = api.Page
	first = api.Least / page
	last  = api.Most / page
	space = api.Most - api.Least

	fixed = 1
	noRep = 2
	share = 4
	botUp = 8
)

// pages answers an area from one page to ahead of another one, of no backing.
func pages(lo, hi int64, prot int) api.Area {
	return api.Area{Start: lo * page, End: hi * page, Prot: prot}
}

// backed answers such an area of a backing, from a page of it on.
func backed(lo, hi int64, prot, back int, off int64) api.Area {
	a := pages(lo, hi, prot)
	a.Back, a.Off = back, off*page
	return a
}

// many answers n areas of three pages each, from page 20 on, with a page between.
func many(n int64) []api.Area {
	var l []api.Area
	for i := range n {
		l = append(l, pages(20+4*i, 23+4*i, 1))
	}
	return l
}

// table is what each page of the space has: the plainest way to say what a list
// is, against which all answers are held.
type table [last + 1]struct {
	has  bool
	attr api.Attr
}

// fill gives an area's pages what they have in it. It doesn't ask the program how.
func (x *table) fill(a api.Area) {
	for p := a.Start / page; p < a.End/page; p++ {
		at := api.Attr{Prot: a.Prot, Shared: a.Shared, Back: a.Back}
		if a.Back != 0 {
			at.Off = a.Off + p*page - a.Start
		}
		x[p].has, x[p].attr = true, at
	}
}

// clear takes pages out, from a page to ahead of another one.
func (x *table) clear(lo, hi int64) {
	for p := lo; p < hi; p++ {
		x[p].has, x[p].attr = false, api.Attr{}
	}
}

// tableOf tells a list's pages.
func tableOf(l []api.Area) *table {
	var x table
	for _, a := range l {
		x.fill(a)
	}
	return &x
}

// list answers the one right list whose pages are the table's.
func (x *table) list() []api.Area {
	var l []api.Area
	for p := int64(first); p < last; p++ {
		if !x[p].has {
			continue
		}
		at, next := x[p].attr, x[p-1].attr
		if next.Back != 0 {
			next.Off += page
		}
		if x[p-1].has && next == at {
			l[len(l)-1].End += page
			continue
		}
		l = append(l, api.Area{
			Start: p * page, End: p*page + page,
			Prot: at.Prot, Shared: at.Shared, Back: at.Back, Off: at.Off,
		})
	}
	return l
}

// free tells whether n pages from p on are in the space, and in no area.
func (x *table) free(p, n int64) bool {
	if p < first || p > last-n {
		return false
	}
	for q := p; q < p+n; q++ {
		if x[q].has {
			return false
		}
	}
	return true
}

// pagesOf answers how many pages n bytes touch, or what is wrong with them.
func pagesOf(n int64) (int64, api.Errno) {
	if n == 0 {
		return 0, api.ErrZero
	}
	for p := int64(1); n > 0 && p <= last-first; p++ {
		if n <= p*page {
			return p, api.OK
		}
	}
	return 0, api.ErrRange
}

// rangeOf answers a range's first page and how many it has, or what is wrong.
func rangeOf(addr, n int64) (int64, int64, api.Errno) {
	if addr&(page-1) != 0 {
		return 0, 0, api.ErrAlign
	}
	have, e := pagesOf(n)
	if e != api.OK {
		return 0, 0, e
	}
	if p := addr / page; p >= first && p <= last-have {
		return p, have, api.OK
	}
	return 0, 0, api.ErrRange
}

// placeOf says what Place must answer, page by page.
func (x *table) placeOf(addr, size int64, flags int) (int64, api.Errno) {
	if flags&fixed != 0 {
		p, n, e := rangeOf(addr, size)
		if e != api.OK {
			return 0, e
		}
		if flags&noRep != 0 && !x.free(p, n) {
			return 0, api.ErrExists
		}
		return addr, api.OK
	}
	if size < 1 || size%page != 0 || size > space {
		return 0, api.ErrSpace
	}
	n := size / page
	if addr != 0 && addr%page == 0 && x.free(addr/page, n) {
		return addr, api.OK
	}
	for i := int64(first); i < last; i++ {
		p := int64(first+last-1) - i
		if flags&botUp != 0 {
			p = i
		}
		if x.free(p, n) {
			return p * page, api.OK
		}
	}
	return 0, api.ErrSpace
}

// askOf says what is wrong with a map ahead of its place.
func askOf(c api.Call) api.Errno {
	n, e := pagesOf(c.Len)
	if e != api.OK {
		return e
	}
	if c.Prot < 0 || c.Prot > 7 {
		return api.ErrArg
	}
	if c.Flags < 0 || c.Flags > 15 {
		return api.ErrArg
	}
	if c.Flags&3 == noRep {
		return api.ErrArg
	}
	if c.Back < 0 || c.Back > 9 || c.Back == 0 && c.Off != 0 {
		return api.ErrArg
	}
	if c.Off%page != 0 {
		return api.ErrAlign
	}
	if c.Off < 0 || c.Off/page > api.MaxOff/page-n {
		return api.ErrRange
	}
	return api.OK
}

// mapOf says what Map must answer of a list that is right, and whose table is x.
func (x *table) mapOf(l []api.Area, c api.Call) ([]api.Area, api.Answer) {
	if e := askOf(c); e != api.OK {
		return l, api.Answer{Err: e}
	}
	n, _ := pagesOf(c.Len)
	addr, e := x.placeOf(c.Addr, n*page, c.Flags)
	if e != api.OK {
		return l, api.Answer{Err: e}
	}
	y := *x
	y.fill(api.Area{
		Start: addr, End: addr + n*page, Prot: c.Prot,
		Shared: c.Flags&share != 0, Back: c.Back, Off: c.Off,
	})
	return keptOf(l, y.list(), addr)
}

// unmapOf says what Unmap must answer of such a list.
func (x *table) unmapOf(l []api.Area, c api.Call) ([]api.Area, api.Answer) {
	p, n, e := rangeOf(c.Addr, c.Len)
	if e != api.OK {
		return l, api.Answer{Err: e}
	}
	y := *x
	y.clear(p, p+n)
	return keptOf(l, y.list(), 0)
}

// keptOf says what Kept must answer.
func keptOf(was, now []api.Area, value int64) ([]api.Area, api.Answer) {
	if len(now) >= 25 {
		return was, api.Answer{Err: api.ErrAreas}
	}
	return now, api.Answer{Value: value}
}

// lists are right ones: all of some pages at both ends of the space and between,
// with what is beyond them in areas or in none, and such that have nearly as many
// areas as may be.
func lists() [][]api.Area {
	all := [][]api.Area{
		nil, {}, many(22), many(23), many(24),
		{pages(first, last, 3)}, {pages(first, last-1, 3)}, {pages(first+1, last, 3)},
		{backed(100, 102, 1, 1, 3), backed(103, 105, 1, 1, 6)},
	}
	for _, at := range []struct {
		base, n int64
		full    bool
	}{{first, 3, true}, {first, 3, false}, {100, 3, true}, {100, 3, false}, {last - 3, 3, true}, {last - 3, 3, false}} {
		all = append(all, small(at.base, at.n, at.full)...)
	}
	return all
}

// small are all lists of n pages from base on, each of which is in no area or in
// one of two kinds.
func small(base, n int64, full bool) [][]api.Area {
	var x table
	if full {
		x.fill(pages(first, base, 7))
		x.fill(pages(base+n, last, 7))
	}
	all := []table{x}
	for p := base; p < base+n; p++ {
		for _, x := range slices.Clone(all) {
			for _, prot := range []int{1, 3} {
				x.fill(pages(p, p+1, prot))
				all = append(all, x)
			}
		}
	}
	var lists [][]api.Area
	for i := range all {
		lists = append(lists, all[i].list())
	}
	return lists
}

// addrs are addresses around the lists' pages, the space's ends, and the ends of
// what a number can be.
func addrs() []int64 {
	l := []int64{
		math.MinInt64, math.MinInt64 + 1, -page, -1, 0, 1, page, api.Least - 1, api.Least + 1,
		api.Most - 1, api.Most + 1, math.MaxInt64 - page + 1, math.MaxInt64, 1 << 32, 1<<32 | 100*page, 100*page + 1, 102*page - 1,
	}
	for _, p := range []int64{15, 16, 17, 18, 19, 20, 21, 23, 24, 99, 100, 101, 102, 103, 508, 509, 510, 511, 512, 513} {
		l = append(l, p*page)
	}
	return l
}

// sizes are bytes: whole pages and none, nothing, and more than there is.
func sizes() []int64 {
	return []int64{
		math.MinInt64, -page, -1, 0, 1, page - 1, page, page + 1, 2 * page, 3*page - 1, 3 * page, 4 * page,
		84 * page, 409 * page, 493 * page, 495 * page, space - 1, space, space + 1, space + page, api.Most,
		math.MaxInt64 - page + 1, math.MaxInt64, 1 << 32, 1<<32 | page,
	}
}

// wrong are lists that aren't right, by one thing each, or have too many areas.
func wrong() [][]api.Area {
	return [][]api.Area{
		{{}},
		{pages(20, 20, 1)},
		{pages(15, 17, 1)},
		{pages(511, 513, 1)},
		{pages(16, 18, 8)},
		{pages(16, 18, -1)},
		{pages(16, 18, 1), pages(18, 20, 1)},
		{pages(16, 19, 1), pages(18, 20, 3)},
		{pages(18, 20, 1), pages(16, 18, 3)},
		{pages(16, 18, 1), {}},
		{backed(16, 18, 1, 1, 0), backed(18, 20, 1, 1, 2)},
		{backed(16, 18, 1, 10, 0)},
		{backed(16, 18, 1, 0, 1)},
		{backed(16, 18, 1, 1, api.MaxOff/page-1)},
		{{Start: 16*page + 1, End: 18 * page, Prot: 1}},
		{{Start: math.MinInt64, End: math.MaxInt64, Prot: 1}},
		many(25), many(26), many(100),
	}
}

// guarded answers a copy of a list with spare room, and a function that tells
// whether list and room are still as they were.
func guarded(l []api.Area) ([]api.Area, func() bool) {
	whole := slices.Clone(l)
	for range 4 {
		whole = append(whole, api.Area{Start: -7, End: -7, Prot: -7})
	}
	was := slices.Clone(whole)
	return whole[:len(l)], func() bool { return slices.Equal(whole, was) }
}

// holds holds what a call answered against what it must.
func holds(t *testing.T, l []api.Area, c api.Call, got []api.Area, a api.Answer, want []api.Area, b api.Answer) {
	t.Helper()
	if a != b || !slices.Equal(got, want) {
		t.Fatalf("%+v of %v: %v, %v, want %v, %v", c, l, a, got, b, want)
	}
	if !list.Right(got) || len(got) > 24 {
		t.Fatalf("%+v of %v: %v isn't right", c, l, got)
	}
}

func TestFlagsAreTheChapters(t *testing.T) {
	got := []int{mapping.Fixed, mapping.NoReplace, mapping.Shared, mapping.BottomUp}
	if !slices.Equal(got, []int{1, 2, 4, 8}) {
		t.Error(got)
	}
}

func TestPlaceByHand(t *testing.T) {
	l := []api.Area{pages(16, 20, 1), pages(30, 40, 1), pages(500, 512, 1)}
	tests := []struct {
		addr, size int64
		flags      int
		want       int64
		e          api.Errno
	}{
		// Chosen: the address, if it fits there; else the highest, or the lowest one.
		{0, page, 0, 499 * page, api.OK},
		{0, page, botUp, 20 * page, api.OK},
		{0, 10 * page, botUp, 20 * page, api.OK},
		{0, 11 * page, botUp, 40 * page, api.OK},
		{0, 460 * page, 0, 40 * page, api.OK},
		{0, 460 * page, botUp, 40 * page, api.OK},
		{0, 461 * page, 0, 0, api.ErrSpace},
		{0, 461 * page, botUp, 0, api.ErrSpace},
		{25 * page, 5 * page, 0, 25 * page, api.OK},
		{25 * page, 5 * page, botUp, 25 * page, api.OK},
		{25 * page, 6 * page, 0, 494 * page, api.OK},
		{25 * page, 6 * page, botUp, 20 * page, api.OK},
		{20 * page, 10 * page, 0, 20 * page, api.OK},
		{19 * page, page, 0, 499 * page, api.OK},
		{25*page + 1, page, 0, 499 * page, api.OK},
		{15 * page, page, 0, 499 * page, api.OK},
		{512 * page, page, botUp, 20 * page, api.OK},
		{-page, page, botUp, 20 * page, api.OK},
		{math.MinInt64, page, 0, 499 * page, api.OK},
		{math.MaxInt64, page, 0, 499 * page, api.OK},
		// What isn't whole pages, or none at all, has no place unless it is fixed.
		{25 * page, 1, 0, 0, api.ErrSpace},
		{25 * page, page + 1, botUp, 0, api.ErrSpace},
		{25 * page, 0, 0, 0, api.ErrSpace},
		{25 * page, -page, botUp, 0, api.ErrSpace},
		{0, math.MaxInt64, 0, 0, api.ErrSpace},
		{0, math.MinInt64, 0, 0, api.ErrSpace},
		{25 * page, 1, fixed, 25 * page, api.OK},
		{29 * page, page + 1, fixed, 29 * page, api.OK},
		// Fixed: the range's error, or the address, whatever is there.
		{16 * page, page, fixed, 16 * page, api.OK},
		{16 * page, 496 * page, fixed | botUp, 16 * page, api.OK},
		{511 * page, page, fixed | share, 511 * page, api.OK},
		{25*page + 1, page, fixed, 0, api.ErrAlign},
		{1, 0, fixed, 0, api.ErrAlign},
		{25 * page, 0, fixed, 0, api.ErrZero},
		{0, 0, fixed, 0, api.ErrZero},
		{25 * page, -1, fixed, 0, api.ErrRange},
		{0, page, fixed, 0, api.ErrRange},
		{15 * page, page, fixed, 0, api.ErrRange},
		{511 * page, page + 1, fixed, 0, api.ErrRange},
		{math.MaxInt64 - 4095, page, fixed, 0, api.ErrRange},
		// Not to be replaced: one page that is there is enough.
		{20 * page, 10 * page, fixed | noRep, 20 * page, api.OK},
		{20 * page, 9*page + 1, fixed | noRep, 20 * page, api.OK},
		{20 * page, 10*page + 1, fixed | noRep, 0, api.ErrExists},
		{19 * page, page, fixed | noRep, 0, api.ErrExists},
		{19 * page, 2 * page, fixed | noRep, 0, api.ErrExists},
		{25 * page, 100 * page, fixed | noRep, 0, api.ErrExists},
		{16 * page, 0, fixed | noRep, 0, api.ErrZero},
		{16*page + 1, page, fixed | noRep, 0, api.ErrAlign},
		{511 * page, 2 * page, fixed | noRep, 0, api.ErrRange},
		// Without being fixed, that says nothing here, nor do bits that are none.
		{0, page, noRep, 499 * page, api.OK},
		{30 * page, page, noRep | botUp, 20 * page, api.OK},
		{0, page, 16 | 32 | 1<<40, 499 * page, api.OK},
	}
	for _, c := range tests {
		if got, e := mapping.Place(l, c.addr, c.size, c.flags); got != c.want || e != c.e {
			t.Errorf("%d bytes at %d, %d: %d, %d, want %d, %d", c.size, c.addr, c.flags, got, e, c.want, c.e)
		}
	}
}

func TestPlace(t *testing.T) {
	for _, l := range lists() {
		x := tableOf(l)
		for _, addr := range addrs() {
			for _, size := range sizes() {
				for flags := range 16 {
					want, wrong := x.placeOf(addr, size, flags)
					if got, e := mapping.Place(l, addr, size, flags); got != want || e != wrong {
						t.Fatalf("%d bytes at %d, %d, of %v: %d, %d, want %d, %d", size, addr, flags, l, got, e, want, wrong)
					}
				}
			}
		}
	}
}

func TestKept(t *testing.T) {
	values := []int64{0, 1, -1, 511 * page, math.MaxInt64, math.MinInt64}
	lengths := []int64{0, 1, 2, 23, 24, 25, 26, 100}
	for _, n := range lengths {
		for _, m := range lengths {
			for _, value := range values {
				was, now := many(n), slices.Repeat([]api.Area{{Start: 3, Prot: 99}}, int(m))
				got, a := mapping.Kept(was, now, value)
				want, b := keptOf(was, now, value)
				if a != b || !slices.Equal(got, want) {
					t.Errorf("%d, %d, %d: %v, %v", n, m, value, got, a)
				}
			}
		}
	}
}

// Kept asks of its lists nothing but how long the second one is.
func TestKeptOfListsThatAreNotRight(t *testing.T) {
	for _, l := range wrong() {
		got, a := mapping.Kept(l, many(24), 5)
		if a != (api.Answer{Value: 5}) || !slices.Equal(got, many(24)) {
			t.Errorf("%v: %v, %v", l, got, a)
		}
		got, a = mapping.Kept(many(3), l, 7)
		want, b := keptOf(many(3), l, 7)
		if a != b || !slices.Equal(got, want) {
			t.Errorf("%v: %v, %v", l, got, a)
		}
		got, a = mapping.Kept(l, many(25), 7)
		if a != (api.Answer{Err: api.ErrAreas}) || !slices.Equal(got, l) {
			t.Errorf("%v: %v, %v", l, got, a)
		}
	}
}

func TestMapByHand(t *testing.T) {
	l := []api.Area{pages(30, 40, 3)}
	sharedOne := backed(30, 32, 1, 2, 5)
	sharedOne.Shared = true
	tests := []struct {
		c     api.Call
		want  []api.Area
		value int64
	}{
		{api.Call{Len: 1, Prot: 1}, []api.Area{l[0], pages(511, 512, 1)}, 511 * page},
		{api.Call{Len: page + 1, Prot: 7, Flags: botUp}, []api.Area{pages(16, 18, 7), l[0]}, 16 * page},
		{api.Call{Len: page, Addr: 41 * page}, []api.Area{l[0], pages(41, 42, 0)}, 41 * page},
		{api.Call{Len: page, Addr: 41*page + 1}, []api.Area{l[0], pages(511, 512, 0)}, 511 * page},
		// What is alike is joined, on either side.
		{api.Call{Len: page, Addr: 40 * page, Prot: 3}, []api.Area{pages(30, 41, 3)}, 40 * page},
		{api.Call{Len: page, Addr: 29 * page, Prot: 3}, []api.Area{pages(29, 40, 3)}, 29 * page},
		// Fixed: in place of what is there.
		{api.Call{Len: page, Addr: 35 * page, Prot: 1, Flags: fixed},
			[]api.Area{pages(30, 35, 3), pages(35, 36, 1), pages(36, 40, 3)}, 35 * page},
		{api.Call{Len: space, Addr: 16 * page, Flags: fixed}, []api.Area{pages(16, 512, 0)}, 16 * page},
		{api.Call{Len: 2 * page, Addr: 30 * page, Prot: 1, Flags: fixed | share, Back: 2, Off: 5 * page},
			[]api.Area{sharedOne, pages(32, 40, 3)}, 30 * page},
		{api.Call{Len: page, Addr: 40 * page, Prot: 1, Flags: fixed | noRep | botUp},
			[]api.Area{l[0], pages(40, 41, 1)}, 40 * page},
		{api.Call{Len: page, Addr: 500 * page, Back: 9, Off: api.MaxOff - page},
			[]api.Area{l[0], backed(500, 501, 0, 9, api.MaxOff/page-1)}, 500 * page},
		// What a map doesn't ask says nothing.
		{api.Call{Kind: 99, Len: 1, New: -1, To: 3}, []api.Area{l[0], pages(511, 512, 0)}, 511 * page},
	}
	for _, c := range tests {
		got, a := mapping.Map(l, c.c)
		if a != (api.Answer{Value: c.value}) || !slices.Equal(got, c.want) {
			t.Errorf("%+v: %v, %v, want %v, %v", c.c, a, got, c.value, c.want)
		}
	}
}

func TestMapsThatAreRefused(t *testing.T) {
	l := []api.Area{pages(16, 20, 3), pages(30, 512, 3)}
	tests := []struct {
		c api.Call
		e api.Errno
	}{
		{api.Call{}, api.ErrZero},
		{api.Call{Len: -1}, api.ErrRange},
		{api.Call{Len: space + 1}, api.ErrRange},
		{api.Call{Len: 1, Prot: 8}, api.ErrArg},
		{api.Call{Len: 1, Prot: -1}, api.ErrArg},
		{api.Call{Len: 1, Flags: 16}, api.ErrArg},
		{api.Call{Len: 1, Flags: -1}, api.ErrArg},
		{api.Call{Len: 1, Flags: math.MinInt | fixed, Addr: 20 * page}, api.ErrArg},
		{api.Call{Len: 1, Flags: noRep}, api.ErrArg},
		{api.Call{Len: 1, Flags: noRep | share | botUp}, api.ErrArg},
		{api.Call{Len: 1, Back: 10}, api.ErrArg},
		{api.Call{Len: 1, Back: -1}, api.ErrArg},
		{api.Call{Len: 1, Off: page}, api.ErrArg},
		{api.Call{Len: 1, Back: 1, Off: 1}, api.ErrAlign},
		{api.Call{Len: 1, Back: 1, Off: -page}, api.ErrRange},
		{api.Call{Len: page + 1, Back: 1, Off: api.MaxOff - page}, api.ErrRange},
		{api.Call{Len: 1, Flags: fixed, Addr: 20*page + 1}, api.ErrAlign},
		{api.Call{Len: 1, Flags: fixed}, api.ErrRange},
		{api.Call{Len: 2 * page, Flags: fixed, Addr: 511 * page}, api.ErrRange},
		{api.Call{Len: 1, Flags: fixed | noRep, Addr: 19 * page}, api.ErrExists},
		{api.Call{Len: 10*page + 1, Flags: fixed | noRep, Addr: 20 * page}, api.ErrExists},
		{api.Call{Len: 11 * page}, api.ErrSpace},
		{api.Call{Len: 10*page + 1, Addr: 20 * page, Flags: botUp}, api.ErrSpace},
		// Where several errors apply: each is told ahead of the ones behind it.
		{api.Call{Prot: 8, Flags: -1, Back: 10, Off: 1, Addr: 1}, api.ErrZero},
		{api.Call{Len: -1, Prot: 8, Flags: noRep, Back: -1}, api.ErrRange},
		{api.Call{Len: 1, Prot: 8, Back: 1, Off: 1}, api.ErrArg},
		{api.Call{Len: 1, Prot: 8, Back: 1, Off: -page}, api.ErrArg},
		{api.Call{Len: 1, Flags: 17, Back: 1, Off: 1}, api.ErrArg},
		{api.Call{Len: 1, Flags: noRep, Back: 1, Off: 1}, api.ErrArg},
		{api.Call{Len: 11 * page, Flags: noRep, Addr: 1}, api.ErrArg},
		{api.Call{Len: 1, Back: 10, Flags: fixed, Addr: 1}, api.ErrArg},
		{api.Call{Len: 1, Back: 1, Off: 1, Flags: fixed}, api.ErrAlign},
		{api.Call{Len: 1, Back: 1, Off: -page, Flags: fixed, Addr: 1}, api.ErrRange},
		{api.Call{Len: 11 * page, Back: 1, Off: api.MaxOff}, api.ErrRange},
		{api.Call{Len: 1, Back: 1, Off: 1, Flags: fixed | noRep, Addr: 16 * page}, api.ErrAlign},
	}
	for _, c := range tests {
		got, a := mapping.Map(l, c.c)
		if a != (api.Answer{Err: c.e}) || !slices.Equal(got, l) {
			t.Errorf("%+v: %v, %v, want %d", c.c, a, got, c.e)
		}
	}
}

// calls are maps of all that may be asked, and mustn't, one beside the other.
func calls(f func(c api.Call)) {
	for _, n := range []int64{math.MinInt64, -1, 0, 1, page, page + 1, 3 * page, 493*page - 1, space, space + 1, math.MaxInt64} {
		for _, prot := range []int{math.MinInt, -1, 0, 1, 3, 7, 8} {
			for _, flags := range []int{-1, math.MinInt, 0, 1, 2, 3, 4, 5, 6, 7, 8, 9, 10, 11, 12, 13, 14, 15, 16, 17, 32, 1 << 32} {
				for _, b := range []struct {
					back int
					off  int64
				}{
					{-1, 0}, {10, 1}, {0, 0}, {0, page}, {0, 1}, {1, 0}, {9, 3 * page}, {1, 5}, {1, -page},
					{9, api.MaxOff - page}, {9, api.MaxOff - 3*page}, {1, api.MaxOff}, {1, math.MaxInt64 - page + 1}, {1, math.MinInt64},
				} {
					f(api.Call{Len: n, Prot: prot, Flags: flags, Back: b.back, Off: b.off})
				}
			}
		}
	}
}

func TestMap(t *testing.T) {
	chosen := [][]api.Area{
		nil, many(23), many(24), {pages(16, 512, 3)},
		{pages(16, 100, 3), pages(101, 102, 1), pages(103, 511, 3)},
		{backed(99, 100, 1, 9, 2), pages(102, 104, 3)},
	}
	for _, l := range chosen {
		x := tableOf(l)
		calls(func(c api.Call) {
			for _, c.Addr = range []int64{0, 1, page, 16 * page, 20 * page, 22 * page, 23 * page, 100 * page, 100*page + 5, 101 * page, 511 * page, api.Most, -page} {
				want, b := x.mapOf(l, c)
				got, a := mapping.Map(l, c)
				holds(t, l, c, got, a, want, b)
			}
		})
	}
}

// Of all lists, with all that can be at their pages.
func TestMapInAllLists(t *testing.T) {
	for _, l := range lists() {
		x := tableOf(l)
		for _, addr := range addrs() {
			for _, n := range []int64{1, page + 1, 3 * page, 4 * page} {
				for flags := range 16 {
					c := api.Call{Addr: addr, Len: n, Prot: 1, Flags: flags}
					want, b := x.mapOf(l, c)
					got, a := mapping.Map(l, c)
					holds(t, l, c, got, a, want, b)
				}
			}
		}
	}
}

func TestMapsUpToTheMostAreas(t *testing.T) {
	tests := []struct {
		n    int64 // areas ahead of the call
		c    api.Call
		want int // areas behind it; 0: too many
	}{
		{23, api.Call{Len: page, Prot: 1}, 24},
		{24, api.Call{Len: page, Prot: 1}, 0},
		{24, api.Call{Len: page, Prot: 1, Flags: botUp}, 0},
		{24, api.Call{Len: page, Prot: 3, Addr: 23 * page}, 0},
		// Joined to what is beside it, it doesn't count, and makes one of two.
		{24, api.Call{Len: page, Prot: 1, Addr: 19 * page}, 24},
		{24, api.Call{Len: page, Prot: 1, Addr: 23 * page}, 23},
		// In place of what is there: split, or swallowed.
		{22, api.Call{Len: page, Prot: 3, Addr: 21 * page, Flags: fixed}, 24},
		{23, api.Call{Len: page, Prot: 3, Addr: 21 * page, Flags: fixed}, 0},
		{24, api.Call{Len: page, Prot: 3, Addr: 20 * page, Flags: fixed}, 0},
		{24, api.Call{Len: 3 * page, Prot: 3, Addr: 20 * page, Flags: fixed}, 24},
		{24, api.Call{Len: space, Prot: 3, Addr: 16 * page, Flags: fixed}, 1},
		{24, api.Call{Len: page, Prot: 1, Addr: 21 * page, Flags: fixed}, 24},
	}
	for _, c := range tests {
		l := many(c.n)
		got, a := mapping.Map(l, c.c)
		if c.want == 0 && (a != (api.Answer{Err: api.ErrAreas}) || !slices.Equal(got, l)) {
			t.Errorf("%d, %+v: %v, %v", c.n, c.c, a, got)
		}
		if c.want > 0 && (a.Err != api.OK || len(got) != c.want) {
			t.Errorf("%d, %+v: %v, %v", c.n, c.c, a, got)
		}
	}
	// That there is no room is told ahead of how many there would be.
	_, a := mapping.Map(many(24), api.Call{Len: 400 * page})
	if a != (api.Answer{Err: api.ErrSpace}) {
		t.Error(a)
	}
}

func TestUnmapByHand(t *testing.T) {
	l := []api.Area{pages(20, 25, 3), backed(30, 40, 1, 4, 7)}
	tests := []struct {
		addr, n int64
		want    []api.Area
		e       api.Errno
	}{
		{20 * page, 1, []api.Area{pages(21, 25, 3), l[1]}, api.OK},
		{22 * page, page, []api.Area{pages(20, 22, 3), pages(23, 25, 3), l[1]}, api.OK},
		{24 * page, 6*page + 1, []api.Area{pages(20, 24, 3), backed(31, 40, 1, 4, 8)}, api.OK},
		{35 * page, 2*page - 1, []api.Area{l[0], backed(30, 35, 1, 4, 7), backed(37, 40, 1, 4, 14)}, api.OK},
		{16 * page, space, nil, api.OK},
		{25 * page, 5 * page, l, api.OK}, // where nothing is there is nothing to do
		{511 * page, 1, l, api.OK},
		{20*page + 1, 1, l, api.ErrAlign},
		{1, 0, l, api.ErrAlign},
		{20 * page, 0, l, api.ErrZero},
		{0, 0, l, api.ErrZero},
		{20 * page, -1, l, api.ErrRange},
		{20 * page, space + 1, l, api.ErrRange},
		{15 * page, page, l, api.ErrRange},
		{511 * page, page + 1, l, api.ErrRange},
		{math.MaxInt64 - 4095, page, l, api.ErrRange},
		{math.MinInt64, page, l, api.ErrRange},
	}
	for _, c := range tests {
		// Of a call nothing else is asked.
		call := api.Call{Kind: -3, Addr: c.addr, Len: c.n, New: -1, To: 5, Prot: 99, Flags: -1, Back: -1, Off: -1}
		got, a := mapping.Unmap(l, call)
		if a != (api.Answer{Err: c.e}) || !slices.Equal(got, c.want) {
			t.Errorf("%d bytes at %d: %v, %v, want %d, %v", c.n, c.addr, a, got, c.e, c.want)
		}
	}
}

func TestUnmap(t *testing.T) {
	for _, l := range lists() {
		x := tableOf(l)
		for _, addr := range addrs() {
			for _, n := range sizes() {
				c := api.Call{Addr: addr, Len: n}
				want, b := x.unmapOf(l, c)
				got, a := mapping.Unmap(l, c)
				holds(t, l, c, got, a, want, b)
			}
		}
	}
}

func TestUnmapsUpToTheMostAreas(t *testing.T) {
	middle := api.Call{Addr: 21 * page, Len: page}
	if got, a := mapping.Unmap(many(23), middle); a != (api.Answer{}) || len(got) != 24 {
		t.Error(a, got)
	}
	if got, a := mapping.Unmap(many(24), middle); a != (api.Answer{Err: api.ErrAreas}) || !slices.Equal(got, many(24)) {
		t.Error(a, got)
	}
	if got, a := mapping.Unmap(many(24), api.Call{Addr: 22 * page, Len: page}); a != (api.Answer{}) || len(got) != 24 {
		t.Error(a, got)
	}
	if got, a := mapping.Unmap(many(24), api.Call{Addr: 21 * page, Len: 5 * page}); a != (api.Answer{}) || len(got) != 24 {
		t.Error(a, got)
	}
}

// A list that isn't right, or has too many areas, is asked ahead of all else.
func TestListsThatAreNotRight(t *testing.T) {
	asked := []api.Call{
		{}, {Len: page}, {Len: -1, Prot: 8}, {Addr: 300 * page, Len: page, Flags: fixed},
		{Addr: 1, Len: page, Flags: fixed}, {Len: api.Most}, {Addr: 16 * page, Len: space, Flags: fixed},
	}
	for _, l := range wrong() {
		for _, c := range asked {
			if got, a := mapping.Map(l, c); a != (api.Answer{Err: api.ErrArg}) || !slices.Equal(got, l) {
				t.Errorf("%+v of %v: %v, %v", c, l, a, got)
			}
			if got, a := mapping.Unmap(l, c); a != (api.Answer{Err: api.ErrArg}) || !slices.Equal(got, l) {
				t.Errorf("%+v of %v: %v, %v", c, l, a, got)
			}
			for flags := range 16 {
				if at, e := mapping.Place(l, c.Addr, c.Len, flags); at != 0 || e != api.ErrArg {
					t.Errorf("%+v, %d of %v: %d, %d", c, flags, l, at, e)
				}
			}
		}
	}
}

// What follows: without being fixed a map takes pages that were in no area, as
// many as were asked for, and no other page is touched.
func TestChosenMapsTakeFreePages(t *testing.T) {
	for _, l := range lists() {
		for _, addr := range addrs() {
			for _, flags := range []int{0, share, botUp, botUp | share} {
				for _, n := range []int64{1, 2 * page, 3 * page} {
					got, a := mapping.Map(l, api.Call{Addr: addr, Len: n, Prot: 5, Flags: flags})
					if a.Err != api.OK {
						continue
					}
					before, after := tableOf(l), tableOf(got)
					size, _ := pagesOf(n)
					if !before.free(a.Value/page, size) {
						t.Fatalf("%d bytes at %d, %d, of %v: %v", n, addr, flags, l, a)
					}
					for p := range before {
						taken := a.Value/page <= int64(p) && int64(p) < a.Value/page+size
						if taken != (before[p] != after[p]) {
							t.Fatalf("%d bytes at %d, %d, of %v: page %d", n, addr, flags, l, p)
						}
					}
				}
			}
		}
	}
}

// Calls one behind the other come to what a table of pages comes to, and meet all
// errors of the chapter on their way.
func TestOneBehindTheOther(t *testing.T) {
	var l []api.Area
	met := map[api.Errno]int{}
	n := int64(1)
	next := func(below int64) int64 {
		n = n * 48271 % (1<<31 - 1)
		return n % below
	}
	for range 30000 {
		c := api.Call{
			Addr: (15 + next(70)) * page, Len: next(4*page + 1), Prot: int(next(4)),
			Flags: int(next(17)), Back: int(next(2)), Off: 0,
		}
		switch next(60) {
		case 0:
			c.Addr++
		case 1:
			c.Len = next(space)
		case 2:
			c.Addr = 0
		}
		if c.Back == 1 {
			c.Off = c.Addr / page * page
		}
		x, do, must := tableOf(l), mapping.Map, (*table).mapOf
		if next(5) < 2 {
			do, must = mapping.Unmap, (*table).unmapOf
		}
		want, b := must(x, l, c)
		got, a := do(l, c)
		holds(t, l, c, got, a, want, b)
		met[a.Err]++
		l = got
	}
	for _, e := range []api.Errno{
		api.OK, api.ErrArg, api.ErrAlign, api.ErrZero, api.ErrRange, api.ErrSpace, api.ErrExists, api.ErrAreas,
	} {
		if met[e] == 0 {
			t.Errorf("%d wasn't met: %v", e, met)
		}
	}
}

// What is handed in is left as it is, its spare room too, and what is answered is
// new: a list that came beside an error no less than one that was changed.
func TestListsAreNewAndArgumentsStay(t *testing.T) {
	asked := []api.Call{
		{}, {Len: page}, {Len: page, Prot: 9}, {Addr: 100 * page, Len: page, Flags: fixed},
		{Addr: 100 * page, Len: page, Flags: fixed | noRep}, {Len: space}, {Addr: 300 * page, Len: 1},
		{Addr: 21 * page, Len: 1}, {Addr: 16 * page, Len: space}, {Addr: 5, Len: 5, Flags: fixed},
	}
	for _, l := range slices.Concat(lists(), wrong()) {
		in, same := guarded(l)
		now, stays := guarded(many(24))
		over, stands := guarded(many(25))
		for _, c := range asked {
			mapped, _ := mapping.Map(in, c)
			unmapped, _ := mapping.Unmap(in, c)
			mapping.Place(in, c.Addr, c.Len, c.Flags)
			kept, _ := mapping.Kept(in, now, 1)
			refused, _ := mapping.Kept(in, over, 1)
			for _, got := range [][]api.Area{mapped, unmapped, kept, refused} {
				got = got[:cap(got)]
				for i := range got {
					got[i] = api.Area{Start: 99}
				}
			}
			if !same() || !stays() || !stands() {
				t.Fatalf("%+v of %v: changed", c, l)
			}
		}
	}
}

func TestExamples(t *testing.T) {
	for _, none := range [][]api.Area{nil, {}} {
		got, a := mapping.Map(none, api.Call{Len: page})
		if a != (api.Answer{Value: 511 * page}) || !slices.Equal(got, []api.Area{pages(511, 512, 0)}) {
			t.Error(a, got)
		}
		got, a = mapping.Map(none, api.Call{Len: page, Flags: botUp})
		if a != (api.Answer{Value: 16 * page}) || !slices.Equal(got, []api.Area{pages(16, 17, 0)}) {
			t.Error(a, got)
		}
	}
}
