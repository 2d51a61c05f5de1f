package protect_test

import (
	"math"
	"slices"
	"testing"

	"samara/api"
	"samara/list"
	"samara/mapping"
	"samara/protect"
)

const (
	page  = api.Page
	first = api.Least / page
	last  = api.Most / page
	space = api.Most - api.Least
)

// pages answers an area from one page to ahead of another one, of no backing.
func pages(lo, hi int64, prot int) api.Area {
	return api.Area{Start: lo * page, End: hi * page, Prot: prot}
}

// backed answers such an area of a backing, from a page of it on.
func backed(lo, hi int64, prot, back int, off int64) api.Area {
	a := pages(lo, hi, prot)
	a.Back, a.Off = back, off*page
	return a
}

// shared answers an area that is.
func shared(a api.Area) api.Area {
	a.Shared = true
	return a
}

// many answers n areas of three pages each, from page 20 on, with a page between.
func many(n int64) []api.Area {
	var l []api.Area
	for i := range n {
		l = append(l, pages(20+4*i, 23+4*i, 1))
	}
	return l
}

// table is what each page of the space has: the plainest way to say what a list
// is, against which all answers are held.
type table [last + 1]struct {
	has  bool
	attr api.Attr
}

// fill gives an area's pages what they have in it. It doesn't ask the program how.
func (x *table) fill(a api.Area) {
	for p := a.Start / page; p < a.End/page; p++ {
		at := api.Attr{Prot: a.Prot, Shared: a.Shared, Back: a.Back}
		if a.Back != 0 {
			at.Off = a.Off + p*page - a.Start
		}
		x[p].has, x[p].attr = true, at
	}
}

// tableOf tells a list's pages.
func tableOf(l []api.Area) *table {
	var x table
	for _, a := range l {
		x.fill(a)
	}
	return &x
}

// list answers the one right list whose pages are the table's.
func (x *table) list() []api.Area {
	var l []api.Area
	for p := int64(first); p < last; p++ {
		if !x[p].has {
			continue
		}
		at, next := x[p].attr, x[p-1].attr
		if next.Back != 0 {
			next.Off += page
		}
		if x[p-1].has && next == at {
			l[len(l)-1].End += page
			continue
		}
		l = append(l, api.Area{
			Start: p * page, End: p*page + page,
			Prot: at.Prot, Shared: at.Shared, Back: at.Back, Off: at.Off,
		})
	}
	return l
}

// pagesOf answers how many pages n bytes touch, or what is wrong with them.
func pagesOf(n int64) (int64, api.Errno) {
	if n == 0 {
		return 0, api.ErrZero
	}
	for p := int64(1); n > 0 && p <= last-first; p++ {
		if n <= p*page {
			return p, api.OK
		}
	}
	return 0, api.ErrRange
}

// rangeOf answers a range's first page and how many it has, or what is wrong.
func rangeOf(addr, n int64) (int64, int64, api.Errno) {
	if addr&(page-1) != 0 {
		return 0, 0, api.ErrAlign
	}
	have, e := pagesOf(n)
	if e != api.OK {
		return 0, 0, e
	}
	if p := addr / page; p >= first && p <= last-have {
		return p, have, api.OK
	}
	return 0, 0, api.ErrRange
}

// protectOf says what Protect must answer of a list that is right, and whose table
// is x.
func (x *table) protectOf(l []api.Area, c api.Call) ([]api.Area, api.Answer) {
	at, n, e := rangeOf(c.Addr, c.Len)
	if e != api.OK {
		return l, api.Answer{Err: e}
	}
	if c.Prot < 0 || c.Prot > 7 {
		return l, api.Answer{Err: api.ErrArg}
	}
	y := *x
	for p := at; p < at+n; p++ {
		if !y[p].has {
			return l, api.Answer{Err: api.ErrNone}
		}
		y[p].attr.Prot = c.Prot
	}
	now := y.list()
	if len(now) >= 25 {
		return l, api.Answer{Err: api.ErrAreas}
	}
	return now, api.Answer{}
}

// faultOf says what Fault must answer of such a list.
func (x *table) faultOf(c api.Call) api.Answer {
	if c.Prot < 1 || c.Prot > 7 {
		return api.Answer{Err: api.ErrArg}
	}
	if c.Addr < api.Least || c.Addr >= api.Most || !x[c.Addr/page].has {
		return api.Answer{Err: api.ErrNone}
	}
	at := x[c.Addr/page].attr
	for _, bit := range []int{1, 2, 4} {
		if c.Prot&bit != 0 && at.Prot&bit == 0 {
			return api.Answer{Err: api.ErrAccess}
		}
	}
	return api.Answer{Attr: at}
}

// lists are right ones: all of some pages at both ends of the space and between,
// with what is beyond them in areas or in none, such that have nearly as many areas
// as may be, and such that could be one but for a thing that isn't Prot.
func lists() [][]api.Area {
	all := [][]api.Area{
		nil, {}, many(22), many(23), many(24),
		{pages(first, last, 3)}, {pages(first, last-1, 3)}, {pages(first+1, last, 3)},
		{backed(99, 101, 1, 1, 3), backed(101, 104, 3, 1, 5)},
		{backed(99, 101, 1, 1, 3), backed(101, 104, 1, 1, 6)},
		{backed(99, 101, 1, 1, 3), backed(101, 104, 1, 2, 5)},
		{backed(99, 101, 1, 1, 3), shared(backed(101, 104, 1, 1, 5))},
		{shared(pages(99, 101, 7)), pages(101, 102, 7), backed(102, 104, 7, 9, 0)},
		{backed(100, 103, 0, 9, api.MaxOff/page-3)},
	}
	for _, at := range []struct {
		base int64
		full bool
	}{{first, true}, {first, false}, {100, true}, {100, false}, {last - 3, true}, {last - 3, false}} {
		all = append(all, small(at.base, 3, at.full)...)
	}
	return all
}

// small are all lists of n pages from base on, each of which is in no area or in
// one of two kinds.
func small(base, n int64, full bool) [][]api.Area {
	var x table
	if full {
		x.fill(pages(first, base, 7))
		x.fill(pages(base+n, last, 7))
	}
	all := []table{x}
	for p := base; p < base+n; p++ {
		for _, x := range slices.Clone(all) {
			for _, prot := range []int{1, 3} {
				x.fill(pages(p, p+1, prot))
				all = append(all, x)
			}
		}
	}
	var lists [][]api.Area
	for i := range all {
		lists = append(lists, all[i].list())
	}
	return lists
}

// addrs are addresses around the lists' pages, the space's ends, and the ends of
// what a number can be.
func addrs() []int64 {
	l := []int64{
		math.MinInt64, math.MinInt64 + 1, -page, -1, 0, 1, page, api.Least - 1, api.Least + 1,
		api.Most - 1, api.Most + 1, math.MaxInt64 - page + 1, math.MaxInt64, 1 << 32, 1<<32 | 100*page, 100*page + 1, 102*page - 1,
	}
	for _, p := range []int64{15, 16, 17, 18, 19, 20, 21, 22, 23, 24, 99, 100, 101, 102, 103, 104, 508, 509, 510, 511, 512, 513} {
		l = append(l, p*page)
	}
	return l
}

// sizes are bytes: whole pages and none, nothing, and more than there is.
func sizes() []int64 {
	return []int64{
		math.MinInt64, -page, -1, 0, 1, page - 1, page, page + 1, 2 * page, 3*page - 1, 3 * page, 4 * page,
		84 * page, 409 * page, 493 * page, 495 * page, space - 1, space, space + 1, space + page, api.Most,
		math.MaxInt64 - page + 1, math.MaxInt64, 1 << 32, 1<<32 | page,
	}
}

// prots are all that may be done with pages, and what is none of it.
func prots() []int {
	return []int{math.MinInt, math.MinInt + 1, -8, -1, 0, 1, 2, 3, 4, 5, 6, 7, 8, 9, 15, 1 << 32, 1<<32 | 1, math.MaxInt}
}

// wrong are lists that aren't right, by one thing each, or have too many areas.
func wrong() [][]api.Area {
	return [][]api.Area{
		{{}},
		{pages(20, 20, 1)},
		{pages(15, 17, 1)},
		{pages(511, 513, 1)},
		{pages(16, 18, 8)},
		{pages(16, 18, -1)},
		{pages(16, 18, 1), pages(18, 20, 1)},
		{pages(16, 19, 1), pages(18, 20, 3)},
		{pages(18, 20, 1), pages(16, 18, 3)},
		{pages(16, 18, 1), {}},
		{backed(16, 18, 1, 1, 0), backed(18, 20, 1, 1, 2)},
		{backed(16, 18, 1, 10, 0)},
		{backed(16, 18, 1, 0, 1)},
		{backed(16, 18, 1, 1, api.MaxOff/page-1)},
		{{Start: 16*page + 1, End: 18 * page, Prot: 1}},
		{{Start: math.MinInt64, End: math.MaxInt64, Prot: 1}},
		many(25), many(26), many(100),
	}
}

// rest gives a call all that neither Protect nor Fault asks, as wrong as can be.
func rest(c api.Call) api.Call {
	c.Kind, c.New, c.To, c.Flags, c.Back, c.Off = -3, -1, 5, -1, 99, 7
	return c
}

// guarded answers a copy of a list with spare room, and a function that tells
// whether list and room are still as they were.
func guarded(l []api.Area) ([]api.Area, func() bool) {
	whole := slices.Clone(l)
	for range 4 {
		whole = append(whole, api.Area{Start: -7, End: -7, Prot: -7})
	}
	was := slices.Clone(whole)
	return whole[:len(l)], func() bool { return slices.Equal(whole, was) }
}

// holds holds what a Protect answered against what it must.
func holds(t *testing.T, l []api.Area, c api.Call, got []api.Area, a api.Answer, want []api.Area, b api.Answer) {
	t.Helper()
	if a != b || !slices.Equal(got, want) {
		t.Fatalf("%+v of %v: %v, %v, want %v, %v", c, l, a, got, b, want)
	}
	if !list.Right(got) || len(got) > 24 {
		t.Fatalf("%+v of %v: %v isn't right", c, l, got)
	}
}

func TestProtectByHand(t *testing.T) {
	l := []api.Area{pages(16, 19, 3), pages(19, 20, 1), backed(30, 40, 1, 4, 7), shared(backed(40, 41, 3, 4, 17))}
	tests := []struct {
		addr, n int64
		prot    int
		want    []api.Area
	}{
		// The middle, the beginning, the end, the whole.
		{17 * page, page, 0, []api.Area{pages(16, 17, 3), pages(17, 18, 0), pages(18, 19, 3), l[1], l[2], l[3]}},
		{16 * page, 1, 7, []api.Area{pages(16, 17, 7), pages(17, 19, 3), l[1], l[2], l[3]}},
		{17 * page, page + 1, 4, []api.Area{pages(16, 17, 3), pages(17, 19, 4), l[1], l[2], l[3]}},
		{16 * page, 3 * page, 2, []api.Area{pages(16, 19, 2), l[1], l[2], l[3]}},
		// As it is: nothing is split.
		{17 * page, page, 3, l},
		// Joined to what is beside it, and parts of several to one.
		{18 * page, page, 1, []api.Area{pages(16, 18, 3), pages(18, 20, 1), l[2], l[3]}},
		{19 * page, page, 3, []api.Area{pages(16, 20, 3), l[2], l[3]}},
		{18 * page, 2 * page, 5, []api.Area{pages(16, 18, 3), pages(18, 20, 5), l[2], l[3]}},
		{16 * page, 3*page + 1, 0, []api.Area{pages(16, 20, 0), l[2], l[3]}},
		// Parts have the offset that belongs to them; what is shared isn't joined to what isn't.
		{35 * page, 2*page - 1, 3, []api.Area{l[0], l[1],
			backed(30, 35, 1, 4, 7), backed(35, 37, 3, 4, 12), backed(37, 40, 1, 4, 14), l[3]}},
		{30 * page, 11 * page, 3, []api.Area{l[0], l[1], backed(30, 40, 3, 4, 7), l[3]}},
		{39 * page, page + 1, 5, []api.Area{l[0], l[1],
			backed(30, 39, 1, 4, 7), backed(39, 40, 5, 4, 16), shared(backed(40, 41, 5, 4, 17))}},
	}
	for _, c := range tests {
		call := rest(api.Call{Addr: c.addr, Len: c.n, Prot: c.prot})
		got, a := protect.Protect(l, call)
		if a != (api.Answer{}) || !slices.Equal(got, c.want) {
			t.Errorf("%d of %d bytes at %d: %v, %v, want %v", c.prot, c.n, c.addr, a, got, c.want)
		}
	}
}

func TestProtectsThatAreRefused(t *testing.T) {
	l := []api.Area{pages(16, 20, 3), pages(30, 40, 3), pages(500, 512, 3)}
	tests := []struct {
		addr, n int64
		prot    int
		e       api.Errno
	}{
		{16*page + 1, 1, 1, api.ErrAlign},
		{16 * page, 0, 1, api.ErrZero},
		{16 * page, -1, 1, api.ErrRange},
		{16 * page, space + 1, 1, api.ErrRange},
		{15 * page, page, 1, api.ErrRange},
		{0, page, 1, api.ErrRange},
		{-page, page, 1, api.ErrRange},
		{511 * page, page + 1, 1, api.ErrRange},
		{512 * page, page, 1, api.ErrRange},
		{math.MaxInt64 - 4095, page, 1, api.ErrRange},
		{math.MinInt64, page, 1, api.ErrRange},
		{16 * page, math.MaxInt64, 1, api.ErrRange},
		{16 * page, page, -1, api.ErrArg},
		{16 * page, page, 8, api.ErrArg},
		{16 * page, page, math.MinInt, api.ErrArg},
		{16 * page, page, math.MaxInt, api.ErrArg},
		// One page in no area is enough, wherever it is in the range.
		{20 * page, page, 1, api.ErrNone},
		{19 * page, page + 1, 1, api.ErrNone},
		{29 * page, 2 * page, 1, api.ErrNone},
		{19 * page, 12 * page, 1, api.ErrNone},
		{16 * page, space, 1, api.ErrNone},
		{499 * page, 13 * page, 1, api.ErrNone},
		{20 * page, page, 3, api.ErrNone},
		// Where several errors apply: each is told ahead of the ones behind it.
		{1, 0, 8, api.ErrAlign},
		{20*page + 1, -1, 8, api.ErrAlign},
		{0, 0, 8, api.ErrZero},
		{20 * page, 0, -1, api.ErrZero},
		{20 * page, -1, 8, api.ErrRange},
		{15 * page, page, 8, api.ErrRange},
		{511 * page, 2 * page, -1, api.ErrRange},
		{20 * page, page, 8, api.ErrArg},
		{16 * page, space, -1, api.ErrArg},
	}
	for _, c := range tests {
		call := rest(api.Call{Addr: c.addr, Len: c.n, Prot: c.prot})
		got, a := protect.Protect(l, call)
		if a != (api.Answer{Err: c.e}) || !slices.Equal(got, l) {
			t.Errorf("%d of %d bytes at %d: %v, %v, want %d", c.prot, c.n, c.addr, a, got, c.e)
		}
	}
}

// Of all lists, with all that may be asked, and mustn't.
func TestProtect(t *testing.T) {
	for _, l := range lists() {
		x := tableOf(l)
		for _, addr := range addrs() {
			for _, n := range sizes() {
				for _, prot := range []int{math.MinInt, -1, 0, 1, 3, 7, 8, 1<<32 | 1} {
					c := api.Call{Addr: addr, Len: n, Prot: prot}
					want, b := x.protectOf(l, c)
					got, a := protect.Protect(l, c)
					holds(t, l, c, got, a, want, b)
				}
			}
		}
	}
}

func TestProtectOfAllProts(t *testing.T) {
	l := []api.Area{pages(16, 20, 3), backed(20, 22, 6, 1, 0), pages(511, 512, 0)}
	x := tableOf(l)
	for _, prot := range prots() {
		for p := int64(15); p < 24; p++ {
			for n := range int64(9) {
				c := api.Call{Addr: p * page, Len: n * page, Prot: prot}
				want, b := x.protectOf(l, c)
				got, a := protect.Protect(l, c)
				holds(t, l, c, got, a, want, b)
			}
		}
	}
}

func TestProtectsUpToTheMostAreas(t *testing.T) {
	full := append(many(22), pages(300, 301, 1), pages(301, 304, 3))
	tests := []struct {
		l    []api.Area
		c    api.Call
		want int // areas behind it; 0: too many
	}{
		{many(22), api.Call{Addr: 21 * page, Len: page, Prot: 3}, 24},
		{many(23), api.Call{Addr: 20 * page, Len: page, Prot: 3}, 24},
		{many(23), api.Call{Addr: 21 * page, Len: page, Prot: 3}, 0},
		{many(24), api.Call{Addr: 20 * page, Len: page, Prot: 3}, 0},
		{many(24), api.Call{Addr: 22 * page, Len: page, Prot: 0}, 0},
		{many(24), api.Call{Addr: 113 * page, Len: page, Prot: 7}, 0},
		{many(24), api.Call{Addr: 21 * page, Len: page, Prot: 1}, 24},
		{many(24), api.Call{Addr: 20 * page, Len: 3 * page, Prot: 3}, 24},
		// What is joined to its neighbour is none more, or one less.
		{full, api.Call{Addr: 301 * page, Len: page, Prot: 1}, 24},
		{full, api.Call{Addr: 301 * page, Len: 3 * page, Prot: 1}, 23},
		{full, api.Call{Addr: 300 * page, Len: 2 * page, Prot: 7}, 24},
		{full, api.Call{Addr: 302 * page, Len: page, Prot: 1}, 0},
	}
	for _, c := range tests {
		got, a := protect.Protect(c.l, c.c)
		if c.want == 0 && (a != (api.Answer{Err: api.ErrAreas}) || !slices.Equal(got, c.l)) {
			t.Errorf("%+v: %v, %v", c.c, a, got)
		}
		if c.want > 0 && (a != (api.Answer{}) || len(got) != c.want) {
			t.Errorf("%+v: %v, %v", c.c, a, got)
		}
	}
	// That a page is in no area is told ahead of how many areas there would be.
	for _, c := range []api.Call{{Addr: 22 * page, Len: 2 * page, Prot: 3}, {Addr: 21 * page, Len: 4 * page, Prot: 3}} {
		if got, a := protect.Protect(many(24), c); a != (api.Answer{Err: api.ErrNone}) || !slices.Equal(got, many(24)) {
			t.Error(a, got)
		}
	}
}

func TestFaultByHand(t *testing.T) {
	l := []api.Area{pages(16, 18, 3), shared(backed(18, 20, 5, 9, 4)), pages(20, 21, 0), backed(511, 512, 7, 1, api.MaxOff/page-1)}
	none, no := api.Answer{Err: api.ErrNone}, api.Answer{Err: api.ErrAccess}
	arg := api.Answer{Err: api.ErrArg}
	plain := api.Answer{Attr: api.Attr{Prot: 3}}
	third := api.Answer{Attr: api.Attr{Prot: 5, Shared: true, Back: 9, Off: 4 * page}}
	fourth := api.Answer{Attr: api.Attr{Prot: 5, Shared: true, Back: 9, Off: 5 * page}}
	final := api.Answer{Attr: api.Attr{Prot: 7, Back: 1, Off: api.MaxOff - page}}
	tests := []struct {
		addr int64
		want int
		a    api.Answer
	}{
		// A byte anywhere in the page.
		{16 * page, 1, plain}, {16*page + 1, 2, plain}, {18*page - 1, 3, plain},
		{18 * page, 1, third}, {18*page + 77, 4, third}, {19*page - 1, 5, third},
		{19 * page, 5, fourth}, {20*page - 1, 1, fourth},
		{511 * page, 7, final}, {512*page - 1, 6, final},
		// All that is wanted must be allowed.
		{16 * page, 4, no}, {17 * page, 5, no}, {17 * page, 7, no}, {18 * page, 2, no}, {19*page + 1, 3, no}, {19 * page, 6, no},
		{20 * page, 1, no}, {20*page + 5, 2, no}, {21*page - 1, 4, no}, {20 * page, 7, no},
		// Where no area is, and where none can be.
		{16*page - 1, 1, none}, {21 * page, 1, none}, {511*page - 1, 7, none}, {512 * page, 7, none},
		{0, 1, none}, {-1, 1, none}, {-16 * page, 1, none}, {math.MinInt64, 1, none}, {math.MaxInt64, 7, none}, {1<<32 | 16*page, 1, none},
		// What can't be wanted is told first, wherever it is.
		{16 * page, 0, arg}, {16 * page, -1, arg}, {16 * page, 8, arg}, {16 * page, 9, arg}, {511 * page, 15, arg},
		{16 * page, math.MinInt, arg}, {16 * page, math.MaxInt, arg}, {16 * page, 1<<32 | 1, arg},
		{20 * page, 0, arg}, {20 * page, 8, arg}, {0, 0, arg}, {21 * page, 8, arg}, {-1, -1, arg}, {math.MaxInt64, 0, arg},
	}
	for _, c := range tests {
		// Of a call nothing else is asked.
		call := rest(api.Call{Addr: c.addr, Len: -1, Prot: c.want})
		if a := protect.Fault(l, call); a != c.a {
			t.Errorf("%d at %d: %v, want %v", c.want, c.addr, a, c.a)
		}
	}
}

func TestFault(t *testing.T) {
	for _, l := range lists() {
		x := tableOf(l)
		for _, addr := range addrs() {
			for _, at := range []int64{addr, addr | 1, addr | (page - 1)} {
				for _, want := range prots() {
					c := api.Call{Addr: at, Prot: want}
					if a := protect.Fault(l, c); a != x.faultOf(c) {
						t.Fatalf("%+v of %v: %v, want %v", c, l, a, x.faultOf(c))
					}
				}
			}
		}
	}
}

func TestFaultOfAllProts(t *testing.T) {
	for prot := range 8 {
		l := []api.Area{backed(30, 32, prot, 2, 1)}
		x := tableOf(l)
		for _, want := range prots() {
			for _, addr := range []int64{30*page - 1, 30 * page, 31*page + 3, 32*page - 1, 32 * page} {
				c := api.Call{Addr: addr, Prot: want}
				if a := protect.Fault(l, c); a != x.faultOf(c) {
					t.Errorf("%+v of %v: %v, want %v", c, l, a, x.faultOf(c))
				}
			}
		}
	}
}

// A list that isn't right, or has too many areas, is asked ahead of all else.
func TestListsThatAreNotRight(t *testing.T) {
	asked := []api.Call{
		{}, {Addr: 16 * page, Len: page, Prot: 1}, {Addr: 17 * page, Len: page, Prot: 3}, {Addr: 20 * page, Len: page, Prot: 1},
		{Addr: 20 * page, Len: 0, Prot: 1}, {Addr: 21 * page, Len: -1, Prot: 1}, {Addr: 20*page + 1, Len: page, Prot: 1},
		{Addr: 300 * page, Len: page, Prot: 1}, {Addr: 16 * page, Len: space, Prot: 2}, {Addr: 1, Len: 0, Prot: 8}, {Addr: 16 * page, Prot: 8},
	}
	for _, l := range wrong() {
		for _, c := range asked {
			if got, a := protect.Protect(l, c); a != (api.Answer{Err: api.ErrArg}) || !slices.Equal(got, l) {
				t.Errorf("%+v of %v: %v, %v", c, l, a, got)
			}
			if a := protect.Fault(l, c); a != (api.Answer{Err: api.ErrArg}) {
				t.Errorf("%+v of %v: %v", c, l, a)
			}
		}
	}
}

// What follows: what was protected allows just that, and all other pages what they
// did; what else a page has stays.
func TestWhatWasProtectedAllowsJustThat(t *testing.T) {
	l := []api.Area{pages(16, 19, 3), shared(backed(19, 21, 0, 9, 4)), pages(21, 23, 7), backed(25, 27, 5, 1, 0)}
	done := 0
	for prot := range 8 {
		for p := int64(16); p < 28; p++ {
			for n := int64(1); n < 12; n++ {
				now, a := protect.Protect(l, api.Call{Addr: p * page, Len: n*page - 1, Prot: prot})
				if a.Err != api.OK {
					continue
				}
				done++
				allowsJust(t, l, now, p, n, prot)
			}
		}
	}
	if done != 8*(28+3) {
		t.Error(done)
	}
}

// allowsJust holds the faults at n pages from p on against prot, and all others
// against what they were.
func allowsJust(t *testing.T, was, now []api.Area, p, n int64, prot int) {
	t.Helper()
	x := tableOf(was)
	for q := int64(15); q < 29; q++ {
		for want := 1; want < 8; want++ {
			c := api.Call{Addr: q*page + 9, Prot: want}
			a, b := protect.Fault(now, c), protect.Fault(was, c)
			if p <= q && q < p+n {
				at := x[q].attr
				at.Prot = prot
				b = api.Answer{Attr: at}
				if prot&want != want {
					b = api.Answer{Err: api.ErrAccess}
				}
			}
			if a != b {
				t.Fatalf("%d at %d pages from %d on: a fault of %d at %d: %v, want %v", prot, n, p, want, q, a, b)
			}
		}
	}
}

// Calls one behind the other come to what a table of pages comes to, and meet all
// errors of the chapter on their way.
func TestOneBehindTheOther(t *testing.T) {
	var l []api.Area
	met, faults := map[api.Errno]int{}, map[api.Errno]int{}
	n := int64(1)
	next := func(below int64) int64 {
		n = n * 48271 % (1<<31 - 1)
		return n % below
	}
	for range 30000 {
		c := api.Call{Addr: (15 + next(60)) * page, Len: next(4*page + 1), Prot: int(next(8)), Back: int(next(2))}
		switch next(60) {
		case 0:
			c.Addr++
		case 1:
			c.Len = next(space)
		case 2:
			c.Prot = int(next(100)) - 50
		case 3:
			c.Len = 0
		}
		if next(5) == 0 { // so that there is something to protect
			c.Flags, c.Off = mapping.Fixed, int64(c.Back)*c.Addr
			l, _ = mapping.Map(l, c)
			continue
		}
		x := tableOf(l)
		want, b := x.protectOf(l, c)
		got, a := protect.Protect(l, c)
		holds(t, l, c, got, a, want, b)
		met[a.Err]++
		l = got

		x = tableOf(l)
		c = api.Call{Addr: 15*page + next(65*page), Prot: int(next(9))}
		a = protect.Fault(l, c)
		if a != x.faultOf(c) {
			t.Fatalf("%+v of %v: %v, want %v", c, l, a, x.faultOf(c))
		}
		faults[a.Err]++
	}
	for _, e := range []api.Errno{api.OK, api.ErrArg, api.ErrAlign, api.ErrZero, api.ErrRange, api.ErrNone, api.ErrAreas} {
		if met[e] == 0 {
			t.Errorf("%d wasn't met: %v", e, met)
		}
	}
	for _, e := range []api.Errno{api.OK, api.ErrArg, api.ErrNone, api.ErrAccess} {
		if faults[e] == 0 {
			t.Errorf("%d wasn't met by a fault: %v", e, faults)
		}
	}
}

// What is handed in is left as it is, its spare room too, and what is answered is
// new: a list that came beside an error no less than one that was changed.
func TestListsAreNewAndArgumentsStay(t *testing.T) {
	asked := []api.Call{
		{}, {Addr: 100 * page, Len: page, Prot: 1}, {Addr: 101 * page, Len: page, Prot: 5}, {Addr: 100 * page, Len: 3 * page, Prot: 3},
		{Addr: 100 * page, Len: page, Prot: 9}, {Addr: 100*page + 1, Len: page}, {Addr: 21 * page, Len: 1, Prot: 3},
		{Addr: 16 * page, Len: space, Prot: 7}, {Addr: 300 * page, Len: 1, Prot: 2}, {Addr: 511 * page, Len: 1, Prot: 1},
	}
	for _, l := range slices.Concat(lists(), wrong()) {
		in, same := guarded(l)
		for _, c := range asked {
			got, _ := protect.Protect(in, c)
			protect.Fault(in, c)
			got = got[:cap(got)]
			for i := range got {
				got[i] = api.Area{Start: 99}
			}
			if !same() {
				t.Fatalf("%+v of %v: changed", c, l)
			}
		}
	}
}

func TestExample(t *testing.T) {
	l := []api.Area{pages(30, 33, 3)}
	got, a := protect.Protect(l, api.Call{Addr: 31 * page, Len: page, Prot: 1})
	if a != (api.Answer{}) || !slices.Equal(got, []api.Area{pages(30, 31, 3), pages(31, 32, 1), pages(32, 33, 3)}) {
		t.Error(a, got)
	}
	for _, none := range [][]api.Area{nil, {}} {
		got, a := protect.Protect(none, api.Call{Addr: 31 * page, Len: page, Prot: 1})
		if a != (api.Answer{Err: api.ErrNone}) || len(got) != 0 {
			t.Error(a, got)
		}
		if a := protect.Fault(none, api.Call{Addr: 31 * page, Prot: 1}); a != (api.Answer{Err: api.ErrNone}) {
			t.Error(a)
		}
	}
}
