package remap_test

import (
	"math"
	"slices"
	"testing"

	"samara/api"
	"samara/list"
	"samara/mapping"
	"samara/remap"
)

const (
	page  = api.Page
	first = api.Least / page
	last  = api.Most / page
	space = api.Most - api.Least
	ends  = api.MaxOff / page

	fixed = 1
	may   = 16
	keep  = 32
)

// pages answers an area from one page to ahead of another one, of no backing.
func pages(lo, hi int64, prot int) api.Area {
	return api.Area{Start: lo * page, End: hi * page, Prot: prot}
}

// backed answers such an area of a backing, from a page of it on.
func backed(lo, hi int64, prot, back int, off int64) api.Area {
	a := pages(lo, hi, prot)
	a.Back, a.Off = back, off*page
	return a
}

// shared answers an area that is.
func shared(a api.Area) api.Area {
	a.Shared = true
	return a
}

// many answers n areas of three pages each, from page 20 on, with a page between.
func many(n int64) []api.Area {
	var l []api.Area
	for i := range n {
		l = append(l, pages(20+4*i, 23+4*i, 1))
	}
	return l
}

// sample answers areas of all kinds, beside one another and not.
func sample() []api.Area {
	return []api.Area{pages(16, 20, 3), backed(20, 24, 1, 4, 7), shared(backed(30, 34, 5, 2, 0)), pages(100, 101, 3)}
}

// cell is what a page of the space has.
type cell struct {
	has  bool
	attr api.Attr
}

// behind answers what a page has that stands n pages behind one in the same area.
func (x cell) behind(n int64) cell {
	if x.attr.Back != 0 {
		x.attr.Off += n * page
	}
	return x
}

// table is what each page of the space has: the plainest way to say what a list
// is, against which all answers are held.
type table [last + 1]cell

// fill lets n pages from p on be an area's that begins with such a page.
func (x *table) fill(p, n int64, begin cell) {
	for i := range n {
		x[p+i] = begin.behind(i)
	}
}

// tableOf tells a list's pages.
func tableOf(l []api.Area) *table {
	var x table
	for _, a := range l {
		begin := cell{true, api.Attr{Prot: a.Prot, Shared: a.Shared, Back: a.Back, Off: a.Off}}
		x.fill(a.Start/page, (a.End-a.Start)/page, begin)
	}
	return &x
}

// one tells whether n pages from p on are in one area.
func (x *table) one(p, n int64) bool {
	for q := p + 1; q < p+n; q++ {
		if x[q] != x[q-1].behind(1) {
			return false
		}
	}
	return x[p].has
}

// list answers the one right list whose pages are the table's.
func (x *table) list() []api.Area {
	var l []api.Area
	for p := int64(first); p < last; p++ {
		if !x[p].has {
			continue
		}
		if x.one(p-1, 2) {
			l[len(l)-1].End += page
			continue
		}
		at := x[p].attr
		l = append(l, api.Area{
			Start: p * page, End: p*page + page,
			Prot: at.Prot, Shared: at.Shared, Back: at.Back, Off: at.Off,
		})
	}
	return l
}

// free tells whether n pages from p on are in the space, and in no area.
func (x *table) free(p, n int64) bool {
	if p < first || p > last-n {
		return false
	}
	for q := p; q < p+n; q++ {
		if x[q].has {
			return false
		}
	}
	return true
}

// pagesOf answers how many pages n bytes touch, or what is wrong with them.
func pagesOf(n int64) (int64, api.Errno) {
	if n == 0 {
		return 0, api.ErrZero
	}
	for p := int64(1); n > 0 && p <= last-first; p++ {
		if n <= p*page {
			return p, api.OK
		}
	}
	return 0, api.ErrRange
}

// rangeOf answers a range's first page and how many it has, or what is wrong.
func rangeOf(addr, n int64) (int64, int64, api.Errno) {
	if addr&(page-1) != 0 {
		return 0, 0, api.ErrAlign
	}
	have, e := pagesOf(n)
	if e != api.OK {
		return 0, 0, e
	}
	if p := addr / page; p >= first && p <= last-have {
		return p, have, api.OK
	}
	return 0, 0, api.ErrRange
}

// remapOf says what Remap must answer of a list that is right, and whose table is
// x.
func (x *table) remapOf(l []api.Area, c api.Call) ([]api.Area, api.Answer) {
	y := *x
	p, e := y.remap(c)
	now := y.list()
	if e == api.OK && len(now) >= 25 {
		e = api.ErrAreas
	}
	if e != api.OK {
		return l, api.Answer{Err: e}
	}
	return now, api.Answer{Value: p * page}
}

// remap does to the pages what c asks for, and answers where they are then.
func (x *table) remap(c api.Call) (int64, api.Errno) {
	if !slices.Contains([]int{0, may, may | fixed, may | keep, may | fixed | keep}, c.Flags) {
		return 0, api.ErrArg
	}
	p, n, e := rangeOf(c.Addr, c.Len)
	if e != api.OK {
		return 0, e
	}
	m, e := pagesOf(c.New)
	if e != api.OK {
		return 0, e
	}
	stays := c.Flags&keep != 0
	if stays && m != n {
		return 0, api.ErrArg
	}
	if !x.one(p, n) {
		return 0, api.ErrNone
	}
	if c.Flags&fixed != 0 {
		q, _, e := rangeOf(c.To, c.New)
		if e != api.OK {
			return 0, e
		}
		for r := q; r < q+m; r++ {
			if p <= r && r < p+n {
				return 0, api.ErrArg
			}
		}
		if x.beyond(p, m) {
			return 0, api.ErrRange
		}
		return x.move(p, n, q, m, stays)
	}
	if stays {
		return x.move(p, n, x.place(m), m, true)
	}
	return x.resize(p, n, m, c.Flags == may)
}

// resize does what is asked without a place.
func (x *table) resize(p, n, m int64, moves bool) (int64, api.Errno) {
	if m <= n {
		x.fill(p+m, n-m, cell{})
		return p, api.OK
	}
	if x.beyond(p, m) {
		return 0, api.ErrRange
	}
	if !x.one(p+n-1, 2) && x.free(p+n, m-n) {
		x.fill(p, m, x[p])
		return p, api.OK
	}
	if !moves {
		return 0, api.ErrSpace
	}
	return x.move(p, n, x.place(m), m, false)
}

// beyond tells whether m pages from p on would end behind what a backing may have.
func (x *table) beyond(p, m int64) bool {
	return x[p].attr.Back != 0 && x[p].attr.Off/page+m > ends
}

// place answers the highest page from which on m pages are free, or 0.
func (x *table) place(m int64) int64 {
	for p := int64(last); p >= first; p-- {
		if x.free(p, m) {
			return p
		}
	}
	return 0
}

// move moves n pages from p on to q, if that isn't 0, so that they are m.
func (x *table) move(p, n, q, m int64, stays bool) (int64, api.Errno) {
	if q == 0 {
		return 0, api.ErrSpace
	}
	begin := x[p]
	if !stays {
		x.fill(p, n, cell{})
	}
	x.fill(q, m, begin)
	return q, api.OK
}

// lists are right ones: all of three pages at both ends of the space and between,
// each in no area or in one of two kinds, with what is beyond them in areas or in
// none; such that have nearly as many areas as may be, and the sample.
func lists() [][]api.Area {
	all := [][]api.Area{nil, {}, many(22), many(23), many(24), sample(), {pages(first, last, 3)}}
	for _, base := range bases() {
		for _, full := range []bool{true, false} {
			all = append(all, small(base, full)...)
		}
	}
	return all
}

// bases are the pages at which the small lists begin.
func bases() []int64 {
	return []int64{first, 100, last - 3}
}

// small are all lists of three pages from base on.
func small(base int64, full bool) [][]api.Area {
	var x table
	if full {
		x.fill(first, base-first, cell{true, api.Attr{Prot: 7}})
		x.fill(base+3, last-base-3, cell{true, api.Attr{Prot: 7}})
	}
	all := []table{x}
	for p := base; p < base+3; p++ {
		for _, x := range slices.Clone(all) {
			for _, at := range []api.Attr{{Prot: 7}, {Prot: 1, Shared: true, Back: 9, Off: p * page}} {
				x[p] = cell{true, at}
				all = append(all, x)
			}
		}
	}
	var lists [][]api.Area
	for i := range all {
		lists = append(lists, all[i].list())
	}
	return lists
}

// asks are calls of a few pages from around base on, of all ways.
func asks(base int64) []api.Call {
	var l []api.Call
	for p := base - 1; p < base+4; p++ {
		for n := int64(1); n <= 3; n++ {
			for m := int64(1); m <= 4; m++ {
				c := api.Call{Addr: p * page, Len: n * page, New: m*page - 1, To: 5}
				for _, c.Flags = range []int{0, may, may | keep} {
					l = append(l, c)
				}
				for _, to := range []int64{base - 2, base - 1, base, base + 1, base + 2, base + 3, 50} {
					c.To = to * page
					for _, c.Flags = range []int{may | fixed, may | fixed | keep} {
						l = append(l, c)
					}
				}
			}
		}
	}
	return l
}

// wrong are lists that aren't right, by one thing each, or have too many areas.
func wrong() [][]api.Area {
	return [][]api.Area{
		{{}},
		{pages(20, 20, 1)},
		{pages(15, 17, 1)},
		{pages(511, 513, 1)},
		{pages(16, 18, 8)},
		{pages(16, 18, -1)},
		{pages(16, 18, 1), pages(18, 20, 1)},
		{pages(16, 19, 1), pages(18, 20, 3)},
		{pages(18, 20, 1), pages(16, 18, 3)},
		{pages(16, 18, 1), {}},
		{backed(16, 18, 1, 1, 0), backed(18, 20, 1, 1, 2)},
		{backed(16, 18, 1, 10, 0)},
		{backed(16, 18, 1, 0, 1)},
		{backed(16, 18, 1, 1, ends-1)},
		{{Start: 16*page + 1, End: 18 * page, Prot: 1}},
		{{Start: math.MinInt64, End: math.MaxInt64, Prot: 1}},
		many(25), many(26), many(100),
	}
}

// rest gives a call all that a remap doesn't ask, as wrong as can be.
func rest(c api.Call) api.Call {
	c.Kind, c.Prot, c.Back, c.Off = -3, 99, 99, 7
	return c
}

// guarded answers a copy of a list with spare room, and a function that tells
// whether list and room are still as they were.
func guarded(l []api.Area) ([]api.Area, func() bool) {
	whole := slices.Clone(l)
	for range 4 {
		whole = append(whole, api.Area{Start: -7, End: -7, Prot: -7})
	}
	was := slices.Clone(whole)
	return whole[:len(l)], func() bool { return slices.Equal(whole, was) }
}

// holds holds what a remap answers against what it must.
func holds(t *testing.T, x *table, l []api.Area, c api.Call) ([]api.Area, api.Answer) {
	t.Helper()
	want, b := x.remapOf(l, c)
	got, a := remap.Remap(l, c)
	if a != b || !slices.Equal(got, want) {
		t.Fatalf("%+v of %v: %v, %v, want %v, %v", c, l, a, got, b, want)
	}
	if !list.Right(got) || len(got) > 24 {
		t.Fatalf("%+v of %v: %v isn't right", c, l, got)
	}
	return got, a
}

// refuses holds a remap against an error, beside which the list is as it came.
func refuses(t *testing.T, l []api.Area, c api.Call, e api.Errno) {
	t.Helper()
	got, a := remap.Remap(l, c)
	if a != (api.Answer{Err: e}) || !slices.Equal(got, l) {
		t.Errorf("%+v of %v: %v, %v, want %d", c, l, a, got, e)
	}
}

func TestFlagsAreTheChapters(t *testing.T) {
	if remap.MayMove != 16 || remap.DontUnmap != 32 {
		t.Error(remap.MayMove, remap.DontUnmap)
	}
}

// hand is a remap of the sample, in pages, and what it comes to.
type hand struct {
	at, n, m int64
	flags    int
	to       int64
	value    int64
	want     []api.Area
}

// byHand holds remaps of the sample against what they come to.
func byHand(t *testing.T, tests []hand) {
	t.Helper()
	for _, x := range tests {
		c := rest(api.Call{Addr: x.at * page, Len: x.n * page, New: x.m*page - 1, Flags: x.flags, To: x.to * page})
		got, a := remap.Remap(sample(), c)
		if a != (api.Answer{Value: x.value * page}) || !slices.Equal(got, x.want) {
			t.Errorf("%+v: %v, %v", x, a, got)
		}
	}
}

func TestShrinksByHand(t *testing.T) {
	s := sample()
	byHand(t, []hand{
		{16, 4, 2, 0, 0, 16, []api.Area{pages(16, 18, 3), s[1], s[2], s[3]}},
		{16, 4, 2, may, 0, 16, []api.Area{pages(16, 18, 3), s[1], s[2], s[3]}},
		{17, 3, 1, 0, 0, 17, []api.Area{pages(16, 18, 3), s[1], s[2], s[3]}},
		// Not at its area's end: what stands behind the old range stays.
		{17, 2, 1, 0, 0, 17, []api.Area{pages(16, 18, 3), pages(19, 20, 3), s[1], s[2], s[3]}},
		{21, 2, 1, may, 0, 21, []api.Area{s[0], backed(20, 22, 1, 4, 7), backed(23, 24, 1, 4, 10), s[2], s[3]}},
		{30, 3, 1, 0, 0, 30, []api.Area{s[0], s[1], shared(backed(30, 31, 5, 2, 0)), shared(backed(33, 34, 5, 2, 3)), s[3]}},
		// As long as it is, it stays as it is. The place isn't asked unless it is fixed.
		{16, 4, 4, 0, 0, 16, s},
		{17, 2, 2, may, 0, 17, s},
		{17, 2, 2, may, 200, 17, s},
		{100, 1, 1, 0, -1, 100, s},
	})
}

func TestGrowsInPlaceByHand(t *testing.T) {
	s := sample()
	byHand(t, []hand{
		{20, 4, 6, 0, 0, 20, []api.Area{s[0], backed(20, 26, 1, 4, 7), s[2], s[3]}},
		{20, 4, 6, may, 0, 20, []api.Area{s[0], backed(20, 26, 1, 4, 7), s[2], s[3]}},
		{20, 4, 6, may, 200, 20, []api.Area{s[0], backed(20, 26, 1, 4, 7), s[2], s[3]}},
		// The area is that much longer, of which the old range is but the end.
		{23, 1, 2, 0, 0, 23, []api.Area{s[0], backed(20, 25, 1, 4, 7), s[2], s[3]}},
		{32, 2, 4, may, 0, 32, []api.Area{s[0], s[1], shared(backed(30, 36, 5, 2, 0)), s[3]}},
		// Up to what is there next, and to the space's end.
		{20, 4, 10, 0, 0, 20, []api.Area{s[0], backed(20, 30, 1, 4, 7), s[2], s[3]}},
		{100, 1, 412, 0, 0, 100, []api.Area{s[0], s[1], s[2], pages(100, 512, 3)}},
		{30, 4, 70, may, 0, 30, []api.Area{s[0], s[1], shared(backed(30, 100, 5, 2, 0)), s[3]}},
	})
}

func TestMovesByHand(t *testing.T) {
	s := sample()
	byHand(t, []hand{
		// What stands behind is taken: the whole area, its begin, its middle, its end.
		{16, 4, 5, may, 0, 507, []api.Area{s[1], s[2], s[3], pages(507, 512, 3)}},
		{16, 1, 2, may, 0, 510, []api.Area{pages(17, 20, 3), s[1], s[2], s[3], pages(510, 512, 3)}},
		{17, 2, 3, may, 0, 509, []api.Area{pages(16, 17, 3), pages(19, 20, 3), s[1], s[2], s[3], pages(509, 512, 3)}},
		{19, 1, 2, may, 0, 510, []api.Area{pages(16, 19, 3), s[1], s[2], s[3], pages(510, 512, 3)}},
		{22, 1, 2, may, 20, 510, []api.Area{s[0], backed(20, 22, 1, 4, 7), backed(23, 24, 1, 4, 10), s[2], s[3], backed(510, 512, 1, 4, 9)}},
		{20, 4, 11, may, 0, 501, []api.Area{s[0], s[2], s[3], backed(501, 512, 1, 4, 7)}},
		{31, 3, 410, may, 0, 102, []api.Area{s[0], s[1], shared(backed(30, 31, 5, 2, 0)), s[3], shared(backed(102, 512, 5, 2, 1))}},
		// A place that is fixed: as long, longer, shorter, and in place of what is there.
		{16, 4, 4, may | fixed, 200, 200, []api.Area{s[1], s[2], s[3], pages(200, 204, 3)}},
		{20, 2, 3, may | fixed, 40, 40, []api.Area{s[0], backed(22, 24, 1, 4, 9), s[2], backed(40, 43, 1, 4, 7), s[3]}},
		{21, 2, 1, may | fixed, 40, 40, []api.Area{s[0], backed(20, 21, 1, 4, 7), backed(23, 24, 1, 4, 10), s[2], backed(40, 41, 1, 4, 8), s[3]}},
		{100, 1, 1, may | fixed, 21, 21, []api.Area{s[0], backed(20, 21, 1, 4, 7), pages(21, 22, 3), backed(22, 24, 1, 4, 9), s[2]}},
		{33, 1, 2, may | fixed, 510, 510, []api.Area{s[0], s[1], shared(backed(30, 33, 5, 2, 0)), s[3], shared(backed(510, 512, 5, 2, 3))}},
		{100, 1, 84, may | fixed, 16, 16, []api.Area{pages(16, 100, 3)}},
		{16, 1, 495, may | fixed, 17, 17, []api.Area{pages(17, 512, 3)}},
		// Beside the old range isn't on it; what is alike is joined, with what stays of it too.
		{16, 2, 2, may | fixed, 18, 18, []api.Area{pages(18, 20, 3), s[1], s[2], s[3]}},
		{18, 2, 2, may | fixed, 16, 16, []api.Area{pages(16, 18, 3), s[1], s[2], s[3]}},
		{22, 2, 2, may | fixed, 20, 20, []api.Area{s[0], backed(20, 22, 1, 4, 9), s[2], s[3]}},
		{18, 2, 1, may | fixed, 101, 101, []api.Area{pages(16, 18, 3), s[1], s[2], pages(100, 102, 3)}},
		{20, 2, 2, may | fixed, 24, 24, []api.Area{s[0], backed(22, 24, 1, 4, 9), backed(24, 26, 1, 4, 7), s[2], s[3]}},
	})
}

func TestMovesThatLeaveTheOldRangeByHand(t *testing.T) {
	s := sample()
	byHand(t, []hand{
		{16, 4, 4, may | keep, 0, 508, []api.Area{s[0], s[1], s[2], s[3], pages(508, 512, 3)}},
		{21, 2, 2, may | keep, 0, 510, []api.Area{s[0], s[1], s[2], s[3], backed(510, 512, 1, 4, 8)}},
		{33, 1, 1, may | keep, 5, 511, []api.Area{s[0], s[1], s[2], s[3], shared(backed(511, 512, 5, 2, 3))}},
		{100, 1, 1, may | keep, 200, 511, []api.Area{s[0], s[1], s[2], s[3], pages(511, 512, 3)}},
		// A place that is fixed goes ahead of that.
		{16, 4, 4, may | keep | fixed, 200, 200, []api.Area{s[0], s[1], s[2], s[3], pages(200, 204, 3)}},
		{21, 2, 2, may | keep | fixed, 30, 30, []api.Area{s[0], s[1], backed(30, 32, 1, 4, 8), shared(backed(32, 34, 5, 2, 2)), s[3]}},
		{100, 1, 1, may | keep | fixed, 101, 101, []api.Area{s[0], s[1], s[2], pages(100, 102, 3)}},
		{16, 2, 2, may | keep | fixed, 18, 18, s},
		{20, 2, 2, may | keep | fixed, 22, 22, []api.Area{s[0], backed(20, 22, 1, 4, 7), backed(22, 24, 1, 4, 7), s[2], s[3]}},
	})
}

// What is grown, or moved, is joined with what it goes on in, and what goes on in
// it, at once.
func TestWhatComesTogetherIsJoined(t *testing.T) {
	tests := []struct {
		l     []api.Area
		c     api.Call
		value int64
		want  []api.Area
	}{
		{[]api.Area{pages(30, 32, 3), pages(33, 35, 3)},
			api.Call{Addr: 31 * page, Len: page, New: 2 * page}, 31, []api.Area{pages(30, 35, 3)}},
		{[]api.Area{backed(30, 32, 3, 1, 5), backed(33, 35, 3, 1, 8)},
			api.Call{Addr: 30 * page, Len: 2 * page, New: 3 * page}, 30, []api.Area{backed(30, 35, 3, 1, 5)}},
		{[]api.Area{backed(30, 32, 3, 1, 5), backed(33, 35, 3, 1, 9)},
			api.Call{Addr: 30 * page, Len: 2 * page, New: 3 * page}, 30, []api.Area{backed(30, 33, 3, 1, 5), backed(33, 35, 3, 1, 9)}},
		{[]api.Area{pages(30, 32, 3), pages(511, 512, 3)},
			api.Call{Addr: 30 * page, Len: page, New: page, Flags: may | keep}, 510, []api.Area{pages(30, 32, 3), pages(510, 512, 3)}},
		{[]api.Area{pages(30, 32, 3), pages(40, 511, 3)},
			api.Call{Addr: 30 * page, Len: page, New: page, Flags: may | keep}, 511, []api.Area{pages(30, 32, 3), pages(40, 512, 3)}},
		{[]api.Area{pages(30, 31, 3), pages(40, 42, 3), pages(43, 45, 3)},
			api.Call{Addr: 30 * page, Len: page, New: page, Flags: may | fixed, To: 42 * page}, 42, []api.Area{pages(40, 45, 3)}},
		{[]api.Area{backed(30, 32, 3, 1, 5), backed(40, 42, 3, 1, 7)},
			api.Call{Addr: 30 * page, Len: 2 * page, New: 2 * page, Flags: may | fixed, To: 38 * page}, 38, []api.Area{backed(38, 42, 3, 1, 5)}},
		// A range that was taken back to where it belongs.
		{[]api.Area{backed(30, 31, 3, 1, 5), backed(32, 34, 3, 1, 7), backed(60, 61, 3, 1, 6)},
			api.Call{Addr: 60 * page, Len: page, New: page, Flags: may | fixed, To: 31 * page}, 31, []api.Area{backed(30, 34, 3, 1, 5)}},
	}
	for _, x := range tests {
		got, a := remap.Remap(x.l, x.c)
		if a != (api.Answer{Value: x.value * page}) || !slices.Equal(got, x.want) {
			t.Errorf("%+v of %v: %v, %v", x.c, x.l, a, got)
		}
	}
}

// A place is asked of the list that came, in which the old range is still there.
func TestTheOldRangeIsNoRoom(t *testing.T) {
	l := []api.Area{pages(511, 512, 3)}
	got, a := remap.Remap(l, api.Call{Addr: 511 * page, Len: page, New: 2 * page, Flags: may})
	if a != (api.Answer{Value: 509 * page}) || !slices.Equal(got, []api.Area{pages(509, 511, 3)}) {
		t.Error(a, got)
	}
	l = []api.Area{pages(17, 20, 3), pages(20, 512, 1)}
	refuses(t, l, api.Call{Addr: 17 * page, Len: 3 * page, New: 4 * page, Flags: may}, api.ErrSpace)
	refuses(t, []api.Area{pages(16, 512, 3)}, api.Call{Addr: 16 * page, Len: page, New: page, Flags: may | keep}, api.ErrSpace)
}

// Each question of those that all ways are asked, in which case what stands behind
// it may be wrong too.
func TestRemapsThatAreRefused(t *testing.T) {
	tests := []struct {
		addr, n, m int64
		flags      int
		to         int64
		e          api.Errno
	}{
		// Flags that are none, and such that need another one.
		{16 * page, page, page, 2, 0, api.ErrArg},
		{16 * page, page, page, may | 2, 0, api.ErrArg},
		{16 * page, page, page, may | 4, 0, api.ErrArg},
		{16 * page, page, page, may | 8, 0, api.ErrArg},
		{16 * page, page, page, may | 64, 0, api.ErrArg},
		{16 * page, page, page, 1<<40 | may, 0, api.ErrArg},
		{16 * page, page, page, -1, 0, api.ErrArg},
		{16 * page, page, page, math.MinInt, 0, api.ErrArg},
		{16 * page, page, page, math.MinInt | may, 0, api.ErrArg},
		{16 * page, page, page, math.MaxInt, 0, api.ErrArg},
		{1, 0, 0, 64, 0, api.ErrArg},
		{16 * page, page, page, fixed, 200 * page, api.ErrArg},
		{16 * page, page, page, keep, 0, api.ErrArg},
		{16 * page, page, page, fixed | keep, 200 * page, api.ErrArg},
		{1, 0, 0, fixed, 1, api.ErrArg},
		{16 * page, 0, 0, keep, 0, api.ErrArg},
		// The old range.
		{16*page + 1, page, page, 0, 0, api.ErrAlign},
		{16*page + 1, 0, 0, may, 0, api.ErrAlign},
		{16 * page, 0, page, 0, 0, api.ErrZero},
		{16 * page, 0, -1, may, 0, api.ErrZero},
		{16 * page, -1, page, 0, 0, api.ErrRange},
		{16 * page, -1, 0, may | keep, 0, api.ErrRange},
		{16 * page, space + 1, page, 0, 0, api.ErrRange},
		{15 * page, page, page, 0, 0, api.ErrRange},
		{15 * page, page, 0, 0, 0, api.ErrRange},
		{511 * page, page + 1, page, 0, 0, api.ErrRange},
		{512 * page, page, page, 0, 0, api.ErrRange},
		{math.MaxInt64 - 4095, page, page, 0, 0, api.ErrRange},
		{math.MinInt64, page, page, 0, 0, api.ErrRange},
		{16 * page, math.MaxInt64, page, 0, 0, api.ErrRange},
		// The new size.
		{16 * page, page, 0, 0, 0, api.ErrZero},
		{16 * page, page, 0, may | keep, 0, api.ErrZero},
		{24 * page, page, 0, may | fixed, 1, api.ErrZero},
		{16 * page, page, -1, 0, 0, api.ErrRange},
		{16 * page, page, space + 1, 0, 0, api.ErrRange},
		{16 * page, page, space + 1, may | keep, 0, api.ErrRange},
		{24 * page, page, math.MaxInt64, may, 0, api.ErrRange},
		{16 * page, page, math.MinInt64, may, 0, api.ErrRange},
		// What stays must be as long.
		{16 * page, page, page + 1, may | keep, 0, api.ErrArg},
		{16 * page, 2 * page, page, may | keep, 0, api.ErrArg},
		{24 * page, 2 * page, page, may | keep, 0, api.ErrArg},
		{16 * page, page, 2 * page, may | keep | fixed, 1, api.ErrArg},
		// No one area has the whole old range.
		{24 * page, page, page, 0, 0, api.ErrNone},
		{99 * page, 2 * page, page, 0, 0, api.ErrNone},
		{19 * page, page + 1, page, 0, 0, api.ErrNone},
		{23 * page, page + 1, space, may, 0, api.ErrNone},
		{16 * page, space, page, may, 0, api.ErrNone},
		{101 * page, page, page, may | keep, 0, api.ErrNone},
		{101 * page, page, page, may | fixed, 1, api.ErrNone},
		{101 * page, page, page, may | fixed, 101 * page, api.ErrNone},
		{511 * page, 1, 1, 0, 0, api.ErrNone},
	}
	for _, x := range tests {
		c := rest(api.Call{Addr: x.addr, Len: x.n, New: x.m, Flags: x.flags, To: x.to})
		refuses(t, sample(), c, x.e)
	}
}

// What the ways ask each for itself, first of a place that is fixed.
func TestWaysThatAreRefused(t *testing.T) {
	tests := []struct {
		at, n, m int64
		flags    int
		to       int64
		e        api.Errno
	}{
		{16, 1, 1, may | fixed, 1, api.ErrAlign},
		{16, 1, 1, may | fixed, 16*page + 1, api.ErrAlign},
		{16, 1, 1, may | fixed, 0, api.ErrRange},
		{16, 1, 1, may | fixed | keep, 15 * page, api.ErrRange},
		{16, 1, 2, may | fixed, 15 * page, api.ErrRange},
		{16, 1, 2, may | fixed, 511 * page, api.ErrRange},
		{16, 1, 1, may | fixed, 512 * page, api.ErrRange},
		{16, 1, 1, may | fixed, -16 * page, api.ErrRange},
		{16, 1, 1, may | fixed, math.MinInt64, api.ErrRange},
		{16, 1, 1, may | fixed, math.MaxInt64 - 4095, api.ErrRange},
		{16, 1, 1, may | fixed, math.MaxInt64, api.ErrAlign},
		{16, 1, 496, may | fixed, 17 * page, api.ErrRange},
		// On the old range: at its begin, its end, in it, around it.
		{16, 1, 1, may | fixed, 16 * page, api.ErrArg},
		{16, 1, 1, may | fixed | keep, 16 * page, api.ErrArg},
		{17, 3, 2, may | fixed, 16 * page, api.ErrArg},
		{17, 3, 5, may | fixed, 19 * page, api.ErrArg},
		{16, 4, 1, may | fixed, 17 * page, api.ErrArg},
		{16, 4, 4, may | fixed | keep, 19 * page, api.ErrArg},
		{100, 1, 85, may | fixed, 16 * page, api.ErrArg},
		{16, 1, 496, may | fixed, 16 * page, api.ErrArg},
		// No room behind, or the area doesn't end there, and nowhere else.
		{16, 4, 5, 0, 0, api.ErrSpace},
		{16, 1, 2, 0, 200 * page, api.ErrSpace},
		{20, 4, 11, 0, 0, api.ErrSpace},
		{22, 1, 2, 0, 0, api.ErrSpace},
		{100, 1, 413, 0, 0, api.ErrSpace},
		{100, 1, 413, may, 0, api.ErrSpace},
		{16, 4, 412, may, 200 * page, api.ErrSpace},
		{30, 4, 496, may, 0, api.ErrSpace},
	}
	for _, x := range tests {
		c := rest(api.Call{Addr: x.at * page, Len: x.n*page - 1, New: x.m * page, Flags: x.flags, To: x.to})
		refuses(t, sample(), c, x.e)
	}
}

// The last page of a backing is the end of what may grow, wherever it goes.
func TestOffsetsUpToTheEnd(t *testing.T) {
	l := []api.Area{backed(30, 34, 3, 9, ends-6), backed(40, 41, 3, 1, ends-1), pages(41, 42, 3), pages(60, 61, 0)}
	tests := []struct {
		at, n, m int64
		flags    int
		to       int64
		e        api.Errno
	}{
		{30, 4, 6, 0, 0, api.OK},
		{30, 4, 7, 0, 0, api.ErrRange},
		{30, 4, 7, may, 0, api.ErrRange},
		{32, 2, 4, 0, 0, api.OK},
		{32, 2, 5, 0, 0, api.ErrRange},
		{30, 2, 6, may, 0, api.OK},
		{30, 2, 7, may, 0, api.ErrRange},
		{31, 2, 5, may, 0, api.OK},
		{31, 2, 6, may, 0, api.ErrRange},
		{30, 4, 6, may | fixed, 200, api.OK},
		{30, 4, 7, may | fixed, 200, api.ErrRange},
		{33, 1, 3, may | fixed, 200, api.OK},
		{33, 1, 4, may | fixed, 200, api.ErrRange},
		{40, 1, 1, may | fixed, 511, api.OK},
		{40, 1, 2, may | fixed, 16, api.ErrRange},
		// Not asked of what doesn't grow, nor of no backing.
		{40, 1, 1, 0, 0, api.OK},
		{40, 1, 1, may | keep, 0, api.OK},
		{30, 4, 3, 0, 0, api.OK},
		{60, 1, 452, 0, 0, api.OK},
		{41, 1, 450, may, 0, api.OK},
		// Ahead of that there is no room; behind where it is to go, and what is there.
		{40, 1, 2, 0, 0, api.ErrRange},
		{40, 1, 496, may, 0, api.ErrRange},
		{30, 2, 496, 0, 0, api.ErrRange},
		{40, 1, 2, may | fixed, 39, api.ErrArg},
		{40, 1, 2, may | fixed, 511, api.ErrRange},
	}
	x := tableOf(l)
	for _, c := range tests {
		call := api.Call{Addr: c.at * page, Len: c.n * page, New: c.m * page, Flags: c.flags, To: c.to * page}
		if _, a := holds(t, x, l, call); a.Err != c.e {
			t.Errorf("%+v: %v", c, a)
		}
	}
	refuses(t, l, api.Call{Addr: 40 * page, Len: page, New: 2 * page, Flags: may | fixed, To: 39*page + 1}, api.ErrAlign)
}

// Of all lists, with all ways of a few pages, around where their pages are.
func TestRemap(t *testing.T) {
	for _, l := range lists() {
		x := tableOf(l)
		for _, base := range append(bases(), 20) {
			if !slices.ContainsFunc(l, func(a api.Area) bool { return a.Start <= (base+4)*page && a.End >= base*page }) {
				continue
			}
			for _, c := range asks(base) {
				holds(t, x, l, c)
			}
		}
	}
}

// With numbers that are no pages, beyond the space, or at the ends of what they can
// be, in each place.
func TestRemapOfAllNumbers(t *testing.T) {
	addrs := []int64{
		math.MinInt64, -page, -1, 0, 1, 15 * page, 16 * page, 16*page + 1, 18 * page, 20 * page, 23*page - 1, 30 * page, 101 * page,
		511 * page, 512 * page, 1<<32 | 16*page, math.MaxInt64 - page + 1, math.MaxInt64,
	}
	sizes := []int64{
		math.MinInt64, -page, -1, 0, 1, page, page + 1, 2 * page, 4 * page, 412 * page, 496 * page, space + 1, 512 * page,
		1<<32 | page, math.MaxInt64 - page + 1, math.MaxInt64,
	}
	flags := []int{math.MinInt, -1, 0, 1, 2, 16, 17, 18, 20, 24, 32, 33, 48, 49, 50, 63, 64, 80, 1<<32 | 16, math.MaxInt}
	for _, l := range [][]api.Area{sample(), {pages(first, last, 3)}} {
		x := tableOf(l)
		for _, addr := range addrs {
			for _, n := range sizes {
				for _, m := range sizes {
					for _, f := range flags {
						holds(t, x, l, api.Call{Addr: addr, Len: n, New: m, Flags: f, To: addr / 2})
						if f == may|fixed {
							holds(t, x, l, api.Call{Addr: 18 * page, Len: n, New: m, Flags: f, To: addr})
						}
					}
				}
			}
		}
	}
}

// All sets of the six bits, of which three are flags.
func TestRemapOfAllFlags(t *testing.T) {
	for flags := range 256 {
		for m := int64(1); m < 4; m++ {
			holds(t, tableOf(sample()), sample(), api.Call{Addr: 17 * page, Len: 2 * page, New: m * page, Flags: flags, To: 50 * page})
		}
	}
}

func TestRemapsUpToTheMostAreas(t *testing.T) {
	tests := []struct {
		areas    int64
		at, n, m int64
		flags    int
		to       int64
		want     int // areas behind it; 0: too many
	}{
		// Cut in the middle, at the end, or not at all.
		{23, 20, 2, 1, 0, 0, 24},
		{24, 20, 2, 1, 0, 0, 0},
		{24, 20, 2, 1, may, 0, 0},
		{24, 20, 3, 1, 0, 0, 24},
		{24, 20, 3, 3, 0, 0, 24},
		// Longer in its place, and joined with the next one.
		{24, 20, 3, 4, 0, 0, 23},
		{24, 112, 3, 5, 0, 0, 24},
		// Moved: the whole area, its begin, its middle.
		{24, 20, 3, 5, may, 0, 24},
		{23, 20, 2, 5, may, 0, 24},
		{24, 20, 2, 5, may, 0, 0},
		{22, 21, 1, 2, may, 0, 24},
		{23, 21, 1, 2, may, 0, 0},
		// Moved, and left where it is.
		{23, 21, 1, 1, may | keep, 0, 24},
		{24, 21, 1, 1, may | keep, 0, 0},
		{24, 20, 3, 3, may | keep, 0, 0},
		// Moved to a place: far from all, in place of another one, or between two.
		{24, 20, 3, 3, may | fixed, 300, 24},
		{23, 20, 2, 2, may | fixed, 300, 24},
		{24, 20, 2, 2, may | fixed, 300, 0},
		{24, 20, 3, 3, may | fixed | keep, 300, 0},
		{24, 20, 3, 3, may | fixed, 24, 23},
		{24, 20, 3, 3, may | fixed | keep, 24, 24},
		// Too many only till it is put.
		{24, 21, 1, 1, may | fixed, 23, 24},
	}
	for _, x := range tests {
		l := many(x.areas)
		c := api.Call{Addr: x.at * page, Len: x.n * page, New: x.m * page, Flags: x.flags, To: x.to * page}
		if x.want == 0 {
			refuses(t, l, c, api.ErrAreas)
			continue
		}
		if got, a := holds(t, tableOf(l), l, c); a.Err != api.OK || len(got) != x.want {
			t.Errorf("%+v: %v, %v", x, a, got)
		}
	}
	// That there is no room, or no such place, is told ahead of how many there would be.
	refuses(t, many(24), api.Call{Addr: 21 * page, Len: page, New: 398 * page, Flags: may}, api.ErrSpace)
	refuses(t, many(24), api.Call{Addr: 21 * page, Len: page, New: page, Flags: may | fixed, To: 512 * page}, api.ErrRange)
}

// A list that isn't right, or has too many areas, is asked ahead of all else.
func TestListsThatAreNotRight(t *testing.T) {
	asked := []api.Call{
		{}, {Addr: 16 * page, Len: page, New: page}, {Addr: 20 * page, Len: 3 * page, New: page},
		{Addr: 16 * page, Len: 2 * page, New: 4 * page, Flags: may}, {Addr: 20 * page, Len: page, New: page, Flags: may | keep},
		{Addr: 20 * page, Len: 3 * page, New: 3 * page, Flags: may | fixed, To: 24 * page},
		{Addr: 20 * page, Len: page, New: page, Flags: may | fixed, To: 20 * page},
		{Addr: 1, Len: page, New: page}, {Addr: 20 * page, Len: 0, New: page}, {Addr: 20 * page, Len: page, New: -1},
		{Addr: 20*page + 1, Len: 0, New: 0, Flags: 64}, {Addr: 20 * page, Len: page, New: page, Flags: fixed},
		{Addr: 300 * page, Len: page, New: page}, {Addr: 20 * page, Len: page, New: 400 * page},
	}
	for _, l := range wrong() {
		for _, c := range asked {
			refuses(t, l, c, api.ErrArg)
		}
	}
}

// What follows: the pages there have what the old ones had, in order, and those
// that are more what would stand behind them; no page else is another one, but the
// old ones, if they don't stay.
func TestPagesAreThereInOrder(t *testing.T) {
	done := 0
	for _, l := range lists() {
		x := tableOf(l)
		for _, base := range bases() {
			for _, c := range asks(base) {
				now, a := remap.Remap(l, c)
				if a.Err != api.OK {
					continue
				}
				done++
				y := tableOf(now)
				for p := range int64(last + 1) {
					if y[p] != x.after(p, c, a.Value) {
						t.Fatalf("%+v of %v: %v, %v: page %d has %v", c, l, a, now, p, y[p])
					}
				}
			}
		}
	}
	if done < 10000 {
		t.Error(done)
	}
}

// after says what page p must have behind a remap to addr.
func (x *table) after(p int64, c api.Call, addr int64) cell {
	old, there := c.Addr/page, addr/page
	n, _ := pagesOf(c.Len)
	m, _ := pagesOf(c.New)
	switch {
	case there <= p && p < there+min(n, m):
		return x[old+p-there]
	case there <= p && p < there+m:
		return x[old].behind(p - there)
	case c.Flags&keep == 0 && old <= p && p < old+n:
		return cell{}
	default:
		return x[p]
	}
}

// Calls one behind the other come to what a table of pages comes to, and meet all
// errors of the chapter on their way.
func TestOneBehindTheOther(t *testing.T) {
	var l []api.Area
	met := map[api.Errno]int{}
	n := int64(1)
	next := func(below int64) int64 {
		n = n * 48271 % (1<<31 - 1)
		return n % below
	}
	for range 40000 {
		c := api.Call{Addr: (15 + next(70)) * page, Len: 1 + next(4*page), New: 1 + next(5*page), To: (15 + next(70)) * page}
		c.Flags = []int{0, may, may, may | fixed, may | fixed, may | keep, may | fixed | keep}[next(7)]
		switch next(60) {
		case 0:
			c.Addr++
		case 1:
			c.New = next(space)
		case 2:
			c.Flags = int(next(100)) - 20
		case 3:
			c.Len = 0
		case 4:
			c.To++
		case 5:
			c.Addr = (400 + next(112)) * page
		}
		if c.Flags&keep != 0 && next(8) != 0 {
			c.New = c.Len
		}
		if next(4) == 0 { // so that there is something to remap
			back := next(3)
			c = api.Call{Addr: c.Addr, Len: c.Len, Prot: int(next(3)), Back: int(back), Flags: mapping.Fixed}
			c.Off = min(back, 1) * (ends*page - 80*page + c.Addr%(80*page)) / page * page
			l, _ = mapping.Map(l, c)
			continue
		}
		var a api.Answer
		l, a = holds(t, tableOf(l), l, c)
		met[a.Err]++
		if next(100) == 0 {
			l, _ = mapping.Unmap(l, api.Call{Addr: 16 * page, Len: space})
		}
	}
	for _, e := range []api.Errno{
		api.OK, api.ErrArg, api.ErrAlign, api.ErrZero, api.ErrRange, api.ErrSpace, api.ErrNone, api.ErrAreas,
	} {
		if met[e] == 0 {
			t.Errorf("%d wasn't met: %v", e, met)
		}
	}
}

// What is handed in is left as it is, its spare room too, and what is answered is
// new: a list that came beside an error no less than one that was changed.
func TestListsAreNewAndArgumentsStay(t *testing.T) {
	asked := append(asks(100), asks(20)...)
	asked = append(asked, api.Call{}, api.Call{Addr: 100 * page, Len: page, New: page, Flags: 64}, api.Call{Addr: 1, Len: 1, New: 1})
	for _, l := range slices.Concat(lists(), wrong()) {
		in, same := guarded(l)
		for i := 0; i < len(asked); i += 7 {
			got, _ := remap.Remap(in, asked[i])
			got = got[:cap(got)]
			for j := range got {
				got[j] = api.Area{Start: 99}
			}
			if !same() {
				t.Fatalf("%+v of %v: changed", asked[i], l)
			}
		}
	}
}

func TestExamples(t *testing.T) {
	one := pages(16, 17, 3)
	grow := api.Call{Addr: 16 * page, Len: page, New: 2 * page}
	got, a := remap.Remap([]api.Area{one}, grow)
	if a != (api.Answer{Value: 16 * page}) || !slices.Equal(got, []api.Area{pages(16, 18, 3)}) {
		t.Error(a, got)
	}
	taken := []api.Area{one, pages(17, 18, 1)}
	refuses(t, taken, grow, api.ErrSpace)
	grow.Flags = remap.MayMove
	got, a = remap.Remap(taken, grow)
	if a != (api.Answer{Value: 510 * page}) || !slices.Equal(got, []api.Area{pages(17, 18, 1), pages(510, 512, 3)}) {
		t.Error(a, got)
	}
	for _, none := range [][]api.Area{nil, {}} {
		refuses(t, none, grow, api.ErrNone)
	}
}
