package brk_test

import (
	"math"
	"slices"
	"testing"

	"samara/api"
	"samara/brk"
	"samara/list"
	"samara/mapping"
)

const (
	page  = api.Page
	first = api.Least / page
	last  = api.Most / page
	room  = 64
	limit = first + room // the greatest break's page
)

// pages answers an area from one page to ahead of another one, of no backing.
func pages(lo, hi int64, prot int) api.Area {
	return api.Area{Start: lo * page, End: hi * page, Prot: prot}
}

// shared answers a shared area of a backing, from a page of it on.
func shared(lo, hi int64, prot, back int, off int64) api.Area {
	a := pages(lo, hi, prot)
	a.Shared, a.Back, a.Off = true, back, off*page
	return a
}

// with answers areas, and behind them as many more as make n in all, each alone and
// beyond where a break may be.
func with(n int, l ...api.Area) []api.Area {
	for p := int64(100); len(l) < n; p += 2 {
		l = append(l, pages(p, p+1, 3))
	}
	return l
}

// table is what stands at each page of the space, as an area of that page alone, or
// a zero one: the plainest way to say what a list is.
type table [last + 1]api.Area

// tableOf tells a list's pages.
func tableOf(l []api.Area) *table {
	var x table
	for _, a := range l {
		for ; a.Start < a.End; a = behind(a) {
			one := a
			one.End = one.Start + page
			x[one.Start/page] = one
		}
	}
	return &x
}

// behind answers an area without its first page.
func behind(a api.Area) api.Area {
	a.Start += page
	if a.Back != 0 {
		a.Off += page
	}
	return a
}

// list answers the one right list whose pages are the table's.
func (x *table) list() []api.Area {
	var l []api.Area
	for p, a := range x {
		switch {
		case a == api.Area{}:
		case p > 0 && next(x[p-1]) == a:
			l[len(l)-1].End += page
		default:
			l = append(l, a)
		}
	}
	return l
}

// next answers what a page's area would be one page further on; of none, what can't
// be there.
func next(a api.Area) api.Area {
	a = behind(a)
	a.End += page
	return a
}

// isBreak tells whether an address is one of a break, which the chapter counts.
func isBreak(addr int64) bool {
	return addr >= 65536 && addr <= 65536+262144
}

// upTo answers the page that the pages up to a break end ahead of.
func upTo(addr int64) int64 {
	p := int64(first)
	for p*page < addr {
		p++
	}
	return p
}

// moveOf says what Move must answer of a list that is right, has no more areas than
// a space, and whose table is x.
func (x *table) moveOf(l []api.Area, now, addr int64) ([]api.Area, int64, api.Answer) {
	switch {
	case !isBreak(now):
		return l, now, api.Answer{Err: api.ErrArg}
	case addr == 0:
		return l, now, api.Answer{Value: now}
	case !isBreak(addr):
		return l, now, api.Answer{Err: api.ErrRange}
	}
	y := *x
	for p := upTo(now); p < upTo(addr); p++ {
		if y[p] != (api.Area{}) {
			return l, now, api.Answer{Err: api.ErrSpace}
		}
		y[p] = pages(p, p+1, 3)
	}
	for p := upTo(addr); p < upTo(now); p++ {
		y[p] = api.Area{}
	}
	if changed := y.list(); len(changed) <= 24 {
		return changed, addr, api.Answer{Value: addr}
	}
	return l, now, api.Answer{Err: api.ErrAreas}
}

// rest gives a call's address all that a move doesn't ask, as wrong as can be.
func rest(addr int64) api.Call {
	return api.Call{Kind: -3, Addr: addr, Len: -1, New: -1, To: 7, Prot: 99, Flags: -1, Back: 99, Off: 7}
}

// holds holds what a move answers against what it must.
func holds(t *testing.T, x *table, l []api.Area, now, addr int64) ([]api.Area, int64, api.Answer) {
	t.Helper()
	want, then, b := x.moveOf(l, now, addr)
	got, n, a := brk.Move(l, now, rest(addr))
	if a != b || n != then || !slices.Equal(got, want) {
		t.Fatalf("%d to %d of %v: %v, %d, %v, want %v, %d, %v", now, addr, l, a, n, got, b, then, want)
	}
	if !list.Right(got) || len(got) > 24 {
		t.Fatalf("%d to %d of %v: %v isn't right", now, addr, l, got)
	}
	return got, n, a
}

// refuses holds a move against an error, beside which list and break are as they
// came.
func refuses(t *testing.T, l []api.Area, now, addr int64, e api.Errno) {
	t.Helper()
	got, n, a := brk.Move(l, now, rest(addr))
	if a != (api.Answer{Err: e}) || n != now || !slices.Equal(got, l) {
		t.Errorf("%d to %d of %v: %v, %d, %v, want %d", now, addr, l, a, n, got, e)
	}
}

// comes holds a move against what it comes to.
func comes(t *testing.T, l []api.Area, now, addr int64, want ...api.Area) {
	t.Helper()
	got, n, a := brk.Move(l, now, rest(addr))
	if a != (api.Answer{Value: addr}) || n != addr || !slices.Equal(got, want) {
		t.Errorf("%d to %d of %v: %v, %d, %v, want %v", now, addr, l, a, n, got, want)
	}
}

// lists are right ones: all of four pages at both ends of where a break may be and
// between, each in no area or in one of two kinds, with what is beyond them in areas
// or in none; and such that have nearly as many areas as may be.
func lists() [][]api.Area {
	all := [][]api.Area{nil, {}, {pages(first, last, 3)}}
	for n := 22; n <= 24; n++ {
		all = append(all, with(n), with(n, pages(16, 90, 3)), with(n, pages(16, 18, 3), pages(20, 24, 3)))
	}
	for _, base := range bases() {
		all = append(all, small(base, false)...)
		all = append(all, small(base, true)...)
	}
	return all
}

// bases are the pages at which the small lists begin.
func bases() []int64 {
	return []int64{first, 40, limit - 2}
}

// small are all lists of four pages from base on.
func small(base int64, full bool) [][]api.Area {
	var x table
	for p := int64(first); full && p < last; p++ {
		if p < base || p >= base+4 {
			x[p] = pages(p, p+1, 7)
		}
	}
	all := []table{x}
	for p := base; p < base+4; p++ {
		for _, x := range slices.Clone(all) {
			for _, x[p] = range []api.Area{pages(p, p+1, 3), shared(p, p+1, 1, 9, p)} {
				all = append(all, x)
			}
		}
	}
	var lists [][]api.Area
	for i := range all {
		lists = append(lists, all[i].list())
	}
	return lists
}

// breaks are addresses at the pages around a small list, and beside where they begin.
func breaks(base int64) []int64 {
	l := []int64{api.Least, api.Least + 64*page}
	for p := base - 1; p <= base+5; p++ {
		l = append(l, p*page-1, p*page, p*page+1)
	}
	return l
}

// wrong are lists that aren't right, by one thing each, or have too many areas.
func wrong() [][]api.Area {
	return [][]api.Area{
		{{}},
		{pages(20, 20, 3)},
		{pages(15, 17, 3)},
		{pages(511, 513, 3)},
		{pages(16, 18, 8)},
		{pages(16, 18, -1)},
		{pages(16, 18, 3), pages(18, 20, 3)},
		{pages(16, 19, 1), pages(18, 20, 3)},
		{pages(18, 20, 1), pages(16, 18, 3)},
		{pages(16, 18, 3), {}},
		{shared(16, 18, 1, 1, 0), shared(18, 20, 1, 1, 2)},
		{shared(16, 18, 1, 10, 0)},
		{shared(16, 18, 1, 0, 1)},
		{{Start: 16*page + 1, End: 18 * page, Prot: 3}},
		{{Start: math.MinInt64, End: math.MaxInt64, Prot: 3}},
		with(25), with(26), with(100),
		with(25, pages(16, 80, 3)), with(25, pages(16, 18, 3), pages(20, 24, 3)),
	}
}

// beyond are addresses that are no break.
func beyond() []int64 {
	return []int64{
		math.MinInt64, math.MinInt64 + 1, -api.Least, -page, -1, 1, page, 15 * page, api.Least - page, api.Least - 1,
		limit*page + 1, limit*page + page, api.Most - 1, api.Most, 1<<32 | api.Least, math.MaxInt64 - 4095, math.MaxInt64,
	}
}

func TestRoomIsTheChapters(t *testing.T) {
	if brk.Room != 262144 {
		t.Error(brk.Room)
	}
}

func TestRight(t *testing.T) {
	for addr := int64(15 * page); addr < 82*page; addr++ {
		if brk.Right(addr) != isBreak(addr) {
			t.Fatal(addr)
		}
	}
	for _, addr := range append(beyond(), 0) {
		if brk.Right(addr) {
			t.Error(addr)
		}
	}
}

func TestGrowsByHand(t *testing.T) {
	const least = api.Least
	comes(t, nil, least, least+1, pages(16, 17, 3))
	comes(t, nil, least, least+page, pages(16, 17, 3))
	comes(t, nil, least, least+page+1, pages(16, 18, 3))
	comes(t, nil, least, least+64*page-1, pages(16, 80, 3))
	comes(t, nil, least, least+64*page, pages(16, 80, 3))
	one := []api.Area{pages(16, 17, 3)}
	comes(t, one, least+1, least+2, one...)
	comes(t, one, least+1, least+page, one...)
	comes(t, one, least+page, least+page+1, pages(16, 18, 3))
	comes(t, one, least+5, least+3*page-7, pages(16, 19, 3))
	// What was taken out of the break's pages isn't put again.
	comes(t, nil, least+2*page, least+3*page, pages(18, 19, 3))
	comes(t, []api.Area{pages(16, 17, 3), pages(17, 18, 1)}, least+2*page, least+3*page, pages(16, 17, 3), pages(17, 18, 1), pages(18, 19, 3))
}

// Only what has the break's attributes is joined with what grows.
func TestGrowsBesideOtherAreas(t *testing.T) {
	const least = api.Least
	grow := func(l []api.Area, want ...api.Area) {
		t.Helper()
		comes(t, l, least+2*page, least+4*page, want...)
	}
	grow([]api.Area{pages(16, 18, 3), pages(20, 22, 3)}, pages(16, 22, 3))
	grow([]api.Area{pages(20, 22, 3)}, pages(18, 22, 3))
	for _, other := range []api.Area{pages(20, 22, 1), pages(20, 22, 7), pages(20, 22, 0), shared(20, 22, 3, 0, 0), shared(20, 22, 3, 1, 2)} {
		grow([]api.Area{pages(17, 18, 3), other}, pages(17, 20, 3), other)
		ahead := other
		ahead.Start, ahead.End = 16*page, 18*page
		grow([]api.Area{ahead}, ahead, pages(18, 20, 3))
	}
	alone := shared(20, 22, 3, 1, 2)
	alone.Shared = false
	grow([]api.Area{alone}, pages(18, 20, 3), alone)
}

func TestShrinksByHand(t *testing.T) {
	const least = api.Least
	l := []api.Area{pages(16, 20, 3)}
	comes(t, l, least+4*page, least)
	comes(t, l, least+3*page+1, least)
	comes(t, l, least+4*page, least+1, pages(16, 17, 3))
	comes(t, l, least+4*page, least+page, pages(16, 17, 3))
	comes(t, l, least+4*page, least+page+1, pages(16, 18, 3))
	comes(t, l, least+4*page, least+3*page+1, l...)
	comes(t, l, least+3*page+2, least+3*page+1, l...)
	comes(t, l, least+3*page+1, least+3*page, pages(16, 19, 3))
	comes(t, []api.Area{pages(16, 80, 3)}, least+64*page, least)
	// What stands behind the break stays, though it is one area with the break's pages.
	comes(t, []api.Area{pages(16, 90, 3)}, least+64*page, least+page, pages(16, 17, 3), pages(80, 90, 3))
	comes(t, []api.Area{pages(16, 90, 3)}, least+64*page-1, least, pages(80, 90, 3))
}

// The pages between are cut out, whatever they are.
func TestShrinksThroughOtherAreas(t *testing.T) {
	const least = api.Least
	l := []api.Area{pages(16, 17, 3), shared(18, 22, 5, 2, 7), pages(23, 24, 0), shared(24, 28, 1, 3, 0)}
	comes(t, l, least+10*page, least+page, l[0], shared(26, 28, 1, 3, 2))
	comes(t, l, least+9*page+1, least+3*page, l[0], shared(18, 19, 5, 2, 7), shared(26, 28, 1, 3, 2))
	comes(t, l, least+5*page, least+3*page, l[0], shared(18, 19, 5, 2, 7), shared(21, 22, 5, 2, 10), l[2], l[3])
	comes(t, l, least+8*page, least+7*page, l[0], l[1], l[3])
	comes(t, l, least+12*page, least)
	// Nothing is there.
	comes(t, l, least+2*page, least+page, l...)
	comes(t, l, least+60*page, least+12*page, l...)
	comes(t, nil, least+64*page, least)
}

// A break that stays, or is only asked about, is told; the list stays, whatever is
// at the break.
func TestStays(t *testing.T) {
	for _, l := range lists() {
		for now := int64(api.Least); isBreak(now); now += page / 2 {
			comes(t, l, now, now, l...)
			got, n, a := brk.Move(l, now, rest(0))
			if a != (api.Answer{Value: now}) || n != now || !slices.Equal(got, l) {
				t.Fatal(l, now, got, n, a)
			}
		}
	}
}

func TestAddressesThatAreNoBreak(t *testing.T) {
	full := []api.Area{pages(first, last, 3)}
	for _, addr := range beyond() {
		for _, now := range []int64{api.Least, api.Least + 1, api.Least + 2*page, api.Least + 64*page} {
			refuses(t, nil, now, addr, api.ErrRange)
			refuses(t, full, now, addr, api.ErrRange)
			refuses(t, with(24), now, addr, api.ErrRange)
			refuses(t, with(24, pages(16, 90, 3)), now, addr, api.ErrRange)
		}
	}
}

// That a break is none is asked ahead of where it is to go, and of what is there.
func TestBreaksThatAreNone(t *testing.T) {
	for _, now := range append(beyond(), 0) {
		for _, addr := range append(beyond(), 0, now, api.Least, api.Least+1, api.Least+64*page) {
			refuses(t, nil, now, addr, api.ErrArg)
			refuses(t, []api.Area{pages(first, last, 3)}, now, addr, api.ErrArg)
			refuses(t, with(24, pages(16, 90, 3)), now, addr, api.ErrArg)
		}
	}
}

// A list that isn't right, or has too many areas, is asked ahead of all else, though
// nothing would be done to it.
func TestListsThatAreNotRight(t *testing.T) {
	for _, l := range wrong() {
		for _, now := range append(beyond(), 0, api.Least, api.Least+2*page, api.Least+4*page, api.Least+64*page) {
			for _, addr := range append(beyond(), 0, now, api.Least, api.Least+3*page, api.Least+64*page) {
				refuses(t, l, now, addr, api.ErrArg)
			}
		}
	}
}

func TestNoRoom(t *testing.T) {
	const least = api.Least
	for _, x := range []api.Area{pages(18, 19, 3), pages(18, 19, 0), shared(18, 20, 1, 1, 0), pages(18, 512, 3), pages(17, 20, 3)} {
		l := []api.Area{x}
		for _, now := range []int64{least, least + 1, least + page, least + page + 1, least + 2*page} {
			refuses(t, l, now, least+2*page+1, api.ErrSpace)
			refuses(t, l, now, least+3*page, api.ErrSpace)
			refuses(t, l, now, least+64*page, api.ErrSpace)
		}
	}
	// One page at the begin, in the middle, at the end of what is to grow.
	for p := int64(20); p < 23; p++ {
		refuses(t, []api.Area{pages(p, p+1, 1)}, least+4*page, least+7*page, api.ErrSpace)
		refuses(t, []api.Area{pages(p, p+1, 1)}, least+3*page+1, least+6*page+1, api.ErrSpace)
	}
	refuses(t, []api.Area{pages(79, 80, 3)}, least, least+64*page, api.ErrSpace)
	refuses(t, []api.Area{pages(79, 80, 3)}, least, least+63*page+1, api.ErrSpace)
	// What is only beside it isn't in its way.
	comes(t, []api.Area{pages(19, 20, 1), pages(23, 24, 1)}, least+4*page, least+7*page, pages(19, 20, 1), pages(20, 23, 3), pages(23, 24, 1))
	comes(t, []api.Area{pages(79, 80, 3)}, least, least+63*page, pages(16, 80, 3))
}

func TestMovesUpToTheMostAreas(t *testing.T) {
	const least = api.Least
	tests := []struct {
		l         []api.Area
		now, addr int64
		want      int // areas behind it; 0: too many
	}{
		// Grown alone, beside one area, and between two.
		{with(23), 0, 2, 24},
		{with(24), 0, 2, 0},
		{with(24), 0, 64, 0},
		{with(23, pages(16, 18, 1)), 2, 3, 24},
		{with(24, pages(16, 18, 1)), 2, 3, 0},
		{with(24, pages(16, 18, 3)), 2, 3, 24},
		{with(24, pages(16, 18, 1), pages(20, 24, 3)), 2, 4, 24},
		{with(24, pages(16, 18, 3), pages(20, 24, 3)), 2, 4, 23},
		{with(24, pages(16, 18, 3), pages(20, 24, 3)), 2, 3, 24},
		// Cut in the middle, at the end, wholly, and where nothing is.
		{with(23, pages(16, 90, 3)), 20, 10, 24},
		{with(24, pages(16, 90, 3)), 20, 10, 0},
		{with(24, pages(16, 90, 3)), 64, 1, 0},
		{with(24, pages(16, 90, 3)), 20, 0, 24},
		{with(24, pages(16, 36, 3)), 20, 10, 24},
		{with(24, pages(16, 36, 3)), 20, 0, 23},
		{with(24, pages(16, 18, 1), pages(20, 24, 3)), 8, 0, 22},
		{with(24), 64, 0, 24},
		{with(24), 10, 10, 24},
	}
	for _, x := range tests {
		now, addr := least+x.now*page, least+x.addr*page
		if x.want == 0 {
			refuses(t, x.l, now, addr, api.ErrAreas)
			continue
		}
		if got, _, a := holds(t, tableOf(x.l), x.l, now, addr); a.Err != api.OK || len(got) != x.want {
			t.Errorf("%+v: %v, %v", x, a, got)
		}
	}
	// That something is there is told ahead of how many there would be.
	refuses(t, with(24, pages(30, 31, 1)), least, least+16*page, api.ErrSpace)
	// What stays has as many as may be.
	refuses(t, with(24), least, least+1, api.ErrAreas)
	comes(t, with(24), least+1, least+2, with(24)...)
}

// Of all lists, from each break around where their pages are to each other one.
func TestMove(t *testing.T) {
	for _, l := range lists() {
		x := tableOf(l)
		for _, base := range bases() {
			if !slices.ContainsFunc(l, func(a api.Area) bool { return a.Start <= (base+5)*page && a.End >= base*page }) {
				continue
			}
			for _, now := range breaks(base) {
				for _, addr := range breaks(base) {
					holds(t, x, l, now, addr)
				}
			}
		}
	}
}

// From each page of the room to each other one, and beside them.
func TestMoveThroughTheWholeRoom(t *testing.T) {
	for _, l := range [][]api.Area{nil, {pages(16, 40, 3), shared(50, 90, 1, 1, 3)}, with(24, pages(40, 60, 3))} {
		x := tableOf(l)
		for p := int64(first - 1); p <= limit+1; p++ {
			for q := int64(first - 1); q <= limit+1; q++ {
				holds(t, x, l, p*page, q*page)
				holds(t, x, l, p*page+1, q*page-1)
				holds(t, x, l, p*page-1, q*page+1)
			}
		}
	}
}

// What follows: what was grown, and is shrunk again, leaves the list as it was.
func TestGrownAndShrunkAgain(t *testing.T) {
	grown := 0
	for _, l := range lists() {
		for _, base := range bases() {
			for _, now := range breaks(base) {
				for _, addr := range breaks(base) {
					more, then, a := brk.Move(l, now, api.Call{Addr: addr})
					if a.Err != api.OK || addr <= now {
						continue
					}
					grown++
					got, n, a := brk.Move(more, then, api.Call{Addr: now})
					if a != (api.Answer{Value: now}) || n != now || !slices.Equal(got, l) {
						t.Fatalf("%d to %d of %v, and back: %v, %d, %v", now, addr, l, a, n, got)
					}
				}
			}
		}
	}
	if grown < 10000 {
		t.Error(grown)
	}
}

// Moves one behind the other, among maps and unmaps, come to what a table of pages
// comes to, and meet all errors of the chapter on their way.
func TestOneBehindTheOther(t *testing.T) {
	var l []api.Area
	now := int64(api.Least)
	met := map[api.Errno]int{}
	n := int64(1)
	draw := func(below int64) int64 {
		n = n * 48271 % (1<<31 - 1)
		return n % below
	}
	for range 40000 {
		c := api.Call{Addr: (16 + draw(100)) * page, Len: 1 + draw(2*page), Prot: 1 + 2*int(draw(2)), Flags: mapping.Fixed}
		switch draw(6) {
		case 0:
			l, _ = mapping.Map(l, c)
			continue
		case 1:
			l, _ = mapping.Unmap(l, c)
			continue
		case 2:
			c.Addr = now + draw(3*page)
		case 3:
			c.Addr = now - draw(6*page)
		default:
			c.Addr = c.Addr - c.Len
		}
		before, came := tableOf(l), now
		if draw(20) == 0 {
			came = api.Least - draw(2*page) // rarely a break
		}
		got, then, a := holds(t, before, l, came, c.Addr)
		met[a.Err]++
		if came == now || a.Err == api.OK {
			l, now = got, then
		}
	}
	for _, e := range []api.Errno{api.OK, api.ErrArg, api.ErrRange, api.ErrSpace, api.ErrAreas} {
		if met[e] == 0 {
			t.Errorf("%d wasn't met: %v", e, met)
		}
	}
}

// guarded answers a copy of a list with spare room, and a function that tells
// whether list and room are still as they were.
func guarded(l []api.Area) ([]api.Area, func() bool) {
	whole := append(slices.Clone(l), pages(-7, -7, -7), pages(-7, -7, -7), pages(-7, -7, -7))
	was := slices.Clone(whole)
	return whole[:len(l)], func() bool { return slices.Equal(whole, was) }
}

// What is handed in is left as it is, its spare room too, and what is answered is
// new: a list that came beside an error, or was only asked about, no less than one
// that was changed.
func TestListsAreNewAndArgumentsStay(t *testing.T) {
	asked := append(breaks(first), 0, 5, api.Least+40*page, math.MaxInt64)
	for _, l := range slices.Concat(lists(), wrong()) {
		in, same := guarded(l)
		for i, now := range asked {
			for j := i % 3; j < len(asked); j += 3 {
				got, _, _ := brk.Move(in, now, api.Call{Addr: asked[j]})
				got = got[:cap(got)]
				for k := range got {
					got[k] = api.Area{Start: 99}
				}
				if !same() {
					t.Fatalf("%d to %d of %v: changed", now, asked[j], l)
				}
			}
		}
	}
}

func TestExample(t *testing.T) {
	for _, none := range [][]api.Area{nil, {}} {
		comes(t, none, api.Least, api.Least+1, pages(16, 17, 3))
	}
}
