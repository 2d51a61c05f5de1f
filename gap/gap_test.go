package gap_test

import (
	"math"
	"slices"
	"testing"

	"samara/api"
	"samara/gap"
	"samara/list"
)

const (
	page  = api.Page
	first = api.Least / page
	last  = api.Most / page
)

// pages answers an area from one page to ahead of another one, of no backing.
func pages(lo, hi int64, prot int) api.Area {
	return api.Area{Start: lo * page, End: hi * page, Prot: prot}
}

// free tells of each page of the space how many pages from it on are in no area:
// the plainest way to say where there is room, against which all answers are held.
type free [last + 1]int64

// freeOf tells where a list leaves room. It doesn't ask the program how.
func freeOf(l []api.Area) *free {
	var f free
	for p := int64(last - 1); p >= first; p-- {
		f[p] = f[p+1] + 1
		for _, a := range l {
			if a.Start <= p*page && p*page < a.End {
				f[p] = 0
			}
		}
	}
	return &f
}

// gaps are the longest runs of free pages.
func (f *free) gaps() []gap.Gap {
	var l []gap.Gap
	for p := int64(first); p < last; p++ {
		if f[p] > 0 && (p == first || f[p-1] == 0) {
			l = append(l, gap.Gap{Start: p * page, End: (p + f[p]) * page})
		}
	}
	return l
}

// fits tells whether size bytes are free from addr on.
func (f *free) fits(addr, size int64) bool {
	if addr%page != 0 || addr < api.Least || addr >= api.Most {
		return false
	}
	return size > 0 && size%page == 0 && size <= f[addr/page]*page
}

// ends answers the least and the greatest address at which it fits, page by page.
func (f *free) ends(lo, hi, size int64) (low, high int64, ok bool) {
	for addr := int64(api.Least); addr < api.Most; addr += page {
		if addr < lo || !f.fits(addr, size) || addr+size > hi {
			continue
		}
		if !ok {
			low, ok = addr, true
		}
		high = addr
	}
	return low, high, ok
}

// small are all lists of some pages, each of which is in no area or in one of two
// kinds, with all that is beyond them in areas (of another kind) or in none.
func small(base, n int64, full bool) [][]api.Area {
	around := []api.Area(nil)
	if full && base > first {
		around = list.Put(around, pages(first, base, 7))
	}
	if full && base+n < last {
		around = list.Put(around, pages(base+n, last, 7))
	}
	all := [][]api.Area{around}
	for p := base; p < base+n; p++ {
		for _, l := range slices.Clone(all) {
			all = append(all, list.Put(l, pages(p, p+1, 1)), list.Put(l, pages(p, p+1, 3)))
		}
	}
	return all
}

// places are where the small lists lie: at both ends of the space, and between.
var places = []struct {
	base, n int64
	full    bool
}{{first, 3, true}, {first, 3, false}, {100, 4, true}, {100, 3, false}, {last - 3, 3, true}, {last - 3, 3, false}}

// eachSmall goes through all small lists, each with its place.
func eachSmall(f func(l []api.Area, base, n int64)) {
	for _, at := range places {
		for _, l := range small(at.base, at.n, at.full) {
			f(l, at.base, at.n)
		}
	}
}

// edges are addresses around n pages from base on, at the space's ends, and far
// beyond it.
func edges(base, n int64) []int64 {
	l := []int64{
		math.MinInt64, math.MinInt64 + 1, -page, -1, 0, 1, page,
		api.Least - page, api.Least - 1, api.Least, api.Least + 1,
		api.Most - page, api.Most - 1, api.Most, api.Most + 1, api.Most + page,
		math.MaxInt64 - page, math.MaxInt64 - page + 1, math.MaxInt64 - 1, math.MaxInt64,
	}
	for p := base; p <= base+n; p++ {
		l = append(l, p*page-1, p*page, p*page+1)
	}
	return l
}

// sizes are whole pages, from one on, and such that have no room anywhere.
func sizes() []int64 {
	return []int64{
		math.MinInt64, -page, -1, 0, 1, page - 1, page + 1, 2*page - 1,
		page, 2 * page, 3 * page, 4 * page, 5 * page,
		396 * page, 409 * page, 492 * page, 493 * page, 494 * page, 495 * page, 496 * page, 497 * page,
		math.MaxInt64 - page + 1, math.MaxInt64,
	}
}

// wrong are lists that aren't right, by one thing each.
func wrong() [][]api.Area {
	return [][]api.Area{
		{{}},
		{pages(20, 20, 1)},
		{pages(15, 17, 1)},
		{pages(511, 513, 1)},
		{pages(16, 18, 8)},
		{pages(16, 18, -1)},
		{{Start: 16*page + 1, End: 18 * page, Prot: 1}},
		{{Start: 16 * page, End: 18 * page, Back: api.MaxBack + 1}},
		{{Start: 16 * page, End: 18 * page, Off: page}},
		{pages(16, 18, 1), {}},
		{pages(16, 18, 1), pages(18, 20, 1)},
		{pages(16, 19, 1), pages(18, 20, 3)},
		{pages(16, 18, 1), pages(16, 18, 1)},
		{pages(30, 32, 1), pages(20, 22, 1)},
		{{Start: math.MinInt64, End: math.MaxInt64, Prot: 1}},
	}
}

func TestGapsAreAllAndRise(t *testing.T) {
	eachSmall(func(l []api.Area, base, n int64) {
		if got, want := gap.Gaps(l), freeOf(l).gaps(); !slices.Equal(got, want) {
			t.Fatalf("%v: %v, not %v", l, got, want)
		}
	})
}

// No pages are in a gap and in an area, and none in neither.
func TestGapsAreWhatAreasLeave(t *testing.T) {
	eachSmall(func(l []api.Area, base, n int64) {
		var room int64
		for _, g := range gap.Gaps(l) {
			room += g.End - g.Start
			if len(list.Within(l, g.Start, g.End)) != 0 {
				t.Fatalf("%v: %v isn't free", l, g)
			}
		}
		if room/page+list.Pages(l) != last-first {
			t.Fatalf("%v: %d bytes are free", l, room)
		}
	})
}

func TestLargest(t *testing.T) {
	eachSmall(func(l []api.Area, base, n int64) {
		if got, want := gap.Largest(l), slices.Max(freeOf(l)[:])*page; got != want {
			t.Fatalf("%v: %d, not %d", l, got, want)
		}
	})
}

func TestFits(t *testing.T) {
	eachSmall(func(l []api.Area, base, n int64) {
		f := freeOf(l)
		for _, addr := range edges(base, n) {
			for _, size := range sizes() {
				if got, want := gap.Fits(l, addr, size), f.fits(addr, size); got != want {
					t.Fatalf("%v, %d bytes at %d: %t", l, size, addr, got)
				}
			}
		}
	})
}

func TestLowestAndHighest(t *testing.T) {
	eachSmall(func(l []api.Area, base, n int64) {
		f := freeOf(l)
		for _, size := range sizes() {
			for _, lo := range edges(base, n) {
				for _, hi := range edges(base, n) {
					low, high, want := f.ends(lo, hi, size)
					if got, ok := gap.Lowest(l, lo, hi, size); got != low || ok != want {
						t.Fatalf("%v, %d bytes from %d to %d: lowest %d, %t, not %d, %t", l, size, lo, hi, got, ok, low, want)
					}
					if got, ok := gap.Highest(l, lo, hi, size); got != high || ok != want {
						t.Fatalf("%v, %d bytes from %d to %d: highest %d, %t, not %d, %t", l, size, lo, hi, got, ok, high, want)
					}
				}
			}
		}
	})
}

// many answers a list of as many gaps as there can be, a page each.
func many() []api.Area {
	var l []api.Area
	for p := int64(first); p < last; p += 2 {
		l = append(l, pages(p, p+1, 1))
	}
	return l
}

func TestManyGaps(t *testing.T) {
	l := many()
	got := gap.Gaps(l)
	if !slices.Equal(got, freeOf(l).gaps()) || len(got) != 248 || gap.Largest(l) != page {
		t.Error(len(got), gap.Largest(l))
	}
	for p := int64(first); p < last; p++ {
		if gap.Fits(l, p*page, page) != (p%2 == 1) || gap.Fits(l, p*page, 2*page) {
			t.Error(p)
		}
		low, ok := gap.Lowest(l, p*page, api.Most, page)
		if want := (p | 1) * page; !ok || low != want {
			t.Error(p, low, ok)
		}
		high, ok := gap.Highest(l, 0, (p+2)*page, page)
		if want := min((p+2)/2*2-1, last-1) * page; !ok || high != want {
			t.Error(p, high, ok)
		}
	}
}

// Two areas beside one another leave no gap between them, nor does what isn't
// joined because it is of another kind.
func TestNoGapBetweenNeighbours(t *testing.T) {
	l := []api.Area{pages(first, 100, 1), pages(100, 200, 3), {Start: 200 * page, End: api.Most, Prot: 3, Back: 2}}
	if got := gap.Gaps(l); len(got) != 0 {
		t.Error(got)
	}
	if gap.Largest(l) != 0 || gap.Fits(l, 100*page, page) {
		t.Error("there is room in a full space")
	}
	if a, ok := gap.Lowest(l, 0, api.Most, page); ok || a != 0 {
		t.Error(a, ok)
	}
	if a, ok := gap.Highest(l, 0, api.Most, page); ok || a != 0 {
		t.Error(a, ok)
	}
}

// What isn't long enough in one gap isn't put together from two.
func TestGapsAreNotPutTogether(t *testing.T) {
	l := []api.Area{pages(first, 100, 1), pages(102, 103, 1), pages(105, last, 1)}
	if gap.Fits(l, 100*page, 3*page) || gap.Largest(l) != 2*page {
		t.Error(gap.Largest(l))
	}
	if a, ok := gap.Lowest(l, 0, api.Most, 3*page); ok || a != 0 {
		t.Error(a, ok)
	}
	if a, ok := gap.Highest(l, 0, api.Most, 3*page); ok || a != 0 {
		t.Error(a, ok)
	}
}

// What follows: there is an address just if a gap, within lo and hi, is as long.
func TestThereIsOneJustIfAGapIsAsLong(t *testing.T) {
	eachSmall(func(l []api.Area, base, n int64) {
		told := gap.Gaps(l)
		for lo := base - 1; lo <= base+n+1; lo++ {
			for hi := base - 1; hi <= base+n+1; hi++ {
				for k := int64(1); k <= n+2; k++ {
					want := slices.ContainsFunc(told, func(g gap.Gap) bool {
						return min(hi*page, g.End)-max(lo*page, g.Start) >= k*page
					})
					low, is := gap.Lowest(l, lo*page, hi*page, k*page)
					high, also := gap.Highest(l, lo*page, hi*page, k*page)
					if is != want || also != want {
						t.Fatalf("%v, %d pages from %d to %d: %t, %t", l, k, lo, hi, is, also)
					}
					if want && !(gap.Fits(l, low, k*page) && gap.Fits(l, high, k*page) && low <= high) {
						t.Fatalf("%v, %d pages from %d to %d: %d, %d don't fit", l, k, lo, hi, low, high)
					}
				}
			}
		}
		if most := gap.Largest(l); most > 0 {
			if _, ok := gap.Lowest(l, math.MinInt64, math.MaxInt64, most); !ok {
				t.Fatalf("%v: the largest gap isn't found", l)
			}
			if _, ok := gap.Highest(l, math.MinInt64, math.MaxInt64, most+page); ok {
				t.Fatalf("%v: a gap is longer than the largest", l)
			}
		}
	})
}

// A page that lo or hi cuts through isn't one that may be taken.
func TestPagesThatAreCutThrough(t *testing.T) {
	for _, r := range [][2]int64{
		{20*page + 1, 21 * page}, {20 * page, 21*page - 1}, {20*page + 1, 22*page - 1}, {20*page + 5, 20*page + 6},
		{20 * page, 20 * page}, {21 * page, 20 * page}, {20*page + 5, 20*page + 5},
	} {
		if a, ok := gap.Lowest(nil, r[0], r[1], page); ok || a != 0 {
			t.Error(r, a, ok)
		}
		if a, ok := gap.Highest(nil, r[0], r[1], page); ok || a != 0 {
			t.Error(r, a, ok)
		}
	}
	if a, ok := gap.Lowest(nil, 20*page-1, 22*page+1, page); !ok || a != 20*page {
		t.Error(a, ok)
	}
	if a, ok := gap.Highest(nil, 20*page-1, 22*page+1, page); !ok || a != 21*page {
		t.Error(a, ok)
	}
}

func TestListsThatAreNotRight(t *testing.T) {
	for _, l := range wrong() {
		if got := gap.Gaps(l); len(got) != 0 {
			t.Errorf("%v: %v", l, got)
		}
		if got := gap.Largest(l); got != 0 {
			t.Errorf("%v: %d", l, got)
		}
		if gap.Fits(l, 300*page, page) || gap.Fits(l, 16*page, page) {
			t.Errorf("%v: fits", l)
		}
		if a, ok := gap.Lowest(l, 0, api.Most, page); ok || a != 0 {
			t.Errorf("%v: lowest %d, %t", l, a, ok)
		}
		if a, ok := gap.Highest(l, 0, api.Most, page); ok || a != 0 {
			t.Errorf("%v: highest %d, %t", l, a, ok)
		}
	}
}

// What is handed in is left as it is, its spare room too.
func TestArgumentsStay(t *testing.T) {
	eachSmall(func(l []api.Area, base, n int64) {
		whole := slices.Clone(l)
		for range 4 {
			whole = append(whole, api.Area{Start: -7, End: -7, Prot: -7})
		}
		was := slices.Clone(whole)
		in := whole[:len(l)]
		gap.Gaps(in)
		gap.Largest(in)
		gap.Fits(in, base*page, page)
		gap.Lowest(in, 0, api.Most, page)
		gap.Highest(in, 0, api.Most, page)
		if !slices.Equal(whole, was) {
			t.Fatalf("%v: changed", l)
		}
	})
}

// Two answers to one question share nothing.
func TestAnswersShareNothing(t *testing.T) {
	l := []api.Area{pages(20, 22, 1)}
	a, b := gap.Gaps(l), gap.Gaps(l)
	for i := range a {
		a[i] = gap.Gap{}
	}
	if !slices.Equal(b, freeOf(l).gaps()) || !slices.Equal(gap.Gaps(l), b) {
		t.Error(b)
	}
}

func TestExamples(t *testing.T) {
	for _, none := range [][]api.Area{nil, {}} {
		if got := gap.Gaps(none); !slices.Equal(got, []gap.Gap{{Start: api.Least, End: api.Most}}) {
			t.Error(got)
		}
		if a, ok := gap.Highest(none, 0, api.Most, page); !ok || a != 511*page {
			t.Error(a, ok)
		}
		if a, ok := gap.Lowest(none, 0, api.Most, page); !ok || a != 16*page {
			t.Error(a, ok)
		}
	}
}
