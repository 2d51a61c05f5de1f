package area_test

import (
	"math"
	"testing"

	"samara/api"
	"samara/area"
)

const page = api.Page

// pages answers an area from one page to ahead of another one, of no backing,
// that may be read and written.
func pages(lo, hi int64) api.Area {
	return api.Area{Start: lo * page, End: hi * page, Prot: 3}
}

// backed answers such an area of a backing, from a page of it on.
func backed(lo, hi int64, back int, off int64) api.Area {
	a := pages(lo, hi)
	a.Back, a.Off = back, off*page
	return a
}

// formed are areas of many kinds that are formed, those at the edges too.
func formed() []api.Area {
	list := []api.Area{
		pages(16, 17), pages(16, 512), pages(511, 512), pages(18, 23),
		backed(16, 20, 1, 0), backed(17, 21, api.MaxBack, 5),
		backed(16, 512, 2, api.MaxOff/page-496), backed(511, 512, 1, api.MaxOff/page-1),
	}
	for prot := range 8 {
		a := backed(100, 103, prot, int64(prot))
		a.Prot, a.Shared = prot, prot%2 == 1
		list = append(list, a)
	}
	for i, a := range list {
		if a.Back == 0 {
			list[i].Off = 0
		}
	}
	return list
}

// unformed are areas that fail by one thing each.
func unformed() []api.Area {
	prot := func(p int) api.Area {
		a := backed(16, 20, 1, 0)
		a.Prot = p
		return a
	}
	ends := func(start, end int64) api.Area {
		return api.Area{Start: start, End: end, Prot: 3}
	}
	off := func(back int, off int64) api.Area {
		a := backed(16, 20, back, 0)
		a.Off = off
		return a
	}
	return []api.Area{
		{},
		ends(15*page, 16*page), ends(15*page, 20*page), ends(0, 20*page), ends(-page, 20*page),
		ends(16*page, 513*page), ends(512*page, 513*page), ends(512*page, 512*page),
		ends(16*page, 16*page), ends(20*page, 16*page), ends(16*page, -page),
		ends(16*page+1, 20*page), ends(17*page-1, 20*page), ends(16*page+page/2, 20*page),
		ends(16*page, 20*page+1), ends(16*page, 20*page-1), ends(16*page, 20*page+page/2),
		ends(math.MinInt64, 20*page), ends(16*page, math.MinInt64), ends(16*page, math.MaxInt64),
		ends(math.MinInt64, math.MaxInt64), ends(math.MaxInt64, math.MinInt64),
		ends(16*page, math.MaxInt64-page+1), ends(16*page+1<<32, 20*page+1<<32),
		prot(8), prot(-1), prot(15), prot(math.MaxInt), prot(math.MinInt), prot(1<<32 | 3), prot(16),
		backed(16, 20, -1, 0), backed(16, 20, api.MaxBack+1, 0),
		backed(16, 20, math.MaxInt, 0), backed(16, 20, math.MinInt, 0), backed(16, 20, 1<<32, 0),
		off(1, 1), off(1, page-1), off(1, page+1), off(1, -1), off(1, -page),
		off(1, api.MaxOff), off(1, api.MaxOff-3*page), off(1, api.MaxOff-4*page+1), off(1, api.MaxOff+page),
		off(1, math.MaxInt64), off(1, math.MinInt64), off(1, math.MaxInt64-page+1),
		off(0, page), off(0, 1), off(0, -page), off(0, math.MinInt64), off(0, api.MaxOff-4*page),
		backed(16, 512, 1, api.MaxOff/page-495), backed(511, 512, 1, api.MaxOff/page),
	}
}

// addresses are those around an area's pages, and others far away.
func addresses(a api.Area) []int64 {
	list := []int64{
		math.MinInt64, math.MinInt64 + 1, -1 << 40, -page, -1, 0, 1, page, api.Least - 1, api.Least,
		api.Most - 1, api.Most, api.Most + 1, 1 << 40, math.MaxInt64 - page, math.MaxInt64 - 1, math.MaxInt64,
	}
	last := min(a.End, a.Start+8*page)
	for p := a.Start - 2*page; p <= last+2*page; p += page {
		list = append(list, p-1, p, p+1, p+page/2)
	}
	return append(list, a.End-page-1, a.End-page, a.End-1, a.End, a.End+1, a.End+page)
}

// floor answers which page an address is in; those below 0 have pages too.
func floor(addr int64) int64 {
	p := addr / page
	if addr%page < 0 {
		p--
	}
	return p
}

// attrOf says what the page p of an area that has it must have.
func attrOf(a api.Area, p int64) api.Attr {
	x := api.Attr{Prot: a.Prot, Shared: a.Shared, Back: a.Back}
	if a.Back != 0 {
		x.Off = a.Off + page*(p-a.Start/page)
	}
	return x
}

// attrs answers the attributes of all pages of an area, by its pages' numbers,
// asked at some address of each.
func attrs(t *testing.T, a api.Area) map[int64]api.Attr {
	t.Helper()
	list := map[int64]api.Attr{}
	for p := a.Start / page; p < a.End/page; p++ {
		x, ok := area.Attr(a, p*page+p%3)
		if !ok {
			t.Fatalf("%v: no attributes of page %d", a, p)
		}
		list[p] = x
	}
	return list
}

func TestFormed(t *testing.T) {
	for _, a := range formed() {
		if !area.Formed(a) {
			t.Errorf("%v isn't formed", a)
		}
	}
	for _, a := range unformed() {
		if area.Formed(a) {
			t.Errorf("%v is formed", a)
		}
	}
}

// The last place of an Off hangs on how long the area is.
func TestFormedUpToTheLastOff(t *testing.T) {
	for n := int64(1); n <= 496; n++ {
		last := backed(16, 16+n, 1, api.MaxOff/page-n)
		beyond := last
		beyond.Off += page
		if !area.Formed(last) || area.Formed(beyond) {
			t.Errorf("%d pages: %t, %t", n, area.Formed(last), area.Formed(beyond))
		}
	}
}

func TestFormedOfEachProtAndBack(t *testing.T) {
	for prot := -20; prot < 40; prot++ {
		for back := -20; back < 40; back++ {
			for _, shared := range []bool{false, true} {
				a := api.Area{Start: 16 * page, End: 18 * page, Prot: prot, Shared: shared, Back: back}
				want := prot >= 0 && prot < 8 && back >= 0 && back < 10
				if area.Formed(a) != want {
					t.Errorf("%v: %t", a, !want)
				}
			}
		}
	}
}

func TestHas(t *testing.T) {
	for _, a := range formed() {
		for _, addr := range addresses(a) {
			if got := area.Has(a, addr); got != (addr >= a.Start && addr < a.End) {
				t.Errorf("%v has %d: %t", a, addr, got)
			}
		}
	}
	for _, a := range unformed() {
		for _, addr := range append(addresses(pages(16, 20)), a.Start, a.End-1) {
			if area.Has(a, addr) {
				t.Errorf("%v, that isn't formed, has %d", a, addr)
			}
		}
	}
}

func TestAttr(t *testing.T) {
	for _, a := range formed() {
		for _, addr := range addresses(a) {
			want, has := api.Attr{}, addr >= a.Start && addr < a.End
			if has {
				want = attrOf(a, floor(addr))
			}
			if got, ok := area.Attr(a, addr); got != want || ok != has {
				t.Errorf("%v at %d: %v, %t, want %v", a, addr, got, ok, want)
			}
		}
	}
	for _, a := range unformed() {
		for _, addr := range append(addresses(pages(16, 20)), a.Start, a.End-1) {
			if got, ok := area.Attr(a, addr); ok || got != (api.Attr{}) {
				t.Errorf("%v, that isn't formed, at %d: %v, %t", a, addr, got, ok)
			}
		}
	}
}

func TestAttrByHand(t *testing.T) {
	a := api.Area{Start: 16 * page, End: 20 * page, Prot: 5, Shared: true, Back: 4, Off: 7 * page}
	tests := []struct {
		addr int64
		want api.Attr
		ok   bool
	}{
		{65535, api.Attr{}, false},
		{65536, api.Attr{Prot: 5, Shared: true, Back: 4, Off: 28672}, true},
		{69631, api.Attr{Prot: 5, Shared: true, Back: 4, Off: 28672}, true},
		{69632, api.Attr{Prot: 5, Shared: true, Back: 4, Off: 32768}, true},
		{81919, api.Attr{Prot: 5, Shared: true, Back: 4, Off: 40960}, true},
		{81920, api.Attr{}, false},
	}
	for _, c := range tests {
		if got, ok := area.Attr(a, c.addr); got != c.want || ok != c.ok {
			t.Errorf("%d: %v, %t, want %v, %t", c.addr, got, ok, c.want, c.ok)
		}
	}
	a.Back, a.Off = 0, 0
	if got, ok := area.Attr(a, 81919); !ok || got != (api.Attr{Prot: 5, Shared: true}) {
		t.Errorf("of no backing: %v, %t", got, ok)
	}
}

// joins checks Goes and Join of two areas at once: they say the same.
func joins(t *testing.T, a, b api.Area, want bool) {
	t.Helper()
	joined := api.Area{}
	if want {
		joined = a
		joined.End = b.End
	}
	if got := area.Goes(a, b); got != want {
		t.Errorf("%v goes on in %v: %t", a, b, got)
	}
	if got, ok := area.Join(a, b); got != joined || ok != want {
		t.Errorf("%v joined to %v: %v, %t, want %v", a, b, got, ok, joined)
	}
}

func TestGoesAndJoin(t *testing.T) {
	joins(t, pages(16, 18), pages(18, 20), true)
	joins(t, pages(16, 17), pages(17, 512), true)
	joins(t, pages(18, 20), pages(16, 18), false)
	joins(t, pages(16, 18), pages(19, 20), false)
	joins(t, pages(16, 18), pages(17, 20), false)
	joins(t, pages(16, 18), pages(16, 18), false)
	joins(t, pages(16, 18), pages(16, 20), false)
	joins(t, backed(16, 18, 1, 0), backed(18, 20, 1, 2), true)
	joins(t, backed(16, 18, 1, 7), backed(18, 20, 1, 9), true)
	joins(t, backed(16, 18, 1, 7), backed(18, 20, 1, 7), false)
	joins(t, backed(16, 18, 1, 7), backed(18, 20, 1, 8), false)
	joins(t, backed(16, 18, 1, 7), backed(18, 20, 1, 10), false)
	joins(t, backed(16, 18, 1, 7), backed(18, 20, 1, 0), false)
	joins(t, backed(16, 18, 1, 7), backed(18, 20, 2, 9), false)
	joins(t, backed(16, 18, 1, 0), pages(18, 20), false)
	joins(t, pages(16, 18), backed(18, 20, 1, 2), false)
	joins(t, pages(16, 18), backed(18, 20, 1, 0), false)
	last := int64(api.MaxOff/page - 4)
	joins(t, backed(16, 18, 9, last), backed(18, 20, 9, last+2), true)
	joins(t, backed(16, 18, 9, last+1), backed(18, 20, 9, last+3), false)
}

// Areas beside one another that differ by one thing don't go on.
func TestGoesOnlyAmongThoseAlike(t *testing.T) {
	for prot := range 8 {
		for other := range 8 {
			for shared := range 4 {
				a, b := backed(30, 33, 2, 1), backed(33, 37, 2, 4)
				a.Prot, b.Prot = prot, other
				a.Shared, b.Shared = shared&1 != 0, shared&2 != 0
				joins(t, a, b, prot == other && a.Shared == b.Shared)
				a.Back, a.Off, b.Back, b.Off = 0, 0, 0, 0
				joins(t, a, b, prot == other && a.Shared == b.Shared)
			}
		}
	}
	for back := range 10 {
		for other := range 10 {
			a, b := backed(30, 33, back, 0), backed(33, 37, other, 3)
			if other == 0 {
				b.Off = 0
			}
			joins(t, a, b, back == other)
		}
	}
}

// Of all areas of some pages, those go on that the words say.
func TestGoesOfEachTwo(t *testing.T) {
	var list []api.Area
	for lo := int64(16); lo < 20; lo++ {
		for hi := lo + 1; hi <= 20; hi++ {
			list = append(list, pages(lo, hi))
			for off := range int64(5) {
				list = append(list, backed(lo, hi, 3, off))
			}
		}
	}
	for _, a := range list {
		for _, b := range list {
			alike := a.Back == b.Back && (a.Back == 0 || b.Off-a.Off == a.End-a.Start)
			joins(t, a, b, a.End == b.Start && alike)
		}
	}
}

// Neither goes on, if one isn't formed, though it would fit else.
func TestUnformedDontGoOn(t *testing.T) {
	for _, a := range unformed() {
		behind := a
		behind.Start, behind.End = a.End, a.End+page
		ahead := a
		ahead.Start, ahead.End = a.Start-page, a.Start
		if a.Back != 0 {
			behind.Off += a.End - a.Start
			ahead.Off -= page
		}
		joins(t, a, behind, false)
		joins(t, ahead, a, false)
		joins(t, a, a, false)
		for _, b := range formed() {
			joins(t, a, b, false)
			joins(t, b, a, false)
		}
	}
	// One of both is formed, and all else fits.
	joins(t, pages(15, 16), pages(16, 17), false)
	joins(t, pages(511, 512), pages(512, 513), false)
	joins(t, pages(511, 512), pages(512, 512), false)
	joins(t, pages(16, 16), pages(16, 17), false)
	joins(t, backed(16, 18, 1, api.MaxOff/page-2), backed(18, 20, 1, api.MaxOff/page), false)
	joins(t, backed(16, 18, 1, -2), backed(18, 20, 1, 0), false)
	joins(t, api.Area{}, api.Area{}, false)
}

// partOf says what a part must be, page by page, or that there is none.
func partOf(a api.Area, lo, hi int64) (api.Area, bool) {
	part, some := api.Area{}, false
	for p := a.Start; lo < hi && p < a.End; p += page {
		if p+page <= lo || p >= hi {
			continue
		}
		if !some {
			part, some = a, true
			part.Start, part.Off = p, attrOf(a, p/page).Off
		}
		part.End = p + page
	}
	return part, some
}

func TestPart(t *testing.T) {
	for _, a := range formed() {
		list := addresses(a)
		for _, lo := range list {
			for _, hi := range list {
				want, some := partOf(a, lo, hi)
				if got, ok := area.Part(a, lo, hi); got != want || ok != some {
					t.Fatalf("%v from %d to %d: %v, %t, want %v, %t", a, lo, hi, got, ok, want, some)
				}
			}
		}
	}
}

func TestPartByHand(t *testing.T) {
	a := api.Area{Start: 16 * page, End: 20 * page, Prot: 6, Shared: true, Back: 1}
	part := func(start, end, off int64) api.Area {
		return api.Area{Start: start, End: end, Prot: 6, Shared: true, Back: 1, Off: off}
	}
	tests := []struct {
		lo, hi int64
		want   api.Area
		ok     bool
	}{
		{18 * page, 20 * page, part(73728, 81920, 8192), true}, // the chapter's example
		{18 * page, math.MaxInt64, part(73728, 81920, 8192), true},
		{math.MinInt64, math.MaxInt64, a, true},
		{16 * page, 20 * page, a, true},
		{math.MinInt64, 65537, part(65536, 69632, 0), true},
		{65536, 69632, part(65536, 69632, 0), true},
		{65536, 69633, part(65536, 73728, 0), true},
		{69631, 69633, part(65536, 73728, 0), true},
		{69632, 69633, part(69632, 73728, 4096), true},
		{81919, math.MaxInt64, part(77824, 81920, 12288), true},
		{81919, 81920, part(77824, 81920, 12288), true},
		{81920, 81921, api.Area{}, false},
		{math.MinInt64, 65536, api.Area{}, false},
		{65535, 65536, api.Area{}, false},
		// Whole pages lie there when rounded, but lo isn't less than hi.
		{69633, 69633, api.Area{}, false},
		{69635, 69633, api.Area{}, false},
		{20 * page, 16 * page, api.Area{}, false},
		{math.MaxInt64, math.MinInt64, api.Area{}, false},
		{math.MaxInt64 - 1, math.MaxInt64, api.Area{}, false},
		{math.MinInt64, math.MinInt64 + 1, api.Area{}, false},
	}
	for _, c := range tests {
		if got, ok := area.Part(a, c.lo, c.hi); got != c.want || ok != c.ok {
			t.Errorf("from %d to %d: %v, %t, want %v, %t", c.lo, c.hi, got, ok, c.want, c.ok)
		}
	}
}

func TestPartOfUnformed(t *testing.T) {
	for _, a := range unformed() {
		for _, lo := range []int64{math.MinInt64, 0, 16 * page, 18 * page, a.Start} {
			for _, hi := range []int64{17 * page, 20 * page, api.Most, math.MaxInt64, a.End} {
				if got, ok := area.Part(a, lo, hi); ok || got != (api.Area{}) {
					t.Errorf("%v, that isn't formed, from %d to %d: %v, %t", a, lo, hi, got, ok)
				}
			}
		}
	}
}

// A part is formed, and what is answered or changed of it is no matter of the
// area that it came from.
func TestPartsAreValues(t *testing.T) {
	for _, a := range formed() {
		was := a
		part, ok := area.Part(a, a.End-page, a.End)
		if !ok || !area.Formed(part) || a != was {
			t.Errorf("%v: %v, %t", was, part, ok)
		}
		part.Prot, part.Start = 0, 0
		if again, _ := area.Part(a, a.Start, a.End); a != was || again != was {
			t.Errorf("%v has become %v", was, a)
		}
	}
}

func TestMay(t *testing.T) {
	for prot := range 8 {
		a := pages(16, 20)
		a.Prot = prot
		for kind := -20; kind < 40; kind++ {
			want := kind >= 1 && kind <= 7
			for bit := 1; bit <= 4; bit *= 2 {
				want = want && (kind&bit == 0 || prot&bit != 0)
			}
			if got := area.May(a, kind); got != want {
				t.Errorf("Prot %d, kind %d: %t", prot, kind, got)
			}
		}
		for _, kind := range []int{math.MinInt, math.MinInt | 1, math.MaxInt, 1<<32 | 1, 1 << 32, 8 | 1} {
			if area.May(a, kind) {
				t.Errorf("Prot %d, kind %d: true", prot, kind)
			}
		}
	}
}

// Prot alone is asked: neither where the area is, nor whether it is formed. A
// kind that is none isn't allowed, though a Prot that is none has its bits.
func TestMayAsksProtAlone(t *testing.T) {
	for _, a := range append(unformed(), formed()...) {
		for kind := -20; kind < 40; kind++ {
			want := kind >= 1 && kind <= 7 && a.Prot&kind == kind
			if got := area.May(a, kind); got != want {
				t.Errorf("%v, kind %d: %t", a, kind, got)
			}
		}
	}
}

// A page's attributes are the same in an area and in each part of it, and in
// the parts of parts.
func TestAttributesInParts(t *testing.T) {
	for _, a := range formed() {
		all := attrs(t, a)
		end := min(a.End, a.Start+7*page)
		for lo := a.Start; lo < end; lo += page {
			for hi := lo + page; hi <= end; hi += page {
				part, _ := area.Part(a, lo+1, hi-1)
				inner, _ := area.Part(part, hi-page, hi)
				for _, x := range []api.Area{part, inner} {
					for p, got := range attrs(t, x) {
						if got != all[p] {
							t.Errorf("%v, part %v, page %d: %v, want %v", a, x, p, got, all[p])
						}
					}
				}
			}
		}
	}
}

// An area that is cut at any page goes on from one part in the other one, and
// both joined are the area that was there.
func TestPartsJoinAgain(t *testing.T) {
	for _, a := range formed() {
		for cut := a.Start + page; cut < a.End; cut += page {
			head, _ := area.Part(a, math.MinInt64, cut)
			tail, _ := area.Part(a, cut, math.MaxInt64)
			if head.End != cut || tail.Start != cut {
				t.Fatalf("%v cut at %d: %v, %v", a, cut, head, tail)
			}
			joins(t, head, tail, true)
			joins(t, tail, head, false)
			if got, ok := area.Join(head, tail); !ok || got != a {
				t.Errorf("%v cut at %d and joined: %v, %t", a, cut, got, ok)
			}
		}
	}
}

// Each page of two areas has in what they are joined to what it had in its own,
// and there are no other pages.
func TestAttributesInJoins(t *testing.T) {
	two := [][2]api.Area{
		{pages(16, 18), pages(18, 23)},
		{pages(16, 511), pages(511, 512)},
		{backed(40, 43, 1, 0), backed(43, 44, 1, 3)},
		{backed(40, 43, 9, 6), backed(43, 49, 9, 9)},
		{backed(16, 18, 9, api.MaxOff/page-4), backed(18, 20, 9, api.MaxOff/page-2)},
	}
	for _, both := range two {
		joined, ok := area.Join(both[0], both[1])
		if !ok || !area.Formed(joined) {
			t.Fatalf("%v: %v, %t", both, joined, ok)
		}
		all := attrs(t, joined)
		for _, a := range both {
			for p, want := range attrs(t, a) {
				if all[p] != want {
					t.Errorf("%v, page %d: %v, want %v", both, p, all[p], want)
				}
				delete(all, p)
			}
		}
		if len(all) != 0 {
			t.Errorf("%v: pages that were in neither: %v", both, all)
		}
	}
}
