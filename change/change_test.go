package change_test

import (
	"math"
	"slices"
	"testing"

	"samara/api"
	"samara/brk"
	"samara/change"
	"samara/mapping"
	"samara/protect"
	"samara/remap"
)

const (
	page  = api.Page
	least = api.Least
)

// kinds is how many there are, from 0 on.
const kinds = 6

// pages answers an area from one page to ahead of another one, of no backing.
func pages(lo, hi int64, prot int) api.Area {
	return api.Area{Start: lo * page, End: hi * page, Prot: prot}
}

// backed answers a shared area of a backing, from a page of it on.
func backed(lo, hi int64, prot, back int, off int64) api.Area {
	a := pages(lo, hi, prot)
	a.Shared, a.Back, a.Off = true, back, off*page
	return a
}

// many answers n areas, each alone.
func many(n int64) []api.Area {
	var l []api.Area
	for p := range n {
		l = append(l, pages(100+2*p, 101+2*p, 3))
	}
	return l
}

// space answers one of a break and areas.
func space(now int64, l ...api.Area) change.Space {
	return change.Space{Areas: l, Break: now}
}

// equal holds spaces against each other without asking the package.
func equal(a, b change.Space) bool {
	return a.Break == b.Break && slices.Equal(a.Areas, b.Areas)
}

// none are kinds that are no call's, those too that would be one if they were cut
// off, or if their sign were lost.
func none() []int {
	return []int{
		-1, 6, 7, 8, -2, -3, -4, -5, -6, 10, 16, 100, 256, 257, 261, 1 << 16, 1<<16 + 4,
		1 << 32, 1<<32 + 1, 1<<32 + 5, -1 << 32, math.MaxInt32, math.MinInt32, math.MaxInt, math.MinInt,
	}
}

// right are spaces that are.
func right() []change.Space {
	return []change.Space{
		change.Start(),
		{Areas: []api.Area{}, Break: least},
		space(least + 1),
		space(least + 64*page),
		space(least, pages(16, 512, 0)),
		space(least+2*page, pages(16, 18, 3), backed(18, 20, 1, 9, 3)),
		space(least+5, pages(16, 17, 3), pages(17, 18, 1), pages(20, 24, 3), backed(30, 40, 5, 1, 0)),
		space(least+64*page, pages(16, 80, 3), pages(511, 512, 7)),
		space(least, many(23)...),
		space(least+9*page, many(24)...),
		space(least+9*page, append([]api.Area{pages(16, 90, 3)}, many(23)...)...),
	}
}

// wrong are spaces that aren't right: by their areas, how many there are, or their
// break.
func wrong() []change.Space {
	return []change.Space{
		{},
		space(0, pages(20, 22, 3)),
		space(-1),
		space(least - 1),
		space(least + 64*page + 1),
		space(least-1, pages(20, 22, 3)),
		space(least+64*page+1, many(24)...),
		space(math.MaxInt64),
		space(math.MinInt64),
		space(least, many(25)...),
		space(least, many(60)...),
		space(0, many(25)...),
		space(least, pages(20, 22, 3), pages(22, 24, 3)),
		space(least, pages(20, 22, 3), pages(21, 24, 1)),
		space(least, pages(24, 26, 3), pages(20, 22, 3)),
		space(least, pages(20, 20, 3)),
		space(least, api.Area{}),
		space(least, pages(15, 20, 3)),
		space(least, pages(500, 513, 3)),
		space(least, pages(20, 22, 8)),
		space(least, pages(20, 22, -1)),
		space(least, api.Area{Start: 20*page + 1, End: 22 * page}),
		space(least, backed(20, 22, 3, 10, 0)),
		space(least, api.Area{Start: 20 * page, End: 22 * page, Off: page}),
		space(least, pages(20, 22, 3), api.Area{Start: math.MaxInt64, End: math.MinInt64}),
	}
}

// calls are such as each kind can be asked, with and without an error.
func calls() []api.Call {
	return []api.Call{
		{},
		{Addr: 20 * page, Len: page, New: page, Prot: 1, Flags: mapping.Fixed},
		{Addr: 20 * page, Len: 2 * page, New: 3 * page, Prot: 3, Flags: remap.MayMove},
		{Addr: least + 3*page, Len: 1, New: 1, Prot: 3},
		{Addr: least + 1, Len: 4 * page, New: page, Prot: 7, Flags: mapping.NoReplace},
		{Addr: 16 * page, Len: 496 * page, New: page, Prot: 2},
		{Len: page, Prot: 3, Flags: mapping.BottomUp | mapping.Shared, Back: 3, Off: 5 * page},
		{Addr: 100 * page, Len: page, New: page, To: 40 * page, Prot: 1, Flags: remap.MayMove | mapping.Fixed},
		{Addr: -1, Len: -1, New: -1, To: -1, Prot: -1, Flags: -1, Back: -1, Off: -1},
		{Addr: math.MaxInt64, Len: math.MaxInt64, New: math.MaxInt64, To: math.MaxInt64, Prot: math.MaxInt, Flags: math.MaxInt, Back: math.MaxInt, Off: math.MaxInt64},
		{Addr: math.MinInt64, Len: math.MinInt64, New: math.MinInt64, To: math.MinInt64, Prot: math.MinInt, Flags: math.MinInt, Back: math.MinInt, Off: math.MinInt64},
	}
}

// ofKind answers a call that is of another kind.
func ofKind(kind int, c api.Call) api.Call {
	c.Kind = kind
	return c
}

// said is what the layers below say of a right space and a call of a kind that is
// one.
func said(s change.Space, c api.Call) (change.Space, api.Answer) {
	l := []func() ([]api.Area, int64, api.Answer){
		areasAlone(mapping.Map, s, c),
		areasAlone(mapping.Unmap, s, c),
		areasAlone(protect.Protect, s, c),
		areasAlone(remap.Remap, s, c),
		func() ([]api.Area, int64, api.Answer) { return brk.Move(s.Areas, s.Break, c) },
		func() ([]api.Area, int64, api.Answer) { return s.Areas, s.Break, protect.Fault(s.Areas, c) },
	}
	areas, now, a := l[c.Kind]()
	return change.Space{Areas: areas, Break: now}, a
}

// areasAlone asks a layer that knows nothing of the break, which so stays.
func areasAlone(ask func([]api.Area, api.Call) ([]api.Area, api.Answer), s change.Space, c api.Call) func() ([]api.Area, int64, api.Answer) {
	return func() ([]api.Area, int64, api.Answer) {
		areas, a := ask(s.Areas, c)
		return areas, s.Break, a
	}
}

// holds holds what is answered against what the layers below say, and what follows.
func holds(t *testing.T, s change.Space, c api.Call) (change.Space, api.Answer) {
	t.Helper()
	want, b := said(s, c)
	got, a := change.Do(s, c)
	if a != b || !equal(got, want) {
		t.Fatalf("%+v of %v: %v, %v, want %v, %v", c, s, got, a, want, b)
	}
	if !change.Right(got) {
		t.Fatalf("%+v of %v: %v isn't right", c, s, got)
	}
	if a.Err != api.OK && (a != api.Answer{Err: a.Err} || !equal(got, s)) {
		t.Fatalf("%+v of %v: %v, beside %v", c, s, got, a)
	}
	return got, a
}

// refuses holds a call against an error, beside which the space is as it was.
func refuses(t *testing.T, s change.Space, c api.Call, e api.Errno) {
	t.Helper()
	if got, a := change.Do(s, c); a != (api.Answer{Err: e}) || !equal(got, s) {
		t.Errorf("%+v of %v: %v, %v, want %d", c, s, got, a, e)
	}
}

// comes holds a call against what it comes to.
func comes(t *testing.T, s change.Space, c api.Call, want change.Space, b api.Answer) {
	t.Helper()
	if got, a := change.Do(s, c); a != b || !equal(got, want) {
		t.Errorf("%+v of %v: %v, %v, want %v, %v", c, s, got, a, want, b)
	}
}

func TestStart(t *testing.T) {
	if s := change.Start(); len(s.Areas) != 0 || s.Break != 65536 || !change.Right(s) {
		t.Error(s)
	}
}

func TestRight(t *testing.T) {
	for _, s := range right() {
		if !change.Right(s) {
			t.Error(s)
		}
	}
	for _, s := range wrong() {
		if change.Right(s) {
			t.Error(s)
		}
	}
}

func TestEachKind(t *testing.T) {
	x := pages(20, 24, 3)
	s := space(least+page, pages(16, 17, 3), x)
	value := func(n int64) api.Answer { return api.Answer{Value: n} }
	// Map
	comes(t, s, api.Call{Kind: 0, Addr: 30 * page, Len: 1, Prot: 5, Flags: mapping.Fixed}, space(least+page, pages(16, 17, 3), x, pages(30, 31, 5)), value(30*page))
	comes(t, s, api.Call{Kind: 0, Len: page, Prot: 3}, space(least+page, pages(16, 17, 3), x, pages(511, 512, 3)), value(511*page))
	refuses(t, s, api.Call{Kind: 0}, api.ErrZero)
	refuses(t, s, api.Call{Kind: 0, Len: 490 * page}, api.ErrSpace)
	refuses(t, s, api.Call{Kind: 0, Addr: 16 * page, Len: 1, Flags: mapping.Fixed | mapping.NoReplace}, api.ErrExists)
	// Unmap
	comes(t, s, api.Call{Kind: 1, Addr: 21 * page, Len: page}, space(least+page, pages(16, 17, 3), pages(20, 21, 3), pages(22, 24, 3)), value(0))
	comes(t, s, api.Call{Kind: 1, Addr: 16 * page, Len: page}, space(least+page, x), value(0))
	refuses(t, s, api.Call{Kind: 1, Addr: 1, Len: page}, api.ErrAlign)
	refuses(t, s, api.Call{Kind: 1, Addr: 511 * page, Len: 2 * page}, api.ErrRange)
	// Protect
	comes(t, s, api.Call{Kind: 2, Addr: 20 * page, Len: page, Prot: 1}, space(least+page, pages(16, 17, 3), pages(20, 21, 1), pages(21, 24, 3)), value(0))
	refuses(t, s, api.Call{Kind: 2, Addr: 16 * page, Len: 2 * page, Prot: 1}, api.ErrNone)
	// Remap
	comes(t, s, api.Call{Kind: 3, Addr: 20 * page, Len: 4 * page, New: 5 * page}, space(least+page, pages(16, 17, 3), pages(20, 25, 3)), value(20*page))
	comes(t, s, api.Call{Kind: 3, Addr: 16 * page, Len: page, New: page, To: 40 * page, Flags: remap.MayMove | mapping.Fixed}, space(least+page, x, pages(40, 41, 3)), value(40*page))
	refuses(t, s, api.Call{Kind: 3, Addr: 17 * page, Len: page, New: page}, api.ErrNone)
	// Break
	comes(t, s, api.Call{Kind: 4}, s, value(least+page))
	comes(t, s, api.Call{Kind: 4, Addr: least + 3*page - 1}, space(least+3*page-1, pages(16, 19, 3), x), value(least+3*page-1))
	comes(t, s, api.Call{Kind: 4, Addr: least + page - 1}, space(least+page-1, s.Areas...), value(least+page-1))
	comes(t, s, api.Call{Kind: 4, Addr: least}, space(least, x), value(least))
	refuses(t, s, api.Call{Kind: 4, Addr: least - 1}, api.ErrRange)
	refuses(t, s, api.Call{Kind: 4, Addr: least + 5*page}, api.ErrSpace)
	// Fault
	comes(t, s, api.Call{Kind: 5, Addr: 20*page + 7, Prot: 2}, s, api.Answer{Attr: api.Attr{Prot: 3}})
	comes(t, space(least, backed(30, 34, 5, 2, 6)), api.Call{Kind: 5, Addr: 31 * page, Prot: 4}, space(least, backed(30, 34, 5, 2, 6)), api.Answer{Attr: api.Attr{Prot: 5, Shared: true, Back: 2, Off: 7 * page}})
	refuses(t, s, api.Call{Kind: 5, Addr: 24 * page, Prot: 1}, api.ErrNone)
	refuses(t, s, api.Call{Kind: 5, Addr: 20 * page, Prot: 4}, api.ErrAccess)
	refuses(t, s, api.Call{Kind: 5, Addr: 20 * page}, api.ErrArg)
}

// Each kind on each right space comes to what its layer says.
func TestWhatTheLayersSay(t *testing.T) {
	for _, s := range right() {
		for kind := range kinds {
			for _, c := range calls() {
				holds(t, s, ofKind(kind, c))
			}
		}
	}
}

// One area more than there may be is told, whichever layer would make it.
func TestUpToTheMostAreas(t *testing.T) {
	full := space(least+2*page, append([]api.Area{pages(16, 90, 3)}, many(23)...)...)
	refuses(t, full, api.Call{Kind: 0, Len: page, Prot: 3}, api.ErrAreas)
	refuses(t, full, api.Call{Kind: 1, Addr: 20 * page, Len: page}, api.ErrAreas)
	refuses(t, full, api.Call{Kind: 2, Addr: 20 * page, Len: page, Prot: 1}, api.ErrAreas)
	refuses(t, full, api.Call{Kind: 3, Addr: 20 * page, Len: page, New: page, Flags: remap.MayMove | mapping.Fixed, To: 95 * page}, api.ErrAreas)
	refuses(t, full, api.Call{Kind: 4, Addr: least + page}, api.ErrAreas)
	comes(t, full, api.Call{Kind: 4, Addr: least + 2*page - 1}, space(least+2*page-1, full.Areas...), api.Answer{Value: least + 2*page - 1})
	comes(t, full, api.Call{Kind: 1, Addr: 16 * page, Len: page}, space(least+2*page, append([]api.Area{pages(17, 90, 3)}, many(23)...)...), api.Answer{})
}

func TestKindsThatAreNone(t *testing.T) {
	for _, kind := range none() {
		for _, c := range calls() {
			for _, s := range right() {
				refuses(t, s, ofKind(kind, c), api.ErrArg)
			}
		}
	}
}

// That a space isn't right is asked ahead of all else: of each kind, of what is
// asked rightly and wrongly, and though nothing would be done.
func TestSpacesThatAreNotRight(t *testing.T) {
	for _, s := range wrong() {
		for _, c := range append(calls(), api.Call{Addr: 20 * page, Prot: 1}) {
			for kind := range kinds {
				refuses(t, s, ofKind(kind, c), api.ErrArg)
			}
			for _, kind := range none() {
				refuses(t, s, ofKind(kind, c), api.ErrArg)
			}
		}
	}
}

func TestSame(t *testing.T) {
	all := append(right(), wrong()...)
	for i, a := range all {
		for j, b := range all {
			b = change.Space{Areas: slices.Clone(b.Areas), Break: b.Break}
			if want := i == j || i+j == 1; change.Same(a, b) != want { // the first two: Start, with no areas both
				t.Errorf("%v and %v: want %v", a, b, want)
			}
		}
	}
	x := backed(20, 24, 3, 2, 1)
	for _, f := range []func(a *api.Area){
		func(a *api.Area) { a.Start -= page },
		func(a *api.Area) { a.End += page },
		func(a *api.Area) { a.Prot = 2 },
		func(a *api.Area) { a.Shared = false },
		func(a *api.Area) { a.Back = 3 },
		func(a *api.Area) { a.Off = 0 },
	} {
		y := x
		f(&y)
		for _, l := range [][]api.Area{{y}, {x, pages(30, 31, 3)}, {pages(16, 17, 3), x}, nil} {
			if a, b := space(least, x), space(least, l...); change.Same(a, b) || change.Same(b, a) {
				t.Error(a, b)
			}
		}
	}
	for _, now := range []int64{least + 1, least + page, 0} {
		if change.Same(space(least, x), space(now, x)) {
			t.Error(now)
		}
	}
}

func TestPlay(t *testing.T) {
	for _, l := range [][]api.Call{nil, {}} {
		if s, a := change.Play(l); !equal(s, space(65536)) || len(a) != 0 {
			t.Error(s, a)
		}
	}
	s, got := change.Play([]api.Call{
		{Kind: 0, Len: 2 * page, Prot: 3, Flags: mapping.BottomUp},
		{Kind: 5, Addr: 17 * page, Prot: 2},
		{Kind: 4, Addr: least + page},
		{Kind: 2, Addr: 17 * page, Len: page, Prot: 1},
		{Kind: 5, Addr: 17 * page, Prot: 2},
		{Kind: -1},
		{Kind: 3, Addr: 17 * page, Len: page, New: 2 * page},
		{Kind: 1, Addr: 16 * page, Len: page},
		{Kind: 4, Addr: least + page},
		{Kind: 4, Addr: least + 1},
	})
	want := []api.Answer{
		{Value: 16 * page}, {Attr: api.Attr{Prot: 3}}, {Err: api.ErrSpace}, {}, {Err: api.ErrAccess},
		{Err: api.ErrArg}, {Value: 17 * page}, {}, {Value: least + page}, {Value: least + 1},
	}
	if !slices.Equal(got, want) {
		t.Errorf("%v, want %v", got, want)
	}
	if !equal(s, space(least+1, pages(16, 17, 3), pages(17, 19, 1))) {
		t.Error(s)
	}
}

func TestExample(t *testing.T) {
	s, a := change.Play([]api.Call{{Kind: 0, Len: 3 * page, Prot: 3}, {Kind: 1, Addr: 509 * page, Len: 3 * page}})
	if !change.Same(s, change.Start()) || !slices.Equal(a, []api.Answer{{Value: 509 * page}, {}}) {
		t.Error(s, a)
	}
}

// drawn answers calls of all kinds, most of which can be done, and some kinds that
// are none.
func drawn(count int) []api.Call {
	n := int64(1)
	draw := func(below int64) int64 {
		n = n * 48271 % (1<<31 - 1)
		return n % below
	}
	var l []api.Call
	for range count {
		c := api.Call{
			Kind: int(draw(kinds)), Addr: (15 + draw(120)) * page, Len: 1 + draw(6*page), New: 1 + draw(6*page),
			To: (16 + draw(120)) * page, Prot: int(draw(8)), Back: int(draw(3)),
		}
		if c.Back > 0 {
			c.Off = draw(4) * page
		}
		flags := [][]int{{0, 1, 1, 3, 4, 8, 5}, {0}, {0}, {0, 16, 17, 48}, {0}, {0}}[c.Kind]
		c.Flags = flags[draw(int64(len(flags)))]
		switch draw(40) {
		case 0:
			c.Kind = none()[draw(5)]
		case 1:
			c.Addr += 1 + draw(page-1)
		case 2:
			c.Len = 0
		case 3:
			c.Len = 495 * page
		case 4:
			c.Flags = 64
		case 5:
			c.Addr = 0
		}
		l = append(l, c)
	}
	return l
}

// Calls one behind the other come to what the layers say of each, keep the space
// right, and meet all errors of the layers on their way; and Play comes to the same.
func TestOneBehindTheOther(t *testing.T) {
	s := change.Start()
	met := map[api.Errno]int{}
	var answers []api.Answer
	l := drawn(20000)
	for _, c := range l {
		var a api.Answer
		if c.Kind >= 0 && c.Kind < kinds {
			s, a = holds(t, s, c)
		} else {
			refuses(t, s, c, api.ErrArg)
			a.Err = api.ErrArg
		}
		met[a.Err]++
		answers = append(answers, a)
	}
	for e := api.OK; e <= api.ErrAreas; e++ {
		if met[e] == 0 {
			t.Errorf("%d wasn't met: %v", e, met)
		}
	}
	if got, a := change.Play(l); !equal(got, s) || !slices.Equal(a, answers) {
		t.Error(got, s)
	}
}

// A played call hangs on those ahead of it alone.
func TestPlayOfFewer(t *testing.T) {
	l := drawn(300)
	_, all := change.Play(l)
	for i := range l {
		s, a := change.Play(l[:i])
		if !slices.Equal(a, all[:i]) {
			t.Fatal(i, a, all[:i])
		}
		then, b := change.Do(s, l[i])
		if got, a := change.Play(l[:i+1]); !equal(got, then) || a[i] != b {
			t.Fatal(i, got, then, a[i], b)
		}
	}
}

// What is handed in is left as it is, its spare room too, and what is answered is
// new: the areas that came beside an error, or of a fault, no less than others.
func TestSpacesAreNewAndArgumentsStay(t *testing.T) {
	for _, s := range append(right(), wrong()...) {
		whole := append(slices.Clone(s.Areas), pages(-7, -7, -7), pages(-7, -7, -7))
		was := slices.Clone(whole)
		in := change.Space{Areas: whole[:len(s.Areas)], Break: s.Break}
		for kind := -1; kind <= kinds; kind++ {
			for _, c := range calls() {
				got, _ := change.Do(in, ofKind(kind, c))
				l := got.Areas[:cap(got.Areas)]
				for i := range l {
					l[i] = api.Area{Start: 99}
				}
				change.Right(in)
				change.Same(in, got)
				if !slices.Equal(whole, was) {
					t.Fatalf("kind %d, %+v of %v: changed", kind, c, s)
				}
			}
		}
	}
	asked := append(drawn(20), api.Call{Kind: 99}, api.Call{Kind: 99})
	was := slices.Clone(asked)
	change.Play(asked[:20])
	if !slices.Equal(asked, was) {
		t.Error("Play changed its calls")
	}
}
