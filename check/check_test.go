package check_test

import (
	"math"
	"math/big"
	"testing"

	"samara/api"
	"samara/check"
)

const (
	page  = api.Page
	space = api.Most - api.Least
)

// numbers answers bytes around all edges that the chapter names, and around the
// ends of what a number can be.
func numbers() []int64 {
	edges := []int64{
		0, page, 2 * page, 15 * page, api.Least, api.Least + page, space - page, space,
		api.Most - page, api.Most, api.Most + page, api.MaxOff - space, api.MaxOff - page, api.MaxOff,
		api.MaxOff + page, 1 << 31, 1 << 32, 1 << 62,
	}
	l := []int64{math.MinInt64, math.MinInt64 + 1, math.MaxInt64 - 1, math.MaxInt64}
	for d := int64(-1); d <= 1; d++ {
		l = append(l, math.MinInt64+page+d, math.MaxInt64-page+d, math.MaxInt64-page+1-space+d)
		for _, x := range edges {
			l = append(l, x+d, -x+d)
		}
	}
	return l
}

// above tells whether all of a list are more than a bound in all, in numbers that
// have no end.
func above(bound int64, l ...int64) bool {
	sum := new(big.Int)
	for _, x := range l {
		sum.Add(sum, big.NewInt(x))
	}
	return sum.Cmp(big.NewInt(bound)) > 0
}

// sizeOf says what Size must answer, by counting pages.
func sizeOf(n int64) (int64, api.Errno) {
	if n == 0 {
		return 0, api.ErrZero
	}
	for size := int64(page); n > 0 && size <= space; size += page {
		if n <= size {
			return size, api.OK
		}
	}
	return 0, api.ErrRange
}

// rangeOf says what Range must answer.
func rangeOf(addr, n int64) (int64, int64, api.Errno) {
	if addr&(page-1) != 0 {
		return 0, 0, api.ErrAlign
	}
	size, e := sizeOf(n)
	if e != api.OK {
		return 0, 0, e
	}
	if addr < api.Least || above(api.Most, addr, size) {
		return 0, 0, api.ErrRange
	}
	return addr, addr + size, api.OK
}

// backingOf says what Backing must answer.
func backingOf(back int, off, size int64) api.Errno {
	if back < 0 || back > 9 {
		return api.ErrArg
	}
	if back == 0 && off != 0 {
		return api.ErrArg
	}
	if off&(page-1) != 0 {
		return api.ErrAlign
	}
	if off < 0 || above(api.MaxOff, off, size) {
		return api.ErrRange
	}
	return api.OK
}

func TestSizeByHand(t *testing.T) {
	tests := []struct {
		n, want int64
		e       api.Errno
	}{
		{1, 4096, api.OK}, // the chapter's example
		{4095, 4096, api.OK},
		{4096, 4096, api.OK},
		{4097, 8192, api.OK},
		{2027520, 2027520, api.OK},
		{2027521, 2031616, api.OK},
		{2031615, 2031616, api.OK},
		{2031616, 2031616, api.OK},
		{0, 0, api.ErrZero},
		{-1, 0, api.ErrRange},
		{-4096, 0, api.ErrRange},
		{2031617, 0, api.ErrRange},
		{2097152, 0, api.ErrRange},
		{1 << 32, 0, api.ErrRange},
		{math.MaxInt64, 0, api.ErrRange},
		{math.MinInt64, 0, api.ErrRange},
	}
	for _, c := range tests {
		if got, e := check.Size(c.n); got != c.want || e != c.e {
			t.Errorf("%d: %d, %d, want %d, %d", c.n, got, e, c.want, c.e)
		}
	}
}

func TestSize(t *testing.T) {
	l := numbers()
	for n := int64(-page); n <= api.Most+page; n += 509 {
		l = append(l, n)
	}
	for _, n := range l {
		want, wrong := sizeOf(n)
		if got, e := check.Size(n); got != want || e != wrong {
			t.Errorf("%d: %d, %d, want %d, %d", n, got, e, want, wrong)
		}
	}
}

func TestRangeByHand(t *testing.T) {
	tests := []struct {
		addr, n, begin, end int64
		e                   api.Errno
	}{
		{65536, 1, 65536, 69632, api.OK}, // the chapter's example
		{65536, 4096, 65536, 69632, api.OK},
		{65536, 4097, 65536, 73728, api.OK},
		{65536, 2031616, 65536, 2097152, api.OK},
		{69632, 2027520, 69632, 2097152, api.OK},
		{2093056, 1, 2093056, 2097152, api.OK},
		{2093056, 4096, 2093056, 2097152, api.OK},
		{69632, 2027521, 0, 0, api.ErrRange},
		{2093056, 4097, 0, 0, api.ErrRange},
		{2097152, 1, 0, 0, api.ErrRange},
		{61440, 1, 0, 0, api.ErrRange},
		{61440, 8192, 0, 0, api.ErrRange},
		{0, 1, 0, 0, api.ErrRange},
		{-4096, 1, 0, 0, api.ErrRange},
		{65536, 2031617, 0, 0, api.ErrRange},
		{65536, -1, 0, 0, api.ErrRange},
		{65536, 0, 0, 0, api.ErrZero},
		{65537, 1, 0, 0, api.ErrAlign},
		{69631, 1, 0, 0, api.ErrAlign},
		{-1, 1, 0, 0, api.ErrAlign},
		{math.MaxInt64, 1, 0, 0, api.ErrAlign},
		// Where several errors apply: addr's whole pages, the size, the space.
		{1, 0, 0, 0, api.ErrAlign},
		{1, -1, 0, 0, api.ErrAlign},
		{-1, 2031617, 0, 0, api.ErrAlign},
		{0, 0, 0, 0, api.ErrZero},
		{2097152, 0, 0, 0, api.ErrZero},
		{-4096, 0, 0, 0, api.ErrZero},
		// The ends of a sum aren't in the space, though it goes round.
		{math.MinInt64, 1, 0, 0, api.ErrRange},
		{math.MinInt64, 2031616, 0, 0, api.ErrRange},
		{math.MaxInt64 - 4095, 1, 0, 0, api.ErrRange},
		{math.MaxInt64 - 4095, 4096, 0, 0, api.ErrRange},
		{math.MaxInt64 - 4095, 2031616, 0, 0, api.ErrRange},
	}
	for _, c := range tests {
		begin, end, e := check.Range(c.addr, c.n)
		if begin != c.begin || end != c.end || e != c.e {
			t.Errorf("%d bytes at %d: %d, %d, %d, want %d, %d, %d", c.n, c.addr, begin, end, e, c.begin, c.end, c.e)
		}
	}
}

// ranges holds Range's answer against what it must be.
func ranges(t *testing.T, addr, n int64) {
	t.Helper()
	begin, end, e := check.Range(addr, n)
	if wantBegin, wantEnd, want := rangeOf(addr, n); begin != wantBegin || end != wantEnd || e != want {
		t.Errorf("%d bytes at %d: %d, %d, %d, want %d, %d, %d", n, addr, begin, end, e, wantBegin, wantEnd, want)
	}
}

func TestRange(t *testing.T) {
	l := numbers()
	for _, addr := range l {
		for _, n := range l {
			ranges(t, addr, n)
		}
	}
}

// At each page of the space as much fits as is left behind it, and no byte more.
func TestRangeUpToTheSpacesEnd(t *testing.T) {
	for addr := int64(api.Least - 2*page); addr <= api.Most+2*page; addr += page {
		left := api.Most - addr
		for _, n := range []int64{1, page, page + 1, left - page, left - 1, left, left + 1, left + page} {
			ranges(t, addr, n)
			ranges(t, addr+1, n)
		}
	}
}

func TestProt(t *testing.T) {
	for prot := -100; prot < 300; prot++ {
		want := api.ErrArg
		if prot >= 0 && prot < 8 {
			want = api.OK
		}
		if e := check.Prot(prot); e != want {
			t.Errorf("%d: %d, want %d", prot, e, want)
		}
	}
	for _, prot := range []int{math.MinInt, math.MinInt | 3, math.MaxInt, math.MaxInt32, 1 << 31, 1<<32 | 3, 1 << 32} {
		if e := check.Prot(prot); e != api.ErrArg {
			t.Errorf("%d: %d", prot, e)
		}
	}
}

func TestBackingByHand(t *testing.T) {
	const most = int64(api.MaxOff)
	tests := []struct {
		back      int
		off, size int64
		e         api.Errno
	}{
		{0, 0, 4096, api.OK},
		{0, 0, 2031616, api.OK},
		{1, 0, 4096, api.OK},
		{9, 0, 4096, api.OK},
		{9, 4096, 2031616, api.OK},
		{1, most - 4096, 4096, api.OK},
		{1, most - 8192, 8192, api.OK},
		{9, most - 2031616, 2031616, api.OK},
		{-1, 0, 4096, api.ErrArg},
		{10, 0, 4096, api.ErrArg},
		{math.MinInt, 0, 4096, api.ErrArg},
		{math.MaxInt, 0, 4096, api.ErrArg},
		{1 << 32, 0, 4096, api.ErrArg},
		{0, 4096, 4096, api.ErrArg},
		{1, 1, 4096, api.ErrAlign},
		{1, 4095, 4096, api.ErrAlign},
		{9, most - 1, 4096, api.ErrAlign},
		{1, -4096, 4096, api.ErrRange},
		{1, math.MinInt64, 4096, api.ErrRange},
		{1, most - 4096, 8192, api.ErrRange},
		{1, most - 2031616 + 4096, 2031616, api.ErrRange},
		{1, most, 4096, api.ErrRange},
		{1, most + 4096, 4096, api.ErrRange},
		{1, math.MaxInt64 - 4095, 4096, api.ErrRange},
		{1, math.MaxInt64 - 4095, 2031616, api.ErrRange},
		// Where several errors apply: the backing, the whole pages, the place.
		{0, 1, 4096, api.ErrArg},
		{0, -1, 4096, api.ErrArg},
		{0, -4096, 4096, api.ErrArg},
		{0, most, 4096, api.ErrArg},
		{10, 1, 4096, api.ErrArg},
		{-1, -4096, 4096, api.ErrArg},
		{1, -1, 4096, api.ErrAlign},
		{1, -4095, 4096, api.ErrAlign},
		{1, most + 1, 4096, api.ErrAlign},
		{1, math.MaxInt64, 4096, api.ErrAlign},
		{1, math.MinInt64 + 1, 4096, api.ErrAlign},
	}
	for _, c := range tests {
		if e := check.Backing(c.back, c.off, c.size); e != c.e {
			t.Errorf("%d bytes of %d at %d: %d, want %d", c.size, c.back, c.off, e, c.e)
		}
	}
}

// Sizes that Size doesn't tell are asked as they are: the words say of them
// nothing else.
func TestBacking(t *testing.T) {
	l := numbers()
	for _, back := range []int{math.MinInt, -1, 0, 1, 8, 9, 10, 16, math.MaxInt} {
		for _, off := range l {
			for _, size := range l {
				want := backingOf(back, off, size)
				if e := check.Backing(back, off, size); e != want {
					t.Errorf("%d bytes of %d at %d: %d, want %d", size, back, off, e, want)
				}
			}
		}
	}
}

// The last place of an offset hangs on the size.
func TestBackingUpToTheLastOffset(t *testing.T) {
	for size := int64(page); size <= space; size += page {
		for back := 1; back <= api.MaxBack; back++ {
			last := check.Backing(back, api.MaxOff-size, size)
			beyond := check.Backing(back, api.MaxOff-size+page, size)
			if last != api.OK || beyond != api.ErrRange {
				t.Errorf("%d bytes of %d: %d, %d", size, back, last, beyond)
			}
		}
	}
}

// flagsOf says what Flags must answer, bit by bit.
func flagsOf(flags, allowed int) api.Errno {
	for bit := range 63 {
		if flags>>bit&1 == 1 && allowed>>bit&1 == 0 {
			return api.ErrArg
		}
	}
	if flags < 0 {
		return api.ErrArg
	}
	return api.OK
}

func TestFlags(t *testing.T) {
	list := []int{math.MinInt, math.MinInt + 1, math.MaxInt - 1, math.MaxInt, 1 << 31, 1 << 32, 1<<32 | 1, 1 << 62}
	for x := -70; x < 70; x++ {
		list = append(list, x)
	}
	for _, flags := range list {
		for _, allowed := range list {
			want := flagsOf(flags, allowed)
			if e := check.Flags(flags, allowed); e != want {
				t.Errorf("%d of %d: %d, want %d", flags, allowed, e, want)
			}
		}
	}
}

func TestFlagsByHand(t *testing.T) {
	tests := []struct {
		flags, allowed int
		e              api.Errno
	}{
		{0, 0, api.OK},
		{0, 15, api.OK},
		{0, -1, api.OK},
		{15, 15, api.OK},
		{49, 49, api.OK},
		{33, 49, api.OK},
		{math.MaxInt, math.MaxInt, api.OK},
		{math.MaxInt, -1, api.OK},
		{1, 0, api.ErrArg},
		{16, 15, api.ErrArg},
		{17, 15, api.ErrArg},
		{2, 49, api.ErrArg},
		{51, 49, api.ErrArg},
		{1 << 32, 15, api.ErrArg},
		{math.MaxInt, 15, api.ErrArg},
		// Below 0 is wrong, though all bits are allowed.
		{-1, -1, api.ErrArg},
		{-8, -8, api.ErrArg},
		{math.MinInt, math.MinInt, api.ErrArg},
		{math.MinInt, -1, api.ErrArg},
		{-1, math.MaxInt, api.ErrArg},
	}
	for _, c := range tests {
		if e := check.Flags(c.flags, c.allowed); e != c.e {
			t.Errorf("%d of %d: %d, want %d", c.flags, c.allowed, e, c.e)
		}
	}
}
