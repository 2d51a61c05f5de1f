package cell_test

import (
	"math"
	"slices"
	"testing"

	"samara/api"
	"samara/cell"
)

// filled answers a memory that holds values; its count is how many they are.
func filled(t *testing.T, values ...int64) *cell.Memory {
	t.Helper()
	m := cell.New(len(values))
	for i, v := range values {
		if e := m.Store(i, v); e != api.OK {
			t.Fatalf("Store(%d, %d): %d", i, v, e)
		}
	}
	return m
}

// holds checks what a memory has, and how often it was accessed.
func holds(t *testing.T, m *cell.Memory, count int, values ...int64) {
	t.Helper()
	if got := m.Look(0, m.Size()); !slices.Equal(got, values) {
		t.Errorf("cells: %v, want %v", got, values)
	}
	if got := m.Count(); got != count {
		t.Errorf("Count: %d, want %d", got, count)
	}
}

func TestNewSize(t *testing.T) {
	for _, c := range []struct{ n, want int }{
		{math.MinInt, 0},
		{-1, 0},
		{0, 0},
		{1, 1},
		{17, 17},
		{api.MaxCells - 1, api.MaxCells - 1},
		{api.MaxCells, api.MaxCells},
		{api.MaxCells + 1, api.MaxCells},
		{math.MaxInt, api.MaxCells},
	} {
		m := cell.New(c.n)
		if got := m.Size(); got != c.want {
			t.Errorf("New(%d): Size %d, want %d", c.n, got, c.want)
		}
		holds(t, m, 0, make([]int64, c.want)...)
	}
}

func TestNewLastCell(t *testing.T) {
	for _, n := range []int{1, 17, api.MaxCells, math.MaxInt} {
		m := cell.New(n)
		last := m.Size() - 1
		if e := m.Store(last, 8); e != api.OK {
			t.Errorf("New(%d): Store(%d): %d", n, last, e)
		}
		if v, e := m.Load(last); v != 8 || e != api.OK {
			t.Errorf("New(%d): Load(%d): %d, %d", n, last, v, e)
		}
		if _, e := m.Load(last + 1); e != api.ErrArg {
			t.Errorf("New(%d): Load(%d): %d", n, last+1, e)
		}
	}
}

func TestExample(t *testing.T) {
	m := cell.New(1)
	if e := m.Store(0, 5); e != api.OK {
		t.Errorf("Store: %d", e)
	}
	if v, e := m.Add(0, 2); v != 5 || e != api.OK {
		t.Errorf("Add: %d, %d", v, e)
	}
	if v, e := m.Load(0); v != 7 || e != api.OK {
		t.Errorf("Load: %d, %d", v, e)
	}
	holds(t, m, 3, 7)
}

func TestLoad(t *testing.T) {
	m := filled(t, math.MinInt64, -1, 0, math.MaxInt64)
	for i, want := range []int64{math.MinInt64, -1, 0, math.MaxInt64} {
		if v, e := m.Load(i); v != want || e != api.OK {
			t.Errorf("Load(%d): %d, %d, want %d", i, v, e, want)
		}
	}
	holds(t, m, 8, math.MinInt64, -1, 0, math.MaxInt64)
}

func TestStore(t *testing.T) {
	m := filled(t, 1, 2, 3)
	if e := m.Store(1, -9); e != api.OK {
		t.Errorf("Store: %d", e)
	}
	holds(t, m, 4, 1, -9, 3)
	if e := m.Store(1, -9); e != api.OK {
		t.Errorf("Store of what is there: %d", e)
	}
	holds(t, m, 5, 1, -9, 3)
}

func TestAdd(t *testing.T) {
	for _, c := range []struct{ was, d, becomes int64 }{
		{5, 2, 7},
		{5, -7, -2},
		{5, 0, 5},
		{math.MaxInt64, 1, math.MinInt64},
		{math.MinInt64, -1, math.MaxInt64},
		{math.MaxInt64, math.MaxInt64, -2},
		{math.MinInt64, math.MinInt64, 0},
	} {
		m := filled(t, 1, c.was, 3)
		if v, e := m.Add(1, c.d); v != c.was || e != api.OK {
			t.Errorf("Add(%d) to %d: %d, %d", c.d, c.was, v, e)
		}
		holds(t, m, 4, 1, c.becomes, 3)
	}
}

func TestSwap(t *testing.T) {
	for _, c := range []struct {
		was, old, fresh int64
		swapped         bool
		becomes         int64
	}{
		{5, 5, 9, true, 9},
		{5, 6, 9, false, 5},
		{5, 9, 5, false, 5},
		{5, 5, 5, true, 5},
		{0, 0, -1, true, -1},
		{math.MinInt64, math.MinInt64, math.MaxInt64, true, math.MaxInt64},
		{math.MinInt64, math.MaxInt64, 0, false, math.MinInt64},
	} {
		m := filled(t, 1, c.was, 3)
		if ok, e := m.Swap(1, c.old, c.fresh); ok != c.swapped || e != api.OK {
			t.Errorf("Swap(%d, %d) of %d: %t, %d", c.old, c.fresh, c.was, ok, e)
		}
		holds(t, m, 4, 1, c.becomes, 3)
	}
}

func TestNoCell(t *testing.T) {
	full := filled(t, 1, 2, 3)
	for _, m := range []*cell.Memory{full, cell.New(0), cell.New(-1)} {
		size, count := m.Size(), m.Count()
		values := m.Look(0, size)
		for _, i := range []int{math.MinInt, -size - 1, -1, size, size + 1, api.MaxCells, math.MaxInt} {
			if v, e := m.Load(i); v != 0 || e != api.ErrArg {
				t.Errorf("Load(%d) of %d: %d, %d", i, size, v, e)
			}
			if e := m.Store(i, 7); e != api.ErrArg {
				t.Errorf("Store(%d) of %d: %d", i, size, e)
			}
			if v, e := m.Add(i, 7); v != 0 || e != api.ErrArg {
				t.Errorf("Add(%d) of %d: %d, %d", i, size, v, e)
			}
			if ok, e := m.Swap(i, 0, 7); ok || e != api.ErrArg {
				t.Errorf("Swap(%d) of %d: %t, %d", i, size, ok, e)
			}
			holds(t, m, count, values...)
		}
	}
}

func TestLook(t *testing.T) {
	m := filled(t, 10, 11, 12, 13)
	for _, c := range []struct {
		i, n int
		want []int64
	}{
		{0, 4, []int64{10, 11, 12, 13}},
		{1, 2, []int64{11, 12}},
		{3, 1, []int64{13}},
		{0, 0, nil},
		{2, 0, nil},
		{0, -1, nil},
		{2, math.MinInt, nil},
		{0, 5, []int64{10, 11, 12, 13}},
		{2, 9, []int64{12, 13}},
		{2, math.MaxInt, []int64{12, 13}},
		{-1, 4, []int64{10, 11, 12, 13}},
		{-3, 2, []int64{10, 11}},
		{math.MinInt, 1, []int64{10}},
		{math.MinInt, math.MaxInt, []int64{10, 11, 12, 13}},
		{-3, 0, nil},
		{-3, -1, nil},
		{4, 1, nil},
		{5, 5, nil},
		{math.MaxInt, 1, nil},
		{math.MaxInt, math.MaxInt, nil},
	} {
		if got := m.Look(c.i, c.n); !slices.Equal(got, c.want) {
			t.Errorf("Look(%d, %d): %v, want %v", c.i, c.n, got, c.want)
		}
		holds(t, m, 4, 10, 11, 12, 13)
	}
}

func TestLookOfNothing(t *testing.T) {
	m := cell.New(0)
	for _, i := range []int{math.MinInt, -1, 0, 1, math.MaxInt} {
		if got := m.Look(i, math.MaxInt); len(got) != 0 {
			t.Errorf("Look(%d): %v", i, got)
		}
	}
}

func TestLookIsNewMemory(t *testing.T) {
	m := filled(t, 1, 2, 3)
	first := m.Look(0, 2)
	second := m.Look(0, 2)
	for i := range first {
		first[i] = 99
	}
	_ = append(first[:2], 99)
	if !slices.Equal(second, []int64{1, 2}) {
		t.Errorf("a second Look was changed: %v", second)
	}
	holds(t, m, 3, 1, 2, 3)
	if e := m.Store(1, 7); e != api.OK {
		t.Errorf("Store: %d", e)
	}
	if !slices.Equal(second, []int64{1, 2}) {
		t.Errorf("a Look was changed by a Store: %v", second)
	}
}

func TestMemoriesAreApart(t *testing.T) {
	a, b := filled(t, 1, 2), filled(t, 3, 4)
	if e := a.Store(0, 9); e != api.OK {
		t.Errorf("Store: %d", e)
	}
	holds(t, a, 3, 9, 2)
	holds(t, b, 2, 3, 4)
}

// TestMixed holds a long run of accesses against plain numbers.
func TestMixed(t *testing.T) {
	const size = 5
	m := cell.New(size)
	want := make([]int64, size)
	for k := range 2000 {
		i, v := k*7%size, int64(k%11-5)
		was := want[i]
		switch k % 4 {
		case 0:
			want[i] = v
			if e := m.Store(i, v); e != api.OK {
				t.Fatalf("%d: Store: %d", k, e)
			}
		case 1:
			want[i] += v
			if got, e := m.Add(i, v); got != was || e != api.OK {
				t.Fatalf("%d: Add: %d, %d, want %d", k, got, e, was)
			}
		case 2:
			if was == v {
				want[i] = v + 1
			}
			if ok, e := m.Swap(i, v, v+1); ok != (was == v) || e != api.OK {
				t.Fatalf("%d: Swap: %t, %d", k, ok, e)
			}
		case 3:
			if got, e := m.Load(i); got != was || e != api.OK {
				t.Fatalf("%d: Load: %d, %d, want %d", k, got, e, was)
			}
		}
		holds(t, m, k+1, want...)
	}
}
