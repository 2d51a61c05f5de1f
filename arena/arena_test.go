package arena_test

import (
	"math"
	"slices"
	"testing"

	"samara/api"
	"samara/arena"
)

// one is what a generation adds to a handle.
const one = 65536

// tells checks all that an arena tells of itself.
func tells(t *testing.T, a *arena.Arena, stale, double bool, live ...int64) {
	t.Helper()
	if got := a.Live(); !slices.Equal(got, live) {
		t.Errorf("Live: %v, want %v", got, live)
	}
	if got := a.Stale(); got != stale {
		t.Errorf("Stale: %t, want %t", got, stale)
	}
	if got := a.Double(); got != double {
		t.Errorf("Double: %t, want %t", got, double)
	}
	for _, h := range live {
		if !a.Right(h) {
			t.Errorf("Right(%d) of a live one: false", h)
		}
	}
}

// born checks the handle that a slot gets.
func born(t *testing.T, a *arena.Arena, slot int, want int64) {
	t.Helper()
	if h := a.Born(slot); h != want {
		t.Errorf("Born(%d): %d, want %d", slot, h, want)
	}
}

// wrong is handles that no arena of 4 slots or fewer has ever given.
var wrong = []int64{
	math.MinInt64, math.MinInt64 + 1, math.MinInt64 + one + 1,
	-one - 1, -one, -one + 1, -2, -1,
	0, 1, 2, 4, 5, one - 1, one, one + 5, one + api.MaxSlots, 2*one - 1,
	1<<62 + 1, math.MaxInt64 - 1, math.MaxInt64,
}

func TestNewSlots(t *testing.T) {
	for _, c := range []struct{ slots, want int }{
		{math.MinInt, 0},
		{-1, 0},
		{0, 0},
		{1, 1},
		{17, 17},
		{999, 999},
		{1000, 1000},
		{1001, 1000},
		{5000, 1000},
		{math.MaxInt, 1000},
	} {
		a := arena.New(0, c.slots)
		if got := a.Slots(); got != c.want {
			t.Errorf("New(0, %d): Slots %d, want %d", c.slots, got, c.want)
		}
		tells(t, a, false, false)
		born(t, a, c.want+1, 0)
		if c.want > 0 {
			born(t, a, c.want, one+int64(c.want))
		}
	}
}

func TestNewFirst(t *testing.T) {
	for _, c := range []struct{ first, want int }{
		{math.MinInt, 0},
		{-1, 0},
		{0, 0},
		{1, 1},
		{100, 100},
		{65535, 65535},
		{65536, 65536},
		{65537, 65536},
		{math.MaxInt, 65536},
	} {
		a := arena.New(c.first, 2)
		if got := a.Cell(1, 0); got != c.want {
			t.Errorf("New(%d, 2): Cell(1, 0) %d, want %d", c.first, got, c.want)
		}
		if got := a.Cell(2, 27); got != c.want+55 {
			t.Errorf("New(%d, 2): Cell(2, 27) %d, want %d", c.first, got, c.want+55)
		}
	}
}

func TestSlot(t *testing.T) {
	for _, c := range []struct {
		h    int64
		want int
	}{
		{0, 0},
		{1, 1},
		{3, 3},
		{1000, 1000},
		{65535, 65535},
		{65536, 0},
		{65539, 3},
		{131075, 3},
		{131071, 65535},
		{1<<62 + 9, 9},
		{math.MaxInt64, 65535},
		{-1, 0},
		{-65535, 0},
		{-65533, 0},
		{math.MinInt64, 0},
		{math.MinInt64 + 3, 0},
	} {
		if got := arena.Slot(c.h); got != c.want {
			t.Errorf("Slot(%d): %d, want %d", c.h, got, c.want)
		}
	}
}

func TestCell(t *testing.T) {
	a := arena.New(100, 4)
	for _, c := range []struct {
		h    int64
		word int
		want int
	}{
		{1, 0, 100},
		{1, 1, 101},
		{1, 27, 127},
		{2, 0, 128},
		{3, 2, 158},
		{4, 27, 211},
		{one + 3, 2, 158},
		{9*one + 4, 27, 211},
		{1<<62 + 1, 5, 105},
		{1, -1, -1},
		{2, -1, -1},
		{1, 28, -1},
		{4, 28, -1},
		{1, math.MinInt, -1},
		{1, math.MaxInt, -1},
		{0, 0, -1},
		{0, 28, -1},
		{one, 0, -1},
		{5, 0, -1},
		{one + 5, 0, -1},
		{65535, 27, -1},
		{-1, 0, -1},
		{-65535, 0, -1},
		{math.MinInt64, 0, -1},
		{math.MinInt64 + 1, 0, -1},
		{math.MaxInt64, 0, -1},
	} {
		if got := a.Cell(c.h, c.word); got != c.want {
			t.Errorf("Cell(%d, %d): %d, want %d", c.h, c.word, got, c.want)
		}
	}
	tells(t, a, false, false)
}

func TestCellOfGreatestArena(t *testing.T) {
	a := arena.New(math.MaxInt, math.MaxInt)
	if got, want := a.Cell(1000, 27), 65536+1000*28-1; got != want {
		t.Errorf("Cell(1000, 27): %d, want %d", got, want)
	}
	if got := a.Cell(1001, 0); got != -1 {
		t.Errorf("Cell(1001, 0): %d", got)
	}
}

// TestCellsAreInARow holds all cells of an arena against a count.
func TestCellsAreInARow(t *testing.T) {
	a := arena.New(7, 30)
	want := 7
	for slot := 1; slot <= a.Slots(); slot++ {
		for word := range api.Width {
			if got := a.Cell(int64(slot), word); got != want {
				t.Fatalf("Cell(%d, %d): %d, want %d", slot, word, got, want)
			}
			want++
		}
	}
}

func TestCellAsksNothingOfLife(t *testing.T) {
	a := arena.New(0, 3)
	h := a.Born(2)
	if got := a.Cell(h, 4); got != 32 {
		t.Errorf("Cell of a live one: %d", got)
	}
	a.Died(h)
	if got := a.Cell(h, 4); got != 32 {
		t.Errorf("Cell of a dead one: %d", got)
	}
	if got := a.Cell(h+one, 4); got != 32 {
		t.Errorf("Cell of one that never was: %d", got)
	}
	tells(t, a, false, false)
}

func TestExample(t *testing.T) {
	a := arena.New(0, 3)
	born(t, a, 3, 65539)
	a.Died(65539)
	born(t, a, 3, 131075)
	tells(t, a, false, false, 131075)
}

func TestBornNoSlot(t *testing.T) {
	for _, slots := range []int{0, 1, 4, 1000} {
		a := arena.New(0, slots)
		for _, slot := range []int{
			math.MinInt, -65535, -1, 0, slots + 1, 1001,
			65536, 65537, one + 1, 1<<32 + 1, math.MaxInt,
		} {
			born(t, a, slot, 0)
		}
		tells(t, a, false, false)
	}
}

func TestGenerationsAreTheSlotsOwn(t *testing.T) {
	a := arena.New(0, 4)
	for g := int64(1); g <= 5; g++ {
		born(t, a, 2, g*one+2)
		a.Died(g*one + 2)
	}
	born(t, a, 1, one+1)
	born(t, a, 2, 6*one+2)
	born(t, a, 4, one+4)
	tells(t, a, false, false, one+1, 6*one+2, one+4)
}

func TestManyGenerations(t *testing.T) {
	a := arena.New(0, 1)
	for g := int64(1); g <= 200000; g++ {
		h := a.Born(1)
		if h != g*one+1 || !a.Right(h) || a.Right(h-one) {
			t.Fatalf("generation %d: %d", g, h)
		}
		a.Died(h)
	}
	tells(t, a, false, false)
}

func TestBornTwice(t *testing.T) {
	a := arena.New(0, 3)
	born(t, a, 2, one+2)
	born(t, a, 3, one+3)
	tells(t, a, false, false, one+2, one+3)
	born(t, a, 2, 2*one+2)
	tells(t, a, false, true, 2*one+2, one+3)
	if a.Right(one + 2) {
		t.Error("Right of the handle that it had ahead")
	}
	a.Died(2*one + 2)
	tells(t, a, false, true, one+3)
	born(t, a, 2, 3*one+2)
	tells(t, a, false, true, 3*one+2, one+3)
}

func TestDied(t *testing.T) {
	a := arena.New(0, 3)
	for slot := 1; slot <= 3; slot++ {
		born(t, a, slot, one+int64(slot))
	}
	a.Died(one + 2)
	tells(t, a, false, false, one+1, one+3)
	if a.Right(one + 2) {
		t.Error("Right of a dead one")
	}
	a.Died(one + 1)
	a.Died(one + 3)
	tells(t, a, false, false)
}

func TestDiedTwice(t *testing.T) {
	a := arena.New(0, 2)
	h := a.Born(1)
	a.Died(h)
	tells(t, a, false, false)
	a.Died(h)
	tells(t, a, false, true)
	born(t, a, 1, 2*one+1)
}

func TestDiedByAnOldHandle(t *testing.T) {
	a := arena.New(0, 2)
	h := a.Born(1)
	a.Died(h)
	born(t, a, 1, 2*one+1)
	a.Died(h)
	tells(t, a, false, true, 2*one+1)
}

func TestWrongHandles(t *testing.T) {
	for _, h := range wrong {
		a := arena.New(0, 4)
		a.Born(1)
		a.Born(3)
		a.Died(one + 3)
		if a.Right(h) {
			t.Errorf("Right(%d)", h)
		}
		tells(t, a, false, false, one+1)
		a.Touch(h)
		tells(t, a, true, false, one+1)

		b := arena.New(0, 4)
		b.Born(1)
		b.Died(h)
		tells(t, b, false, true, one+1)
	}
}

func TestWrongHandlesOfNothing(t *testing.T) {
	for _, h := range append([]int64{one + 1}, wrong...) {
		a, b := arena.New(0, 0), arena.New(0, 0)
		if a.Right(h) {
			t.Errorf("Right(%d)", h)
		}
		a.Touch(h)
		tells(t, a, true, false)
		b.Died(h)
		tells(t, b, false, true)
	}
}

func TestRight(t *testing.T) {
	a := arena.New(0, 4)
	for range 3 {
		a.Died(a.Born(2))
	}
	h := a.Born(2)
	for g := int64(-1); g <= 8; g++ {
		if got, want := a.Right(g*one+2), g*one+2 == h; got != want {
			t.Errorf("Right of generation %d: %t", g, got)
		}
	}
	for _, other := range []int64{h - 1, h + 1, h + 2, h ^ one, -h, h | 1<<62, h + math.MinInt64} {
		if a.Right(other) {
			t.Errorf("Right(%d)", other)
		}
	}
	tells(t, a, false, false, h)
}

func TestTouch(t *testing.T) {
	a := arena.New(0, 3)
	old := a.Born(2)
	a.Touch(old)
	a.Died(old)
	fresh := a.Born(2)
	a.Touch(fresh)
	tells(t, a, false, false, fresh)
	a.Touch(old)
	tells(t, a, true, false, fresh)
	a.Touch(fresh)
	tells(t, a, true, false, fresh)
}

func TestTouchOfTheDead(t *testing.T) {
	a := arena.New(0, 3)
	h := a.Born(2)
	a.Died(h)
	a.Touch(h)
	tells(t, a, true, false)
}

func TestWrongIsForEver(t *testing.T) {
	a := arena.New(0, 3)
	a.Touch(0)
	a.Died(0)
	for range 10 {
		h := a.Born(1)
		a.Touch(h)
		a.Died(h)
	}
	tells(t, a, true, true)
}

func TestLiveIsBySlots(t *testing.T) {
	a := arena.New(0, 1000)
	var want []int64
	for slot := 1000; slot >= 1; slot-- {
		want = append(want, a.Born(slot))
	}
	slices.Reverse(want)
	tells(t, a, false, false, want...)
	// A greater generation makes a greater handle, and no later place.
	a.Died(want[0])
	want[0] = a.Born(1)
	tells(t, a, false, false, want...)
}

func TestLiveIsNewMemory(t *testing.T) {
	a := arena.New(0, 3)
	a.Born(1)
	a.Born(2)
	first, second := a.Live(), a.Live()
	for i := range first {
		first[i] = 99
	}
	_ = append(first[:1], 99)
	if !slices.Equal(second, []int64{one + 1, one + 2}) {
		t.Errorf("a second Live was changed: %v", second)
	}
	a.Died(one + 1)
	if !slices.Equal(second, []int64{one + 1, one + 2}) {
		t.Errorf("a Live was changed by a death: %v", second)
	}
	tells(t, a, false, false, one+2)
}

func TestArenasAreApart(t *testing.T) {
	a, b := arena.New(0, 2), arena.New(0, 2)
	h := a.Born(1)
	if b.Right(h) {
		t.Error("Right in the other arena")
	}
	a.Touch(0)
	a.Died(0)
	tells(t, a, true, true, h)
	tells(t, b, false, false)
	born(t, b, 1, one+1)
}

// TestMixed holds a long run of births, deaths and touches against a map from
// slots to generations, and the handles that are right.
func TestMixed(t *testing.T) {
	const slots = 6
	a := arena.New(0, slots)
	var generation [slots + 1]int64
	right := map[int64]int{}
	stale, double := false, false
	for k := range 3000 {
		slot := k*k*5%(slots+2) - k%2
		h := int64(slot) + int64(k%9)*one
		if slot >= 1 && slot <= slots && k%5 != 0 {
			h = generation[slot]*one + int64(slot)
		}
		switch k % 3 {
		case 0:
			want := int64(0)
			if slot >= 1 && slot <= slots {
				was := generation[slot]*one + int64(slot)
				double = double || right[was] == 1
				delete(right, was)
				generation[slot]++
				want = was + one
				right[want] = 1
			}
			born(t, a, slot, want)
		case 1:
			double = double || right[h] == 0
			delete(right, h)
			a.Died(h)
		case 2:
			stale = stale || right[h] == 0
			a.Touch(h)
		}
		var live []int64
		for s := int64(1); s <= slots; s++ {
			if l := generation[s]*one + s; right[l] == 1 {
				live = append(live, l)
			}
		}
		tells(t, a, stale, double, live...)
		if t.Failed() {
			t.Fatalf("at %d", k)
		}
	}
}
