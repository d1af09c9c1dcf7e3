package buffer

import (
	"math"
	"slices"
	"strings"
	"testing"

	"almshouse/api"
)

// write and trim are changes that may be.
func write(place int, data string) Change { return Change{place, api.KindWrite, data} }
func trim(place int) Change               { return Change{Place: place, Kind: api.KindTrim} }

// with is a buffer that has these changes, whose first one stands as far round in the ring as told.
func with(t *testing.T, round int, changes ...Change) *Buffer {
	t.Helper()
	b := New()
	for range round {
		put(t, b, write(63, "gone"), api.OK)
		if !b.Drop() {
			t.Fatal("nothing to drop behind a Put")
		}
	}
	for _, c := range changes {
		put(t, b, c, api.OK)
	}
	return b
}

// put holds an answer of Put against what is wanted.
func put(t *testing.T, b *Buffer, c Change, want api.Errno) {
	t.Helper()
	if e := b.Put(c); e != want {
		t.Fatalf("Put(%+v) is %d, want %d", c, e, want)
	}
}

// holds holds all that a buffer tells against the changes it is to have.
func holds(t *testing.T, b *Buffer, want []Change) {
	t.Helper()
	if got := b.All(); !slices.Equal(got, want) || len(want) == 0 && got != nil {
		t.Fatalf("All is %+v, want %+v", got, want)
	}
	if b.Len() != len(want) || b.Full() != (len(want) == 4) {
		t.Fatalf("Len, Full are %d, %t of %+v", b.Len(), b.Full(), want)
	}
	first, ok := b.First()
	if ok != (len(want) > 0) || ok && first != want[0] || !ok && first != (Change{}) {
		t.Fatalf("First is %+v, %t of %+v", first, ok, want)
	}
	for place := -2; place < 70; place++ {
		last(t, b, place, want)
	}
}

// last holds the last change for a place against what is wanted.
func last(t *testing.T, b *Buffer, place int, all []Change) {
	t.Helper()
	var want Change
	found := false
	for _, c := range slices.Backward(all) {
		if c.Place == place {
			want, found = c, true
			break
		}
	}
	if got, ok := b.Last(place); got != want || ok != found {
		t.Fatalf("Last(%d) is %+v, %t, want %+v, %t", place, got, ok, want, found)
	}
}

// P13.1

func TestNewIsEmpty(t *testing.T) {
	b := New()
	holds(t, b, nil)
	if b.Drop() {
		t.Error("an empty buffer drops something")
	}
	holds(t, b, nil)
}

func TestPutTillFull(t *testing.T) {
	for round := range 9 {
		b := with(t, round)
		var all []Change
		for _, c := range []Change{write(0, "a"), trim(63), write(63, ""), write(5, "0123456789abcdef")} {
			put(t, b, c, api.OK)
			all = append(all, c)
			holds(t, b, all)
		}
		put(t, b, write(1, "b"), api.ErrFull)
		put(t, b, trim(0), api.ErrFull)
		holds(t, b, all)
		for len(all) > 0 {
			if !b.Drop() {
				t.Fatalf("nothing to drop of %+v", all)
			}
			all = all[1:]
			holds(t, b, all)
		}
		if b.Drop() {
			t.Error("an empty buffer drops something")
		}
	}
}

// TestRoomAgain asks whether what goes makes room for one more, and for no more than that.
func TestRoomAgain(t *testing.T) {
	all := []Change{write(1, "a"), write(2, "b"), trim(1), write(2, "c")}
	b := with(t, 0, all...)
	for i := range 20 {
		if !b.Drop() {
			t.Fatal("nothing to drop")
		}
		c := write(i, strings.Repeat("x", i%17))
		put(t, b, c, api.OK)
		put(t, b, c, api.ErrFull)
		all = append(all[1:], c)
		holds(t, b, all)
	}
}

func TestPutTellsWhatIsWrong(t *testing.T) {
	long := strings.Repeat("x", 17)
	for _, c := range []struct {
		change Change
		want   api.Errno
	}{
		{Change{0, 1, ""}, api.OK},
		{Change{63, 1, long[:16]}, api.OK},
		{Change{0, 2, ""}, api.OK},
		{Change{63, 2, ""}, api.OK},
		{Change{7, 1, "\x00\xff"}, api.OK},
		{Change{}, api.ErrArg},
		{Change{0, 0, "a"}, api.ErrArg},
		{Change{0, 3, ""}, api.ErrArg},
		{Change{0, -1, ""}, api.ErrArg},
		{Change{0, math.MinInt, ""}, api.ErrArg},
		{Change{0, 1<<32 + 1, ""}, api.ErrArg},
		{Change{-1, 1, ""}, api.ErrArg},
		{Change{64, 1, "a"}, api.ErrArg},
		{Change{-1, 2, ""}, api.ErrArg},
		{Change{64, 2, ""}, api.ErrArg},
		{Change{math.MinInt, 1, ""}, api.ErrArg},
		{Change{math.MaxInt, 1, ""}, api.ErrArg},
		{Change{1 << 32, 1, ""}, api.ErrArg},
		{Change{0, 2, "a"}, api.ErrArg},
		{Change{0, 2, "\x00"}, api.ErrArg},
		{Change{0, 1, long}, api.ErrLong},
		{Change{63, 1, strings.Repeat("x", 1000)}, api.ErrLong},
		{Change{0, 2, long}, api.ErrArg},
		{Change{0, 3, long}, api.ErrArg},
		{Change{64, 1, long}, api.ErrArg},
		{Change{-1, 1, long}, api.ErrArg},
	} {
		for round := range 4 {
			had := []Change{write(9, "z"), trim(8)}
			b := with(t, round, had...)
			put(t, b, c.change, c.want)
			if c.want == api.OK {
				had = append(had, c.change)
			}
			holds(t, b, had)
		}
	}
}

// TestPutTellsFullLast asks full buffers: what is wrong with the change itself is told first.
func TestPutTellsFullLast(t *testing.T) {
	long := strings.Repeat("x", 17)
	all := []Change{write(1, "a"), write(2, "b"), trim(1), write(2, "c")}
	for round := range 4 {
		b := with(t, round, all...)
		put(t, b, Change{0, 0, ""}, api.ErrArg)
		put(t, b, Change{64, 1, ""}, api.ErrArg)
		put(t, b, Change{0, 2, "a"}, api.ErrArg)
		put(t, b, Change{0, 2, long}, api.ErrArg)
		put(t, b, Change{0, 1, long}, api.ErrLong)
		put(t, b, Change{0, 1, long[:16]}, api.ErrFull)
		holds(t, b, all)
	}
}

func TestLastOfAPlace(t *testing.T) {
	for round := range 4 {
		b := with(t, round, write(3, "a"), write(4, "b"), write(3, "c"), trim(4))
		if c, ok := b.Last(3); !ok || c != write(3, "c") {
			t.Errorf("the last one of place 3 is %+v, %t", c, ok)
		}
		if c, ok := b.Last(4); !ok || c != trim(4) {
			t.Errorf("the last one of place 4 is %+v, %t", c, ok)
		}
		for _, place := range []int{0, 5, 63, 64, -1, -4, 1<<32 + 3, math.MinInt, math.MaxInt} {
			if c, ok := b.Last(place); ok || c != (Change{}) {
				t.Errorf("the last one of place %d is %+v, %t", place, c, ok)
			}
		}
	}
}

// TestLastOfNone asks for place 0, which stands in a blank change, too.
func TestLastOfNone(t *testing.T) {
	b := with(t, 3, write(0, "a"))
	b.Drop()
	if c, ok := b.Last(0); ok || c != (Change{}) {
		t.Errorf("the last one of place 0 is %+v, %t", c, ok)
	}
}

func TestAllIsNewMemory(t *testing.T) {
	want := []Change{write(1, "a"), write(2, "b"), trim(3)}
	for round := range 4 {
		b := with(t, round, want...)
		all, more := b.All(), b.All()
		clear(all)
		_ = append(all[:0], write(9, "z"), write(9, "z"), write(9, "z"), write(9, "z"))
		if !slices.Equal(more, want) {
			t.Errorf("one answer became %+v by another", more)
		}
		holds(t, b, want)
		put(t, b, write(4, "c"), api.OK)
		b.Drop()
		if !slices.Equal(more, want) {
			t.Errorf("an answer became %+v by the buffer's calls", more)
		}
	}
}

func TestTwoBuffersAreTwo(t *testing.T) {
	a, b := New(), New()
	put(t, a, write(1, "a"), api.OK)
	holds(t, b, nil)
	put(t, b, trim(2), api.OK)
	holds(t, a, []Change{write(1, "a")})
	holds(t, b, []Change{trim(2)})
}

func TestNilBuffer(t *testing.T) {
	var b *Buffer
	for _, c := range []Change{write(1, "a"), trim(1), {}, write(0, strings.Repeat("x", 17))} {
		put(t, b, c, api.ErrArg)
	}
	if c, ok := b.First(); ok || c != (Change{}) {
		t.Errorf("First is %+v, %t", c, ok)
	}
	for _, place := range []int{-1, 0, 1, 63, 64} {
		if c, ok := b.Last(place); ok || c != (Change{}) {
			t.Errorf("Last(%d) is %+v, %t", place, c, ok)
		}
	}
	if b.Drop() || b.Len() != 0 || !b.Full() || b.All() != nil {
		t.Errorf("Drop, Len, Full, All are %t, %d, %t, %v", b.Drop(), b.Len(), b.Full(), b.All())
	}
}

// TestBufferNotMade asks a buffer that New didn't make: it has none.
func TestBufferNotMade(t *testing.T) {
	b := new(Buffer)
	holds(t, b, nil)
	put(t, b, write(1, "a"), api.OK)
	holds(t, b, []Change{write(1, "a")})
}

// TestMixedCalls holds long rows of calls against a plain list of changes.
func TestMixedCalls(t *testing.T) {
	x := uint32(1)
	draw := func(n int) int {
		x = x*1664525 + 1013904223
		return int(x>>8) % n
	}
	b := New()
	var all []Change
	for range 20000 {
		if draw(5) < 2 {
			if b.Drop() != (len(all) > 0) {
				t.Fatalf("Drop isn't as it is to be of %+v", all)
			}
			all = all[min(1, len(all)):]
		} else {
			c := Change{draw(67) - 1, 1 + draw(2), strings.Repeat("d", max(0, draw(36)-18))}
			want := api.OK
			switch {
			case c.Place < 0 || c.Place > 63 || c.Kind == 2 && c.Data != "":
				want = api.ErrArg
			case len(c.Data) > 16:
				want = api.ErrLong
			case len(all) == 4:
				want = api.ErrFull
			}
			put(t, b, c, want)
			if want == api.OK {
				all = append(all, c)
			}
		}
		holds(t, b, all)
	}
}
