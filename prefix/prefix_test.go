package prefix

import (
	"fmt"
	"math"
	"slices"
	"strconv"
	"strings"
	"testing"

	"almshouse/model"
)

// far are numbers that none of at most 64 places has.
var far = []int{math.MinInt, -1 << 32, -64, -2, -1, 64, 65, 1 << 32, math.MaxInt}

// lies holds what Find and Longest answer against the numbers of changes behind which the places are now, rising.
func lies(t *testing.T, durable []string, behind []model.Change, now []string, all ...int) {
	t.Helper()
	least, greatest, is := 0, 0, len(all) > 0
	if is {
		least, greatest = all[0], all[len(all)-1]
	}
	k, ok := Find(durable, behind, now)
	m, also := Longest(durable, behind, now)
	if k != least || ok != is || m != greatest || also != is {
		t.Fatalf("of %.400s: Find is %d, %t, Longest %d, %t, want %d and %d, %t",
			fmt.Sprintf("%q, %v, %q", durable, behind, now), k, ok, m, also, least, greatest, is)
	}
}

// goneOver are all numbers of changes behind which the places are now, each found by going over the changes anew, from the last one back.
func goneOver(durable []string, behind []model.Change, now []string) []int {
	var all []int
	for k := range len(behind) + 1 {
		if isNow(durable, behind[:k], now) {
			all = append(all, k)
		}
	}
	return all
}

// isNow asks of each place what its last change made of it.
func isNow(durable []string, l []model.Change, now []string) bool {
	if len(durable) != len(now) {
		return false
	}
	for place, has := range durable {
		for i := len(l) - 1; i >= 0; i-- {
			if l[i].Place == place {
				has = l[i].Data
				break
			}
		}
		if has != now[place] {
			return false
		}
	}
	return true
}

// P24.1

func TestAfter(t *testing.T) {
	long := strings.Repeat("x", 100000)
	for _, x := range []struct {
		places []string
		l      []model.Change
		want   []string
	}{
		{nil, nil, nil},
		{[]string{}, []model.Change{}, nil},
		{nil, []model.Change{{Place: 0, Data: "a"}}, nil},
		{[]string{"a"}, nil, []string{"a"}},
		{[]string{"a", ""}, []model.Change{}, []string{"a", ""}},
		{[]string{"a", "b"}, []model.Change{{Place: 1, Data: "c"}}, []string{"a", "c"}},
		{[]string{"a", "b"}, []model.Change{{Place: 0, Data: ""}}, []string{"", "b"}},
		{[]string{"a", "b"}, []model.Change{{Place: 0, Data: "c"}, {Place: 0, Data: "d"}}, []string{"d", "b"}},
		{[]string{"a", "b"}, []model.Change{{Place: 0, Data: "c"}, {Place: 1, Data: "d"}, {Place: 0, Data: "a"}}, []string{"a", "d"}},
		{[]string{"a", "b"}, []model.Change{{Place: 2, Data: "c"}, {Place: 1, Data: "d"}, {Place: -1, Data: "e"}}, []string{"a", "d"}},
		{[]string{"", ""}, []model.Change{{Place: 1, Data: long}, {Place: 0, Data: "\x00\xff"}}, []string{"\x00\xff", long}},
	} {
		if got := After(x.places, x.l); !slices.Equal(got, x.want) {
			t.Errorf("After(%q, %v) is %q, want %q", x.places, x.l, got, x.want)
		}
	}
}

// TestAfterOfNoPlace does changes of numbers that no place has, at all sizes: none makes a difference, nor keeps those behind it from being done.
func TestAfterOfNoPlace(t *testing.T) {
	for size := range 64 {
		places := slices.Repeat([]string{"a"}, size)
		want := slices.Clone(places)
		var l []model.Change
		for _, place := range append([]int{size, size + 1}, far...) {
			l = append(l, model.Change{Place: place, Data: "no"})
			if size > 0 {
				at := len(l) % size
				want[at] = strconv.Itoa(len(l))
				l = append(l, model.Change{Place: at, Data: want[at]})
			}
		}
		if got := After(places, l); !slices.Equal(got, want) {
			t.Errorf("After(%q, %v) is %q, want %q", places, l, got, want)
		}
	}
}

// TestAfterAlone asks whether changes are done one by one: all of them at once are as each behind the other.
func TestAfterAlone(t *testing.T) {
	draw := drawer(7)
	for range 300 {
		places, l := drawn(draw, 1+draw(5), 12)
		now := places
		for k := range l {
			now = After(now, l[k:k+1])
			if got := After(places, l[:k+1]); !slices.Equal(got, now) {
				t.Fatalf("After(%q, %v) is %q, want %q", places, l[:k+1], got, now)
			}
			if !isNow(places, l[:k+1], now) {
				t.Fatalf("After(%q, %v) is %q", places, l[:k+1], now)
			}
		}
	}
}

func TestFindOfNothing(t *testing.T) {
	lies(t, nil, nil, nil, 0)
	lies(t, []string{}, nil, nil, 0)
	lies(t, nil, []model.Change{}, []string{}, 0)
	lies(t, []string{"a"}, nil, []string{"a"}, 0)
	lies(t, []string{"a"}, nil, []string{"b"})
	lies(t, []string{"a"}, nil, nil)
	lies(t, nil, nil, []string{"a"})
	lies(t, nil, nil, []string{""})
}

func TestFind(t *testing.T) {
	durable := []string{"a", "b"}
	l := []model.Change{
		{Place: 0, Data: "c"},
		{Place: 1, Data: ""},
		{Place: 1, Data: ""},
		{Place: 0, Data: "a"},
		{Place: 1, Data: "b"},
		{Place: 0, Data: "z"},
	}
	lies(t, durable, l, []string{"a", "b"}, 0, 5)
	lies(t, durable, l, []string{"c", "b"}, 1)
	lies(t, durable, l, []string{"c", ""}, 2, 3)
	lies(t, durable, l, []string{"a", ""}, 4)
	lies(t, durable, l, []string{"z", "b"}, 6)
	lies(t, durable, l, []string{"z", ""})
	lies(t, durable, l, []string{"b", "a"})
	lies(t, durable, l, []string{"", ""})
	lies(t, durable, l, []string{"a", "b", ""})
	lies(t, durable, l, []string{"a"})
	lies(t, durable, l, nil)
	lies(t, durable, l[:5], []string{"z", "b"})
	lies(t, durable, l[:4], []string{"a", "b"}, 0)
}

// TestFindNow has the places be now all along, or again at the end: all numbers up to that one are of such changes.
func TestFindNow(t *testing.T) {
	same := []model.Change{{Place: 0, Data: "a"}, {Place: 1, Data: "b"}, {Place: 9, Data: "c"}}
	lies(t, []string{"a", "b"}, same, []string{"a", "b"}, 0, 1, 2, 3)
	back := []model.Change{{Place: 0, Data: "x"}, {Place: 0, Data: "a"}, {Place: 0, Data: "x"}, {Place: 0, Data: "a"}}
	lies(t, []string{"a", "b"}, back, []string{"a", "b"}, 0, 2, 4)
	lies(t, []string{"a", "b"}, back, []string{"x", "b"}, 1, 3)
	lies(t, []string{"a", "c"}, back, []string{"a", "b"})
}

// TestFindOfNoPlace counts changes of no place as others, though they change nothing.
func TestFindOfNoPlace(t *testing.T) {
	for _, place := range append([]int{1, 2}, far...) {
		none := model.Change{Place: place, Data: "b"}
		lies(t, []string{"a"}, []model.Change{none}, []string{"a"}, 0, 1)
		lies(t, []string{"a"}, []model.Change{none}, []string{"b"})
		lies(t, []string{"a"}, []model.Change{none, {Place: 0, Data: "b"}, none, none}, []string{"b"}, 2, 3, 4)
		lies(t, nil, []model.Change{none, none}, nil, 0, 1, 2)
		lies(t, []string{"a"}, []model.Change{none}, []string{"a", "b"})
	}
}

// drawer draws numbers from 0 on, always the same.
func drawer(x uint32) func(n int) int {
	return func(n int) int {
		x = x*1664525 + 1013904223
		return int(x>>8) % n
	}
}

// drawn are places, of which many have the same, and up to so many changes, few of them of no place.
func drawn(draw func(int) int, size, most int) ([]string, []model.Change) {
	text := func() string { return strings.Repeat("a", draw(3)) }
	var places []string
	for range size {
		places = append(places, text())
	}
	var l []model.Change
	for range draw(most + 1) {
		l = append(l, model.Change{Place: draw(size+2) - 1, Data: text()})
	}
	return places, l
}

// TestAllSmall asks for all places of two that may be, behind all rows of up to three changes, held against the chapter's words.
func TestAllSmall(t *testing.T) {
	texts := []string{"", "a"}
	var pairs [][]string
	for _, a := range texts {
		for _, b := range texts {
			pairs = append(pairs, []string{a, b})
		}
	}
	var changes []model.Change
	for place := -1; place < 3; place++ {
		for _, data := range texts {
			changes = append(changes, model.Change{Place: place, Data: data})
		}
	}
	rows := [][]model.Change{nil}
	for from := 0; len(rows[len(rows)-1]) < 3; {
		end := len(rows)
		for _, l := range rows[from:end] {
			for _, c := range changes {
				rows = append(rows, append(slices.Clone(l), c))
			}
		}
		from = end
	}
	for _, l := range rows {
		for _, durable := range pairs {
			for _, now := range pairs {
				lies(t, durable, l, now, goneOver(durable, l, now)...)
			}
		}
	}
}

// TestDrawn asks for places behind some of drawn changes, and for others.
func TestDrawn(t *testing.T) {
	draw := drawer(11)
	for range 3000 {
		durable, l := drawn(draw, 1+draw(4), 20)
		now := After(durable, l[:draw(len(l)+1)])
		if draw(4) == 0 {
			now, _ = drawn(draw, 1+draw(4), 0)
		}
		lies(t, durable, l, now, goneOver(durable, l, now)...)
	}
}

// TestMany has very many places and changes: the time that it takes is no product of both.
func TestMany(t *testing.T) {
	const many = 200000
	durable := make([]string, many)
	var l []model.Change
	for i := range many {
		l = append(l, model.Change{Place: i, Data: "a"})
	}
	now := After(durable, l)
	lies(t, durable, l, now, many)
	now[many-1] = ""
	lies(t, durable, l, now, many-1)
	now[many-2] = "b"
	lies(t, durable, l, now)
}

// TestMemoryIsItsOwn asks whether what is handed in stays as it is, and shares nothing with an answer.
func TestMemoryIsItsOwn(t *testing.T) {
	durable := []string{"a", "b", "c"}
	l := []model.Change{{Place: 0, Data: "d"}, {Place: 2, Data: "e"}, {Place: 5, Data: "f"}}
	now := []string{"d", "b", "c"}
	stays := func(what string) {
		t.Helper()
		if !slices.Equal(durable, []string{"a", "b", "c"}) || !slices.Equal(now, []string{"d", "b", "c"}) ||
			!slices.Equal(l, []model.Change{{Place: 0, Data: "d"}, {Place: 2, Data: "e"}, {Place: 5, Data: "f"}}) {
			t.Fatalf("behind %s, what was handed in is %q, %v, %q", what, durable, l, now)
		}
	}
	lies(t, durable, l, now, 1)
	stays("Find and Longest")
	for _, changes := range [][]model.Change{nil, l[:1], l} {
		got, more := After(durable, changes), After(durable, changes)
		stays("After")
		got = got[:cap(got)]
		for i := range got {
			got[i] = "spoilt"
		}
		stays("a spoilt answer")
		if slices.Contains(more, "spoilt") {
			t.Errorf("one answer became %q by another", more)
		}
	}
	// what stands behind a slice that is handed in isn't touched either
	After(durable[:1], l)
	lies(t, durable[:1], l, now[:1], 1, 2, 3)
	stays("a piece of it")
}
