package table

import (
	"math"
	"testing"

	"almshouse/api"
)

// far are numbers beyond all limits.
var far = []int{math.MinInt, -1 << 62, -1 << 32, -65, -64, -17, -16, -2, -1, 64, 65, 128, 1 << 32, 1<<32 + 1, 1 << 62, math.MaxInt}

// page is where a page stands.
type page struct{ block, page int }

// toy is a table by its plain words: each place's page, of as many blocks and pages.
type toy struct {
	blocks, pages int
	its           map[int]page
}

// owner is whose a page is.
func (y toy) owner(p page) int {
	for place, its := range y.its {
		if its == p {
			return place
		}
	}
	return -1
}

// set is what Set is to answer, and makes it so.
func (y toy) set(place int, p page) api.Errno {
	if place < 0 || place > 63 || p.block < 0 || p.block >= y.blocks || p.page < 0 || p.page >= y.pages {
		return api.ErrRange
	}
	if owner := y.owner(p); owner >= 0 && owner != place {
		return api.ErrTwice
	}
	y.its[place] = p
	return api.OK
}

// holds holds all that a table tells against the toy.
func holds(t *testing.T, x *Table, y toy) {
	t.Helper()
	if x.Count() != len(y.its) {
		t.Fatalf("Count is %d, want %d", x.Count(), len(y.its))
	}
	for place := -1; place <= 64; place++ {
		want, there := y.its[place]
		if block, p, ok := x.At(place); ok != there || block != want.block || p != want.page {
			t.Fatalf("At(%d) is %d, %d, %t, want %v, %t", place, block, p, ok, want, there)
		}
	}
	owners := map[page]int{}
	worths := map[int]int{}
	for place, its := range y.its {
		owners[its] = place
		worths[its.block]++
	}
	for block := -1; block <= 65; block++ {
		if got := x.Worth(block); got != worths[block] {
			t.Fatalf("Worth(%d) is %d, want %d", block, got, worths[block])
		}
		for p := -1; p <= 17; p++ {
			want, ok := owners[page{block, p}]
			if !ok {
				want = -1
			}
			if got := x.Place(block, p); got != want {
				t.Fatalf("Place(%d, %d) is %d, want %d", block, p, got, want)
			}
		}
	}
}

// made is an empty table that may be, and its toy.
func made(t *testing.T, blocks, pages int) (*Table, toy) {
	t.Helper()
	x := New(blocks, pages)
	if x == nil {
		t.Fatalf("New(%d, %d) is nil", blocks, pages)
	}
	return x, toy{blocks, pages, map[int]page{}}
}

// set sets a page in both.
func set(t *testing.T, x *Table, y toy, place, block, p int) api.Errno {
	t.Helper()
	want := y.set(place, page{block, p})
	if got := x.Set(place, block, p); got != want {
		t.Fatalf("Set(%d, %d, %d) is %d, want %d", place, block, p, got, want)
	}
	return want
}

// P14.1

func TestSetOfPlaceThree(t *testing.T) {
	x := New(2, 4)
	if e := x.Set(3, 0, 1); e != api.OK || x.Worth(0) != 1 || x.Worth(1) != 0 || x.Place(0, 1) != 3 || x.Count() != 1 {
		t.Errorf("Set is %d; the worths are %d, %d, the page is %d's of %d", e, x.Worth(0), x.Worth(1), x.Place(0, 1), x.Count())
	}
	if block, p, ok := x.At(3); block != 0 || p != 1 || !ok {
		t.Errorf("At(3) is %d, %d, %t", block, p, ok)
	}
	if e := x.Set(4, 0, 1); e != api.ErrTwice {
		t.Errorf("Set of another place is %d", e)
	}
	if !x.Clear(3) || x.Clear(3) || x.Worth(0) != 0 || x.Place(0, 1) != -1 {
		t.Errorf("the page is %d's still", x.Place(0, 1))
	}
	if e := x.Set(4, 0, 1); e != api.OK {
		t.Errorf("Set of another place behind Clear is %d", e)
	}
}

func TestNew(t *testing.T) {
	var blocks, pages []int
	for v := -3; v <= 70; v++ {
		blocks = append(blocks, v)
	}
	for v := -3; v <= 20; v++ {
		pages = append(pages, v)
	}
	for _, b := range append(blocks, far...) {
		for _, p := range append(pages, far...) {
			may := b >= 1 && b <= 64 && p >= 2 && p <= 16
			x := New(b, p)
			if (x != nil) != may {
				t.Fatalf("New(%d, %d) is %v", b, p, x)
			}
			if may {
				holds(t, x, toy{b, p, nil})
			}
		}
	}
}

// TestEachPageOfEachTable sets the pages about the bounds of all tables that may be.
func TestEachPageOfEachTable(t *testing.T) {
	for blocks := 1; blocks <= 64; blocks++ {
		for pages := 2; pages <= 16; pages++ {
			for _, at := range []page{{0, 0}, {0, pages - 1}, {blocks - 1, 0}, {blocks - 1, pages - 1}} {
				x, y := made(t, blocks, pages)
				if set(t, x, y, 63, at.block, at.page) != api.OK {
					t.Fatalf("page %v isn't set", at)
				}
				holds(t, x, y)
			}
			x, _ := made(t, blocks, pages)
			for _, at := range []page{{blocks, 0}, {0, pages}, {-1, 0}, {0, -1}, {blocks, pages}} {
				if e := x.Set(0, at.block, at.page); e != api.ErrRange {
					t.Fatalf("Set of page %v of %d blocks, %d pages is %d", at, blocks, pages, e)
				}
			}
			if x.Count() != 0 {
				t.Fatalf("Count is %d", x.Count())
			}
		}
	}
}

func TestSetBeyond(t *testing.T) {
	x, y := made(t, 3, 4)
	set(t, x, y, 0, 0, 0)
	set(t, x, y, 1, 0, 1)
	for _, v := range far {
		if e := x.Set(v, 0, 0); e != api.ErrRange {
			t.Errorf("Set(%d, 0, 0) is %d", v, e)
		}
		if e := x.Set(0, v, 1); e != api.ErrRange {
			t.Errorf("Set(0, %d, 1) is %d", v, e)
		}
		if e := x.Set(0, 0, v); e != api.ErrRange {
			t.Errorf("Set(0, 0, %d) is %d", v, e)
		}
		if e := x.Set(v, v, v); e != api.ErrRange {
			t.Errorf("Set(%d, %d, %d) is %d", v, v, v, e)
		}
		if x.Clear(v) {
			t.Errorf("Clear(%d) is true", v)
		}
		if block, p, ok := x.At(v); block != 0 || p != 0 || ok {
			t.Errorf("At(%d) is %d, %d, %t", v, block, p, ok)
		}
		if x.Place(v, 0) != -1 || x.Place(0, v) != -1 || x.Place(v, v) != -1 {
			t.Errorf("a page of %d is somebody's", v)
		}
		if x.Worth(v) != 0 {
			t.Errorf("Worth(%d) is %d", v, x.Worth(v))
		}
		holds(t, x, y)
	}
}

// TestSetAgain moves a place, sets its own page again, and asks for another's.
func TestSetAgain(t *testing.T) {
	x, y := made(t, 2, 4)
	for _, c := range []struct {
		place, block, page int
		want               api.Errno
	}{
		{3, 0, 1, api.OK}, {3, 0, 1, api.OK}, {4, 0, 1, api.ErrTwice}, {3, 0, 2, api.OK}, {4, 0, 1, api.OK},
		{3, 0, 1, api.ErrTwice}, {3, 1, 3, api.OK}, {0, 0, 2, api.OK}, {0, 1, 3, api.ErrTwice}, {0, 0, 2, api.OK},
		{63, 0, 2, api.ErrTwice}, {63, 0, 0, api.OK}, {64, 0, 0, api.ErrRange}, {3, 2, 0, api.ErrRange}, {3, 0, 4, api.ErrRange},
	} {
		if e := set(t, x, y, c.place, c.block, c.page); e != c.want {
			t.Errorf("Set(%d, %d, %d) is %d, want %d", c.place, c.block, c.page, e, c.want)
		}
		holds(t, x, y)
	}
}

func TestClear(t *testing.T) {
	x, y := made(t, 4, 16)
	for place := range 64 {
		set(t, x, y, place, place%4, place/4)
	}
	holds(t, x, y)
	for place := range 64 {
		if !x.Clear(place) || x.Clear(place) {
			t.Fatalf("Clear(%d) isn't true once", place)
		}
		delete(y.its, place)
		holds(t, x, y)
	}
}

func TestGrow(t *testing.T) {
	for _, c := range []struct{ blocks, more, want int }{
		{1, 1, 2}, {1, 0, 1}, {1, 63, 64}, {1, 64, 64}, {1, 62, 63}, {64, 1, 64}, {64, 0, 64}, {63, 1, 64}, {3, 5, 8}, {60, 9, 64},
		{3, -1, 3}, {3, -3, 3}, {3, -64, 3}, {3, math.MinInt, 3}, {3, math.MaxInt, 64}, {64, math.MaxInt, 64}, {3, 1 << 32, 64}, {3, -1 << 32, 3},
	} {
		x, y := made(t, c.blocks, 2)
		set(t, x, y, 5, 0, 1)
		set(t, x, y, 6, c.blocks-1, 0)
		x.Grow(c.more)
		y.blocks = c.want
		holds(t, x, y)
		if e := set(t, x, y, 7, c.want, 0); e != api.ErrRange {
			t.Errorf("%d blocks, and %d more: Set of block %d is %d", c.blocks, c.more, c.want, e)
		}
		if e := set(t, x, y, 7, c.want-1, 1); c.want > c.blocks && e != api.OK {
			t.Errorf("%d blocks, and %d more: Set of block %d is %d", c.blocks, c.more, c.want-1, e)
		}
		holds(t, x, y)
	}
}

// TestGrowAgain grows a table bit by bit, with pages set in between.
func TestGrowAgain(t *testing.T) {
	x, y := made(t, 1, 3)
	for i := range 70 {
		set(t, x, y, i%64, min(i, 63), i%3)
		holds(t, x, y)
		x.Grow(1)
		y.blocks = min(y.blocks+1, 64)
		holds(t, x, y)
	}
}

func TestTwoTablesAreTwo(t *testing.T) {
	a, ya := made(t, 2, 4)
	b, yb := made(t, 2, 4)
	set(t, a, ya, 3, 1, 1)
	holds(t, b, yb)
	set(t, b, yb, 4, 1, 1)
	a.Grow(2)
	ya.blocks = 4
	holds(t, a, ya)
	holds(t, b, yb)
	if e := b.Set(3, 2, 0); e != api.ErrRange {
		t.Errorf("one table grows by the other: Set is %d", e)
	}
}

// asksNothing asks a table that has nothing.
func asksNothing(t *testing.T, x *Table, want api.Errno) {
	t.Helper()
	for _, v := range append([]int{0, 1, 2, 3, 15, 16, 63}, far...) {
		x.Grow(v)
		block, p, ok := x.At(v)
		if e := x.Set(v, 0, 0); e != want || x.Clear(v) || block != 0 || p != 0 || ok {
			t.Errorf("place %d: Set is %d, At %d, %d, %t", v, e, block, p, ok)
		}
		if x.Set(0, v, 0) != want || x.Place(v, 0) != -1 || x.Place(0, v) != -1 || x.Worth(v) != 0 || x.Count() != 0 {
			t.Errorf("block %d: Set is %d, Place %d, Worth %d, Count %d", v, x.Set(0, v, 0), x.Place(v, 0), x.Worth(v), x.Count())
		}
	}
}

func TestNilTable(t *testing.T) { asksNothing(t, nil, api.ErrArg) }

// TestTableNotMade asks a table that New didn't make: it has no pages.
func TestTableNotMade(t *testing.T) { asksNothing(t, new(Table), api.ErrRange) }

// TestMixedCalls holds long rows of calls against the toy.
func TestMixedCalls(t *testing.T) {
	x := uint32(1)
	draw := func(n int) int {
		x = x*1664525 + 1013904223
		return int(x>>8) % n
	}
	for _, g := range []page{{1, 2}, {2, 4}, {5, 3}, {8, 16}, {60, 2}, {64, 16}} {
		a, y := made(t, g.block, g.page)
		for range 3000 {
			switch place := draw(66) - 1; draw(40) {
			case 0:
				more := draw(3) - 1
				a.Grow(more)
				y.blocks = min(64, y.blocks+max(0, more))
			case 1, 2, 3, 4, 5, 6, 7, 8:
				_, there := y.its[place]
				delete(y.its, place)
				if a.Clear(place) != there {
					t.Fatalf("Clear(%d) is %t", place, !there)
				}
			default:
				set(t, a, y, place, draw(y.blocks+2)-1, draw(y.pages+2)-1)
			}
			holds(t, a, y)
		}
	}
}
