package rule

import (
	"math"
	"slices"
	"testing"

	"almshouse/api"
)

// far are numbers beyond all limits.
var far = []int{math.MinInt, -1 << 62, -1 << 32, -65, -64, -16, -9, -2, -1, 1<<32 + 1, 1<<32 + 4, 1 << 62, math.MaxInt}

// sizes, spares and pages are those that may be, about the limits, and wrong ones.
var (
	sizes  = append(span(-3, 140), far...)
	spares = append(span(-3, 20), far...)
	pages  = append(span(-3, 40), far...)
)

// span are the numbers from one to another one.
func span(from, to int) []int {
	var l []int
	for v := from; v <= to; v++ {
		l = append(l, v)
	}
	return l
}

// sized, spared and paged tell what may be, as the document does.
func sized(size int) bool   { return size >= 1 && size <= 64 }
func spared(spare int) bool { return spare >= 0 && spare <= 8 }
func paged(pages int) bool  { return pages >= 2 && pages <= 16 }

// data counts a size's data blocks: two, and one for each block that its places fill.
func data(size, pages int) int {
	blocks := 2
	for size >= pages {
		size -= pages
		blocks++
	}
	return blocks
}

// is holds an answer against what is wanted.
func is(t *testing.T, what string, args []int, got, want int) {
	t.Helper()
	if got != want {
		t.Errorf("%s%v is %d, want %d", what, args, got, want)
	}
}

// P9.1

func TestCheck(t *testing.T) {
	for _, c := range []struct {
		size, spare int
		want        api.Errno
	}{
		{1, 0, api.OK}, {1, 8, api.OK}, {64, 0, api.OK}, {64, 8, api.OK}, {5, 1, api.OK},
		{0, 0, api.ErrRange}, {65, 0, api.ErrRange}, {1, -1, api.ErrRange}, {1, 9, api.ErrRange},
		{0, 9, api.ErrRange}, {-1, -1, api.ErrRange}, {65, 9, api.ErrRange},
	} {
		is(t, "Check", []int{c.size, c.spare}, int(Check(c.size, c.spare)), int(c.want))
	}
	for _, size := range sizes {
		for _, spare := range spares {
			want := api.ErrRange
			if sized(size) && spared(spare) {
				want = api.OK
			}
			is(t, "Check", []int{size, spare}, int(Check(size, spare)), int(want))
		}
	}
}

func TestData(t *testing.T) {
	for _, c := range []struct{ size, pages, want int }{
		{8, 4, 4}, {5, 4, 3}, {7, 4, 3}, {9, 4, 4}, {1, 2, 2}, {2, 2, 3}, {3, 2, 3}, {1, 16, 2}, {15, 16, 2}, {16, 16, 3},
		{64, 2, 34}, {64, 16, 6}, {63, 16, 5}, {64, 3, 23}, {63, 2, 33},
		{0, 4, 0}, {65, 4, 0}, {-1, 4, 0}, {8, 1, 0}, {8, 0, 0}, {8, -4, 0}, {8, 17, 0}, {0, 0, 0},
	} {
		is(t, "Data", []int{c.size, c.pages}, Data(c.size, c.pages), c.want)
	}
	for _, size := range sizes {
		for _, p := range pages {
			want := 0
			if sized(size) && paged(p) {
				want = data(size, p)
			}
			is(t, "Data", []int{size, p}, Data(size, p), want)
		}
	}
}

func TestTotal(t *testing.T) {
	for _, c := range []struct{ size, spare, pages, want int }{
		{5, 1, 4, 4}, {8, 1, 4, 5}, {8, 0, 4, 4}, {1, 0, 2, 2}, {64, 8, 2, 42}, {64, 8, 16, 14},
		{0, 1, 4, 0}, {65, 1, 4, 0}, {8, -1, 4, 0}, {8, 9, 4, 0}, {8, 1, 1, 0}, {8, 1, 17, 0}, {8, 1, 0, 0},
	} {
		is(t, "Total", []int{c.size, c.spare, c.pages}, Total(c.size, c.spare, c.pages), c.want)
	}
	for _, size := range sizes {
		for _, spare := range spares {
			for _, p := range pages {
				want := 0
				if sized(size) && spared(spare) && paged(p) {
					want = data(size, p) + spare
				}
				is(t, "Total", []int{size, spare, p}, Total(size, spare, p), want)
			}
		}
	}
}

func TestBound(t *testing.T) {
	for _, c := range []struct{ pages, faults, want int }{
		{4, 0, 11}, {4, 1, 22}, {2, 0, 7}, {16, 0, 35}, {2, 64, 455}, {3, 10, 99},
		{16, 1 << 20, 36700195}, {2, 1 << 20, 7340039}, {2, 1<<20 - 1, 7340032},
		{4, 1<<20 + 1, 0}, {4, -1, 0}, {1, 0, 0}, {17, 0, 0}, {0, 0, 0}, {-4, 0, 0}, {17, -1, 0},
	} {
		is(t, "Bound", []int{c.pages, c.faults}, Bound(c.pages, c.faults), c.want)
	}
	for _, p := range pages {
		for _, faults := range slices.Concat(span(-3, 100), span(1<<20-3, 1<<20+3), far) {
			want := 0
			if paged(p) && faults >= 0 && faults <= 1<<20 {
				want = 2*p*faults + 3*faults + 2*p + 3
			}
			is(t, "Bound", []int{p, faults}, Bound(p, faults), want)
		}
	}
}

func TestMost(t *testing.T) {
	for _, c := range []struct{ blocks, spare, pages, want int }{
		{4, 0, 4, 11}, {5, 1, 4, 11}, {4, 1, 4, 7}, {2, 0, 4, 3}, {2, 0, 2, 1}, {3, 1, 16, 15},
		{1, 0, 4, 0}, {0, 0, 4, 0}, {2, 1, 4, 0}, {9, 8, 2, 0}, {10, 8, 2, 1},
		{5, 0, 16, 63}, {6, 0, 16, 64}, {33, 0, 2, 63}, {34, 0, 2, 64}, {41, 8, 2, 63}, {42, 8, 2, 64}, {64, 8, 2, 64}, {64, 0, 16, 64},
		{65, 0, 4, 0}, {-1, 0, 4, 0}, {4, -1, 4, 0}, {4, -4, 4, 0}, {64, 9, 4, 0}, {4, 0, 1, 0}, {4, 0, 0, 0}, {4, 0, 17, 0}, {math.MaxInt, 8, 4, 0},
	} {
		is(t, "Most", []int{c.blocks, c.spare, c.pages}, Most(c.blocks, c.spare, c.pages), c.want)
	}
	for _, blocks := range append(span(-70, 140), far...) {
		for _, spare := range spares {
			for _, p := range pages {
				want := 0
				if blocks <= 64 && spared(spare) && paged(p) {
					for size := 1; size <= 64; size++ {
						if data(size, p)+spare <= blocks {
							want = size
						}
					}
				}
				is(t, "Most", []int{blocks, spare, p}, Most(blocks, spare, p), want)
			}
		}
	}
}

func TestMostIsServed(t *testing.T) {
	for blocks := range 65 {
		for spare := range 9 {
			for p := 2; p <= 16; p++ {
				size := Most(blocks, spare, p)
				if size > 0 && Total(size, spare, p) > blocks {
					t.Errorf("%d blocks, %d of them spare, of %d pages don't serve %d places", blocks, spare, p, size)
				}
				if size < 64 && Total(size+1, spare, p) <= blocks {
					t.Errorf("%d blocks, %d of them spare, of %d pages serve more than %d places", blocks, spare, p, size)
				}
			}
		}
	}
}

// P9.2

// TestPlacesNeverFillAllClosedBlocks counts pages: with one block blank, all others have more than there are places; with one block less they would not.
func TestPlacesNeverFillAllClosedBlocks(t *testing.T) {
	for size := 1; size <= 64; size++ {
		for p := 2; p <= 16; p++ {
			closed := Data(size, p) - 1
			if closed*p <= size {
				t.Errorf("%d places fill %d blocks of %d pages", size, closed, p)
			}
			if (closed-1)*p > size {
				t.Errorf("%d places of blocks of %d pages need no more than %d blocks", size, p, closed)
			}
		}
	}
}

// toy is blocks without an array: of each page, which place was written there; of each place, in which block its page is.
type toy struct {
	blocks [][]int
	lies   []int
	pages  int
	front  int
}

// put writes a place into the front.
func (y *toy) put(place int) {
	y.blocks[y.front] = append(y.blocks[y.front], place)
	y.lies[place] = y.front
}

// needed are the places whose pages are in a block.
func (y *toy) needed(block int) []int {
	var l []int
	for place, b := range y.lies {
		if b == block {
			l = append(l, place)
		}
	}
	return l
}

// blank are the blocks without pages, but the front.
func (y *toy) blank() []int {
	var l []int
	for b := range y.blocks {
		if b != y.front && len(y.blocks[b]) == 0 {
			l = append(l, b)
		}
	}
	return l
}

// room makes some for a page; it tells whether there is some.
func (y *toy) room() bool {
	if len(y.blocks[y.front]) < y.pages {
		return true
	}
	free := y.blank()
	if len(free) > 1 {
		y.front = free[0]
		return true
	}
	if len(free) == 0 {
		return false
	}
	least := 0
	for b := range y.blocks {
		if b != free[0] && (least == free[0] || len(y.needed(b)) < len(y.needed(least))) {
			least = b
		}
	}
	l := y.needed(least)
	y.front = free[0]
	for _, place := range l {
		y.put(place)
	}
	y.blocks[least] = nil
	return len(l) < y.pages
}

// TestRoomNeverEnds writes places into Data blocks for long: whichever block is needed least, some page of it isn't.
func TestRoomNeverEnds(t *testing.T) {
	x := uint32(1)
	for size := 1; size <= 64; size++ {
		for p := 2; p <= 16; p++ {
			y := &toy{make([][]int, Data(size, p)), slices.Repeat([]int{-1}, size), p, 0}
			for i := range 6 * size {
				place := i % size
				if i >= 3*size {
					x = x*1664525 + 1013904223
					place = int(x>>8) % size
				}
				if !y.room() {
					t.Fatalf("%d places in %d blocks of %d pages: no room for write %d", size, len(y.blocks), p, i)
				}
				y.put(place)
			}
		}
	}
}
