package geom

import (
	"math"
	"testing"

	"almshouse/api"
)

// numbers are those that a geometry's may be, about the limits, and wrong ones; some of their products run over.
var numbers = []int{
	math.MinInt, -1 << 32, -64, -1, 0, 1, 2, 3, 4, 7, 8, 9, 16, 21, 22, 31, 32, 33, 63, 64, 65, 128,
	1 << 16, 1 << 21, 1 << 31, 1 << 32, 1<<32 + 1, 1 << 62, math.MaxInt,
}

// pages are a geometry's, about the limits, and wrong ones.
var pages = []int{math.MinInt, -2, -1, 0, 1, 2, 3, 8, 15, 16, 17, 32, 1 << 32, math.MaxInt}

// wanted is what Check is to answer, as the document tells it.
func wanted(g api.Geometry) api.Errno {
	if g.Channels < 1 || g.Dies < 1 || g.Blocks < 1 || g.Pages < 2 {
		return api.ErrArg
	}
	if g.Channels > 64 || g.Dies > 64 || g.Blocks > 64 || g.Pages > 16 {
		return api.ErrMany
	}
	if g.Channels*g.Dies*g.Blocks < 3 {
		return api.ErrArg
	}
	if g.Channels*g.Dies*g.Blocks > 64 {
		return api.ErrMany
	}
	return api.OK
}

// each calls a function with every geometry of these numbers and pages.
func each(call func(api.Geometry)) {
	for _, c := range numbers {
		for _, d := range numbers {
			for _, b := range numbers {
				for _, p := range pages {
					call(api.Geometry{Channels: c, Dies: d, Blocks: b, Pages: p})
				}
			}
		}
	}
}

// allowed calls a function with every geometry that may be.
func allowed(call func(api.Geometry)) {
	for c := 1; c <= 64; c++ {
		for d := 1; c*d <= 64; d++ {
			for b := 1; c*d*b <= 64; b++ {
				for p := 2; p <= 16 && c*d*b >= 3; p++ {
					call(api.Geometry{Channels: c, Dies: d, Blocks: b, Pages: p})
				}
			}
		}
	}
}

// wrong are geometries that may not be, with Check's error.
var wrong = []struct {
	g   api.Geometry
	err api.Errno
}{
	{api.Geometry{}, api.ErrArg},
	{api.Geometry{Channels: 0, Dies: 1, Blocks: 3, Pages: 2}, api.ErrArg},
	{api.Geometry{Channels: 1, Dies: 0, Blocks: 3, Pages: 2}, api.ErrArg},
	{api.Geometry{Channels: 3, Dies: 1, Blocks: 0, Pages: 2}, api.ErrArg},
	{api.Geometry{Channels: -1, Dies: -1, Blocks: 3, Pages: 2}, api.ErrArg},
	{api.Geometry{Channels: 1, Dies: 1, Blocks: 3, Pages: 1}, api.ErrArg},
	{api.Geometry{Channels: 1, Dies: 1, Blocks: 3, Pages: 17}, api.ErrMany},
	{api.Geometry{Channels: 65, Dies: 1, Blocks: 1, Pages: 2}, api.ErrMany},
	{api.Geometry{Channels: 1, Dies: 65, Blocks: 1, Pages: 2}, api.ErrMany},
	{api.Geometry{Channels: 1, Dies: 1, Blocks: 65, Pages: 2}, api.ErrMany},
	{api.Geometry{Channels: 5, Dies: 13, Blocks: 1, Pages: 2}, api.ErrMany},
	{api.Geometry{Channels: 64, Dies: 64, Blocks: 64, Pages: 16}, api.ErrMany},
	{api.Geometry{Channels: 1, Dies: 1, Blocks: 2, Pages: 2}, api.ErrArg},
	{api.Geometry{Channels: 2, Dies: 1, Blocks: 1, Pages: 16}, api.ErrArg},
	{api.Geometry{Channels: 1, Dies: 1, Blocks: 1, Pages: 17}, api.ErrMany}, // the pages are asked ahead of all blocks together
	{api.Geometry{Channels: 65, Dies: 0, Blocks: 1, Pages: 17}, api.ErrArg}, // what is too little, ahead of what is too much
	{api.Geometry{Channels: 65, Dies: 1, Blocks: 1, Pages: 1}, api.ErrArg},
	{api.Geometry{Channels: 1 << 32, Dies: 1 << 32, Blocks: 3, Pages: 2}, api.ErrMany},
	{api.Geometry{Channels: math.MaxInt, Dies: math.MaxInt, Blocks: math.MaxInt, Pages: math.MaxInt}, api.ErrMany},
	{api.Geometry{Channels: math.MinInt, Dies: math.MaxInt, Blocks: 1, Pages: 2}, api.ErrArg},
}

// odd are coordinates beyond a range that ends behind n.
func odd(n int) []int { return []int{-1, n, n + 1, -n, 1 << 32, math.MaxInt, math.MinInt} }

// P4.1

func TestCheck(t *testing.T) {
	for _, c := range wrong {
		if got := Check(c.g); got != c.err {
			t.Errorf("Check(%+v) is %d, want %d", c.g, got, c.err)
		}
	}
	each(func(g api.Geometry) {
		if got := Check(g); got != wanted(g) {
			t.Errorf("Check(%+v) is %d, want %d", g, got, wanted(g))
		}
	})
	allowed(func(g api.Geometry) {
		if got := Check(g); got != api.OK {
			t.Errorf("Check(%+v) is %d", g, got)
		}
	})
}

func TestBlocks(t *testing.T) {
	for _, c := range wrong {
		if got := Blocks(c.g); got != 0 {
			t.Errorf("Blocks(%+v) is %d", c.g, got)
		}
	}
	each(func(g api.Geometry) {
		want := 0
		if wanted(g) == api.OK {
			want = g.Channels * g.Dies * g.Blocks
		}
		if got := Blocks(g); got != want {
			t.Errorf("Blocks(%+v) is %d, want %d", g, got, want)
		}
	})
}

func TestSplit(t *testing.T) {
	g := api.Geometry{Channels: 2, Dies: 3, Blocks: 4, Pages: 5}
	for _, c := range []struct {
		n    int
		want api.Place
	}{
		{0, api.Place{}},
		{4, api.Place{Page: 4}},
		{5, api.Place{Channel: 1}},
		{9, api.Place{Channel: 1, Page: 4}},
		{10, api.Place{Die: 1}},
		{15, api.Place{Channel: 1, Die: 1}},
		{20, api.Place{Die: 2}},
		{30, api.Place{Block: 1}},
		{36, api.Place{Channel: 1, Block: 1, Page: 1}},
		{119, api.Place{Channel: 1, Die: 2, Block: 3, Page: 4}},
	} {
		if got, err := Split(g, c.n); got != c.want || err != api.OK {
			t.Errorf("Split(%+v, %d) is %+v, error %d; want %+v", g, c.n, got, err, c.want)
		}
	}
	for _, n := range odd(120) {
		if got, err := Split(g, n); got != (api.Place{}) || err != api.ErrRange {
			t.Errorf("Split(%+v, %d) is %+v, error %d", g, n, got, err)
		}
	}
	small := api.Geometry{Channels: 2, Dies: 1, Blocks: 3, Pages: 4}
	if got, err := Split(small, 4); got != (api.Place{Channel: 1}) || err != api.OK {
		t.Errorf("block 1 of %+v lies on %+v, error %d", small, got, err)
	}
}

// TestNumbering goes over all pages of every geometry, channel by channel, then die by die, then block by block.
func TestNumbering(t *testing.T) {
	allowed(func(g api.Geometry) {
		n := 0
		for b := range g.Blocks {
			for d := range g.Dies {
				for c := range g.Channels {
					for p := range g.Pages {
						want := api.Place{Channel: c, Die: d, Block: b, Page: p}
						if got, err := Split(g, n); got != want || err != api.OK {
							t.Fatalf("Split(%+v, %d) is %+v, error %d; want %+v", g, n, got, err, want)
						}
						if got, err := Join(g, want); got != n || err != api.OK {
							t.Fatalf("Join(%+v, %+v) is %d, error %d; want %d", g, want, got, err, n)
						}
						if got, err := Block(g, want); got != n/g.Pages || err != api.OK {
							t.Fatalf("Block(%+v, %+v) is %d, error %d; want %d", g, want, got, err, n/g.Pages)
						}
						n++
					}
				}
			}
		}
		for _, n := range []int{n, -1} {
			if got, err := Split(g, n); got != (api.Place{}) || err != api.ErrRange {
				t.Fatalf("Split(%+v, %d) is %+v, error %d", g, n, got, err)
			}
		}
	})
}

func TestNeighboursLieOnUnlikeChannels(t *testing.T) {
	allowed(func(g api.Geometry) {
		for n := 1; n < g.Channels*g.Dies*g.Blocks && g.Channels > 1; n++ {
			one, _ := Split(g, (n-1)*g.Pages)
			other, _ := Split(g, n*g.Pages)
			if one.Channel == other.Channel {
				t.Fatalf("blocks %d and %d of %+v lie on channel %d", n-1, n, g, one.Channel)
			}
		}
	})
}

func TestPlaceThatIsNone(t *testing.T) {
	g := api.Geometry{Channels: 2, Dies: 3, Blocks: 4, Pages: 5}
	within := api.Place{Channel: 1, Die: 2, Block: 3, Page: 4}
	check := func(p api.Place) {
		t.Helper()
		if got, err := Join(g, p); got != 0 || err != api.ErrRange {
			t.Errorf("Join(%+v, %+v) is %d, error %d", g, p, got, err)
		}
		if got, err := Block(g, p); got != 0 || err != api.ErrRange {
			t.Errorf("Block(%+v, %+v) is %d, error %d", g, p, got, err)
		}
	}
	for _, n := range odd(2) {
		p := within
		p.Channel = n
		check(p)
	}
	for _, n := range odd(3) {
		p := within
		p.Die = n
		check(p)
	}
	for _, n := range odd(4) {
		p := within
		p.Block = n
		check(p)
	}
}

func TestPageThatIsNone(t *testing.T) {
	g := api.Geometry{Channels: 2, Dies: 3, Blocks: 4, Pages: 5}
	for _, n := range odd(5) {
		p := api.Place{Channel: 1, Die: 2, Block: 3, Page: n}
		if got, err := Join(g, p); got != 0 || err != api.ErrRange {
			t.Errorf("Join(%+v, %+v) is %d, error %d", g, p, got, err)
		}
		if got, err := Block(g, p); got != 23 || err != api.OK {
			t.Errorf("Block(%+v, %+v) is %d, error %d", g, p, got, err)
		}
	}
}

// TestWrongGeometryIsToldFirst asks for pages within and without.
func TestWrongGeometryIsToldFirst(t *testing.T) {
	for _, c := range wrong {
		for _, n := range []int{0, 1, -1, math.MaxInt, math.MinInt} {
			if got, err := Split(c.g, n); got != (api.Place{}) || err != c.err {
				t.Errorf("Split(%+v, %d) is %+v, error %d, want %d", c.g, n, got, err, c.err)
			}
			for _, p := range []api.Place{{Channel: n}, {Die: n}, {Block: n}, {Page: n}} {
				if got, err := Join(c.g, p); got != 0 || err != c.err {
					t.Errorf("Join(%+v, %+v) is %d, error %d, want %d", c.g, p, got, err, c.err)
				}
				if got, err := Block(c.g, p); got != 0 || err != c.err {
					t.Errorf("Block(%+v, %+v) is %d, error %d, want %d", c.g, p, got, err, c.err)
				}
			}
		}
	}
}

// P4.2

func TestWhatIsSplitIsJoined(t *testing.T) {
	allowed(func(g api.Geometry) {
		seen := map[api.Place]int{}
		for n := range g.Channels * g.Dies * g.Blocks * g.Pages {
			p, err := Split(g, n)
			if err != api.OK {
				t.Fatalf("Split(%+v, %d): error %d", g, n, err)
			}
			if other, ok := seen[p]; ok {
				t.Fatalf("pages %d and %d of %+v are one, %+v", other, n, g, p)
			}
			seen[p] = n
			if got, err := Join(g, p); got != n || err != api.OK {
				t.Fatalf("page %d of %+v is joined as %d, error %d", n, g, got, err)
			}
		}
	})
}

func TestNoTwoPagesHaveOneNumber(t *testing.T) {
	allowed(func(g api.Geometry) {
		seen := make([]bool, g.Channels*g.Dies*g.Blocks*g.Pages)
		for c := range g.Channels {
			for d := range g.Dies {
				for b := range g.Blocks {
					for p := range g.Pages {
						n, err := Join(g, api.Place{Channel: c, Die: d, Block: b, Page: p})
						if err != api.OK || n < 0 || n >= len(seen) || seen[n] {
							t.Fatalf("channel %d, die %d, block %d, page %d of %+v has number %d, error %d", c, d, b, p, g, n, err)
						}
						seen[n] = true
					}
				}
			}
		}
	})
}
