package ledger

import (
	"math"
	"reflect"
	"slices"
	"testing"

	"almshouse/api"
)

const top = math.MaxInt32 // of Gen, and of an Epoch

// beyond are numbers of no tenant, whatever the ledger.
var beyond = []int{math.MinInt, -1 << 32, -1, api.Tenants, api.Admin + 1, 1 << 32, math.MaxInt}

// sample is a ledger that may be, of 12 blocks of 4 pages: tenant 1 isn't there, nobody has the blocks 5 and 9.
func sample() api.Ledger {
	return api.Ledger{Gen: 9, Epochs: 7, Tenants: [api.Tenants]api.Tenant{
		0: {There: true, Epoch: 7, Size: 3, Spare: 0, Blocks: []int{11, 2}},
		2: {There: true, Epoch: 1, Size: 5, Spare: 1, Blocks: []int{3, 10, 4, 8}},
		3: {There: true, Epoch: 4, Size: 1, Spare: 0, Blocks: []int{6, 7}},
	}}
}

// spoilt is the sample, with something done to it.
func spoilt(do func(l *api.Ledger)) api.Ledger {
	l := sample()
	do(&l)
	return l
}

// is holds an error against the one that is to be.
func is(t *testing.T, what string, got, want api.Errno) {
	t.Helper()
	if got != want {
		t.Errorf("%s: error %d, want %d", what, got, want)
	}
}

// row holds a row of numbers against the one that is to be.
func row(t *testing.T, what string, got, want []int) {
	t.Helper()
	if !slices.Equal(got, want) {
		t.Errorf("%s: %v, want %v", what, got, want)
	}
}

// plain makes of empty rows none, so that ledgers are held against each other without Same.
func plain(l api.Ledger) api.Ledger {
	for i, e := range l.Tenants {
		l.Tenants[i].Blocks = append([]int(nil), e.Blocks...)
	}
	return l
}

// answers holds a ledger and an error against those that are to be.
func answers(t *testing.T, what string, got api.Ledger, err api.Errno, want api.Ledger, wantErr api.Errno) {
	t.Helper()
	if !reflect.DeepEqual(plain(got), plain(want)) || err != wantErr {
		t.Errorf("%s:\n%+v, error %d, want\n%+v, error %d", what, got, err, want, wantErr)
	}
}

// refuses asks that a call answers an error, and nothing beside.
func refuses(t *testing.T, what string, want api.Errno, call func() (api.Ledger, api.Errno)) {
	t.Helper()
	got, err := call()
	if !reflect.DeepEqual(got, api.Ledger{}) || err != want {
		t.Errorf("%s: %+v, error %d, want nothing, error %d", what, got, err, want)
	}
}

// P10.1: Check

func TestCheckOfWhatMayBe(t *testing.T) {
	for what, l := range map[string]api.Ledger{
		"the empty one":                 {},
		"the sample":                    sample(),
		"the greatest Gen and Epochs":   {Gen: top, Epochs: top},
		"Gen 0":                         spoilt(func(l *api.Ledger) { l.Gen = 0 }),
		"the greatest Epoch":            spoilt(func(l *api.Ledger) { l.Epochs, l.Tenants[3].Epoch = top, top }),
		"Epochs beyond all":             spoilt(func(l *api.Ledger) { l.Epochs = 8 }),
		"an empty row of nobody's":      spoilt(func(l *api.Ledger) { l.Tenants[1].Blocks = []int{} }),
		"more blocks than Total":        spoilt(func(l *api.Ledger) { l.Tenants[3].Blocks = []int{6, 7, 5, 9} }),
		"the greatest size of 2 blocks": spoilt(func(l *api.Ledger) { l.Tenants[0].Size = 3 }),
	} {
		is(t, what, Check(l, 12, 4), api.OK)
	}
	all := api.Ledger{Epochs: 1}
	all.Tenants[2] = api.Tenant{There: true, Epoch: 1, Size: 64, Spare: 8, Blocks: span(2, 64)}
	is(t, "all blocks of an array", Check(all, 64, 16), api.OK)
	is(t, "all blocks of an array of least pages", Check(all, 64, 2), api.OK)
	all.Tenants[2].Blocks = span(3, 64)
	is(t, "all but one", Check(all, 64, 16), api.OK)
}

func TestCheckOfWhatMayNotBe(t *testing.T) {
	for what, do := range map[string]func(l *api.Ledger){
		"Gen below 0":                     func(l *api.Ledger) { l.Gen = -1 },
		"Gen too great":                   func(l *api.Ledger) { l.Gen = top + 1 },
		"Gen far too great":               func(l *api.Ledger) { l.Gen = math.MaxInt },
		"Gen the least number":            func(l *api.Ledger) { l.Gen = math.MinInt },
		"Epochs below 0":                  func(l *api.Ledger) { l.Epochs, l.Tenants = -1, [api.Tenants]api.Tenant{} },
		"Epochs too great":                func(l *api.Ledger) { l.Epochs = top + 1 },
		"Epochs far too great":            func(l *api.Ledger) { l.Epochs = math.MaxInt },
		"an Epoch of nobody's":            func(l *api.Ledger) { l.Tenants[1].Epoch = 2 },
		"a Size of nobody's":              func(l *api.Ledger) { l.Tenants[1].Size = 1 },
		"a Spare of nobody's":             func(l *api.Ledger) { l.Tenants[1].Spare = 1 },
		"blocks of nobody's":              func(l *api.Ledger) { l.Tenants[1].Blocks = []int{5} },
		"all but There":                   func(l *api.Ledger) { l.Tenants[3].There = false },
		"There alone":                     func(l *api.Ledger) { l.Tenants[1].There = true },
		"Epoch 0":                         func(l *api.Ledger) { l.Tenants[2].Epoch = 0 },
		"Epoch below 0":                   func(l *api.Ledger) { l.Tenants[2].Epoch = -1 },
		"Epoch above Epochs":              func(l *api.Ledger) { l.Tenants[2].Epoch = 8 },
		"Epochs below an Epoch":           func(l *api.Ledger) { l.Epochs = 6 },
		"one Epoch of two":                func(l *api.Ledger) { l.Tenants[3].Epoch = 1 },
		"one Epoch of the first and last": func(l *api.Ledger) { l.Tenants[0].Epoch = 4 },
		"Size 0":                          func(l *api.Ledger) { l.Tenants[0].Size = 0 },
		"Size below 0":                    func(l *api.Ledger) { l.Tenants[0].Size = -1 },
		"Size 65":                         func(l *api.Ledger) { l.Tenants[0].Size = 65 },
		"Spare below 0":                   func(l *api.Ledger) { l.Tenants[2].Spare = -1 },
		"Spare 9":                         func(l *api.Ledger) { l.Tenants[2].Spare = 9 },
		"a size that needs a block more":  func(l *api.Ledger) { l.Tenants[3].Size = 4 },
		"a spare that needs a block more": func(l *api.Ledger) { l.Tenants[3].Spare = 1 },
		"a block too few":                 func(l *api.Ledger) { l.Tenants[2].Blocks = []int{3, 10, 4} },
		"no block":                        func(l *api.Ledger) { l.Tenants[2].Blocks = nil },
		"an admin's block":                func(l *api.Ledger) { l.Tenants[2].Blocks[1] = 1 },
		"the admin's first block":         func(l *api.Ledger) { l.Tenants[2].Blocks[3] = 0 },
		"a block below 0":                 func(l *api.Ledger) { l.Tenants[0].Blocks[0] = -1 },
		"the block behind the last one":   func(l *api.Ledger) { l.Tenants[0].Blocks[1] = 12 },
		"a block far beyond":              func(l *api.Ledger) { l.Tenants[0].Blocks[1] = math.MaxInt },
		"a tenant's block twice":          func(l *api.Ledger) { l.Tenants[2].Blocks[3] = 3 },
		"a block of two":                  func(l *api.Ledger) { l.Tenants[3].Blocks[1] = 11 },
		"a block of neighbours":           func(l *api.Ledger) { l.Tenants[2].Blocks[0] = 6 },
		"a block more, a tenant's own":    func(l *api.Ledger) { l.Tenants[0].Blocks = []int{11, 2, 2} },
	} {
		is(t, what, Check(spoilt(do), 12, 4), api.ErrForm)
	}
}

// TestCheckOfAnArray goes over the blocks and pages of the array: what a ledger may be hangs on them.
func TestCheckOfAnArray(t *testing.T) {
	for blocks := -3; blocks <= 70; blocks++ {
		for pages := -3; pages <= 20; pages++ {
			want := api.ErrForm
			if blocks >= 12 && pages >= 4 && pages <= 16 {
				want = api.OK
			}
			is(t, "the sample", Check(sample(), blocks, pages), want)
			is(t, "the empty ledger", Check(api.Ledger{Gen: 1}, blocks, pages), api.OK)
			is(t, "a wrong Gen", Check(api.Ledger{Gen: -1}, blocks, pages), api.ErrForm)
		}
	}
	for _, blocks := range []int{math.MinInt, math.MinInt + 1, math.MinInt + 2, -1 << 32, 11} {
		is(t, "an array of too few blocks", Check(sample(), blocks, 4), api.ErrForm)
	}
	for _, pages := range []int{math.MinInt, 1<<32 + 4, math.MaxInt} {
		is(t, "pages that may not be", Check(sample(), 12, pages), api.ErrForm)
	}
	is(t, "the greatest number of blocks", Check(sample(), math.MaxInt, 4), api.OK)
}

// span are the numbers from one up to, and without, another one.
func span(from, end int) []int {
	var l []int
	for v := from; v < end; v++ {
		l = append(l, v)
	}
	return l
}

// P10.1: Owner, Free

func TestOwner(t *testing.T) {
	want := []int{-1, -1, 0, 2, 2, -1, 3, 3, 2, -1, 2, 0, -1, -1}
	for block, who := range want {
		if got := Owner(sample(), block); got != who {
			t.Errorf("the owner of block %d is %d, want %d", block, got, who)
		}
	}
	for _, block := range []int{-1, math.MinInt, math.MaxInt} {
		if got := Owner(sample(), block); got != -1 {
			t.Errorf("the owner of block %d is %d", block, got)
		}
	}
	if got := Owner(api.Ledger{}, 2); got != -1 {
		t.Errorf("an empty ledger's owner is %d", got)
	}
}

// TestOwnerOfWhatMayNotBe gives blocks to tenants that aren't there, to several, and such as are none.
func TestOwnerOfWhatMayNotBe(t *testing.T) {
	l := sample()
	l.Tenants[1].Blocks = []int{9, 4, 1, -7}
	l.Tenants[3].Blocks = []int{0, 11, 9, 4}
	for block, who := range map[int]int{9: 1, 4: 1, 1: 1, -7: 1, 0: 3, 11: 0, 6: -1, 3: 2} {
		if got := Owner(l, block); got != who {
			t.Errorf("the owner of block %d is %d, want %d", block, got, who)
		}
	}
}

func TestFree(t *testing.T) {
	none := func(int) bool { return false }
	row(t, "free", Free(sample(), 12, nil), []int{5, 9})
	row(t, "free, of which none is bad", Free(sample(), 12, none), []int{5, 9})
	row(t, "free, but bad ones", Free(sample(), 12, func(block int) bool { return block != 9 }), []int{9})
	row(t, "free, the first one bad", Free(sample(), 12, func(block int) bool { return block == 5 || block == 6 }), []int{9})
	row(t, "free of all that are bad", Free(sample(), 12, func(int) bool { return true }), nil)
	row(t, "free up to the end", Free(sample(), 14, nil), []int{5, 9, 12, 13})
	row(t, "free, of more than an array's", Free(sample(), 100, nil), slices.Concat([]int{5, 9}, span(12, 100)))
	row(t, "free of an empty ledger", Free(api.Ledger{}, 64, nil), span(2, 64))
	row(t, "the only free one", Free(api.Ledger{}, 3, nil), []int{2})
	row(t, "the free one ahead of the end", Free(sample(), 6, nil), []int{5})
	row(t, "none ahead of the end", Free(sample(), 5, nil), nil)
	for _, blocks := range []int{2, 1, 0, -1, math.MinInt} {
		row(t, "free of no blocks", Free(api.Ledger{}, blocks, nil), nil)
	}
}

func TestFreeOfWhatMayNotBe(t *testing.T) {
	l := sample()
	l.Tenants[1].Blocks = []int{9, 9, -1, 1, 99} // of a tenant that isn't there
	row(t, "free", Free(l, 14, nil), []int{5, 12, 13})
	row(t, "free", Free(spoilt(func(l *api.Ledger) { l.Tenants[3].Blocks = []int{5, 5, 11} }), 12, nil), []int{6, 7, 9})
}

func TestFreeAsksOfBlocksAlone(t *testing.T) {
	Free(sample(), 12, func(block int) bool {
		if block < api.AdminAt || block >= 12 {
			t.Errorf("asked whether block %d is bad", block)
		}
		return false
	})
	row(t, "free, where one can't be asked about", Free(sample(), 14, func(block int) bool {
		if block == 9 {
			panic("no such block")
		}
		return block == 12
	}), []int{5, 13})
}

// P10.1: Create

func TestCreate(t *testing.T) {
	l, err := Create(api.Ledger{}, 0, 5, 1, []int{2, 3, 4, 5})
	first := api.Ledger{Gen: 1, Epochs: 1}
	first.Tenants[0] = api.Tenant{There: true, Epoch: 1, Size: 5, Spare: 1, Blocks: []int{2, 3, 4, 5}}
	answers(t, "the first tenant", l, err, first, api.OK)

	l, err = Create(sample(), 1, 2, 0, []int{9, 5})
	answers(t, "the fourth tenant", l, err, spoilt(func(l *api.Ledger) {
		l.Gen, l.Epochs = 10, 8
		l.Tenants[1] = api.Tenant{There: true, Epoch: 8, Size: 2, Spare: 0, Blocks: []int{9, 5}}
	}), api.OK)
}

// TestCreateTakesBlocksAsGot gives rows that no tenant may have: none is asked about.
func TestCreateTakesBlocksAsGot(t *testing.T) {
	for _, got := range [][]int{nil, {}, {2}, {11, 2}, {5, 5}, {-1, 0, 1, 99, math.MaxInt}} {
		for _, room := range [][2]int{{1, 0}, {64, 8}, {64, 0}, {1, 8}} {
			l, err := Create(sample(), 1, room[0], room[1], got)
			answers(t, "blocks as got", l, err, spoilt(func(l *api.Ledger) {
				l.Gen, l.Epochs = 10, 8
				l.Tenants[1] = api.Tenant{There: true, Epoch: 8, Size: room[0], Spare: room[1], Blocks: got}
			}), api.OK)
		}
	}
}

func TestCreateForgetsWhatNobodyHad(t *testing.T) {
	l, err := Create(spoilt(func(l *api.Ledger) {
		l.Tenants[1] = api.Tenant{Epoch: 3, Size: 9, Spare: 2, Blocks: []int{9}}
	}), 1, 2, 0, []int{5})
	answers(t, "a tenant in the stead of remnants", l, err, spoilt(func(l *api.Ledger) {
		l.Gen, l.Epochs = 10, 8
		l.Tenants[1] = api.Tenant{There: true, Epoch: 8, Size: 2, Blocks: []int{5}}
	}), api.OK)
}

func TestCreateRefuses(t *testing.T) {
	full := spoilt(func(l *api.Ledger) { l.Gen, l.Epochs = top, top })
	for _, who := range beyond {
		refuses(t, "no such tenant", api.ErrRange, func() (api.Ledger, api.Errno) { return Create(sample(), who, 1, 0, nil) })
		refuses(t, "no such tenant, full", api.ErrRange, func() (api.Ledger, api.Errno) { return Create(full, who, 1, 0, nil) })
	}
	for _, who := range []int{0, 2, 3} {
		refuses(t, "there already", api.ErrTwice, func() (api.Ledger, api.Errno) { return Create(sample(), who, 1, 0, []int{5, 9}) })
		refuses(t, "there already, a wrong room", api.ErrTwice, func() (api.Ledger, api.Errno) { return Create(full, who, 0, -1, nil) })
	}
	for _, room := range [][2]int{{0, 0}, {-1, 0}, {65, 0}, {math.MinInt, 0}, {math.MaxInt, 0}, {1, -1}, {1, 9}, {1, math.MaxInt}, {0, 9}} {
		refuses(t, "a wrong room", api.ErrRange, func() (api.Ledger, api.Errno) { return Create(sample(), 1, room[0], room[1], []int{5, 9}) })
		refuses(t, "a wrong room, full", api.ErrRange, func() (api.Ledger, api.Errno) { return Create(full, 1, room[0], room[1], nil) })
	}
	refuses(t, "no Epoch more", api.ErrMany, func() (api.Ledger, api.Errno) {
		return Create(api.Ledger{Epochs: top}, 0, 1, 0, []int{2, 3})
	})
	refuses(t, "no Gen more", api.ErrMany, func() (api.Ledger, api.Errno) {
		return Create(api.Ledger{Gen: top}, 0, 1, 0, []int{2, 3})
	})
}

func TestTheLastCreate(t *testing.T) {
	l, err := Create(api.Ledger{Gen: top - 1, Epochs: top - 1}, 3, 1, 0, []int{2, 3})
	want := api.Ledger{Gen: top, Epochs: top}
	want.Tenants[3] = api.Tenant{There: true, Epoch: top, Size: 1, Blocks: []int{2, 3}}
	answers(t, "the last of all", l, err, want, api.OK)
}

// P10.1: Destroy

func TestDestroy(t *testing.T) {
	for _, who := range []int{0, 2, 3} {
		l, err := Destroy(sample(), who)
		answers(t, "one less", l, err, spoilt(func(l *api.Ledger) {
			l.Gen = 10
			l.Tenants[who] = api.Tenant{}
		}), api.OK)
	}
	l, err := Destroy(spoilt(func(l *api.Ledger) { l.Gen, l.Epochs = top-1, top }), 2)
	answers(t, "the last of all", l, err, spoilt(func(l *api.Ledger) {
		l.Gen, l.Epochs = top, top
		l.Tenants[2] = api.Tenant{}
	}), api.OK)
}

func TestDestroyRefuses(t *testing.T) {
	full := spoilt(func(l *api.Ledger) { l.Gen = top })
	for _, who := range beyond {
		refuses(t, "no such tenant", api.ErrRange, func() (api.Ledger, api.Errno) { return Destroy(sample(), who) })
		refuses(t, "no such tenant, full", api.ErrRange, func() (api.Ledger, api.Errno) { return Destroy(full, who) })
	}
	refuses(t, "isn't there", api.ErrNone, func() (api.Ledger, api.Errno) { return Destroy(sample(), 1) })
	refuses(t, "isn't there, full", api.ErrNone, func() (api.Ledger, api.Errno) { return Destroy(full, 1) })
	refuses(t, "remnants", api.ErrNone, func() (api.Ledger, api.Errno) {
		return Destroy(spoilt(func(l *api.Ledger) { l.Tenants[1] = api.Tenant{Epoch: 3, Size: 1, Blocks: []int{5, 9}} }), 1)
	})
	refuses(t, "no Gen more", api.ErrMany, func() (api.Ledger, api.Errno) { return Destroy(full, 0) })
}

// P10.1: Resize

func TestResize(t *testing.T) {
	for _, size := range []int{1, 3, 4, 5, 6, 64} {
		for _, got := range [][]int{nil, {}, {9}, {9, 5}, {3, 3, -1, 99}} {
			l, err := Resize(sample(), 2, size, got)
			answers(t, "another size", l, err, spoilt(func(l *api.Ledger) {
				l.Gen = 10
				l.Tenants[2].Size = size
				l.Tenants[2].Blocks = slices.Concat([]int{3, 10, 4, 8}, got)
			}), api.OK)
		}
	}
	l, err := Resize(spoilt(func(l *api.Ledger) { l.Gen, l.Epochs = top-1, top }), 3, 2, []int{5})
	answers(t, "the last of all", l, err, spoilt(func(l *api.Ledger) {
		l.Gen, l.Epochs = top, top
		l.Tenants[3].Size, l.Tenants[3].Blocks = 2, []int{6, 7, 5}
	}), api.OK)
}

// TestResizeAsksOfTheSizeAlone resizes a tenant whose spare may not be.
func TestResizeAsksOfTheSizeAlone(t *testing.T) {
	for _, spare := range []int{-1, 9, math.MaxInt} {
		l, err := Resize(spoilt(func(l *api.Ledger) { l.Tenants[3].Spare = spare }), 3, 2, nil)
		answers(t, "a wrong spare", l, err, spoilt(func(l *api.Ledger) {
			l.Gen = 10
			l.Tenants[3].Size, l.Tenants[3].Spare = 2, spare
		}), api.OK)
	}
}

func TestResizeRefuses(t *testing.T) {
	full := spoilt(func(l *api.Ledger) { l.Gen = top })
	for _, who := range beyond {
		refuses(t, "no such tenant", api.ErrRange, func() (api.Ledger, api.Errno) { return Resize(sample(), who, 1, nil) })
		refuses(t, "no such tenant, full", api.ErrRange, func() (api.Ledger, api.Errno) { return Resize(full, who, 0, nil) })
	}
	for _, size := range []int{math.MinInt, -1, 0, 65, math.MaxInt} {
		refuses(t, "a wrong size", api.ErrRange, func() (api.Ledger, api.Errno) { return Resize(sample(), 0, size, []int{5}) })
		refuses(t, "a wrong size, full", api.ErrRange, func() (api.Ledger, api.Errno) { return Resize(full, 0, size, nil) })
		refuses(t, "isn't there, a wrong size", api.ErrNone, func() (api.Ledger, api.Errno) { return Resize(full, 1, size, nil) })
	}
	refuses(t, "isn't there", api.ErrNone, func() (api.Ledger, api.Errno) { return Resize(sample(), 1, 1, []int{5, 9}) })
	refuses(t, "no Gen more", api.ErrMany, func() (api.Ledger, api.Errno) { return Resize(full, 0, 1, nil) })
}

// P10.1: Swap

func TestSwap(t *testing.T) {
	for _, c := range []struct{ a, i, b, j int }{{0, 0, 2, 3}, {2, 0, 0, 1}, {3, 1, 2, 2}, {0, 1, 3, 0}} {
		l, err := Swap(sample(), c.a, c.i, c.b, c.j)
		want := spoilt(func(l *api.Ledger) {
			x := l.Tenants[c.a].Blocks[c.i]
			l.Gen = 10
			l.Tenants[c.a].Blocks[c.i] = l.Tenants[c.b].Blocks[c.j]
			l.Tenants[c.b].Blocks[c.j] = x
		})
		answers(t, "changed places", l, err, want, api.OK)
	}
	l, err := Swap(spoilt(func(l *api.Ledger) { l.Gen, l.Epochs = top-1, top }), 0, 0, 2, 3)
	answers(t, "the last of all", l, err, spoilt(func(l *api.Ledger) {
		l.Gen, l.Epochs = top, top
		l.Tenants[0].Blocks[0], l.Tenants[2].Blocks[3] = 8, 11
	}), api.OK)
}

// TestSwapOfOneRow swaps blocks of two tenants that were given the same row.
func TestSwapOfOneRow(t *testing.T) {
	shared := []int{6, 7}
	l, err := Swap(spoilt(func(l *api.Ledger) { l.Tenants[0].Blocks, l.Tenants[3].Blocks = shared, shared }), 0, 0, 3, 1)
	answers(t, "one row of both", l, err, spoilt(func(l *api.Ledger) {
		l.Gen = 10
		l.Tenants[0].Blocks, l.Tenants[3].Blocks = []int{7, 7}, []int{6, 6}
	}), api.OK)
	row(t, "the row of both", shared, []int{6, 7})
}

func TestSwapRefuses(t *testing.T) {
	full := spoilt(func(l *api.Ledger) { l.Gen = top })
	swap := func(what string, want api.Errno, a, i, b, j int) {
		t.Helper()
		refuses(t, what, want, func() (api.Ledger, api.Errno) { return Swap(sample(), a, i, b, j) })
		refuses(t, what+", full", want, func() (api.Ledger, api.Errno) { return Swap(full, a, i, b, j) })
	}
	for _, who := range beyond {
		swap("the first is no such tenant", api.ErrRange, who, 0, 2, 0)
		swap("the second is no such tenant", api.ErrRange, 0, 0, who, 0)
		swap("both are no such tenants", api.ErrRange, who, 0, who, 0)
		swap("the first is no such tenant, the second isn't there", api.ErrRange, who, 0, 1, 0)
		swap("the first isn't there, the second is no such tenant", api.ErrNone, 1, 0, who, 0)
	}
	swap("the first isn't there", api.ErrNone, 1, 0, 0, 0)
	swap("the second isn't there", api.ErrNone, 0, 9, 1, 9)
	swap("both aren't there", api.ErrNone, 1, 0, 1, 0)
	swap("one and the same", api.ErrArg, 2, 0, 2, 1)
	swap("one and the same, no such places", api.ErrArg, 2, -1, 2, 4)
	for _, i := range []int{math.MinInt, -1, 2, 3, math.MaxInt} {
		swap("no such place of the first", api.ErrRange, 0, i, 2, 0)
		swap("no such place of the second", api.ErrRange, 2, 0, 0, i)
	}
	swap("places that only the other one has", api.ErrRange, 0, 3, 2, 1)
	refuses(t, "no Gen more", api.ErrMany, func() (api.Ledger, api.Errno) { return Swap(full, 0, 0, 2, 0) })
	refuses(t, "no blocks", api.ErrRange, func() (api.Ledger, api.Errno) {
		return Swap(spoilt(func(l *api.Ledger) { l.Tenants[3].Blocks = nil }), 0, 0, 3, 0)
	})
}

// P10.1: Twin, Same

func TestTwin(t *testing.T) {
	strange := spoilt(func(l *api.Ledger) {
		l.Gen, l.Epochs = -3, math.MaxInt
		l.Tenants[1] = api.Tenant{Epoch: -5, Size: 99, Spare: -1, Blocks: []int{5, 5, -1}}
	})
	for _, l := range []api.Ledger{{}, sample(), strange, {Gen: top, Epochs: top}} {
		answers(t, "a twin", Twin(l), api.OK, l, api.OK)
	}
}

func TestSame(t *testing.T) {
	same := func(what string, a, b api.Ledger, want bool) {
		t.Helper()
		if Same(a, b) != want || Same(b, a) != want {
			t.Errorf("%s: %t and %t, want %t", what, Same(a, b), Same(b, a), want)
		}
	}
	same("the empty ones", api.Ledger{}, api.Ledger{}, true)
	same("one", sample(), sample(), true)
	same("nil and empty", sample(), spoilt(func(l *api.Ledger) { l.Tenants[1].Blocks = []int{} }), true)
	same("one and none", sample(), api.Ledger{}, false)
	same("another Gen", sample(), spoilt(func(l *api.Ledger) { l.Gen++ }), false)
	same("other Epochs", sample(), spoilt(func(l *api.Ledger) { l.Epochs-- }), false)
	for who := range api.Tenants {
		for what, do := range map[string]func(e *api.Tenant){
			"There":         func(e *api.Tenant) { e.There = !e.There },
			"Epoch":         func(e *api.Tenant) { e.Epoch++ },
			"Size":          func(e *api.Tenant) { e.Size-- },
			"Spare":         func(e *api.Tenant) { e.Spare++ },
			"a block more":  func(e *api.Tenant) { e.Blocks = append(e.Blocks, 0) },
			"another block": func(e *api.Tenant) { e.Blocks = append([]int{9}, e.Blocks[min(1, len(e.Blocks)):]...) },
		} {
			same(what, sample(), spoilt(func(l *api.Ledger) { do(&l.Tenants[who]) }), false)
		}
	}
	same("another order", sample(), spoilt(func(l *api.Ledger) { slices.Reverse(l.Tenants[2].Blocks) }), false)
	same("tenants changed", sample(), spoilt(func(l *api.Ledger) { l.Tenants[0], l.Tenants[3] = l.Tenants[3], l.Tenants[0] }), false)
}

// TestNothingIsShared spoils what was answered, and what was handed in, with room behind each row: neither is to be seen in the other.
func TestNothingIsShared(t *testing.T) {
	roomy := func(l []int) []int { return append(make([]int, 0, 32), l...) }
	for what, call := range map[string]func(l api.Ledger, got []int) (api.Ledger, api.Errno){
		"Create":  func(l api.Ledger, got []int) (api.Ledger, api.Errno) { return Create(l, 1, 1, 0, got) },
		"Destroy": func(l api.Ledger, got []int) (api.Ledger, api.Errno) { return Destroy(l, 0) },
		"Resize":  func(l api.Ledger, got []int) (api.Ledger, api.Errno) { return Resize(l, 2, 1, got) },
		"Swap":    func(l api.Ledger, got []int) (api.Ledger, api.Errno) { return Swap(l, 0, 0, 2, 0) },
		"Twin":    func(l api.Ledger, got []int) (api.Ledger, api.Errno) { return Twin(l), api.OK },
		"Resize, of a tenant without blocks": func(l api.Ledger, got []int) (api.Ledger, api.Errno) {
			l.Tenants[2].Blocks = nil
			return Resize(l, 2, 1, got)
		},
	} {
		given := sample()
		for i := range given.Tenants {
			given.Tenants[i].Blocks = roomy(given.Tenants[i].Blocks)
		}
		got := roomy([]int{5, 9})
		one, err := call(given, got)
		is(t, what, err, api.OK)
		other, _ := call(given, got)
		for i := range one.Tenants {
			l := one.Tenants[i].Blocks
			clear(l[:cap(l)])
		}
		answers(t, what+": the given ledger", given, api.OK, sample(), api.OK)
		row(t, what+": the given blocks", got, []int{5, 9})
		again, _ := call(sample(), []int{5, 9})
		answers(t, what+": another answer", other, api.OK, again, api.OK)
		for i := range given.Tenants {
			l := given.Tenants[i].Blocks
			clear(l[:cap(l)])
		}
		clear(got[:cap(got)])
		answers(t, what+": an answer, behind what was given", other, api.OK, again, api.OK)
		for i := range other.Tenants {
			if l := other.Tenants[i].Blocks; len(l) > 0 {
				clear(l)
				again.Tenants[i].Blocks = make([]int, len(l))
				answers(t, what+": the other rows of an answer", other, api.OK, again, api.OK)
			}
		}
	}
}

// TestCallsChangeNothing asks all calls, refused ones too, of a ledger whose rows have room behind.
func TestCallsChangeNothing(t *testing.T) {
	given := sample()
	for i := range given.Tenants {
		given.Tenants[i].Blocks = append(make([]int, 0, 32), given.Tenants[i].Blocks...)
	}
	got := append(make([]int, 0, 32), 9, 5)
	for a := -1; a <= api.Tenants; a++ {
		for b := -1; b <= api.Tenants; b++ {
			Create(given, a, b, 0, got)
			Destroy(given, a)
			Resize(given, a, b, got)
			Swap(given, a, b, b, a)
			Check(given, 12+a, 4+b)
			Owner(given, 3+a)
			Free(given, 12+a, func(int) bool { return b == 0 })
			Same(given, Twin(given))
		}
	}
	answers(t, "the given ledger", given, api.OK, sample(), api.OK)
	row(t, "the given blocks", got[:cap(got)], append([]int{9, 5}, make([]int, 30)...))
	for i, e := range given.Tenants {
		row(t, "room behind a row", e.Blocks[len(e.Blocks):cap(e.Blocks)], make([]int, 32-len(sample().Tenants[i].Blocks)))
	}
}

// P10.2

// total counts a room's blocks, as the document tells it.
func total(size, spare, pages int) int { return size/pages + 2 + spare }

// walk goes over ledgers that may be, by calls with blocks that are free, as many as are needed.
type walk struct {
	t             *testing.T
	blocks, pages int
	l             api.Ledger
	x             uint32
	done          [4]int // how often each call was OK
}

// next is a number below n.
func (w *walk) next(n int) int {
	w.x = w.x*1664525 + 1013904223
	return int(w.x>>8) % n
}

// got are so many free blocks, whichever; false, if there are fewer.
func (w *walk) got(n int) ([]int, bool) {
	free := Free(w.l, w.blocks, nil)
	if n > len(free) {
		return nil, false
	}
	for i := range free {
		j := w.next(i + 1)
		free[i], free[j] = free[j], free[i]
	}
	return free[:n], true
}

// step is one call, of a tenant.
func (w *walk) step(who, call int) {
	size, spare, other := 1+w.next(1+w.next(20)), w.next(1+w.next(3)), w.next(api.Tenants)
	e := w.l.Tenants[who]
	var m api.Ledger
	var err api.Errno
	switch call {
	case 0:
		got, enough := w.got(total(size, spare, w.pages) + w.next(2))
		if !enough || e.There {
			return
		}
		m, err = Create(w.l, who, size, spare, got)
	case 1:
		if w.next(3) > 0 {
			return
		}
		m, err = Destroy(w.l, who)
	case 2:
		got, enough := w.got(max(0, total(size, e.Spare, w.pages)-len(e.Blocks)))
		if !enough {
			return
		}
		m, err = Resize(w.l, who, size, got)
	case 3:
		m, err = Swap(w.l, who, w.next(4), other, w.next(4))
	}
	if err != api.OK {
		return
	}
	w.done[call]++
	if m.Gen != w.l.Gen+1 || Same(m, w.l) {
		w.t.Fatalf("call %d made of %+v %+v", call, w.l, m)
	}
	w.l = m
}

// held asks, without the package's calls, what a ledger that may be is; and that each block is either somebody's or free.
func (w *walk) held() {
	w.t.Helper()
	owners, since := map[int]int{}, map[int]int{}
	for who, e := range w.l.Tenants {
		if !e.There {
			continue
		}
		for _, block := range e.Blocks {
			if _, is := owners[block]; is || block < 2 || block >= w.blocks || Owner(w.l, block) != who {
				w.t.Fatalf("block %d in %+v", block, w.l)
			}
			owners[block] = who
		}
		if _, is := since[e.Epoch]; is || e.Epoch < 1 || e.Epoch > w.l.Epochs || len(e.Blocks) < total(e.Size, e.Spare, w.pages) {
			w.t.Fatalf("tenant %d in %+v", who, w.l)
		}
		since[e.Epoch] = who
	}
	free := Free(w.l, w.blocks, nil)
	if len(free)+len(owners) != w.blocks-2 || !slices.IsSorted(free) {
		w.t.Fatalf("free of %+v: %v", w.l, free)
	}
	for _, block := range free {
		if _, is := owners[block]; is || Owner(w.l, block) != -1 {
			w.t.Fatalf("block %d is free in %+v", block, w.l)
		}
	}
}

func TestWhatMayBeIsMadeOfWhatMayBe(t *testing.T) {
	// of the last array there is never more than one tenant: nothing is swapped
	for _, g := range [][2]int{{12, 4}, {9, 2}, {64, 2}, {30, 16}, {64, 16}, {5, 3}} {
		w := &walk{t: t, blocks: g[0], pages: g[1], x: 1}
		for range 6000 {
			w.step(w.next(api.Tenants), w.next(4))
			is(t, "what was made", Check(w.l, w.blocks, w.pages), api.OK)
			w.held()
		}
		if slices.Min(w.done[:3]) < 50 || w.done[3] < 50 && g[0] > 5 {
			t.Errorf("%d blocks of %d pages: too few calls went on: %v", w.blocks, w.pages, w.done)
		}
	}
}

// TestBlocksThatAreNotFree makes ledgers that may not be: what is made may be because of the blocks alone.
func TestBlocksThatAreNotFree(t *testing.T) {
	for _, got := range [][]int{{2, 5}, {5, 5}, {5, 12}, {1, 5}, {5}, nil} {
		l, err := Create(sample(), 1, 1, 0, got)
		is(t, "Create", err, api.OK)
		is(t, "Check", Check(l, 12, 4), api.ErrForm)
	}
	for _, got := range [][]int{{2}, {3}, {12}, {0}, nil} {
		l, err := Resize(sample(), 2, 8, got)
		is(t, "Resize", err, api.OK)
		is(t, "Check", Check(l, 12, 4), api.ErrForm)
	}
	l, err := Resize(sample(), 2, 8, []int{9})
	is(t, "Resize", err, api.OK)
	is(t, "Check", Check(l, 12, 4), api.OK)
}
