package scan

import (
	"hash/crc32"
	"math"
	"slices"
	"strings"
	"testing"

	"almshouse/api"
	"almshouse/draws"
	"almshouse/nand"
	"almshouse/power"
	"almshouse/tag"
)

// small has eight blocks of three pages: the first two are the admin's.
var small = api.Geometry{Channels: 2, Dies: 1, Blocks: 4, Pages: 3}

const (
	blocks = 8
	pages  = 3
)

// beyond are numbers of no block and of no page, whatever the geometry.
var beyond = []int{math.MinInt, -1 << 32, -64, -2, -1, 64, 65, 1 << 32, 1<<32 + 2, math.MaxInt}

// beneath has what an array is made of.
type beneath struct {
	array *nand.Nand
	power *power.Power
	draws *draws.Draws
}

// made is a blank array of the small geometry; of tenant 1 the operations told fail.
func made(t *testing.T, marked []int, faults ...int) beneath {
	t.Helper()
	p := power.New(-1)
	d, e := draws.New([api.Tenants][]int{1: faults})
	if e != api.OK {
		t.Fatalf("draws of %v: %d", faults, e)
	}
	n, e := nand.New(small, p, d, marked)
	if e != api.OK {
		t.Fatalf("New with %v marked: %d", marked, e)
	}
	return beneath{n, p, d}
}

// bytesOf are a tag's.
func bytesOf(t *testing.T, x api.Tag) []byte {
	t.Helper()
	b, e := tag.Bytes(x)
	if e != api.OK {
		t.Fatalf("Bytes(%+v): %d", x, e)
	}
	return b
}

// is holds an answer of the array against the one that is to be.
func is(t *testing.T, got, want api.Errno) {
	t.Helper()
	if got != want {
		t.Fatalf("the array answers %d, want %d", got, want)
	}
}

// write writes the block's next page.
func write(t *testing.T, u beneath, block int, beside []byte, data string) {
	t.Helper()
	is(t, u.array.Program(api.Admin, block, u.array.Next(block), beside, data), api.OK)
}

// pagesAre holds an answer of Pages against what is wanted.
func pagesAre(t *testing.T, n *nand.Nand, row []int, want []api.Found, err api.Errno) {
	t.Helper()
	kept := slices.Clone(row)
	if got, e := Pages(n, row); !slices.Equal(got, want) || e != err {
		t.Fatalf("Pages of %v: %+v, %d, want %+v, %d", row, got, e, want, err)
	}
	if !slices.Equal(row, kept) {
		t.Fatalf("the row %v became %v", kept, row)
	}
}

// oneIs holds an answer of One against what is wanted.
func oneIs(t *testing.T, n *nand.Nand, row []int, block, page int, want api.Found, err api.Errno) {
	t.Helper()
	if got, e := One(n, row, block, page); got != want || e != err {
		t.Fatalf("One of %v, %d, %d: %+v, %d, want %+v, %d", row, block, page, got, e, want, err)
	}
}

// refuses asks One for what it is to refuse.
func refuses(t *testing.T, n *nand.Nand, row []int, block, page int, err api.Errno) {
	t.Helper()
	oneIs(t, n, row, block, page, api.Found{}, err)
}

// aTag is one of many tags that may be.
func aTag(i int) api.Tag {
	return api.Tag{Tenant: i % 4, Epoch: 1 + i*7, Place: i % 64, Seq: i * 1000, Kind: 1 + i%2, Copy: i%3 == 0}
}

// sealed is a frame of a kind and a body.
func sealed(kind byte, body []byte) []byte {
	b := append([]byte{kind, byte(len(body)), byte(len(body) >> 8)}, body...)
	s := crc32.Checksum(b, crc32.MakeTable(crc32.Castagnoli))
	return append(b, byte(s), byte(s>>8), byte(s>>16), byte(s>>24))
}

// noTags are many bytes that may stand beside a page, and are no tag.
func noTags(t *testing.T) [][]byte {
	t.Helper()
	b := bytesOf(t, aTag(5))
	l := [][]byte{nil, {}, {84}, make([]byte, 19), make([]byte, 32), []byte("beside"),
		append(slices.Clone(b), 0), append([]byte{0}, b...), append(slices.Clone(b), 0, 0, 0, 0, 0, 0, 0, 0, 0, 0, 0, 0, 0),
		sealed(83, b[3:15]), sealed(84, nil), sealed(84, b[3:14]), sealed(84, append(slices.Clone(b[3:15]), 0)),
		sealed(84, []byte{4, 0, 0, 0, 0, 0, 0, 0, 0, 0, 1, 0}), // no such tenant
		sealed(84, []byte{0, 0, 0, 0, 128, 0, 0, 0, 0, 0, 1, 0}),
		sealed(84, []byte{0, 0, 0, 0, 0, 64, 0, 0, 0, 0, 1, 0}),
		sealed(84, []byte{0, 0, 0, 0, 0, 0, 0, 0, 0, 128, 1, 0}),
		sealed(84, []byte{0, 0, 0, 0, 0, 0, 0, 0, 0, 0, 0, 0}),
		sealed(84, []byte{0, 0, 0, 0, 0, 0, 0, 0, 0, 0, 3, 0}),
		sealed(84, []byte{0, 0, 0, 0, 0, 0, 0, 0, 0, 0, 1, 2}),
	}
	for end := range b {
		l = append(l, b[:end])
	}
	for i := range b {
		x := slices.Clone(b)
		x[i] ^= 16
		l = append(l, x)
	}
	return l
}

// P16.1

func TestBlankArray(t *testing.T) {
	u := made(t, []int{3})
	for _, row := range [][]int{nil, {}, {2}, {0, 1, 2, 3, 4, 5, 6, 7}, {7, 7}} {
		pagesAre(t, u.array, row, nil, api.OK)
		for block := range row {
			for page := range pages {
				refuses(t, u.array, row, block, page, api.ErrNone)
			}
		}
	}
}

// TestInTheRowsOrder tells blocks by where they stand in the row, not by their numbers in the array.
func TestInTheRowsOrder(t *testing.T) {
	u := made(t, nil)
	tags := map[[2]int]api.Tag{}
	for i, at := range [][2]int{{5, 0}, {2, 0}, {5, 1}, {7, 0}, {2, 1}, {2, 2}} {
		x := aTag(i)
		tags[at] = x
		write(t, u, at[0], bytesOf(t, x), "d"+string(rune('0'+at[0]))+string(rune('0'+at[1])))
	}
	f := func(i, block, page int) api.Found {
		x, ok := tags[[2]int{block, page}]
		if !ok {
			t.Fatalf("page %d of block %d is blank", page, block)
		}
		return api.Found{Block: i, Page: page, Tag: x, Data: "d" + string(rune('0'+block)) + string(rune('0'+page))}
	}
	for _, c := range []struct {
		row  []int
		want []api.Found
	}{
		{[]int{5}, []api.Found{f(0, 5, 0), f(0, 5, 1)}},
		{[]int{3, 5}, []api.Found{f(1, 5, 0), f(1, 5, 1)}},
		{[]int{2, 5, 7}, []api.Found{f(0, 2, 0), f(0, 2, 1), f(0, 2, 2), f(1, 5, 0), f(1, 5, 1), f(2, 7, 0)}},
		{[]int{7, 4, 5, 2}, []api.Found{f(0, 7, 0), f(2, 5, 0), f(2, 5, 1), f(3, 2, 0), f(3, 2, 1), f(3, 2, 2)}},
		{[]int{3, 4, 6}, nil},
		{[]int{7, 5, 7}, []api.Found{f(0, 7, 0), f(1, 5, 0), f(1, 5, 1), f(2, 7, 0)}},
	} {
		pagesAre(t, u.array, c.row, c.want, api.OK)
		for _, want := range c.want {
			oneIs(t, u.array, c.row, want.Block, want.Page, want, api.OK)
		}
	}
	refuses(t, u.array, []int{3, 5}, 1, 2, api.ErrNone)
	refuses(t, u.array, []int{3, 5}, 0, 0, api.ErrNone)
}

func TestWhatIsFound(t *testing.T) {
	for _, data := range []string{"", "x", "\x00\xff", strings.Repeat("z", api.MaxData)} {
		for i := range 60 {
			u := made(t, nil)
			x := aTag(i)
			write(t, u, 6, bytesOf(t, x), data)
			want := api.Found{Block: 1, Page: 0, Tag: x, Data: data}
			pagesAre(t, u.array, []int{2, 6}, []api.Found{want}, api.OK)
			oneIs(t, u.array, []int{2, 6}, 1, 0, want, api.OK)
		}
	}
	top := api.Tag{Tenant: 3, Epoch: math.MaxInt32, Place: 63, Seq: math.MaxInt32, Kind: api.KindTrim, Copy: true}
	u := made(t, nil)
	write(t, u, 6, bytesOf(t, top), "t")
	pagesAre(t, u.array, []int{6}, []api.Found{{Tag: top, Data: "t"}}, api.OK)
}

func TestNoTagIsTorn(t *testing.T) {
	for _, beside := range noTags(t) {
		u := made(t, nil)
		write(t, u, 4, beside, "data")
		write(t, u, 4, bytesOf(t, aTag(1)), "more")
		want := []api.Found{{Block: 1, Page: 0, Torn: true}, {Block: 1, Page: 1, Tag: aTag(1), Data: "more"}}
		pagesAre(t, u.array, []int{2, 4}, want, api.OK)
		oneIs(t, u.array, []int{2, 4}, 1, 0, want[0], api.OK)
	}
}

// TestTornPages tears pages in each way in which the array does it.
func TestTornPages(t *testing.T) {
	x := bytesOf(t, aTag(1))
	for _, c := range []struct {
		name string
		torn int // pages, from the second or, of an erasing, from the first
		tear func(u beneath)
	}{
		{"a programming that fails", 1, func(u beneath) {
			is(t, u.array.Program(1, 3, 1, x, "b"), api.ErrFail)
		}},
		{"a programming without power", 1, func(u beneath) {
			u.power.Back(0)
			is(t, u.array.Program(0, 3, 1, x, "b"), api.ErrCut)
			u.power.Back(-1)
		}},
		{"an erasing that fails", pages, func(u beneath) {
			is(t, u.array.Erase(1, 3), api.ErrFail)
		}},
		{"an erasing without power", pages, func(u beneath) {
			u.power.Back(0)
			is(t, u.array.Erase(0, 3), api.ErrCut)
			u.power.Back(-1)
		}},
	} {
		u := made(t, nil, 1)
		write(t, u, 3, x, "a")
		c.tear(u)
		want := []api.Found{{Block: 1, Page: 0, Tag: aTag(1), Data: "a"}, {Block: 1, Page: 1, Torn: true}}
		if c.torn == pages {
			want = []api.Found{{Block: 1, Page: 0, Torn: true}, {Block: 1, Page: 1, Torn: true}, {Block: 1, Page: 2, Torn: true}}
		} else {
			write(t, u, 3, bytesOf(t, aTag(9)), "c") // what stands behind a torn page is found, too
			want = append(want, api.Found{Block: 1, Page: 2, Tag: aTag(9), Data: "c"})
		}
		t.Log(c.name)
		pagesAre(t, u.array, []int{2, 3}, want, api.OK)
		for _, f := range want {
			oneIs(t, u.array, []int{2, 3}, 1, f.Page, f, api.OK)
		}
		is(t, u.array.Erase(0, 3), api.OK)
		pagesAre(t, u.array, []int{2, 3}, nil, api.OK)
	}
}

// TestMarkedBlocks marks blocks that have pages: Pages leaves them out, One doesn't.
func TestMarkedBlocks(t *testing.T) {
	u := made(t, []int{6})
	for i := 2; i <= 4; i++ {
		write(t, u, i, bytesOf(t, aTag(i)), "d")
	}
	is(t, u.array.Mark(3), api.OK)
	row := []int{3, 4, 6, 2}
	want := []api.Found{{Block: 1, Tag: aTag(4), Data: "d"}, {Block: 3, Tag: aTag(2), Data: "d"}}
	pagesAre(t, u.array, row, want, api.OK)
	pagesAre(t, u.array, []int{3}, nil, api.OK)
	oneIs(t, u.array, row, 0, 0, api.Found{Tag: aTag(3), Data: "d"}, api.OK)
	refuses(t, u.array, row, 0, 1, api.ErrNone)
	refuses(t, u.array, row, 2, 0, api.ErrNone)
}

// TestAdminsBlocks are blocks of the array as all others: a ledger's page has no tag.
func TestAdminsBlocks(t *testing.T) {
	u := made(t, nil)
	write(t, u, 0, nil, "ledger")
	write(t, u, 1, bytesOf(t, aTag(1)), "tagged")
	want := []api.Found{{Block: 0, Tag: aTag(1), Data: "tagged"}, {Block: 1, Torn: true}}
	pagesAre(t, u.array, []int{1, 0}, want, api.OK)
	oneIs(t, u.array, []int{1, 0}, 0, 0, want[0], api.OK)
	oneIs(t, u.array, []int{1, 0}, 1, 0, want[1], api.OK)
}

func TestNilArray(t *testing.T) {
	for _, row := range [][]int{nil, {}, {2}, {-1}, {2, math.MaxInt}} {
		pagesAre(t, nil, row, nil, api.ErrArg)
		for _, at := range []int{math.MinInt, -1, 0, 1, math.MaxInt} {
			refuses(t, nil, row, at, 0, api.ErrArg)
			refuses(t, nil, row, 0, at, api.ErrArg)
		}
	}
}

// TestBlocksThatAreNone puts them into rows of which the other blocks have pages.
func TestBlocksThatAreNone(t *testing.T) {
	u := made(t, []int{6})
	write(t, u, 2, bytesOf(t, aTag(1)), "d")
	found := api.Found{Tag: aTag(1), Data: "d"}
	for _, gone := range []bool{false, true} {
		if gone {
			u.power.Cut()
		}
		for _, none := range append([]int{blocks, blocks + 1}, beyond...) {
			for _, row := range [][]int{{none}, {2, none}, {none, 2}, {2, 2, none, 6}, {6, none}} {
				pagesAre(t, u.array, row, nil, api.ErrRange)
				refuses(t, u.array, row, slices.Index(row, none), 0, api.ErrRange)
			}
			// the others of the row aren't asked for
			if gone {
				refuses(t, u.array, []int{2, none}, 0, 0, api.ErrCut)
			} else {
				oneIs(t, u.array, []int{2, none}, 0, 0, found, api.OK)
			}
		}
	}
}

func TestOneBeyond(t *testing.T) {
	u := made(t, nil)
	row := []int{2, 3}
	write(t, u, 2, bytesOf(t, aTag(1)), "d")
	write(t, u, 4, bytesOf(t, aTag(1)), "d")
	for _, gone := range []bool{false, true} {
		if gone {
			u.power.Cut()
		}
		for _, at := range append([]int{2, 3, 4, 8}, beyond...) {
			refuses(t, u.array, row, at, 0, api.ErrRange)
		}
		for _, at := range append([]int{pages, pages + 1}, beyond...) {
			refuses(t, u.array, row, 0, at, api.ErrRange)
			refuses(t, u.array, row, 1, at, api.ErrRange)
			refuses(t, u.array, row, at, at, api.ErrRange)
		}
		for _, at := range []int{-1, 0, 1} {
			refuses(t, u.array, nil, at, 0, api.ErrRange)
			refuses(t, u.array, []int{}, at, 0, api.ErrRange)
		}
	}
}

// TestWithoutPower asks which pages are read: blank ones aren't, nor those of marked blocks.
func TestWithoutPower(t *testing.T) {
	u := made(t, []int{7}, 1)
	write(t, u, 2, bytesOf(t, aTag(1)), "d")
	write(t, u, 3, nil, "no tag")
	is(t, u.array.Program(1, 4, 0, nil, ""), api.ErrFail)
	write(t, u, 5, bytesOf(t, aTag(1)), "marked")
	is(t, u.array.Mark(5), api.OK)
	u.power.Cut()
	for _, row := range [][]int{nil, {}, {6}, {5}, {7}, {0, 1, 5, 6, 7}} {
		pagesAre(t, u.array, row, nil, api.OK)
	}
	for _, row := range [][]int{{2}, {3}, {4}, {6, 5, 2}, {2, 3, 4, 5}, {4, 6}} {
		pagesAre(t, u.array, row, nil, api.ErrCut)
	}
	row := []int{2, 3, 4, 5, 6, 7}
	for block := range row {
		for page := range pages {
			refuses(t, u.array, row, block, page, api.ErrCut)
		}
	}
	u.power.Back(-1)
	oneIs(t, u.array, row, 0, 0, api.Found{Tag: aTag(1), Data: "d"}, api.OK)
}

// TestArrayNotMade asks an array that New didn't make: it has no blocks.
func TestArrayNotMade(t *testing.T) {
	n := new(nand.Nand)
	pagesAre(t, n, nil, nil, api.OK)
	pagesAre(t, n, []int{0}, nil, api.ErrRange)
	refuses(t, n, []int{0}, 0, 0, api.ErrRange)
	refuses(t, n, nil, 0, 0, api.ErrRange)
}

func TestReadingsAreNoOperations(t *testing.T) {
	u := made(t, nil, 2)
	write(t, u, 2, bytesOf(t, aTag(1)), "d")
	ops := u.power.Ops()
	u.power.Back(0)
	for range 3 {
		pagesAre(t, u.array, []int{2, 3}, []api.Found{{Tag: aTag(1), Data: "d"}}, api.OK)
		oneIs(t, u.array, []int{2}, 0, 0, api.Found{Tag: aTag(1), Data: "d"}, api.OK)
		refuses(t, u.array, []int{2}, 0, 1, api.ErrNone)
	}
	if u.power.Ops() != ops || u.power.Gone() || u.draws.Ops(1) != 0 || u.array.Next(2) != 1 {
		t.Errorf("the power had %d operations, was %d; draws %d; the next page is %d", u.power.Ops(), ops, u.draws.Ops(1), u.array.Next(2))
	}
}

func TestPagesAreNewMemory(t *testing.T) {
	u := made(t, nil)
	write(t, u, 2, bytesOf(t, aTag(1)), "a")
	write(t, u, 2, bytesOf(t, aTag(2)), "b")
	want := []api.Found{{Tag: aTag(1), Data: "a"}, {Page: 1, Tag: aTag(2), Data: "b"}}
	got, _ := Pages(u.array, []int{2})
	clear(got)
	pagesAre(t, u.array, []int{2}, want, api.OK)
	got, _ = Pages(u.array, []int{2})
	is(t, u.array.Erase(0, 2), api.OK)
	if !slices.Equal(got, want) {
		t.Errorf("an answer became %+v by an erasing", got)
	}
}

func TestMine(t *testing.T) {
	x := api.Tag{Tenant: 1, Epoch: 2, Place: 3, Seq: 4, Kind: api.KindWrite}
	for _, c := range []struct {
		f             api.Found
		tenant, epoch int
		want          bool
	}{
		{api.Found{Tag: x}, 1, 2, true},
		{api.Found{Block: 9, Page: 5, Tag: x, Data: "d"}, 1, 2, true},
		{api.Found{Tag: api.Tag{Tenant: 1, Epoch: 2, Place: 63, Seq: 9, Kind: api.KindTrim, Copy: true}}, 1, 2, true},
		{api.Found{Tag: x}, 1, 1, false},
		{api.Found{Tag: x}, 1, 3, false},
		{api.Found{Tag: x}, 2, 2, false},
		{api.Found{Tag: x}, 2, 1, false},
		{api.Found{Tag: x}, 0, 0, false},
		{api.Found{Tag: x}, -1, 2, false},
		{api.Found{Tag: x}, 1<<32 + 1, 2, false},
		{api.Found{Tag: x}, 1, 1<<32 + 2, false},
		{api.Found{Torn: true, Tag: x}, 1, 2, false},
		{api.Found{Torn: true}, 0, 0, false},
		{api.Found{Tag: api.Tag{Kind: api.KindWrite}}, 0, 0, true},
		{api.Found{}, 1, 0, false},
		{api.Found{}, 0, 1, false},
	} {
		if got := Mine(c.f, c.tenant, c.epoch); got != c.want {
			t.Errorf("Mine(%+v, %d, %d) is %t", c.f, c.tenant, c.epoch, got)
		}
	}
}

func TestMineOfEachTenant(t *testing.T) {
	numbers := []int{math.MinInt, -1, 0, 1, 2, 3, 4, math.MaxInt32, math.MaxInt}
	for _, tenant := range numbers {
		for _, epoch := range numbers {
			for _, askedTenant := range numbers {
				for _, askedEpoch := range numbers {
					f := api.Found{Tag: api.Tag{Tenant: tenant, Epoch: epoch, Kind: api.KindWrite}}
					want := tenant == askedTenant && epoch == askedEpoch
					if Mine(f, askedTenant, askedEpoch) != want {
						t.Fatalf("Mine(%+v, %d, %d) is %t", f, askedTenant, askedEpoch, !want)
					}
					f.Torn = true
					if Mine(f, askedTenant, askedEpoch) {
						t.Fatalf("%+v is mine", f)
					}
				}
			}
		}
	}
}

// leaf is a page by its plain words: torn, or written, with a tag or without.
type leaf struct {
	torn bool
	tag  api.Tag
	data string
}

// toy are the blocks by their plain words: of each its pages that aren't blank, and whether it is marked.
type toy struct {
	blocks [blocks][]leaf
	marked [blocks]bool
	gone   bool
}

// pages is what Pages is to answer.
func (y *toy) pages(row []int) ([]api.Found, api.Errno) {
	var found []api.Found
	for _, b := range row {
		if b < 0 || b >= blocks {
			return nil, api.ErrRange
		}
	}
	for i, b := range row {
		if y.marked[b] {
			continue
		}
		for page, l := range y.blocks[b] {
			if y.gone {
				return nil, api.ErrCut
			}
			found = append(found, api.Found{Block: i, Page: page, Torn: l.torn, Tag: l.tag, Data: l.data})
		}
	}
	return found, api.OK
}

// one is what One is to answer.
func (y *toy) one(row []int, block, page int) (api.Found, api.Errno) {
	if block < 0 || block >= len(row) || page < 0 || page >= pages || row[block] < 0 || row[block] >= blocks {
		return api.Found{}, api.ErrRange
	}
	if y.gone {
		return api.Found{}, api.ErrCut
	}
	if page >= len(y.blocks[row[block]]) {
		return api.Found{}, api.ErrNone
	}
	l := y.blocks[row[block]][page]
	return api.Found{Block: block, Page: page, Torn: l.torn, Tag: l.tag, Data: l.data}, api.OK
}

// settle puts into the toy what came of an operation.
func (y *toy) settle(b int, wasGone bool, e api.Errno, done, spoilt []leaf) {
	switch {
	case y.marked[b] || wasGone:
	case e == api.OK:
		y.blocks[b] = done
	default:
		y.blocks[b] = spoilt
	}
}

// walk does something drawn to the array, and to the toy.
func (y *toy) walk(t *testing.T, u beneath, draw func(int) int, besides [][]byte) {
	t.Helper()
	b, wasGone := draw(blocks), u.power.Gone()
	switch draw(12) {
	case 0:
		torn := slices.Repeat([]leaf{{torn: true}}, pages)
		y.settle(b, wasGone, u.array.Erase(1, b), nil, torn)
	case 1:
		if draw(6) == 0 && u.array.Mark(b) == api.OK {
			y.marked[b] = true
		}
	case 2:
		u.power.Back(draw(30))
	case 3, 4:
		u.power.Back(-1)
	default:
		next := len(y.blocks[b])
		if next == pages {
			return
		}
		x, data := aTag(draw(1000)), strings.Repeat("d", draw(api.MaxData+1))
		beside, l := bytesOf(t, x), leaf{tag: x, data: data}
		if draw(4) == 0 {
			beside, l = besides[draw(len(besides))], leaf{torn: true}
		}
		e := u.array.Program(1, b, next, beside, data)
		before := slices.Clip(y.blocks[b])
		y.settle(b, wasGone, e, append(before, l), append(before, leaf{torn: true}))
	}
	y.gone = u.power.Gone()
}

// TestMixedCalls holds long rows of calls against a plain telling of the chapter.
func TestMixedCalls(t *testing.T) {
	x := uint32(3)
	draw := func(n int) int {
		x = x*1664525 + 1013904223
		return int(x>>8) % n
	}
	besides := noTags(t)
	for range 40 {
		var faults []int
		for range draw(40) {
			faults = append(faults, 1+draw(200))
		}
		u, y := made(t, nil, faults...), toy{}
		for range 150 {
			y.walk(t, u, draw, besides)
			row := make([]int, draw(10))
			for i := range row {
				row[i] = draw(blocks)
				if draw(40) == 0 {
					row[i] = beyond[draw(len(beyond))]
				}
			}
			want, e := y.pages(row)
			pagesAre(t, u.array, row, want, e)
			for block := -1; block <= len(row); block++ {
				for page := -1; page <= pages; page++ {
					f, e := y.one(row, block, page)
					oneIs(t, u.array, row, block, page, f, e)
				}
			}
		}
	}
}

// TestEachGeometry fills arrays of each number of pages, up to the greatest array.
func TestEachGeometry(t *testing.T) {
	for size := api.MinPages; size <= api.MaxPages; size++ {
		for _, all := range []int{3, 7, api.MaxBlocks} {
			d, _ := draws.New([api.Tenants][]int{})
			n, e := nand.New(api.Geometry{Channels: all, Dies: 1, Blocks: 1, Pages: size}, power.New(-1), d, nil)
			is(t, e, api.OK)
			var row []int
			var want []api.Found
			for block := all - 1; block >= 0; block-- {
				for page := range size {
					is(t, n.Program(0, block, page, bytesOf(t, aTag(block+page)), "d"), api.OK)
					want = append(want, api.Found{Block: len(row), Page: page, Tag: aTag(block + page), Data: "d"})
				}
				row = append(row, block)
			}
			pagesAre(t, n, row, want, api.OK)
			refuses(t, n, row, 0, size, api.ErrRange)
			refuses(t, n, row, all, 0, api.ErrRange)
		}
	}
}
