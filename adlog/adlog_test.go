package adlog

import (
	"math"
	"reflect"
	"slices"
	"strings"
	"testing"

	"almshouse/api"
	"almshouse/draws"
	"almshouse/ledger"
	"almshouse/nand"
	"almshouse/power"
	"almshouse/snap"
)

const top = math.MaxInt32 // of Gen, and of an Epoch

// array is one with its power and its draws.
type array struct {
	*nand.Nand
	power *power.Power
	draws *draws.Draws
}

// twelve has 12 blocks of so many pages.
func twelve(pages int) api.Geometry {
	return api.Geometry{Channels: 2, Dies: 3, Blocks: 2, Pages: pages}
}

// made is a blank array, in which the first operations of each tenant fail.
func made(t *testing.T, g api.Geometry) array {
	t.Helper()
	var faults [api.Tenants][]int
	for who := range faults {
		faults[who] = []int{1, 2, 3, 4, 5, 6, 7, 8}
	}
	d, err := draws.New(faults)
	if err != api.OK {
		t.Fatalf("draws: error %d", err)
	}
	p := power.New(-1)
	n, err := nand.New(g, p, d, nil)
	if err != api.OK {
		t.Fatalf("an array of %v: error %d", g, err)
	}
	return array{n, p, d}
}

// sample is a ledger that may be, of 12 blocks of 4 pages, and of more: tenant 1 isn't there, nobody has the blocks 5 and 9.
func sample(gen int) api.Ledger {
	return api.Ledger{Gen: gen, Epochs: 7, Tenants: [api.Tenants]api.Tenant{
		0: {There: true, Epoch: 7, Size: 3, Spare: 0, Blocks: []int{11, 2}},
		2: {There: true, Epoch: 1, Size: 5, Spare: 1, Blocks: []int{3, 10, 4, 8}},
		3: {There: true, Epoch: 4, Size: 1, Spare: 0, Blocks: []int{6, 7}},
	}}
}

// spoilt is the sample, with something done to it.
func spoilt(gen int, do func(l *api.Ledger)) api.Ledger {
	l := sample(gen)
	do(&l)
	return l
}

// bare is a ledger of no tenants, told apart by Epochs.
func bare(gen, epochs int) api.Ledger { return api.Ledger{Gen: gen, Epochs: epochs} }

// bytesOf are a ledger's, of an array, as a page's data.
func bytesOf(t *testing.T, a array, l api.Ledger) string {
	t.Helper()
	b, err := snap.Bytes(l, a.Blocks(), a.Geometry().Pages)
	if err != api.OK {
		t.Fatalf("%+v has no bytes: error %d", l, err)
	}
	return string(b)
}

// is holds an error against the one that is to be.
func is(t *testing.T, what string, got, want api.Errno) {
	t.Helper()
	if got != want {
		t.Errorf("%s: error %d, want %d", what, got, want)
	}
}

// plainly makes of empty rows none, so that ledgers are held against each other without Same.
func plainly(l api.Ledger) api.Ledger {
	for i, e := range l.Tenants {
		l.Tenants[i].Blocks = append([]int(nil), e.Blocks...)
	}
	return l
}

// loads asks that the newest ledger is the one that is to be.
func loads(t *testing.T, what string, a array, want api.Ledger) {
	t.Helper()
	if l, err := Load(a.Nand); !reflect.DeepEqual(plainly(l), plainly(want)) || err != api.OK {
		t.Errorf("%s: Load is %+v, error %d; want %+v", what, l, err, want)
	}
}

// refuses asks that there is no ledger, beside an error.
func refuses(t *testing.T, what string, n *nand.Nand, want api.Errno) {
	t.Helper()
	if l, err := Load(n); !reflect.DeepEqual(l, api.Ledger{}) || err != want {
		t.Errorf("%s: Load is %+v, error %d; want nothing, error %d", what, l, err, want)
	}
}

// saves asks that a ledger is kept.
func saves(t *testing.T, what string, a array, l api.Ledger) {
	t.Helper()
	is(t, what+": Save", Save(a.Nand, l), api.OK)
	loads(t, what, a, l)
}

// page is what an array tells of one.
type page struct {
	beside, data string
	err          api.Errno
}

// block is what an array tells of one.
type block struct {
	next, erases int
	pages        []page
}

// told is all that an array tells; its power must be there.
func told(a array) []block {
	var all []block
	for i := range a.Blocks() {
		b := block{next: a.Next(i), erases: a.Erases(i)}
		for j := range a.Geometry().Pages {
			beside, data, err := a.Read(i, j)
			b.pages = append(b.pages, page{string(beside), data, err})
		}
		all = append(all, b)
	}
	return all
}

// unchanged asks that a call leaves the array as it is, and makes no operation.
func unchanged(t *testing.T, what string, a array, call func()) {
	t.Helper()
	was, ops := told(a), a.power.Ops()
	call()
	if !reflect.DeepEqual(told(a), was) || a.power.Ops() != ops {
		t.Errorf("%s: the array is changed by %d operations", what, a.power.Ops()-ops)
	}
}

// puts writes a block's next page.
func puts(t *testing.T, a array, block int, beside, data string) {
	t.Helper()
	is(t, "Program", a.Program(api.Admin, block, a.Next(block), []byte(beside), data), api.OK)
}

// tears makes a block's next page torn.
func tears(t *testing.T, a array, block int) {
	t.Helper()
	a.power.Back(0)
	is(t, "Program that is torn", a.Program(api.Admin, block, a.Next(block), nil, ""), api.ErrCut)
	a.power.Back(-1)
}

// stands asks how many pages of the admin's blocks aren't blank, and how often these were erased.
func stands(t *testing.T, what string, a array, next0, erases0, next1, erases1 int) {
	t.Helper()
	got := []int{a.Next(0), a.Erases(0), a.Next(1), a.Erases(1)}
	if want := []int{next0, erases0, next1, erases1}; !slices.Equal(got, want) {
		t.Errorf("%s: next pages and erases are %v, want %v", what, got, want)
	}
}

// keeps asks that a page is a ledger's, with nothing beside it.
func keeps(t *testing.T, what string, a array, block, page int, l api.Ledger) {
	t.Helper()
	beside, data, err := a.Read(block, page)
	if len(beside) != 0 || data != bytesOf(t, a, l) || err != api.OK {
		t.Errorf("%s: page %d of block %d is %q, %q, error %d", what, page, block, beside, data, err)
	}
}

// P12.1: Load

func TestLoadOfABlankArray(t *testing.T) {
	for _, g := range []api.Geometry{
		twelve(4), twelve(2), twelve(16),
		{Channels: 1, Dies: 1, Blocks: 3, Pages: 2},
		{Channels: 4, Dies: 4, Blocks: 4, Pages: 16},
	} {
		a := made(t, g)
		unchanged(t, "Load", a, func() { loads(t, "a blank array", a, api.Ledger{}) })
	}
}

func TestNilArray(t *testing.T) {
	refuses(t, "nil", nil, api.ErrArg)
	for _, l := range []api.Ledger{{}, bare(1, 0), bare(-1, 0), sample(3)} {
		is(t, "Save in nil", Save(nil, l), api.ErrArg)
	}
}

// TestNotMade asks an array that New did not make: it has no blocks.
func TestNotMade(t *testing.T) {
	a := array{Nand: new(nand.Nand)}
	loads(t, "not made", a, api.Ledger{})
	is(t, "Save of what may not be", Save(a.Nand, bare(-1, 0)), api.ErrForm)
	is(t, "Save of Gen 0", Save(a.Nand, bare(0, 0)), api.ErrForm)
	is(t, "Save", Save(a.Nand, bare(1, 0)), api.ErrRange)
}

func TestWithoutPower(t *testing.T) {
	blank, full := made(t, twelve(4)), made(t, twelve(4))
	for gen := range 5 {
		saves(t, "filling", full, sample(gen+1))
	}
	for _, a := range []array{blank, full} {
		unchanged(t, "without power", a, func() {
			a.power.Cut()
			refuses(t, "without power", a.Nand, api.ErrCut)
			for _, l := range []api.Ledger{sample(99), sample(5), sample(1), bare(0, 0), bare(-1, 0), bare(math.MaxInt, 0)} {
				is(t, "Save without power", Save(a.Nand, l), api.ErrCut)
			}
			a.power.Back(-1)
		})
	}
	loads(t, "with power again", blank, api.Ledger{})
	loads(t, "with power again", full, sample(5))
}

// TestLoadSpendsNothing asks where the next operation is torn: the power is there till then.
func TestLoadSpendsNothing(t *testing.T) {
	a := made(t, twelve(4))
	saves(t, "one", a, sample(1))
	a.power.Back(0)
	loads(t, "a budget of 0", a, sample(1))
	is(t, "Save of what may not be", Save(a.Nand, bare(-1, 0)), api.ErrForm)
	is(t, "Save of an old one", Save(a.Nand, sample(1)), api.ErrForm)
	loads(t, "a budget of 0, still", a, sample(1))
}

func TestTheNewestIsLoaded(t *testing.T) {
	for _, c := range []struct {
		what string
		gens [2][]int // of the blocks' pages
		want int      // its Gen; its Epochs are 100 for a page of block 1, and 1 more with each page
		at   int
	}{
		{"one page", [2][]int{{3}, nil}, 3, 0},
		{"one page of block 1", [2][]int{nil, {3}}, 3, 100},
		{"rising", [2][]int{{1, 2, 3, 4}, {5, 6}}, 6, 101},
		{"block 0 is newer", [2][]int{{9}, {5, 6, 7, 8}}, 9, 0},
		{"falling", [2][]int{{8, 7, 6, 5}, {4, 3}}, 8, 0},
		{"in the middle", [2][]int{{1, 7, 2}, {6, 3, 4, 5}}, 7, 1},
		{"in the middle of block 1", [2][]int{{1, 7, 2}, {6, 8, 4, 5}}, 8, 101},
		{"the last page of all", [2][]int{{1, 2, 3, 4}, {5, 6, 7, 8}}, 8, 103},
		{"one Gen of two in a block", [2][]int{{4, 6, 6, 5}, nil}, 6, 1},
		{"one Gen of two in block 1", [2][]int{{1}, {4, 6, 6, 6}}, 6, 101},
		{"one Gen in both blocks", [2][]int{{4, 5, 6}, {6}}, 6, 2},
		{"one Gen all over", [2][]int{{6, 6, 6, 6}, {6, 6, 6, 6}}, 6, 0},
		{"Gen 0 alone", [2][]int{{0}, nil}, 0, 0},
		{"Gen 0 alone in block 1", [2][]int{nil, {0, 0}}, 0, 100},
		{"Gen 0 and 1", [2][]int{{0, 0}, {0, 1}}, 1, 101},
		{"the greatest Gen", [2][]int{{top - 1, top}, {top - 2}}, top, 1},
	} {
		a := made(t, twelve(4))
		for b, gens := range c.gens {
			for i, gen := range gens {
				puts(t, a, b, "", bytesOf(t, a, spoilt(gen, func(l *api.Ledger) { l.Epochs = 1000 + 100*b + i })))
			}
		}
		want := spoilt(c.want, func(l *api.Ledger) { l.Epochs = 1000 + c.at })
		unchanged(t, c.what, a, func() { loads(t, c.what, a, want) })
	}
}

// unread are pages' data that can't be read as a ledger, of 12 blocks of 4 pages, though most look like one of Gen 50.
func unread(t *testing.T) map[string]string {
	t.Helper()
	whole := bytesOf(t, made(t, twelve(4)), sample(50))
	wide := made(t, api.Geometry{Channels: 1, Dies: 1, Blocks: 13, Pages: 4})
	deep := made(t, twelve(5))
	return map[string]string{
		"nothing":                  "",
		"a text":                   "almshouse",
		"cut off":                  whole[:len(whole)-1],
		"one byte more":            whole + "\x00",
		"another kind":             "M" + whole[1:],
		"another Gen":              whole[:3] + "\x33" + whole[4:],
		"another sum":              whole[:len(whole)-1] + string([]byte{whole[len(whole)-1] ^ 1}),
		"a full page":              strings.Repeat("\xff", api.MaxData),
		"of an array of more":      bytesOf(t, wide, spoilt(50, func(l *api.Ledger) { l.Tenants[0].Blocks[0] = 12 })),
		"of an array of more each": bytesOf(t, deep, spoilt(50, func(l *api.Ledger) { l.Tenants[0].Size = 4 })),
	}
}

func TestWhatIsNoLedgerIsLeft(t *testing.T) {
	for what, data := range unread(t) {
		a := made(t, twelve(4))
		puts(t, a, 0, "", data)
		loads(t, what+", alone", a, api.Ledger{})
		puts(t, a, 0, "", bytesOf(t, a, sample(7)))
		puts(t, a, 0, "", data)
		puts(t, a, 1, "", data)
		loads(t, what+", ahead and behind", a, sample(7))
		puts(t, a, 1, "", bytesOf(t, a, sample(8)))
		loads(t, what+", ahead in block 1", a, sample(8))
		saves(t, what+", and one more", a, sample(9))
		stands(t, what, a, 3, 0, 3, 0)
	}
}

// TestOtherBlocksAreLeft asks where tenants' blocks hold a newer ledger.
func TestOtherBlocksAreLeft(t *testing.T) {
	a := made(t, twelve(4))
	for i := api.AdminAt; i < a.Blocks(); i++ {
		puts(t, a, i, "", bytesOf(t, a, sample(90+i)))
	}
	loads(t, "none of the admin's", a, api.Ledger{})
	for gen := range 20 {
		saves(t, "one of the admin's", a, sample(gen+1))
	}
	for i := api.AdminAt; i < a.Blocks(); i++ {
		if a.Next(i) != 1 || a.Erases(i) != 0 {
			t.Errorf("block %d: next page %d, %d erases", i, a.Next(i), a.Erases(i))
		}
		keeps(t, "another block", a, i, 0, sample(90+i))
	}
}

// TestWhatStandsBesideIsNotAsked asks pages that Save did not write, but whose data is a ledger.
func TestWhatStandsBesideIsNotAsked(t *testing.T) {
	a := made(t, twelve(4))
	puts(t, a, 0, "beside", bytesOf(t, a, sample(3)))
	loads(t, "something beside", a, sample(3))
	is(t, "Save of the same Gen", Save(a.Nand, sample(3)), api.ErrForm)
	saves(t, "one more", a, sample(4))
	keeps(t, "one more", a, 0, 1, sample(4))
}

func TestTornPagesAreLeft(t *testing.T) {
	a := made(t, twelve(4))
	tears(t, a, 0)
	tears(t, a, 1)
	loads(t, "torn pages alone", a, api.Ledger{})
	puts(t, a, 0, "", bytesOf(t, a, sample(3)))
	tears(t, a, 0)
	loads(t, "between torn pages", a, sample(3))
	puts(t, a, 0, "", bytesOf(t, a, sample(4)))
	loads(t, "behind torn pages", a, sample(4))
	a.power.Back(0)
	is(t, "Erase that is torn", a.Erase(api.Admin, 0), api.ErrCut)
	a.power.Back(-1)
	loads(t, "an erasing that is torn", a, api.Ledger{})
	puts(t, a, 1, "", bytesOf(t, a, sample(2)))
	loads(t, "in the other block", a, sample(2))
}

// P12.1: Save

func TestSaveRefusesWhatMayNotBe(t *testing.T) {
	for what, do := range map[string]func(l *api.Ledger){
		"Gen below 0":            func(l *api.Ledger) { l.Gen = -1 },
		"the least Gen":          func(l *api.Ledger) { l.Gen = math.MinInt },
		"Gen too great":          func(l *api.Ledger) { l.Gen = top + 1 },
		"Gen far too great":      func(l *api.Ledger) { l.Gen = math.MaxInt },
		"Epochs below 0":         func(l *api.Ledger) { l.Epochs = -1 },
		"Epochs too great":       func(l *api.Ledger) { l.Epochs = top + 1 },
		"an Epoch above Epochs":  func(l *api.Ledger) { l.Tenants[2].Epoch = 8 },
		"nobody with a Size":     func(l *api.Ledger) { l.Tenants[1].Size = 1 },
		"Size 65":                func(l *api.Ledger) { l.Tenants[0].Size = 65 },
		"a block too few":        func(l *api.Ledger) { l.Tenants[0].Size = 4 },
		"an admin's block":       func(l *api.Ledger) { l.Tenants[0].Blocks[0] = 1 },
		"a block that is none":   func(l *api.Ledger) { l.Tenants[0].Blocks[0] = 12 },
		"a block of two tenants": func(l *api.Ledger) { l.Tenants[0].Blocks[0] = 3 },
	} {
		blank, begun, full := made(t, twelve(4)), made(t, twelve(4)), made(t, twelve(4))
		saves(t, what, begun, sample(1))
		for gen := range 8 {
			saves(t, what, full, sample(gen+1))
		}
		for _, a := range []array{blank, begun, full} {
			unchanged(t, what, a, func() { is(t, what, Save(a.Nand, spoilt(9, do)), api.ErrForm) })
			saves(t, what+", mended", a, sample(9))
		}
	}
}

// TestSaveAsksTheArray asks a ledger that may be of one array, and may not be of another one.
func TestSaveAsksTheArray(t *testing.T) {
	high := spoilt(1, func(l *api.Ledger) { l.Tenants[0].Blocks[0] = 12 })
	is(t, "block 12 of 12", Save(made(t, twelve(4)).Nand, high), api.ErrForm)
	saves(t, "block 12 of 13", made(t, api.Geometry{Channels: 13, Dies: 1, Blocks: 1, Pages: 4}), high)
	is(t, "pages too few", Save(made(t, twelve(3)).Nand, sample(1)), api.ErrForm)
	saves(t, "pages enough", made(t, twelve(4)), sample(1))
}

func TestGenRises(t *testing.T) {
	a := made(t, twelve(4))
	for _, c := range []struct {
		gen  int
		want api.Errno
	}{
		{0, api.ErrForm}, {1, api.OK}, {0, api.ErrForm}, {1, api.ErrForm}, {2, api.OK},
		{1, api.ErrForm}, {2, api.ErrForm}, {70000, api.OK}, {69999, api.ErrForm}, {70000, api.ErrForm}, {70001, api.OK},
		{70000, api.ErrForm}, {70001, api.ErrForm}, {top - 1, api.OK}, {top, api.OK}, {top, api.ErrForm}, {1, api.ErrForm}, {top + 1, api.ErrForm},
	} {
		if c.want == api.OK {
			saves(t, "a greater Gen", a, sample(c.gen))
			continue
		}
		unchanged(t, "a Gen that isn't greater", a, func() { is(t, "Save", Save(a.Nand, sample(c.gen)), c.want) })
	}
	loads(t, "the last one", a, sample(top))
}

// TestGenBesideGenZero asks where the newest has the Gen 0, which Save never writes.
func TestGenBesideGenZero(t *testing.T) {
	a := made(t, twelve(4))
	puts(t, a, 1, "", bytesOf(t, a, sample(0)))
	is(t, "Save of Gen 0", Save(a.Nand, bare(0, 0)), api.ErrForm)
	loads(t, "Gen 0", a, sample(0))
	saves(t, "Gen 1", a, bare(1, 0))
	keeps(t, "Gen 1", a, 1, 1, bare(1, 0))
	stands(t, "in its block", a, 0, 0, 2, 0)
}

// TestEachSaveHasItsPage fills both blocks, three times over, in arrays of all numbers of pages.
func TestEachSaveHasItsPage(t *testing.T) {
	for pages := api.MinPages; pages <= api.MaxPages; pages++ {
		a := made(t, twelve(pages))
		var ops, erases [2]int
		for i := range 6 * pages {
			at, of := i/pages%2, i%pages
			if of == 0 && i >= 2*pages {
				erases[at]++
				ops[0]++
			}
			ops[1]++
			saves(t, "one more", a, bare(i+1, i))
			keeps(t, "one more", a, at, of, bare(i+1, i))
			if a.Next(at) != of+1 || a.Erases(0) != erases[0] || a.Erases(1) != erases[1] {
				t.Errorf("%d pages, ledger %d: next page %d, %d and %d erases", pages, i, a.Next(at), a.Erases(0), a.Erases(1))
			}
			if a.power.Ops() != ops[0]+ops[1] {
				t.Errorf("%d pages, ledger %d: %d operations, want %d erasings and %d programmings", pages, i, a.power.Ops(), ops[0], ops[1])
			}
		}
	}
}

// TestWhatIsThereStays asks for the pages that Save doesn't need to erase.
func TestWhatIsThereStays(t *testing.T) {
	a := made(t, twelve(4))
	for gen := 1; gen <= 6; gen++ {
		saves(t, "one more", a, sample(gen))
	}
	for i := range 6 {
		keeps(t, "one ahead", a, i/4, i%4, sample(i+1))
	}
	saves(t, "one more", a, sample(7))
	saves(t, "one more", a, sample(8))
	saves(t, "one more", a, sample(9))
	keeps(t, "the ninth", a, 0, 0, sample(9))
	for i := range 4 {
		keeps(t, "one of block 1", a, 1, i, sample(5+i))
	}
	stands(t, "nine", a, 1, 1, 4, 0)
}

// TestWhereOneMoreIsKept asks in blocks that others than Save filled: a number is a Gen's page, -1 is torn, -2 is no ledger.
func TestWhereOneMoreIsKept(t *testing.T) {
	for _, c := range []struct {
		what                           string
		pages                          [2][]int
		next0, erases0, next1, erases1 int
	}{
		{"none", [2][]int{nil, nil}, 1, 0, 0, 0},
		{"none, block 1 begun", [2][]int{nil, {-1}}, 1, 0, 1, 0},
		{"none, block 1 full", [2][]int{nil, {-2, -2, -2}}, 1, 0, 3, 0},
		{"none, block 0 begun", [2][]int{{-1, -2}, nil}, 3, 0, 0, 0},
		{"none, block 0 full", [2][]int{{-1, -1, -1}, nil}, 3, 0, 1, 0},
		{"none, block 0 full, block 1 begun", [2][]int{{-2, -1, -2}, {-1}}, 3, 0, 1, 1},
		{"none, both full", [2][]int{{-2, -2, -2}, {-1, -1, -1}}, 3, 0, 1, 1},
		{"block 0 begun", [2][]int{{3}, nil}, 2, 0, 0, 0},
		{"block 0 begun, block 1 full", [2][]int{{3}, {2, 2, 1}}, 2, 0, 3, 0},
		{"block 0 full", [2][]int{{1, 2, 3}, nil}, 3, 0, 1, 0},
		{"block 0 full with torn pages", [2][]int{{3, -1, -1}, nil}, 3, 0, 1, 0},
		{"block 0 full, block 1 torn", [2][]int{{1, 2, 3}, {-1}}, 3, 0, 1, 1},
		{"block 0 full, block 1 older", [2][]int{{1, 2, 3}, {0, 1}}, 3, 0, 1, 1},
		{"both full, block 0 newer", [2][]int{{4, 5, 6}, {1, 2, 3}}, 3, 0, 1, 1},
		{"block 1 begun", [2][]int{nil, {3}}, 0, 0, 2, 0},
		{"block 1 begun, block 0 begun", [2][]int{{2}, {3}}, 1, 0, 2, 0},
		{"block 1 begun, block 0 full", [2][]int{{0, 1, 2}, {3, -1}}, 3, 0, 3, 0},
		{"block 1 full", [2][]int{nil, {1, 2, 3}}, 1, 0, 3, 0},
		{"block 1 full, block 0 torn", [2][]int{{-1}, {1, 2, 3}}, 1, 1, 3, 0},
		{"both full, block 1 newer", [2][]int{{1, 2, 3}, {4, 5, 6}}, 1, 1, 3, 0},
		{"both full, one Gen in both", [2][]int{{1, 2, 6}, {4, 5, 6}}, 3, 0, 1, 1},
		{"one Gen in both", [2][]int{{1, 2, 3}, {3}}, 3, 0, 1, 1},
		{"one Gen in both, block 0 begun", [2][]int{{3}, {3, 3}}, 2, 0, 2, 0},
	} {
		a := made(t, twelve(3))
		for i, pages := range c.pages {
			for _, p := range pages {
				switch p {
				case -1:
					tears(t, a, i)
				case -2:
					puts(t, a, i, "", "no ledger")
				default:
					puts(t, a, i, "", bytesOf(t, a, bare(p, i)))
				}
			}
		}
		saves(t, c.what, a, bare(50, 9))
		stands(t, c.what, a, c.next0, c.erases0, c.next1, c.erases1)
	}
}

// TestTheAdminDoesIt asks where the first operations of each tenant fail.
func TestTheAdminDoesIt(t *testing.T) {
	a := made(t, twelve(4))
	for gen := range 20 {
		saves(t, "one more", a, sample(gen+1))
	}
	for who := range api.Tenants {
		if a.draws.Ops(who) != 0 {
			t.Errorf("%d operations of tenant %d are counted", a.draws.Ops(who), who)
		}
	}
	is(t, "an operation of tenant 0", a.Program(0, 2, 0, nil, ""), api.ErrFail)
}

func TestNothingIsShared(t *testing.T) {
	a := made(t, twelve(4))
	given := sample(1)
	for i, e := range given.Tenants {
		given.Tenants[i].Blocks = append(make([]int, 0, 32), e.Blocks...)
	}
	is(t, "Save", Save(a.Nand, given), api.OK)
	if !ledger.Same(given, sample(1)) {
		t.Errorf("what was handed in became %+v", given)
	}
	for _, e := range given.Tenants {
		if slices.Max(e.Blocks[len(e.Blocks):32]) != 0 {
			t.Error("the room behind what was handed in is changed")
		}
		clear(e.Blocks)
	}
	one, _ := Load(a.Nand)
	other, _ := Load(a.Nand)
	for i := range one.Tenants {
		l := one.Tenants[i].Blocks
		clear(l[:cap(l)])
	}
	if !ledger.Same(other, sample(1)) {
		t.Errorf("two answers share memory: %+v", other)
	}
	loads(t, "after that", a, sample(1))
}

// P12.2

// numbers makes numbers of which none tells the next.
type numbers struct{ x uint32 }

// below is a number below n.
func (r *numbers) below(n int) int {
	r.x = r.x*1664525 + 1013904223
	return int(r.x>>8) % n
}

// changed is a ledger to which an admin did something, by the calls of layer 10; the same one, if that was refused.
func changed(r *numbers, a array, l api.Ledger) api.Ledger {
	who, other := r.below(api.Tenants), r.below(api.Tenants)
	size, spare := 1+r.below(5), r.below(3)
	free := ledger.Free(l, a.Blocks(), a.Bad)
	free = free[:r.below(1+len(free))]
	var m api.Ledger
	var err api.Errno
	switch r.below(5) {
	case 0, 1:
		m, err = ledger.Create(l, who, size, spare, free)
	case 2:
		m, err = ledger.Resize(l, who, size, free[:len(free)/2])
	case 3:
		m, err = ledger.Swap(l, who, r.below(3), other, r.below(3))
	case 4:
		m, err = ledger.Destroy(l, who)
	}
	if err != api.OK || ledger.Check(m, a.Blocks(), a.Geometry().Pages) != api.OK {
		return l
	}
	return m
}

// TestWhatTenantsComeToIsLoaded goes over ledgers that tenants come to, and cuts half of their savings in some operation.
func TestWhatTenantsComeToIsLoaded(t *testing.T) {
	for _, g := range []api.Geometry{twelve(4), twelve(2), {Channels: 64, Dies: 1, Blocks: 1, Pages: 16}} {
		a, r := made(t, g), &numbers{1}
		var l api.Ledger
		kept, cut := 0, 0
		for range 4000 {
			m := changed(r, a, l)
			if m.Gen == l.Gen {
				continue
			}
			budget := r.below(8) - 4
			a.power.Back(budget)
			switch err := Save(a.Nand, m); {
			case err == api.OK:
				l = m
				kept++
			case err == api.ErrCut && budget >= 0:
				cut++
			default:
				t.Fatalf("Save of %+v is error %d", m, err)
			}
			a.power.Back(-1)
			loads(t, "a change", a, l)
		}
		if kept < 300 || cut < 100 {
			t.Errorf("%v: only %d were kept, and %d cut", g, kept, cut)
		}
	}
}

// TestTheLongestIsKept asks for a ledger in which all is as great as it may be.
func TestTheLongestIsKept(t *testing.T) {
	a := made(t, api.Geometry{Channels: 4, Dies: 4, Blocks: 4, Pages: 16})
	l := api.Ledger{Gen: top, Epochs: top}
	for i := range 62 {
		e := &l.Tenants[i%api.Tenants]
		e.Blocks = append(e.Blocks, 63-i)
	}
	for i := range l.Tenants {
		e := &l.Tenants[i]
		e.There, e.Epoch, e.Size, e.Spare = true, top-i, 64, 8
	}
	saves(t, "the longest", a, l)
	is(t, "the same once more", Save(a.Nand, l), api.ErrForm)
}

// TestPowerGoesInEachOperation cuts each ledger's saving some times in its first operation, and then, while it needs a second one, in that.
func TestPowerGoesInEachOperation(t *testing.T) {
	for _, pages := range []int{2, 3, 4, 7} {
		for cuts := range 12 {
			a := made(t, twelve(pages))
			last := api.Ledger{}
			for gen := 1; gen <= 30; gen++ {
				for budget := range 2 {
					for range cuts {
						last = cutOnce(t, a, last, bare(gen*10+budget, gen), budget)
					}
				}
				last = bare(gen*10+5, gen)
				saves(t, "with power", a, last)
			}
		}
	}
}

// cutOnce keeps a ledger with some operations only, and tells which is the newest then.
func cutOnce(t *testing.T, a array, last, l api.Ledger, budget int) api.Ledger {
	t.Helper()
	if l.Gen <= last.Gen {
		return last
	}
	a.power.Back(budget)
	err := Save(a.Nand, l)
	switch {
	case err == api.OK:
		last = l
	case err != api.ErrCut:
		t.Errorf("Save is error %d", err)
	case !a.power.Gone():
		t.Error("Save is cut, and the power is there")
	default:
		refuses(t, "without power", a.Nand, api.ErrCut)
	}
	a.power.Back(-1)
	loads(t, "after a cut", a, last)
	return last
}

// TestPowerGoesInOnePlace asks page by page what a cut leaves.
func TestPowerGoesInOnePlace(t *testing.T) {
	a := made(t, twelve(2))
	cut := func(what string, budget int, want api.Ledger, next0, erases0, next1, erases1 int) {
		t.Helper()
		a.power.Back(budget)
		is(t, what, Save(a.Nand, bare(9, 9)), api.ErrCut)
		a.power.Back(-1)
		loads(t, what, a, want)
		stands(t, what, a, next0, erases0, next1, erases1)
	}
	cut("the first of all", 0, bare(0, 0), 1, 0, 0, 0)
	cut("once more", 0, bare(0, 0), 2, 0, 0, 0)
	cut("in the other block", 0, bare(0, 0), 2, 0, 1, 0)
	cut("while it is erased", 0, bare(0, 0), 2, 0, 2, 0)
	cut("once more", 0, bare(0, 0), 2, 0, 2, 0)
	cut("behind that", 1, bare(0, 0), 2, 0, 1, 1)
	saves(t, "with power", a, bare(1, 1))
	stands(t, "with power", a, 2, 0, 1, 2)
	cut("behind the newest", 0, bare(1, 1), 2, 0, 2, 2)
	cut("while block 0 is erased", 0, bare(1, 1), 2, 0, 2, 2)
	cut("behind that", 1, bare(1, 1), 1, 1, 2, 2)
	cut("behind that, once more", 1, bare(1, 1), 1, 2, 2, 2)
	saves(t, "with power", a, bare(2, 1))
	stands(t, "with power", a, 1, 3, 2, 2)
	keeps(t, "the one ahead", a, 1, 0, bare(1, 1))
}

// plain are the admin's blocks as the document tells them: of each page its ledger's Gen and Epochs, or that it can't be read.
type plain struct {
	pages  int
	rows   [2][]cell
	budget int
	gone   bool
}

// cell is a page that isn't blank.
type cell struct {
	reads       bool
	gen, epochs int
}

// spend is an operation: 0 is whole, 1 torn, 2 none.
func (p *plain) spend() int {
	if p.gone {
		return 2
	}
	if p.budget == 0 {
		p.gone = true
		return 1
	}
	p.budget--
	return 0
}

// erase erases a block.
func (p *plain) erase(at int) bool {
	switch p.spend() {
	case 0:
		p.rows[at] = nil
		return true
	case 1:
		p.rows[at] = make([]cell, p.pages)
	}
	return false
}

// program writes a block's next page.
func (p *plain) program(at int, c cell) bool {
	how := p.spend()
	if how == 1 {
		c = cell{}
	}
	if how != 2 {
		p.rows[at] = append(p.rows[at], c)
	}
	return how == 0
}

// newest tells whether there is one, in which block, and what it is.
func (p *plain) newest() (bool, int, cell) {
	at, found := 0, cell{}
	for i, row := range p.rows {
		for _, c := range row {
			if c.reads && (!found.reads || c.gen > found.gen) {
				at, found = i, c
			}
		}
	}
	return found.reads, at, found
}

// load is the newest.
func (p *plain) load() (api.Ledger, api.Errno) {
	if p.gone {
		return api.Ledger{}, api.ErrCut
	}
	_, _, found := p.newest()
	return bare(found.gen, found.epochs), api.OK
}

// save keeps one more.
func (p *plain) save(gen, epochs int) api.Errno {
	there, at, found := p.newest()
	switch {
	case p.gone:
		return api.ErrCut
	case gen < 0 || epochs < 0:
		return api.ErrForm
	case there && gen <= found.gen || !there && gen <= 0:
		return api.ErrForm
	}
	if len(p.rows[at]) == p.pages {
		at = 1 - at
		if len(p.rows[at]) > 0 && !p.erase(at) {
			return api.ErrCut
		}
	}
	if !p.program(at, cell{true, gen, epochs}) {
		return api.ErrCut
	}
	return api.OK
}

// TestManyRows holds rows of calls, in which none tells the next, against the plain telling.
func TestManyRows(t *testing.T) {
	r := &numbers{7}
	for range 400 {
		pages := 2 + r.below(4)
		a, p := made(t, twelve(pages)), &plain{pages: pages, budget: math.MaxInt}
		for i := range 150 {
			block := r.below(2)
			c := cell{r.below(3) > 0, r.below(1 + i), r.below(1000)}
			switch r.below(12) {
			case 0: // a page that Save didn't write
				if len(p.rows[block]) == pages {
					break
				}
				data := "no ledger"
				if c.reads {
					data = bytesOf(t, a, bare(c.gen, c.epochs))
				}
				a.Program(r.below(8)+api.Admin, block, a.Next(block), nil, data)
				p.program(block, c)
			case 1:
				if r.below(6) == 0 {
					a.Erase(api.Admin, block)
					p.erase(block)
				}
			case 2, 3:
				p.budget, p.gone = r.below(20), false
				a.power.Back(p.budget)
			default:
				gen := c.gen - 1
				if _, _, found := p.newest(); r.below(4) > 0 {
					gen = found.gen + r.below(3)
				}
				is(t, "Save", Save(a.Nand, bare(gen, c.epochs)), p.save(gen, c.epochs))
			}
			holds(t, a, p)
		}
		if t.Failed() {
			return
		}
	}
}

// holds holds what is told of the admin's blocks against the plain telling.
func holds(t *testing.T, a array, p *plain) {
	t.Helper()
	l, err := Load(a.Nand)
	want, wantErr := p.load()
	if !reflect.DeepEqual(l, want) || err != wantErr {
		t.Errorf("Load is %+v, error %d; want %+v, error %d", l, err, want, wantErr)
	}
	if a.Next(0) != len(p.rows[0]) || a.Next(1) != len(p.rows[1]) {
		t.Errorf("the next pages are %d, %d, want %d, %d", a.Next(0), a.Next(1), len(p.rows[0]), len(p.rows[1]))
	}
}
