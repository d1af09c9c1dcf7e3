package house

import (
	"math"
	"reflect"
	"slices"
	"strings"
	"testing"

	"almshouse/adlog"
	"almshouse/api"
	"almshouse/store"
	"almshouse/tag"
)

// numbers are about all limits.
var numbers = []int{math.MinInt, -1 << 32, -65, -1, 0, 1, 2, 3, 4, 5, 8, 9, 63, 64, 65, 1<<32 + 1, math.MaxInt}

// nobodies are no tenants.
var nobodies = []int{math.MinInt, -1 << 32, -1, api.Tenants, api.Admin, 5, 64, 1<<32 + 1, math.MaxInt}

// geometry is of so many blocks, on two channels if they are even.
func geometry(blocks, pages int) api.Geometry {
	if blocks%2 == 0 {
		return api.Geometry{Channels: 2, Dies: 1, Blocks: blocks / 2, Pages: pages}
	}
	return api.Geometry{Channels: blocks, Dies: 1, Blocks: 1, Pages: pages}
}

// is holds an error against the one that is to be.
func is(t *testing.T, what string, got, want api.Errno) {
	t.Helper()
	if got != want {
		t.Fatalf("%s: error %d, want %d", what, got, want)
	}
}

// madeOf is a house of a setup.
func madeOf(t *testing.T, s api.Setup) *House {
	t.Helper()
	h, err := New(s)
	is(t, "New", err, api.OK)
	if h == nil {
		t.Fatal("no house")
	}
	return h
}

// made is a house of so many blocks and pages; of the tenants' operations these fail.
func made(t *testing.T, blocks, pages int, faults ...[]int) *House {
	t.Helper()
	s := api.Setup{Geometry: geometry(blocks, pages)}
	copy(s.Faults[:], faults)
	return madeOf(t, s)
}

// creates makes a tenant.
func creates(t *testing.T, h *House, who, size, spare int) {
	t.Helper()
	is(t, "Create", h.Create(who, size, spare), api.OK)
}

// submits lets commands wait.
func submits(t *testing.T, h *House, who int, row ...api.Command) {
	t.Helper()
	for _, c := range row {
		is(t, "Submit", h.Submit(who, c), api.OK)
	}
}

func read(place int) api.Command { return api.Command{Op: api.OpRead, Place: place} }

func write(place int, data string) api.Command {
	return api.Command{Op: api.OpWrite, Place: place, Data: data}
}

func trim(place int) api.Command { return api.Command{Op: api.OpTrim, Place: place} }

func flush() api.Command { return api.Command{Op: api.OpFlush} }

// runs has commands be done, each in the tenant's next slot, and answers what came of the last one.
func runs(t *testing.T, h *House, who int, row ...api.Command) api.Done {
	t.Helper()
	for _, c := range row {
		submits(t, h, who, c)
		for h.Slots()%api.Tenants != who {
			h.Slot()
		}
		if !h.Slot() {
			t.Fatalf("tenant %d has nothing done of %+v", who, c)
		}
	}
	all := h.Done(who)
	return all[len(all)-1]
}

// writes writes places, and flushes them.
func writes(t *testing.T, h *House, who int, row ...string) {
	t.Helper()
	for place, data := range row {
		is(t, "a write", runs(t, h, who, write(place, data)).Status, api.OK)
	}
	is(t, "a flush", runs(t, h, who, flush()).Status, api.OK)
}

// has asks what a tenant's places are, all of them.
func has(t *testing.T, h *House, who int, want ...string) {
	t.Helper()
	for place, data := range want {
		if got, err := h.Peek(who, place); got != data || err != api.OK {
			t.Fatalf("Peek(%d, %d) is %q, error %d; want %q", who, place, got, err, data)
		}
	}
	if got, err := h.Peek(who, len(want)); got != "" || err != api.ErrRange {
		t.Fatalf("Peek(%d, %d) is %q, error %d; want error %d", who, len(want), got, err, api.ErrRange)
	}
}

// stat is what is told of a tenant that is there.
func stat(t *testing.T, h *House, who int) api.Stat {
	t.Helper()
	s, err := h.Stat(who)
	is(t, "Stat", err, api.OK)
	return s
}

// blocks are a tenant's.
func blocks(h *House, who int) []int { return h.Ledger().Tenants[who].Blocks }

// owns asks which blocks a tenant has.
func owns(t *testing.T, h *House, who int, want ...int) {
	t.Helper()
	if got := blocks(h, who); !slices.Equal(got, want) {
		t.Fatalf("tenant %d has the blocks %v, want %v", who, got, want)
	}
}

// plainly makes of empty rows none, so that ledgers are held against each other wholly.
func plainly(l api.Ledger) api.Ledger {
	for i, e := range l.Tenants {
		l.Tenants[i].Blocks = append([]int(nil), e.Blocks...)
	}
	return l
}

// same asks whether ledgers are.
func same(a, b api.Ledger) bool { return reflect.DeepEqual(plainly(a), plainly(b)) }

// state is all that is told of a house.
type state struct {
	up     bool
	slots  int
	ops    int
	ledger api.Ledger
	done   [api.Tenants][]api.Done
	stats  [api.Tenants]api.Stat
	places [api.Tenants][]string
	bad    []bool
	next   []int
}

// stateOf is a house's.
func stateOf(h *House) state {
	x := state{up: h.Up(), slots: h.Slots(), ops: h.Ops(), ledger: plainly(h.Ledger())}
	for who := range api.Tenants {
		x.done[who] = h.Done(who)
		x.stats[who], _ = h.Stat(who)
		for place := range x.stats[who].Size {
			data, _ := h.Peek(who, place)
			x.places[who] = append(x.places[who], data)
		}
	}
	for block := range h.Array().Blocks() {
		x.bad = append(x.bad, h.Array().Bad(block))
		x.next = append(x.next, h.Array().Next(block))
	}
	return x
}

// unchanged asks whether nothing became of a call.
func unchanged(t *testing.T, what string, h *House, was state) {
	t.Helper()
	if now := stateOf(h); !reflect.DeepEqual(now, was) {
		t.Fatalf("%s: the house is %+v, was %+v", what, now, was)
	}
}

// holds has a ledger be kept that the house doesn't make, and mounts it.
func holds(t *testing.T, h *House, l api.Ledger) {
	t.Helper()
	is(t, "Save", adlog.Save(h.Array(), l), api.OK)
	h.Cut()
	is(t, "Mount", h.Mount(-1), api.OK)
	if !same(h.Ledger(), l) {
		t.Fatalf("the ledger is %+v, want %+v", h.Ledger(), l)
	}
}

// P21.1: New

// many are n faults, from first on.
func many(first, n int) []int {
	var f []int
	for i := range n {
		f = append(f, first+i)
	}
	return f
}

func TestNoHouse(t *testing.T) {
	good := geometry(8, 4)
	none := api.Geometry{}
	faults := func(row ...int) [api.Tenants][]int { return [api.Tenants][]int{1: {1}, 2: row} }
	for _, c := range []struct {
		s    api.Setup
		want api.Errno
	}{
		{api.Setup{Geometry: good, Faults: faults(many(1, 65)...)}, api.ErrMany},
		{api.Setup{Geometry: good, Faults: faults(3, 0)}, api.ErrRange},
		{api.Setup{Geometry: good, Faults: faults(-1)}, api.ErrRange},
		{api.Setup{Geometry: none}, api.ErrArg},
		{api.Setup{Geometry: geometry(2, 4)}, api.ErrArg},
		{api.Setup{Geometry: geometry(8, 1)}, api.ErrArg},
		{api.Setup{Geometry: geometry(8, 17)}, api.ErrMany},
		{api.Setup{Geometry: geometry(66, 4)}, api.ErrMany},
		{api.Setup{Geometry: geometry(65, 4)}, api.ErrMany},
		{api.Setup{Geometry: good, Marked: []int{0}}, api.ErrRange},
		{api.Setup{Geometry: good, Marked: []int{1}}, api.ErrRange},
		{api.Setup{Geometry: good, Marked: []int{2, 8}}, api.ErrRange},
		{api.Setup{Geometry: good, Marked: []int{-1}}, api.ErrRange},
		// the faults are told first, then the geometry
		{api.Setup{Geometry: none, Faults: faults(many(1, 65)...), Marked: []int{0}}, api.ErrMany},
		{api.Setup{Geometry: none, Faults: faults(0), Marked: []int{0}}, api.ErrRange},
		{api.Setup{Geometry: none, Marked: []int{0}}, api.ErrArg},
		{api.Setup{}, api.ErrArg},
	} {
		if h, err := New(c.s); h != nil || err != c.want {
			t.Errorf("New(%+v) is a house: %t, error %d; want error %d", c.s, h != nil, err, c.want)
		}
	}
}

func TestNewHouse(t *testing.T) {
	h := madeOf(t, api.Setup{Geometry: geometry(9, 3), Marked: []int{5, 8, 5}})
	if !h.Up() || h.Slots() != 0 || h.Ops() != 0 || !same(h.Ledger(), api.Ledger{}) {
		t.Errorf("a new house: up %t, %d slots, %d operations, ledger %+v", h.Up(), h.Slots(), h.Ops(), h.Ledger())
	}
	for who := range api.Tenants {
		if h.Done(who) != nil {
			t.Errorf("tenant %d did %+v", who, h.Done(who))
		}
		s, err := h.Stat(who)
		if s != (api.Stat{}) || err != api.ErrNone {
			t.Errorf("Stat(%d) is %+v, error %d", who, s, err)
		}
	}
	n := h.Array()
	if n.Geometry() != geometry(9, 3) || n.Blocks() != 9 || n != h.Array() {
		t.Errorf("the array is %+v", n.Geometry())
	}
	for block := range 9 {
		if n.Bad(block) != (block == 5 || block == 8) || !n.Blank(block) || n.Erases(block) != 0 {
			t.Errorf("block %d: bad %t, blank %t", block, n.Bad(block), n.Blank(block))
		}
	}
}

// TestPowerLasts works for long, without a budget.
func TestPowerLasts(t *testing.T) {
	h := made(t, 8, 4)
	creates(t, h, 0, 4, 0)
	for range 5000 {
		is(t, "a write", runs(t, h, 0, write(1, "a")).Status, api.OK)
	}
	if !h.Up() || h.Ops() < 5000 {
		t.Errorf("up %t, behind %d operations", h.Up(), h.Ops())
	}
}

// TestSmallestArrays have no room for a tenant, or for one.
func TestSmallestArrays(t *testing.T) {
	h := made(t, 3, 2)
	is(t, "Create of 3 blocks", h.Create(0, 1, 0), api.ErrFull)
	h.Cut()
	is(t, "Mount", h.Mount(0), api.OK)
	h = made(t, 4, 2)
	is(t, "a spare block too many", h.Create(0, 1, 1), api.ErrFull)
	is(t, "a place too many", h.Create(0, 2, 0), api.ErrFull)
	is(t, "Create", h.Create(0, 1, 0), api.OK)
	is(t, "one more", h.Create(1, 1, 0), api.ErrFull)
	writes(t, h, 0, "a")
	has(t, h, 0, "a")
}

// TestSetupIsNotKept changes what was handed in.
func TestSetupIsNotKept(t *testing.T) {
	row, marked := []int{3, 4}, []int{4}
	h := madeOf(t, api.Setup{Geometry: geometry(8, 4), Faults: [api.Tenants][]int{row}, Marked: marked})
	row[0], row[1], marked[0] = 1, 2, 5
	if h.Array().Bad(5) || !h.Array().Bad(4) {
		t.Error("other blocks are marked")
	}
	creates(t, h, 0, 2, 0)
	writes(t, h, 0, "a", "b")
	if x := stat(t, h, 0); x.Ops != 2 || x.Faults != 0 {
		t.Errorf("%d operations, %d failed", x.Ops, x.Faults)
	}
}

// P21.1: Create

// TestCreateAsks asks for all kinds of tenants, ahead of and behind others.
func TestCreateAsks(t *testing.T) {
	for _, there := range [][]int{nil, {1}, {0, 3}} {
		for _, who := range append([]int{0, 1, 2, 3}, nobodies...) {
			for _, size := range numbers {
				for _, spare := range numbers {
					h := made(t, 14, 4)
					for _, other := range there {
						creates(t, h, other, 3, 0)
					}
					was := stateOf(h)
					want := api.OK
					switch {
					case who < 0 || who > 3:
						want = api.ErrRange
					case slices.Contains(there, who):
						want = api.ErrTwice
					case size < 1 || size > 64 || spare < 0 || spare > 8:
						want = api.ErrRange
					case 12-2*len(there) < size/4+2+spare:
						want = api.ErrFull
					}
					if err := h.Create(who, size, spare); err != want {
						t.Fatalf("beside %v: Create(%d, %d, %d) is %d, want %d", there, who, size, spare, err, want)
					}
					if want != api.OK {
						unchanged(t, "Create", h, was)
						continue
					}
					if x := stat(t, h, who); x != (api.Stat{Size: size, Spare: spare, Blocks: size/4 + 2 + spare, Free: size/4 + 2 + spare}) {
						t.Fatalf("Create(%d, %d, %d): %+v", who, size, spare, x)
					}
					has(t, h, who, make([]string, size)...)
				}
			}
		}
	}
}

// TestGranted asks which blocks are granted, in which order, and which are erased.
func TestGranted(t *testing.T) {
	h := madeOf(t, api.Setup{Geometry: geometry(16, 4), Marked: []int{3, 6}})
	creates(t, h, 2, 5, 1)
	owns(t, h, 2, 2, 4, 5, 7)
	creates(t, h, 0, 1, 0)
	owns(t, h, 0, 8, 9)
	if want := (api.Ledger{Gen: 2, Epochs: 2, Tenants: [api.Tenants]api.Tenant{
		0: {There: true, Epoch: 2, Size: 1, Blocks: []int{8, 9}},
		2: {There: true, Epoch: 1, Size: 5, Spare: 1, Blocks: []int{2, 4, 5, 7}},
	}}); !same(h.Ledger(), want) {
		t.Errorf("the ledger is %+v, want %+v", h.Ledger(), want)
	}
	if h.Ops() != 2 {
		t.Errorf("%d operations: blank blocks are erased", h.Ops())
	}
	writes(t, h, 2, "a", "b", "c", "d", "e") // into the blocks 2 and 4
	is(t, "Destroy", h.Destroy(2), api.OK)
	if h.Array().Blank(2) || h.Array().Blank(4) {
		t.Error("blocks are erased that nobody was granted")
	}
	ops := h.Ops()
	creates(t, h, 1, 4, 0)
	owns(t, h, 1, 2, 4, 5)
	if h.Ops() != ops+3 || h.Array().Erases(2) != 1 || h.Array().Erases(4) != 1 || h.Array().Erases(5) != 0 {
		t.Errorf("%d operations; erased %d, %d, %d times", h.Ops()-ops, h.Array().Erases(2), h.Array().Erases(4), h.Array().Erases(5))
	}
	for _, block := range blocks(h, 1) {
		if !h.Array().Blank(block) {
			t.Errorf("block %d isn't blank", block)
		}
	}
	has(t, h, 1, "", "", "", "")
	if x := stat(t, h, 1); x.Ops != 0 {
		t.Errorf("%d operations of the tenant's: it is the admin who erases", x.Ops)
	}
}

// TestGrantedTorn grants a block whose pages are torn, and one with what nobody can read.
func TestGrantedTorn(t *testing.T) {
	h := made(t, 8, 4, []int{1})
	creates(t, h, 0, 1, 0)
	runs(t, h, 0, write(0, "a"), flush())
	if !stat(t, h, 0).ReadOnly {
		t.Fatal("not to be read only")
	}
	is(t, "Destroy", h.Destroy(0), api.OK)
	is(t, "a page", h.Array().Program(api.Admin, 3, 0, []byte("?"), "?"), api.OK)
	creates(t, h, 0, 1, 0)
	owns(t, h, 0, 2, 3)
	if !h.Array().Blank(2) || !h.Array().Blank(3) || stat(t, h, 0).ReadOnly {
		t.Error("not blank, or to be read only")
	}
	writes(t, h, 0, "b")
	has(t, h, 0, "b")
}

// TestMarkedIsNotGranted marks blocks while the house is up.
func TestMarkedIsNotGranted(t *testing.T) {
	h := made(t, 8, 4, []int{1})
	creates(t, h, 0, 1, 1)
	writes(t, h, 0, "a")
	if x := stat(t, h, 0); x.Bad != 1 || !h.Array().Bad(2) {
		t.Fatalf("%+v; block 2 is marked: %t", x, h.Array().Bad(2))
	}
	is(t, "Destroy", h.Destroy(0), api.OK)
	is(t, "Mark", h.Array().Mark(4), api.OK)
	is(t, "one block too many", h.Create(1, 4, 2), api.ErrFull)
	creates(t, h, 1, 4, 1)
	owns(t, h, 1, 3, 5, 6, 7)
}

// TestCreatedAnew asks what is left of a tenant when one of its number comes.
func TestCreatedAnew(t *testing.T) {
	h := made(t, 12, 4)
	creates(t, h, 1, 4, 0)
	writes(t, h, 1, "a", "b", "c", "d")
	submits(t, h, 1, write(0, "x"), flush())
	did := h.Done(1)
	is(t, "Destroy", h.Destroy(1), api.OK)
	creates(t, h, 2, 1, 0) // another one doesn't matter
	is(t, "no room", h.Create(1, 64, 8), api.ErrFull)
	if !slices.Equal(h.Done(1), did) || len(did) != 5 {
		t.Errorf("it did %+v, want %+v", h.Done(1), did)
	}
	creates(t, h, 1, 4, 0)
	if h.Done(1) != nil || stat(t, h, 1).Waiting != 0 || h.Ledger().Tenants[1].Epoch != 3 {
		t.Errorf("a new one did %+v; %+v", h.Done(1), h.Ledger().Tenants[1])
	}
	has(t, h, 1, "", "", "", "")
	for range 8 {
		if h.Slot() {
			t.Error("something is done")
		}
	}
}

// P21.1: Destroy

func TestDestroyAsks(t *testing.T) {
	h := made(t, 8, 4)
	creates(t, h, 2, 3, 0)
	was := stateOf(h)
	for _, who := range nobodies {
		is(t, "Destroy of no tenant", h.Destroy(who), api.ErrRange)
	}
	for _, who := range []int{0, 1, 3} {
		is(t, "Destroy of who isn't there", h.Destroy(who), api.ErrNone)
	}
	unchanged(t, "Destroy", h, was)
	is(t, "Destroy", h.Destroy(2), api.OK)
	is(t, "Destroy, twice", h.Destroy(2), api.ErrNone)
}

func TestDestroyed(t *testing.T) {
	h := made(t, 12, 4)
	creates(t, h, 0, 4, 0)
	creates(t, h, 1, 4, 0)
	writes(t, h, 0, "a", "b", "c", "d")
	writes(t, h, 1, "e", "f", "g", "h")
	submits(t, h, 0, write(0, "x"))
	submits(t, h, 1, read(2))
	did, ops := h.Done(0), h.Ops()
	is(t, "Destroy", h.Destroy(0), api.OK)
	if h.Ops() != ops+1 {
		t.Errorf("%d operations, want one", h.Ops()-ops)
	}
	if want := (api.Ledger{Gen: 3, Epochs: 2, Tenants: [api.Tenants]api.Tenant{
		1: {There: true, Epoch: 2, Size: 4, Blocks: []int{5, 6, 7}},
	}}); !same(h.Ledger(), want) {
		t.Errorf("the ledger is %+v, want %+v", h.Ledger(), want)
	}
	if !slices.Equal(h.Done(0), did) || len(did) != 5 {
		t.Errorf("it did %+v, want %+v", h.Done(0), did)
	}
	is(t, "Submit", h.Submit(0, read(0)), api.ErrNone)
	if s, err := h.Stat(0); s != (api.Stat{}) || err != api.ErrNone {
		t.Errorf("Stat is %+v, error %d", s, err)
	}
	if data, err := h.Peek(0, 0); data != "" || err != api.ErrNone {
		t.Errorf("Peek is %q, error %d", data, err)
	}
	done := 0
	for range 8 {
		if h.Slot() {
			done++
		}
	}
	if all := h.Done(1); done != 1 || len(all) != 6 || all[5].Data != "g" || len(h.Done(0)) != 5 {
		t.Errorf("%d commands are done; the other one did %+v", done, all)
	}
	h.Cut()
	is(t, "Mount", h.Mount(-1), api.OK)
	has(t, h, 1, "e", "f", "g", "h")
	if !slices.Equal(h.Done(0), did) || h.Ledger().Tenants[0].There {
		t.Error("it is there again")
	}
}

// P21.1: Resize

func TestResizeAsks(t *testing.T) {
	for _, size := range numbers {
		for _, spare := range []int{0, 2} {
			h := made(t, 16, 4)
			creates(t, h, 1, 9, spare)
			creates(t, h, 3, 3, 0)
			runs(t, h, 1, write(8, "a"))
			submits(t, h, 1, read(8))
			was := stateOf(h)
			for _, who := range nobodies {
				is(t, "Resize of no tenant", h.Resize(who, size), api.ErrRange)
			}
			for _, who := range []int{0, 2} {
				is(t, "Resize of who isn't there", h.Resize(who, size), api.ErrNone)
			}
			want := api.OK
			switch {
			case size < 1 || size > 64:
				want = api.ErrRange
			case size/4 > 9/4+(12-4-spare):
				want = api.ErrFull
			}
			unchanged(t, "Resize", h, was)
			is(t, "Resize", h.Resize(1, size), want)
			if want != api.OK {
				unchanged(t, "Resize", h, was) // it isn't flushed, either
				continue
			}
			if x := stat(t, h, 1); x.Size != size || x.Blocks != max(9/4, size/4)+2+spare || x.Waiting != 1 || x.Spare != spare {
				t.Errorf("Resize(1, %d): %+v", size, x)
			}
			row := make([]string, max(9, size))
			row[8] = "a"
			has(t, h, 1, row[:size]...)
		}
	}
}

// TestResizedUp gives more places, and blocks behind those that were there.
func TestResizedUp(t *testing.T) {
	h := made(t, 20, 4)
	creates(t, h, 0, 5, 1)
	creates(t, h, 1, 4, 0)
	writes(t, h, 1, "p", "q", "r", "s")
	is(t, "Destroy", h.Destroy(1), api.OK) // its block 6 isn't blank
	runs(t, h, 0, write(0, "a"), write(4, "b"))
	ops, own := h.Ops(), stat(t, h, 0).Ops
	is(t, "Resize", h.Resize(0, 15), api.OK)
	owns(t, h, 0, 2, 3, 4, 5, 6, 7)
	if x := stat(t, h, 0); x != (api.Stat{Size: 15, Spare: 1, Blocks: 6, Ops: own + 2, Free: 5}) {
		t.Errorf("%+v", x)
	}
	// two pages, an erasing, the ledger
	if h.Ops() != ops+4 || h.Array().Erases(6) != 1 || !h.Array().Blank(6) || !h.Array().Blank(7) {
		t.Errorf("%d operations; block 6 was erased %d times", h.Ops()-ops, h.Array().Erases(6))
	}
	if l := h.Ledger(); l.Gen != 4 || l.Epochs != 2 || l.Tenants[0].Epoch != 1 || l.Tenants[0].Size != 15 || l.Tenants[0].Spare != 1 {
		t.Errorf("the ledger is %+v", l)
	}
	want := make([]string, 15)
	want[0], want[4] = "a", "b"
	has(t, h, 0, want...)
	for place := range 15 {
		want[place] = string(rune('A' + place))
	}
	for range 5 {
		writes(t, h, 0, want...)
	}
	has(t, h, 0, want...)
	h.Cut()
	is(t, "Mount", h.Mount(-1), api.OK)
	has(t, h, 0, want...)
}

// TestResizedDown takes places away; when they come again, they are empty.
func TestResizedDown(t *testing.T) {
	h := made(t, 12, 4)
	creates(t, h, 0, 8, 0)
	writes(t, h, 0, "a", "b", "c", "d", "e", "f", "g", "h")
	runs(t, h, 0, write(1, "B"), write(6, "G"))
	is(t, "Resize to less", h.Resize(0, 3), api.OK)
	owns(t, h, 0, 2, 3, 4, 5)
	if x := stat(t, h, 0); x.Size != 3 || x.Waiting != 0 {
		t.Errorf("%+v", x)
	}
	has(t, h, 0, "a", "B", "c")
	h.Cut()
	is(t, "Mount", h.Mount(-1), api.OK)
	has(t, h, 0, "a", "B", "c")
	is(t, "Resize to more", h.Resize(0, 8), api.OK)
	owns(t, h, 0, 2, 3, 4, 5)
	has(t, h, 0, "a", "B", "c", "", "", "", "", "")
	for range 2 {
		h.Cut()
		is(t, "Mount", h.Mount(-1), api.OK)
		has(t, h, 0, "a", "B", "c", "", "", "", "", "")
	}
	is(t, "Resize to far more", h.Resize(0, 12), api.OK)
	owns(t, h, 0, 2, 3, 4, 5, 6)
}

// TestResizedToTheSame flushes, and keeps a ledger, nothing else.
func TestResizedToTheSame(t *testing.T) {
	h := made(t, 12, 4)
	creates(t, h, 2, 5, 0)
	runs(t, h, 2, write(0, "a"), write(4, "b"))
	submits(t, h, 2, read(4))
	ops, did := h.Ops(), h.Done(2)
	is(t, "Resize", h.Resize(2, 5), api.OK)
	if x := stat(t, h, 2); x != (api.Stat{Size: 5, Blocks: 3, Ops: 2, Free: 2, Waiting: 1}) || h.Ops() != ops+3 || h.Ledger().Gen != 2 {
		t.Errorf("%+v; %d operations, Gen %d", x, h.Ops()-ops, h.Ledger().Gen)
	}
	if !slices.Equal(h.Done(2), did) {
		t.Errorf("it did %+v, want %+v", h.Done(2), did)
	}
	h.Cut()
	is(t, "Mount", h.Mount(-1), api.OK)
	has(t, h, 2, "a", "", "", "", "b")
}

// TestPurgedForMore asks when pages of places that are gone are collected: only where there are to be more places.
func TestPurgedForMore(t *testing.T) {
	h := made(t, 12, 4)
	creates(t, h, 0, 8, 0)
	writes(t, h, 0, "a", "b", "c", "d", "e", "f", "g", "h")
	for _, size := range []int{5, 5, 3, 3, 2} {
		ops := h.Ops()
		is(t, "Resize", h.Resize(0, size), api.OK)
		if h.Ops() != ops+1 {
			t.Errorf("Resize(0, %d): %d operations, want one", size, h.Ops()-ops)
		}
	}
	ops, own := h.Ops(), stat(t, h, 0).Ops
	is(t, "Resize", h.Resize(0, 3), api.OK)
	// two pages are copied, two blocks erased
	if stat(t, h, 0).Ops != own+4 || h.Ops() != ops+5 {
		t.Errorf("%d operations", h.Ops()-ops)
	}
	has(t, h, 0, "a", "b", "")
}

// TestResizeReadOnly asks for it of a store that is to be read only, ahead of there being no room.
func TestResizeReadOnly(t *testing.T) {
	h := made(t, 8, 4, []int{1})
	creates(t, h, 0, 4, 0)
	runs(t, h, 0, write(0, "a"), write(1, "b"), flush())
	was := stateOf(h)
	for _, size := range []int{1, 4, 5, 8, 64} {
		is(t, "Resize", h.Resize(0, size), api.ErrRead)
	}
	for _, size := range []int{-1, 0, 65} {
		is(t, "Resize to no size", h.Resize(0, size), api.ErrRange)
	}
	unchanged(t, "Resize", h, was)
	has(t, h, 0, "a", "b", "", "")
}

// TestResizeFails has the flush fail, or the purge, and the store be to be read only by it.
func TestResizeFails(t *testing.T) {
	h := made(t, 8, 4, []int{2}, []int{5})
	creates(t, h, 0, 4, 0)
	runs(t, h, 0, write(0, "a"), write(1, "b"), write(2, "c"))
	l := h.Ledger()
	is(t, "its flush fails", h.Resize(0, 2), api.ErrRead)
	if x := stat(t, h, 0); !x.ReadOnly || x.Size != 4 || x.Waiting != 2 || x.Faults != 1 {
		t.Errorf("%+v", x)
	}
	has(t, h, 0, "a", "b", "c", "")
	creates(t, h, 1, 3, 0)
	owns(t, h, 1, 5, 6)
	writes(t, h, 1, "d", "e", "f")
	is(t, "Resize to less", h.Resize(1, 2), api.OK)
	l = h.Ledger()
	is(t, "its purge fails", h.Resize(1, 3), api.ErrRead)
	if x := stat(t, h, 1); !x.ReadOnly || x.Size != 2 || x.Blocks != 2 {
		t.Errorf("%+v", x)
	}
	has(t, h, 1, "d", "e")
	if !same(h.Ledger(), l) {
		t.Errorf("the ledger is %+v, want %+v", h.Ledger(), l)
	}
}

// TestGrantedBehindFlush has the flush of one fail, and the power go in that of another one: no block is erased yet.
func TestGrantedBehindFlush(t *testing.T) {
	h := made(t, 16, 4, []int{2})
	for who := range 3 {
		creates(t, h, who, 3, 0)
	}
	writes(t, h, 2, "x")
	is(t, "Destroy", h.Destroy(2), api.OK)
	for who := range 2 {
		runs(t, h, who, write(0, "a"), write(1, "b"))
	}
	is(t, "its flush fails", h.Resize(0, 4), api.ErrRead)
	if h.Array().Next(6) != 1 {
		t.Error("block 6 is erased")
	}
	h.Budget(1)
	is(t, "without power", h.Resize(1, 4), api.ErrCut)
	is(t, "Mount", h.Mount(-1), api.OK)
	if h.Array().Next(6) != 1 {
		t.Error("block 6 is erased")
	}
	has(t, h, 1, "a", "", "")
	is(t, "Resize", h.Resize(1, 4), api.OK)
	owns(t, h, 1, 4, 5, 6)
}

// TestFullIsAskedFirst asks for more room than there is: nothing is flushed.
func TestFullIsAskedFirst(t *testing.T) {
	h := made(t, 8, 4)
	creates(t, h, 0, 4, 0)
	creates(t, h, 1, 1, 0)
	runs(t, h, 0, write(0, "a"), write(1, "b"))
	was := stateOf(h)
	is(t, "two blocks more", h.Resize(0, 12), api.ErrFull)
	unchanged(t, "Resize", h, was)
	is(t, "one block more", h.Resize(0, 11), api.OK)
	owns(t, h, 0, 2, 3, 4, 7)
	is(t, "to less", h.Resize(0, 1), api.OK)
	owns(t, h, 0, 2, 3, 4, 7)
	is(t, "one block more", h.Resize(1, 4), api.ErrFull)
	is(t, "no block more", h.Resize(1, 3), api.OK)
	is(t, "as it was", h.Resize(0, 11), api.OK)
}

// P21.1: Swap

func TestSwapAsks(t *testing.T) {
	h := made(t, 16, 4)
	creates(t, h, 0, 3, 0)
	creates(t, h, 2, 3, 0)
	was := stateOf(h)
	all := append([]int{0, 1, 2, 3}, nobodies...)
	wrong := func(who int) api.Errno {
		switch {
		case who < 0 || who > 3:
			return api.ErrRange
		case who == 1 || who == 3:
			return api.ErrNone
		}
		return api.OK
	}
	for _, a := range all {
		for _, b := range all {
			want := wrong(a)
			if want == api.OK {
				want = wrong(b)
			}
			if want == api.OK && a == b {
				want = api.ErrArg
			}
			if want == api.OK {
				continue
			}
			if err := h.Swap(a, b); err != want {
				t.Errorf("Swap(%d, %d) is %d, want %d", a, b, err, want)
			}
		}
	}
	unchanged(t, "Swap", h, was)
}

func TestSwapped(t *testing.T) {
	h := made(t, 16, 4)
	creates(t, h, 0, 5, 0)
	creates(t, h, 3, 6, 1)
	writes(t, h, 0, "a", "b", "c", "d", "e") // into the first two blocks
	writes(t, h, 3, "f", "g")
	owns(t, h, 0, 2, 3, 4)
	owns(t, h, 3, 5, 6, 7, 8)
	runs(t, h, 0, write(1, "B"))
	submits(t, h, 3, read(0), read(1))
	ops := h.Ops()
	is(t, "Swap", h.Swap(0, 3), api.OK)
	owns(t, h, 0, 2, 3, 6)
	owns(t, h, 3, 5, 4, 7, 8)
	if l := h.Ledger(); h.Ops() != ops+1 || l.Gen != 3 || l.Epochs != 2 {
		t.Errorf("%d operations, Gen %d, Epochs %d", h.Ops()-ops, l.Gen, l.Epochs)
	}
	has(t, h, 0, "a", "B", "c", "d", "e")
	has(t, h, 3, "f", "g", "", "", "", "")
	if x := stat(t, h, 0); x.Waiting != 1 || x.Free != 1 || x.Blocks != 3 {
		t.Errorf("%+v", x)
	}
	if x := stat(t, h, 3); x.Waiting != 2 || x.Free != 3 || x.Blocks != 4 {
		t.Errorf("%+v", x)
	}
	// each writes into its own block
	for range 3 {
		writes(t, h, 0, "A", "B", "C", "D", "E")
		writes(t, h, 3, "F", "G", "H", "I", "J", "K")
		has(t, h, 0, "A", "B", "C", "D", "E")
		has(t, h, 3, "F", "G", "H", "I", "J", "K")
	}
	h.Cut()
	is(t, "Mount", h.Mount(-1), api.OK)
	has(t, h, 0, "A", "B", "C", "D", "E")
	has(t, h, 3, "F", "G", "H", "I", "J", "K")
}

// TestSwapOfBlankFront has one's front be blank: it is no free block.
func TestSwapOfBlankFront(t *testing.T) {
	h := made(t, 16, 4)
	creates(t, h, 0, 5, 0)
	creates(t, h, 1, 3, 0)
	for range 2 {
		is(t, "a write", runs(t, h, 0, write(4, "a")).Status, api.OK)
		is(t, "Resize to less", h.Resize(0, 4), api.OK)
		is(t, "Resize to more", h.Resize(0, 5), api.OK) // what is collected needs no page
	}
	if x := stat(t, h, 0); x.Free != 2 || !h.Array().Blank(2) || !h.Array().Blank(3) || !h.Array().Blank(4) {
		t.Fatalf("%+v", x)
	}
	is(t, "Swap", h.Swap(0, 1), api.OK)
	owns(t, h, 0, 2, 5, 4)
	owns(t, h, 1, 3, 6)
	writes(t, h, 0, "a", "b")
	if h.Array().Next(2) != 2 {
		t.Error("the front is another block")
	}
}

func TestSwapReadOnly(t *testing.T) {
	h := made(t, 16, 4, []int{1}, nil, []int{1})
	creates(t, h, 0, 3, 0)
	creates(t, h, 1, 3, 0)
	creates(t, h, 2, 3, 0)
	runs(t, h, 0, write(0, "a"), flush())
	runs(t, h, 2, write(0, "a"), flush())
	was := stateOf(h)
	for _, c := range [][2]int{{0, 1}, {1, 0}, {0, 2}, {2, 0}} {
		is(t, "Swap", h.Swap(c[0], c[1]), api.ErrRead)
	}
	is(t, "Swap with itself", h.Swap(0, 0), api.ErrArg)
	is(t, "Swap with nobody", h.Swap(0, 3), api.ErrNone)
	is(t, "Swap with no tenant", h.Swap(0, 4), api.ErrRange)
	unchanged(t, "Swap", h, was)
}

// TestSwapWithoutFree spoils all blank blocks of one.
func TestSwapWithoutFree(t *testing.T) {
	h := made(t, 16, 4)
	creates(t, h, 0, 3, 0)
	creates(t, h, 1, 3, 0)
	for _, block := range blocks(h, 1) {
		is(t, "a page", h.Array().Program(api.Admin, block, 0, nil, ""), api.OK)
	}
	was := stateOf(h)
	is(t, "Swap", h.Swap(0, 1), api.ErrRead)
	is(t, "Swap", h.Swap(1, 0), api.ErrRead)
	unchanged(t, "Swap", h, was)
}

// TestMany has ledgers that were changed as often as they may be, or have had as many tenants.
func TestMany(t *testing.T) {
	for _, gen := range []int{5, math.MaxInt32} {
		for _, epochs := range []int{5, math.MaxInt32} {
			h := made(t, 8, 4)
			holds(t, h, api.Ledger{Gen: gen, Epochs: epochs, Tenants: [api.Tenants]api.Tenant{
				1: {There: true, Epoch: 3, Size: 3, Blocks: []int{4, 2}},
				2: {There: true, Epoch: 5, Size: 3, Blocks: []int{7, 3}},
			}})
			runs(t, h, 1, write(0, "a"))
			was := stateOf(h)
			if max(gen, epochs) == math.MaxInt32 {
				is(t, "Create", h.Create(0, 3, 0), api.ErrMany)
				is(t, "Create without room", h.Create(0, 64, 8), api.ErrMany)
				is(t, "Create of no room", h.Create(0, 0, 0), api.ErrRange)
				is(t, "Create of who is there", h.Create(1, 3, 0), api.ErrTwice)
			}
			if gen != math.MaxInt32 {
				continue
			}
			is(t, "Destroy", h.Destroy(1), api.ErrMany)
			is(t, "Resize", h.Resize(1, 2), api.ErrMany)
			is(t, "Resize without room", h.Resize(1, 64), api.ErrMany)
			is(t, "Resize to no size", h.Resize(1, 0), api.ErrRange)
			is(t, "Swap", h.Swap(1, 2), api.ErrMany)
			is(t, "Swap with itself", h.Swap(1, 1), api.ErrArg)
			unchanged(t, "all of that", h, was)
		}
	}
}

// P21.1: Submit

func TestSubmitAsks(t *testing.T) {
	h := made(t, 8, 4)
	creates(t, h, 1, 3, 0)
	wrong := []api.Command{{}, {Op: 5}, {Op: -1, Place: 1}, {Op: api.OpRead, Data: "x"}, {Op: api.OpTrim, Data: "x"}, {Op: api.OpFlush, Place: 1}, {Op: api.OpFlush, Data: "x"}}
	right := []api.Command{read(0), write(1, "x"), trim(2), flush(), read(-1), write(64, strings.Repeat("x", 100)), trim(math.MaxInt)}
	was := stateOf(h)
	for _, c := range append(wrong, right...) {
		for _, who := range nobodies {
			is(t, "Submit to no tenant", h.Submit(who, c), api.ErrRange)
		}
		for _, who := range []int{0, 2, 3} {
			is(t, "Submit to who isn't there", h.Submit(who, c), api.ErrNone)
		}
	}
	for _, c := range wrong {
		is(t, "Submit of no command", h.Submit(1, c), api.ErrArg)
	}
	unchanged(t, "Submit", h, was)
	submits(t, h, 1, right...)
	submits(t, h, 1, read(0))
	is(t, "the ninth", h.Submit(1, read(0)), api.ErrFull)
	for _, c := range wrong {
		is(t, "no command", h.Submit(1, c), api.ErrArg)
	}
	if x := stat(t, h, 1); x.Waiting != 8 {
		t.Errorf("%d wait", x.Waiting)
	}
}

// P21.1: Slot

// TestExample is the chapter's.
func TestExample(t *testing.T) {
	for who := range api.Tenants {
		h := made(t, 8, 4)
		creates(t, h, who, 3, 0)
		submits(t, h, who, write(1, "x"))
		for slot := range 8 {
			if h.Slots() != slot {
				t.Errorf("%d slots, want %d", h.Slots(), slot)
			}
			if was := h.Slot(); was != (slot == who) {
				t.Errorf("slot %d: something was done: %t", slot, was)
			}
		}
		if want := []api.Done{{Slot: who}}; !slices.Equal(h.Done(who), want) {
			t.Errorf("it did %+v, want %+v", h.Done(who), want)
		}
		has(t, h, who, "", "x", "")
	}
}

// TestSlotsGoRound has all tenants wait, and one come later.
func TestSlotsGoRound(t *testing.T) {
	h := made(t, 16, 4)
	creates(t, h, 3, 3, 0)
	creates(t, h, 1, 3, 0)
	creates(t, h, 0, 3, 0)
	for who, n := range []int{3, 1, 0, 2} {
		for i := range n {
			submits(t, h, who, write(i, "x"))
		}
	}
	var did []bool
	for range 6 {
		did = append(did, h.Slot())
	}
	creates(t, h, 2, 3, 0)
	submits(t, h, 2, flush())
	for range 8 {
		did = append(did, h.Slot())
	}
	if want := []bool{true, true, false, true, true, false, true, true, true, false, false, false, false, false}; !slices.Equal(did, want) {
		t.Errorf("done %v, want %v", did, want)
	}
	for who, row := range [][]int{{0, 4, 8}, {1}, {6}, {3, 7}} {
		var want []api.Done
		for _, slot := range row {
			want = append(want, api.Done{Slot: slot})
		}
		if !slices.Equal(h.Done(who), want) {
			t.Errorf("tenant %d did %+v, want %+v", who, h.Done(who), want)
		}
	}
}

// TestCommands asks what commands come to.
func TestCommands(t *testing.T) {
	h := made(t, 8, 4)
	creates(t, h, 2, 3, 0)
	long := strings.Repeat("x", 17)
	for i, c := range []struct {
		command api.Command
		want    api.Errno
		data    string
	}{
		{read(0), api.OK, ""},
		{write(0, "a"), api.OK, ""},
		{read(0), api.OK, "a"},
		{write(2, long[1:]), api.OK, ""},
		{read(2), api.OK, long[1:]},
		{write(1, long), api.ErrLong, ""},
		{read(1), api.OK, ""},
		{read(3), api.ErrRange, ""},
		{read(-1), api.ErrRange, ""},
		{write(3, long), api.ErrRange, ""},
		{trim(3), api.ErrRange, ""},
		{trim(0), api.OK, ""},
		{read(0), api.OK, ""},
		{flush(), api.OK, ""},
		{read(2), api.OK, long[1:]},
		{write(1, ""), api.OK, ""},
		{flush(), api.OK, ""},
		{flush(), api.OK, ""},
	} {
		done := runs(t, h, 2, c.command)
		if want := (api.Done{Slot: 4*i + 2, Status: c.want, Data: c.data}); done != want {
			t.Errorf("%+v came to %+v, want %+v", c.command, done, want)
		}
	}
}

// TestOrder asks whether commands are done in the order in which they came.
func TestOrder(t *testing.T) {
	h := made(t, 8, 4)
	creates(t, h, 0, 3, 0)
	submits(t, h, 0, read(1), write(1, "a"), read(1), write(1, "b"), flush(), read(1), trim(1), read(1))
	for range 32 {
		h.Slot()
	}
	want := []api.Done{{Slot: 0}, {Slot: 4}, {Slot: 8, Data: "a"}, {Slot: 12}, {Slot: 16}, {Slot: 20, Data: "b"}, {Slot: 24}, {Slot: 28}}
	if !slices.Equal(h.Done(0), want) {
		t.Errorf("it did %+v, want %+v", h.Done(0), want)
	}
}

// TestReadOnly has a tenant be to be read only, and another one not.
func TestReadOnly(t *testing.T) {
	h := made(t, 8, 4, []int{2})
	creates(t, h, 0, 3, 0)
	creates(t, h, 1, 3, 0)
	runs(t, h, 0, write(0, "a"), flush(), write(1, "b"))
	is(t, "the flush that fails", runs(t, h, 0, flush()).Status, api.ErrRead)
	is(t, "a write", runs(t, h, 0, write(2, "c")).Status, api.ErrRead)
	is(t, "a write of no place", runs(t, h, 0, write(3, "c")).Status, api.ErrRange)
	is(t, "a trim", runs(t, h, 0, trim(0)).Status, api.ErrRead)
	is(t, "a flush", runs(t, h, 0, flush()).Status, api.ErrRead)
	if done := runs(t, h, 0, read(1)); done.Status != api.OK || done.Data != "b" {
		t.Errorf("a read came to %+v", done)
	}
	if x := stat(t, h, 0); x != (api.Stat{Size: 3, Blocks: 2, Faults: 1, Ops: 2, ReadOnly: true, Free: 1, Waiting: 1}) {
		t.Errorf("%+v", x)
	}
	writes(t, h, 1, "d", "e", "f")
	has(t, h, 0, "a", "b", "")
	has(t, h, 1, "d", "e", "f")
	h.Cut()
	is(t, "Mount", h.Mount(-1), api.OK)
	has(t, h, 0, "a", "", "")
	has(t, h, 1, "d", "e", "f")
}

// TestSpoiltPage reads a page that somebody erased: what is told beside the error is nothing.
func TestSpoiltPage(t *testing.T) {
	h := made(t, 8, 4)
	creates(t, h, 0, 3, 0)
	writes(t, h, 0, "a", "b", "c")
	is(t, "Erase", h.Array().Erase(api.Admin, 2), api.OK)
	if done := runs(t, h, 0, read(1)); done.Status != api.ErrNone || done.Data != "" {
		t.Errorf("a read came to %+v", done)
	}
	if data, err := h.Peek(0, 1); data != "" || err != api.ErrNone {
		t.Errorf("Peek is %q, error %d", data, err)
	}
}

// P21.1: Stat, Peek

func TestStat(t *testing.T) {
	h := made(t, 20, 4, nil, []int{3, 4})
	creates(t, h, 1, 5, 3)
	creates(t, h, 2, 3, 0)
	runs(t, h, 1, write(0, "a"), write(1, "b"), write(2, "c"))
	submits(t, h, 1, read(0), read(1))
	if x := stat(t, h, 1); x != (api.Stat{Size: 5, Spare: 3, Blocks: 6, Free: 6, Waiting: 5}) {
		t.Errorf("%+v", x)
	}
	for range 8 {
		h.Slot()
	}
	runs(t, h, 1, flush()) // the third page fails; so does the first copy
	if x := stat(t, h, 1); x != (api.Stat{Size: 5, Spare: 3, Blocks: 6, Bad: 2, Faults: 2, Ops: 7, Free: 3}) {
		t.Errorf("%+v", x)
	}
	if x := stat(t, h, 2); x != (api.Stat{Size: 3, Blocks: 2, Free: 2}) {
		t.Errorf("%+v", x)
	}
	for _, who := range nobodies {
		if s, err := h.Stat(who); s != (api.Stat{}) || err != api.ErrRange {
			t.Errorf("Stat(%d) is %+v, error %d", who, s, err)
		}
	}
	for _, who := range []int{0, 3} {
		if s, err := h.Stat(who); s != (api.Stat{}) || err != api.ErrNone {
			t.Errorf("Stat(%d) is %+v, error %d", who, s, err)
		}
	}
	// a tenant's operations are counted on, whichever tenant has the number
	is(t, "Destroy", h.Destroy(1), api.OK)
	creates(t, h, 1, 3, 0)
	if x := stat(t, h, 1); x != (api.Stat{Size: 3, Blocks: 2, Faults: 2, Ops: 7, Free: 2}) {
		t.Errorf("%+v", x)
	}
}

func TestPeek(t *testing.T) {
	h := made(t, 8, 4)
	creates(t, h, 1, 3, 0)
	writes(t, h, 1, "a", "b")
	runs(t, h, 1, write(1, "c"))
	submits(t, h, 1, write(0, "d"))
	was := stateOf(h)
	has(t, h, 1, "a", "c", "")
	for _, place := range numbers {
		for _, who := range nobodies {
			if data, err := h.Peek(who, place); data != "" || err != api.ErrRange {
				t.Errorf("Peek(%d, %d) is %q, error %d", who, place, data, err)
			}
		}
		if data, err := h.Peek(0, place); data != "" || err != api.ErrNone {
			t.Errorf("Peek(0, %d) is %q, error %d", place, data, err)
		}
		if place < 0 || place > 2 {
			if data, err := h.Peek(1, place); data != "" || err != api.ErrRange {
				t.Errorf("Peek(1, %d) is %q, error %d", place, data, err)
			}
		}
	}
	unchanged(t, "Peek", h, was)
}

// TestDoneOfNobody asks for no tenants.
func TestDoneOfNobody(t *testing.T) {
	h := made(t, 8, 4)
	for who := range api.Tenants {
		if who < 2 {
			creates(t, h, who, 3, 0)
			runs(t, h, who, read(0))
		}
	}
	for _, who := range append([]int{2, 3}, nobodies...) {
		if all := h.Done(who); all != nil {
			t.Errorf("Done(%d) is %+v", who, all)
		}
	}
}

// TestAnswersAreNewMemory changes what was answered.
func TestAnswersAreNewMemory(t *testing.T) {
	h := made(t, 12, 4)
	creates(t, h, 0, 3, 0)
	creates(t, h, 1, 3, 0)
	writes(t, h, 0, "a")
	l, done := h.Ledger(), h.Done(0)
	for range 2 {
		was := stateOf(h)
		got, all := h.Ledger(), h.Done(0)
		for who := range got.Tenants {
			b := got.Tenants[who].Blocks
			clear(b[:cap(b)])
		}
		clear(all[:cap(all)])
		unchanged(t, "what was answered is changed", h, was)
		h.Cut()
		is(t, "Mount", h.Mount(-1), api.OK)
	}
	is(t, "Resize", h.Resize(0, 5), api.OK)
	is(t, "Swap", h.Swap(0, 1), api.OK)
	runs(t, h, 0, read(0))
	if want := []int{2, 3}; !slices.Equal(l.Tenants[0].Blocks, want) || l.Gen != 2 || len(done) != 2 || done[1] != (api.Done{Slot: 4}) {
		t.Errorf("an answer became %+v, %+v", l, done)
	}
}

// P21.1: Cut, Budget, Mount, and a house that is down

// refusesAll asks a house that is down for everything.
func refusesAll(t *testing.T, h *House) {
	t.Helper()
	for _, v := range numbers {
		for _, w := range []int{-1, 0, 1, 3, 4, 64, 65} {
			is(t, "Create", h.Create(v, w, 0), api.ErrCut)
			is(t, "Create", h.Create(w, 3, v), api.ErrCut)
			is(t, "Resize", h.Resize(v, w), api.ErrCut)
			is(t, "Swap", h.Swap(v, w), api.ErrCut)
			is(t, "Submit", h.Submit(v, read(w)), api.ErrCut)
			is(t, "Submit", h.Submit(w, api.Command{Op: v}), api.ErrCut)
			if data, err := h.Peek(v, w); data != "" || err != api.ErrCut {
				t.Fatalf("Peek(%d, %d) is %q, error %d", v, w, data, err)
			}
		}
		is(t, "Destroy", h.Destroy(v), api.ErrCut)
		if s, err := h.Stat(v); s != (api.Stat{}) || err != api.ErrCut {
			t.Fatalf("Stat(%d) is %+v, error %d", v, s, err)
		}
		h.Budget(v)
	}
	if h.Slot() || h.Up() || !reflect.DeepEqual(h.Ledger(), api.Ledger{}) {
		t.Fatalf("a slot, or it is up, or the ledger is %+v", h.Ledger())
	}
	h.Cut()
}

func TestDown(t *testing.T) {
	h := made(t, 12, 4)
	creates(t, h, 0, 3, 0)
	creates(t, h, 2, 3, 0)
	writes(t, h, 0, "a", "b")
	runs(t, h, 0, write(1, "c"))
	submits(t, h, 0, read(0), read(1))
	submits(t, h, 2, write(0, "d"))
	l, did, slots, ops := h.Ledger(), h.Done(0), h.Slots(), h.Ops()
	h.Cut()
	refusesAll(t, h)
	if h.Slots() != slots || h.Ops() != ops || !slices.Equal(h.Done(0), did) || len(did) != 4 || h.Done(2) != nil {
		t.Errorf("%d slots, %d operations, %+v", h.Slots(), h.Ops(), h.Done(0))
	}
	if n := h.Array(); n == nil || n.Blocks() != 12 || n.Next(2) != 2 {
		t.Error("the array isn't told")
	}
	is(t, "Mount", h.Mount(-1), api.OK)
	if !h.Up() || !same(h.Ledger(), l) || h.Slots() != slots || h.Ops() != ops || !slices.Equal(h.Done(0), did) {
		t.Errorf("up %t, %+v, %d slots, %d operations, %+v", h.Up(), h.Ledger(), h.Slots(), h.Ops(), h.Done(0))
	}
	has(t, h, 0, "a", "b", "")
	has(t, h, 2, "", "", "")
	for _, who := range []int{0, 2} {
		if x := stat(t, h, who); x.Waiting != 0 {
			t.Errorf("of tenant %d %d wait", who, x.Waiting)
		}
	}
	for range 8 {
		if h.Slot() {
			t.Error("something is done")
		}
	}
	if done := runs(t, h, 0, read(0)); done.Data != "a" || done.Slot != h.Slots()-1 {
		t.Errorf("a read came to %+v", done)
	}
	if all := h.Done(0); !slices.Equal(all[:len(all)-1], did) {
		t.Errorf("it did %+v", all)
	}
}

// TestNotKeptWhileDown looks for what a house that is down needn't have.
func TestNotKeptWhileDown(t *testing.T) {
	h := made(t, 12, 4)
	for who := range api.Tenants {
		creates(t, h, who, 3, 0)
		submits(t, h, who, read(0))
	}
	h.Budget(0)
	is(t, "Destroy", h.Destroy(0), api.ErrCut)
	for who := range api.Tenants {
		if h.stores[who] != nil || h.queues[who].Len() != 0 || h.ledger.Tenants[who].Blocks != nil {
			t.Errorf("of tenant %d something is kept", who)
		}
	}
}

// TestNotKeptOfNobody looks for what a house needn't have of a tenant that is gone.
func TestNotKeptOfNobody(t *testing.T) {
	h := made(t, 12, 4)
	creates(t, h, 1, 3, 0)
	submits(t, h, 1, read(0))
	is(t, "Destroy", h.Destroy(1), api.OK)
	if h.stores[1] != nil || h.queues[1].Len() != 0 {
		t.Error("something is kept")
	}
}

// TestMountTwice asks for it of a house that is up.
func TestMountTwice(t *testing.T) {
	h := made(t, 8, 4)
	for _, budget := range numbers {
		is(t, "Mount of a new house", h.Mount(budget), api.ErrTwice)
	}
	creates(t, h, 0, 3, 0)
	runs(t, h, 0, write(0, "a"))
	submits(t, h, 0, read(0))
	was := stateOf(h)
	is(t, "Mount", h.Mount(0), api.ErrTwice)
	unchanged(t, "Mount", h, was)
	is(t, "the power lasts", runs(t, h, 0, flush()).Status, api.OK)
	h.Cut()
	is(t, "Mount", h.Mount(-1), api.OK)
	is(t, "Mount", h.Mount(-1), api.ErrTwice)
}

// isCut has commands be submitted, of which the last one is cut in its slot.
func isCut(t *testing.T, h *House, who int, row ...api.Command) {
	t.Helper()
	last := len(row) - 1
	if last > 0 {
		runs(t, h, who, row[:last]...)
	}
	submits(t, h, who, row[last])
	for h.Slots()%api.Tenants != who {
		h.Slot()
	}
	slots, did := h.Slots(), h.Done(who)
	if h.Slot() || h.Up() {
		t.Fatalf("%+v is done, or the house is up", row[last])
	}
	if h.Slots() != slots+1 || !slices.Equal(h.Done(who), did) {
		t.Fatalf("%d slots, want %d; it did %+v, want %+v", h.Slots(), slots+1, h.Done(who), did)
	}
}

// TestBudgets has the power go behind so many operations.
func TestBudgets(t *testing.T) {
	for budget := range 8 {
		h := made(t, 12, 4)
		creates(t, h, 1, 8, 0)
		h.Budget(2)
		h.Budget(budget) // the newest one counts
		ops := h.Ops()
		want := make([]string, 8)
		for place := range budget {
			want[place] = "a"
			runs(t, h, 1, write(place, "a"), flush())
		}
		isCut(t, h, 1, write(0, "b"), flush())
		if h.Ops() != ops+budget+1 {
			t.Errorf("budget %d: %d operations", budget, h.Ops()-ops)
		}
		refusesAll(t, h)
		is(t, "Mount", h.Mount(-1), api.OK)
		has(t, h, 1, want...)
	}
}

// TestBudgetsWithoutEnd put other ones out of force.
func TestBudgetsWithoutEnd(t *testing.T) {
	for _, budget := range []int{-1, -2, math.MinInt} {
		h := made(t, 8, 4)
		creates(t, h, 1, 4, 0)
		h.Budget(0)
		h.Budget(budget)
		for range 100 {
			runs(t, h, 1, write(0, "a"), flush())
		}
	}
}

// TestBudgetWhileDown doesn't bring the power back, and isn't in force behind a mounting.
func TestBudgetWhileDown(t *testing.T) {
	h := made(t, 8, 4)
	creates(t, h, 1, 4, 0)
	h.Cut()
	for _, budget := range []int{-1, 3, 0} {
		h.Budget(budget)
		if h.Up() {
			t.Fatal("up")
		}
	}
	is(t, "Mount", h.Mount(-1), api.OK)
	for range 20 {
		runs(t, h, 1, write(0, "a"), flush())
	}
}

// TestMountBudgets has blocks that are to be erased while two stores are opened, the lowest tenant's first.
func TestMountBudgets(t *testing.T) {
	for _, c := range []struct {
		budgets []int // all but the last one are too few
		torn    [2]bool
	}{
		{[]int{2}, [2]bool{}},
		{[]int{9}, [2]bool{}},
		{[]int{0, 2}, [2]bool{true, true}},
		{[]int{0, 0, 0, 2}, [2]bool{true, true}},
		{[]int{1, 1}, [2]bool{false, true}},
		{[]int{1, 0, 0, 1}, [2]bool{false, true}},
		{[]int{0, 1, 0, 5}, [2]bool{false, true}},
		{[]int{0, 1, -1}, [2]bool{false, true}},
	} {
		h := made(t, 16, 4)
		creates(t, h, 2, 3, 0) // the blocks 2 and 3
		creates(t, h, 1, 3, 0) // 4 and 5
		writes(t, h, 1, "a")
		writes(t, h, 2, "b")
		for _, block := range []int{3, 5} {
			is(t, "a page", h.Array().Program(api.Admin, block, 0, nil, ""), api.OK)
		}
		h.Cut()
		last := len(c.budgets) - 1
		for _, budget := range c.budgets[:last] {
			is(t, "Mount", h.Mount(budget), api.ErrCut)
			if h.Up() || h.stores != [api.Tenants]*store.Store{} {
				t.Fatal("the house is up, or has stores")
			}
			refusesAll(t, h)
		}
		for i, block := range []int{5, 3} {
			if last > 0 && h.Array().Blank(block) == c.torn[i] {
				t.Errorf("%v: block %d is blank: %t", c.budgets, block, !c.torn[i])
			}
		}
		is(t, "Mount", h.Mount(c.budgets[last]), api.OK)
		if !h.Array().Blank(3) || !h.Array().Blank(5) {
			t.Error("not erased")
		}
		has(t, h, 1, "a", "", "")
		has(t, h, 2, "b", "", "")
		for range 20 { // the power lasts
			writes(t, h, 2, "c")
		}
	}
}

// TestPowerGoesBeside has it go in an operation that isn't the house's.
func TestPowerGoesBeside(t *testing.T) {
	h := made(t, 12, 4)
	creates(t, h, 0, 3, 0)
	writes(t, h, 0, "a")
	runs(t, h, 0, write(0, "b"))
	submits(t, h, 0, read(0))
	did, ops := h.Done(0), h.Ops()
	h.Budget(0)
	if !h.Up() {
		t.Fatal("a budget of 0 alone takes nothing")
	}
	is(t, "Erase", h.Array().Erase(api.Admin, 9), api.ErrCut)
	refusesAll(t, h)
	is(t, "Mount", h.Mount(-1), api.OK)
	if x := stat(t, h, 0); x.Waiting != 0 || h.Ops() != ops+1 || !slices.Equal(h.Done(0), did) {
		t.Errorf("%+v; %d operations; %+v", x, h.Ops()-ops, h.Done(0))
	}
	has(t, h, 0, "a", "", "")
	creates(t, h, 1, 20, 1) // all blocks that are free, the torn one among them
	for _, block := range blocks(h, 1) {
		if !h.Array().Blank(block) {
			t.Errorf("block %d isn't blank", block)
		}
	}
}

// TestMountedAtOnce has the power go beside the house, and mounts it before it is asked for anything.
func TestMountedAtOnce(t *testing.T) {
	h := made(t, 12, 4)
	creates(t, h, 0, 3, 0)
	submits(t, h, 0, read(0))
	h.Budget(0)
	is(t, "Erase", h.Array().Erase(api.Admin, 9), api.ErrCut)
	is(t, "Mount", h.Mount(-1), api.OK)
	if x := stat(t, h, 0); x.Waiting != 0 || h.Slot() {
		t.Errorf("%d wait", x.Waiting)
	}
}

// TestLedgerTells has a ledger be kept beside the house: what it tells is mounted.
func TestLedgerTells(t *testing.T) {
	h := made(t, 12, 4)
	creates(t, h, 0, 3, 0)
	writes(t, h, 0, "a", "b")
	holds(t, h, api.Ledger{Gen: 9, Epochs: 4, Tenants: [api.Tenants]api.Tenant{
		0: {There: true, Epoch: 1, Size: 2, Spare: 1, Blocks: []int{9, 2, 4}},
		3: {There: true, Epoch: 2, Size: 1, Blocks: []int{5, 3}},
	}})
	has(t, h, 0, "a", "b")
	has(t, h, 3, "")
	runs(t, h, 3, write(0, "c"), flush())
	creates(t, h, 1, 1, 0)
	owns(t, h, 1, 6, 7)
	if e := h.Ledger().Tenants[1].Epoch; e != 5 {
		t.Errorf("Epoch %d", e)
	}
	// one that is newer than the house's own is in its way
	is(t, "Save", adlog.Save(h.Array(), api.Ledger{Gen: 50}), api.OK)
	was := stateOf(h)
	is(t, "Create", h.Create(2, 1, 0), api.ErrForm)
	is(t, "Destroy", h.Destroy(3), api.ErrForm)
	is(t, "Resize", h.Resize(3, 1), api.ErrForm)
	is(t, "Swap", h.Swap(0, 1), api.ErrForm)
	unchanged(t, "what isn't kept", h, was)
}

// TestNilHouse is down, and has nothing.
func TestNilHouse(t *testing.T) {
	var h *House
	for range 2 {
		refusesAll(t, h)
		for _, v := range append(nobodies, 0, 1, 2, 3) {
			is(t, "Mount", h.Mount(v), api.ErrCut)
			if h.Done(v) != nil {
				t.Errorf("Done(%d) is %+v", v, h.Done(v))
			}
		}
		if h.Slots() != 0 || h.Ops() != 0 || h.Array() != nil {
			t.Errorf("%d slots, %d operations, an array: %t", h.Slots(), h.Ops(), h.Array() != nil)
		}
	}
}

// TestHouseNotMade asks one that New didn't make: it is down, for ever.
func TestHouseNotMade(t *testing.T) {
	h := new(House)
	for range 2 {
		refusesAll(t, h)
		is(t, "Mount", h.Mount(-1), api.ErrCut)
		if h.Done(0) != nil || h.Slots() != 0 || h.Ops() != 0 || h.Array() != nil {
			t.Errorf("%+v, %d slots, %d operations, an array: %t", h.Done(0), h.Slots(), h.Ops(), h.Array() != nil)
		}
	}
}

// TestTwoHousesAreTwo asks whether one has what the other one does.
func TestTwoHousesAreTwo(t *testing.T) {
	a, b := made(t, 8, 4), made(t, 8, 4)
	creates(t, a, 0, 3, 0)
	writes(t, a, 0, "a")
	was := stateOf(b)
	a.Cut()
	unchanged(t, "the other house's calls", b, was)
	creates(t, b, 1, 3, 0)
	is(t, "Mount", a.Mount(-1), api.OK)
	has(t, a, 0, "a", "", "")
	is(t, "Destroy of the other one's", a.Destroy(1), api.ErrNone)
}

// TestTags asks whose the pages are by what stands beside them.
func TestTags(t *testing.T) {
	h := made(t, 12, 4)
	creates(t, h, 3, 3, 0)
	is(t, "Destroy", h.Destroy(3), api.OK)
	creates(t, h, 3, 3, 0)
	runs(t, h, 3, write(0, "a"), write(1, "b"), trim(1), write(2, ""), flush())
	for page, want := range []api.Tag{
		{Place: 0, Kind: api.KindWrite},
		{Place: 1, Kind: api.KindWrite},
		{Place: 1, Kind: api.KindTrim},
		{Place: 2, Kind: api.KindWrite},
	} {
		want.Tenant, want.Epoch, want.Seq = 3, 2, page
		beside, _, err := h.Array().Read(2, page)
		is(t, "a page", err, api.OK)
		x, err := tag.Parse(beside)
		is(t, "a tag", err, api.OK)
		if x != want {
			t.Errorf("page %d has the tag %+v, want %+v", page, x, want)
		}
	}
}
