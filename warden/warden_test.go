package warden

import (
	"math"
	"reflect"
	"slices"
	"strconv"
	"testing"

	"almshouse/api"
	"almshouse/house"
)

// numbers are about all limits.
var numbers = []int{math.MinInt, -1 << 32, -4097, -65, -1, 0, 1, 2, 3, 4, 5, 8, 9, 63, 64, 65, 4095, 4096, 4097, 1<<32 + 1, math.MaxInt}

// strangers are kinds that no step has.
var strangers = []int{math.MinInt, -1 << 32, -8, -1, 0, 9, 10, 99, 1<<32 + api.StepCreate, 1<<32 + api.StepCut, math.MaxInt}

// is holds an error against the one that is to be.
func is(t *testing.T, what string, got, want api.Errno) {
	t.Helper()
	if got != want {
		t.Fatalf("%s: error %d, want %d", what, got, want)
	}
}

// setup is of so many blocks and pages; of the tenants' operations these fail.
func setup(blocks, pages int, faults ...[]int) api.Setup {
	s := api.Setup{Geometry: api.Geometry{Channels: 1, Dies: 1, Blocks: blocks, Pages: pages}}
	copy(s.Faults[:], faults)
	return s
}

// madeOf is a house of a setup.
func madeOf(t *testing.T, s api.Setup) *house.House {
	t.Helper()
	h, err := house.New(s)
	is(t, "New", err, api.OK)
	return h
}

// made is one that is up, and lasts, in which steps were done.
func made(t *testing.T, s api.Setup, steps ...api.Step) *house.House {
	t.Helper()
	h := madeOf(t, s)
	does(t, h, steps...)
	return h
}

// does has steps be done, all of them OK.
func does(t *testing.T, h *house.House, steps ...api.Step) {
	t.Helper()
	for i, s := range steps {
		is(t, "step "+strconv.Itoa(i), Do(h, s), api.OK)
	}
}

// down is a house without power, in which steps were done.
func down(t *testing.T, s api.Setup, steps ...api.Step) *house.House {
	t.Helper()
	h := made(t, s, steps...)
	h.Cut()
	return h
}

func create(who, size, spare int) api.Step {
	return api.Step{Kind: api.StepCreate, Tenant: who, A: size, B: spare}
}

func resize(who, size int) api.Step { return api.Step{Kind: api.StepResize, Tenant: who, A: size} }

func destroy(who int) api.Step { return api.Step{Kind: api.StepDestroy, Tenant: who} }

func swap(a, b int) api.Step { return api.Step{Kind: api.StepSwap, Tenant: a, Other: b} }

func submit(who int, c api.Command) api.Step {
	return api.Step{Kind: api.StepSubmit, Tenant: who, Command: c}
}

func read(who, place int) api.Step {
	return submit(who, api.Command{Op: api.OpRead, Place: place})
}

func write(who, place int, data string) api.Step {
	return submit(who, api.Command{Op: api.OpWrite, Place: place, Data: data})
}

func flush(who int) api.Step { return submit(who, api.Command{Op: api.OpFlush}) }

func pause(count int) api.Step { return api.Step{Kind: api.StepSlots, A: count} }

func cutIn(others, ops int) api.Step { return api.Step{Kind: api.StepCut, A: others, B: ops} }

func mounting(budget int) api.Step { return api.Step{Kind: api.StepMount, A: budget} }

// admins are steps of all kinds that are an admin's, for a house of busy's steps: they are OK.
func admins() []api.Step {
	return []api.Step{create(3, 5, 1), resize(0, 9), resize(1, 2), destroy(1), destroy(0), swap(0, 1), swap(1, 0)}
}

// busy has tenants 0, 1 and 2 write, and 2 be destroyed; the last change of 0, and commands of both that are left, wait.
func busy() []api.Step {
	steps := []api.Step{create(2, 12, 0), create(0, 5, 1), create(1, 5, 0)}
	for i := range 10 {
		for who := range 3 {
			steps = append(steps, write(who, i%5, strconv.Itoa(i)), flush(who))
		}
		steps = append(steps, pause(8))
	}
	return append(steps, destroy(2), write(0, 4, "waits"), pause(4), write(0, 3, "more"), read(1, 0))
}

// page is what is told of one.
type page struct {
	err          api.Errno
	beside, data string
}

// state is all that is told of a house.
type state struct {
	up     bool
	slots  int
	ops    int
	ledger api.Ledger
	done   [api.Tenants][]api.Done
	stats  [api.Tenants]api.Stat
	errs   [api.Tenants]api.Errno
	places [api.Tenants][]string
	bad    []bool
	pages  [][]page
}

// stateOf is a house's.
func stateOf(h *house.House) state {
	x := state{up: h.Up(), slots: h.Slots(), ops: h.Ops(), ledger: h.Ledger()}
	for who := range api.Tenants {
		x.done[who] = h.Done(who)
		x.stats[who], x.errs[who] = h.Stat(who)
		for place := range x.stats[who].Size {
			data, _ := h.Peek(who, place)
			x.places[who] = append(x.places[who], data)
		}
	}
	n := h.Array()
	for block := range n.Blocks() {
		x.bad = append(x.bad, n.Bad(block))
		var row []page
		for i := range n.Next(block) {
			beside, data, err := n.Read(block, i)
			row = append(row, page{err, strconv.Quote(string(beside)), strconv.Quote(data)}) // these are told, where they differ
		}
		x.pages = append(x.pages, row)
	}
	return x
}

// alike asks whether a house is as it is to be.
func alike(t *testing.T, what string, h *house.House, want state) {
	t.Helper()
	if now := stateOf(h); !reflect.DeepEqual(now, want) {
		t.Fatalf("%s: the house is %+v, want %+v", what, now, want)
	}
}

// P22.1: Do, of what a house is asked

// asked does a step by the house's own calls, as the chapter's words have it; of one that isn't up, too.
func asked(h *house.House, s api.Step) api.Errno {
	isUp := h.Up()
	switch s.Kind {
	case api.StepCreate:
		return h.Create(s.Tenant, s.A, s.B)
	case api.StepResize:
		return h.Resize(s.Tenant, s.A)
	case api.StepDestroy:
		return h.Destroy(s.Tenant)
	case api.StepSwap:
		return h.Swap(s.Tenant, s.Other)
	case api.StepSubmit:
		return h.Submit(s.Tenant, s.Command)
	case api.StepMount:
		return h.Mount(s.A)
	case api.StepSlots:
		switch {
		case s.A < 0, s.A > 4096:
			return api.ErrRange
		case !isUp:
			return api.ErrCut
		}
		for i := 0; i < s.A; i++ {
			h.Slot()
		}
		return api.OK
	case api.StepCut:
		if s.A > 4096 {
			return api.ErrRange
		}
		for i := 0; i < s.A; i++ {
			h.Slot()
		}
		switch {
		case s.A < 0, s.B < 0:
		default:
			h.Budget(s.B)
			h.Slot()
		}
		h.Cut()
		return api.OK
	}
	return api.ErrArg
}

// TestAnswers tells what comes of each kind of step, right and wrong.
func TestAnswers(t *testing.T) {
	long := api.Command{Op: api.OpWrite, Data: "a text that is too long"}
	for _, c := range []struct {
		s              api.Step
		up, down, none api.Errno // of a house that is up, of one that isn't, of no house
	}{
		{create(3, 5, 1), api.OK, api.ErrCut, api.ErrCut},
		{create(4, 5, 1), api.ErrRange, api.ErrCut, api.ErrCut},
		{create(-1, 5, 1), api.ErrRange, api.ErrCut, api.ErrCut},
		{create(0, 5, 1), api.ErrTwice, api.ErrCut, api.ErrCut},
		{create(0, 65, 1), api.ErrTwice, api.ErrCut, api.ErrCut},
		{create(3, 0, 1), api.ErrRange, api.ErrCut, api.ErrCut},
		{create(3, 65, 1), api.ErrRange, api.ErrCut, api.ErrCut},
		{create(3, 5, -1), api.ErrRange, api.ErrCut, api.ErrCut},
		{create(3, 5, 9), api.ErrRange, api.ErrCut, api.ErrCut},
		{create(3, 64, 8), api.ErrFull, api.ErrCut, api.ErrCut},
		{resize(0, 9), api.OK, api.ErrCut, api.ErrCut},
		{resize(0, 0), api.ErrRange, api.ErrCut, api.ErrCut},
		{resize(0, 64), api.ErrFull, api.ErrCut, api.ErrCut},
		{resize(2, 9), api.ErrNone, api.ErrCut, api.ErrCut},
		{resize(4, 9), api.ErrRange, api.ErrCut, api.ErrCut},
		{destroy(1), api.OK, api.ErrCut, api.ErrCut},
		{destroy(2), api.ErrNone, api.ErrCut, api.ErrCut},
		{destroy(4), api.ErrRange, api.ErrCut, api.ErrCut},
		{swap(0, 1), api.OK, api.ErrCut, api.ErrCut},
		{swap(1, 1), api.ErrArg, api.ErrCut, api.ErrCut},
		{swap(1, 2), api.ErrNone, api.ErrCut, api.ErrCut},
		{swap(2, 1), api.ErrNone, api.ErrCut, api.ErrCut},
		{swap(1, 4), api.ErrRange, api.ErrCut, api.ErrCut},
		{swap(2, 4), api.ErrNone, api.ErrCut, api.ErrCut},
		{read(1, 99), api.OK, api.ErrCut, api.ErrCut},
		{write(0, 1, "x"), api.OK, api.ErrCut, api.ErrCut},
		{flush(0), api.OK, api.ErrCut, api.ErrCut},
		{submit(0, long), api.OK, api.ErrCut, api.ErrCut},
		{submit(0, api.Command{}), api.ErrArg, api.ErrCut, api.ErrCut},
		{submit(0, api.Command{Op: api.OpFlush, Place: 1}), api.ErrArg, api.ErrCut, api.ErrCut},
		{submit(2, api.Command{}), api.ErrNone, api.ErrCut, api.ErrCut},
		{submit(4, api.Command{}), api.ErrRange, api.ErrCut, api.ErrCut},
		{pause(0), api.OK, api.ErrCut, api.ErrCut},
		{pause(1), api.OK, api.ErrCut, api.ErrCut},
		{pause(4096), api.OK, api.ErrCut, api.ErrCut},
		{pause(4097), api.ErrRange, api.ErrRange, api.ErrRange},
		{pause(-1), api.ErrRange, api.ErrRange, api.ErrRange},
		{cutIn(-1, -1), api.OK, api.OK, api.OK},
		{cutIn(math.MinInt, 9), api.OK, api.OK, api.OK},
		{cutIn(0, -1), api.OK, api.OK, api.OK},
		{cutIn(0, 0), api.OK, api.OK, api.OK},
		{cutIn(4096, math.MaxInt), api.OK, api.OK, api.OK},
		{cutIn(4096, -1), api.OK, api.OK, api.OK},
		{cutIn(4097, 0), api.ErrRange, api.ErrRange, api.ErrRange},
		{cutIn(4097, -1), api.ErrRange, api.ErrRange, api.ErrRange},
		{mounting(-1), api.ErrTwice, api.OK, api.ErrCut},
		{mounting(0), api.ErrTwice, api.OK, api.ErrCut},
		{api.Step{}, api.ErrArg, api.ErrArg, api.ErrArg},
		{api.Step{Kind: 9, A: -1}, api.ErrArg, api.ErrArg, api.ErrArg},
	} {
		what := "Do of " + told(c.s)
		is(t, what, Do(made(t, setup(20, 4), busy()...), c.s), c.up)
		is(t, what+", down", Do(down(t, setup(20, 4), busy()...), c.s), c.down)
		is(t, what+", no house", Do(nil, c.s), c.none)
		is(t, what+", a house that wasn't made", Do(new(house.House), c.s), c.none)
	}
}

// told is a step in words.
func told(s api.Step) string {
	row := []string{"kind", strconv.Itoa(s.Kind), "of", strconv.Itoa(s.Tenant), strconv.Itoa(s.Other), "with", strconv.Itoa(s.A), strconv.Itoa(s.B)}
	text := row[0]
	for _, word := range row[1:] {
		text += " " + word
	}
	return text
}

// TestQueueIsFull asks for a ninth command.
func TestQueueIsFull(t *testing.T) {
	h := made(t, setup(9, 4), create(1, 3, 0))
	for range api.MaxQueue {
		does(t, h, flush(1))
	}
	was := stateOf(h)
	is(t, "a ninth one", Do(h, flush(1)), api.ErrFull)
	alike(t, "a ninth one", h, was)
	does(t, h, pause(2))
	is(t, "one more", Do(h, flush(1)), api.OK)
}

// TestReadOnly asks of tenants that are to be read only.
func TestReadOnly(t *testing.T) {
	h := made(t, setup(20, 4, []int{1}), create(0, 3, 0), create(1, 3, 0), write(0, 0, "a"), flush(0), pause(8))
	if s, _ := h.Stat(0); !s.ReadOnly {
		t.Fatal("it may be written")
	}
	was := stateOf(h)
	for _, s := range []api.Step{resize(0, 4), swap(0, 1), swap(1, 0)} {
		is(t, told(s), Do(h, s), api.ErrRead)
		alike(t, told(s), h, was)
	}
	does(t, h, destroy(0))
}

// TestAllArguments has steps of all kinds be done, of all numbers, to two houses that are alike: one by Do, one by the house's calls.
func TestAllArguments(t *testing.T) {
	kinds := slices.Concat([]int{1, 2, 3, 4, 5, 6, 7, 8}, strangers)
	for _, isUp := range []bool{true, false} {
		for i, a := range numbers {
			for j, b := range numbers {
				h, twin := madeOf(t, setup(20, 2)), madeOf(t, setup(20, 2))
				for _, x := range []*house.House{h, twin} {
					x.Create(0, 5, 1)
					x.Create(1, 3, 0)
					if !isUp {
						x.Cut()
					}
				}
				for k, kind := range kinds {
					s := api.Step{Kind: kind, Tenant: 0, Other: 1, A: a, B: b, Command: api.Command{Op: b, Place: a}}
					if (i+j+k)%2 == 0 {
						s.Tenant, s.Other = a, b
					}
					want := asked(twin, s)
					is(t, told(s), Do(h, s), want)
					alike(t, told(s), h, stateOf(twin))
					if isUp && !h.Up() {
						is(t, "Mount", h.Mount(-1), twin.Mount(-1))
					}
				}
			}
		}
	}
}

// drawer draws numbers below n.
func drawer(x uint32) func(n int) int {
	return func(n int) int {
		x = x*1664525 + 1013904223
		return int(x>>8) % n
	}
}

// stepDrawn is one; data tells a write from others.
func stepDrawn(draw func(int) int, data string) api.Step {
	who := draw(api.Tenants)
	switch draw(32) {
	case 0, 1, 2:
		return create(who, draw(12), draw(3))
	case 3:
		return resize(who, draw(12))
	case 4:
		return swap(who, draw(api.Tenants))
	case 5:
		if draw(2) == 0 {
			return destroy(who)
		}
		return api.Step{Kind: draw(12), Tenant: draw(6) - 1, Other: draw(6) - 1, A: draw(12) - 2, B: draw(6) - 2}
	case 6, 7, 8, 9, 10, 11:
		return pause(draw(12) - 1)
	case 12:
		return cutIn(draw(10)-2, draw(8)-1)
	case 13, 14, 15:
		return mounting(draw(4) - 1)
	case 16, 17:
		return read(who, draw(13))
	case 18, 19, 20:
		return flush(who)
	case 21:
		return submit(who, api.Command{Op: api.OpTrim, Place: draw(12)})
	}
	return write(who, draw(12), data)
}

// TestWalks has drawn rows of steps be done to two houses that are alike.
func TestWalks(t *testing.T) {
	came := map[api.Errno]int{}
	for seed := range 80 {
		draw := drawer(uint32(seed))
		x := setup(10+draw(30), 2+draw(4))
		for who := range x.Faults {
			for range draw(6) {
				x.Faults[who] = append(x.Faults[who], 1+draw(30))
			}
		}
		h, twin := madeOf(t, x), madeOf(t, x)
		for i := range 300 {
			s := stepDrawn(draw, strconv.Itoa(i))
			err := Do(h, s)
			is(t, told(s), err, asked(twin, s))
			alike(t, told(s), h, stateOf(twin))
			came[err]++
		}
	}
	for _, err := range []api.Errno{api.OK, api.ErrArg, api.ErrRange, api.ErrNone, api.ErrTwice, api.ErrFull, api.ErrCut, api.ErrRead} {
		if came[err] < 10 {
			t.Errorf("error %d came %d times", err, came[err])
		}
	}
}

// TestStrangers asks for kinds that there aren't, whatever else the step tells.
func TestStrangers(t *testing.T) {
	up, off := made(t, setup(20, 4), busy()...), down(t, setup(20, 4), busy()...)
	wasUp, wasOff := stateOf(up), stateOf(off)
	for _, kind := range strangers {
		for _, a := range numbers {
			s := api.Step{Kind: kind, Tenant: a, Other: a, A: a, B: a, Command: api.Command{Op: a}}
			is(t, told(s), Do(up, s), api.ErrArg)
			is(t, told(s), Do(off, s), api.ErrArg)
			is(t, told(s), Do(nil, s), api.ErrArg)
		}
	}
	alike(t, "a house that is up", up, wasUp)
	alike(t, "one that is down", off, wasOff)
}

// P22.1: StepSlots

// TestExample is the chapter's: StepSlots of 3, three slots.
func TestExample(t *testing.T) {
	h := made(t, setup(9, 4), create(0, 3, 0), write(0, 0, "a"), write(0, 1, "b"), write(0, 2, "c"))
	for i := range 3 {
		is(t, "slots", Do(h, pause(3)), api.OK)
		if h.Slots() != 3*(i+1) {
			t.Fatalf("%d slots", h.Slots())
		}
	}
	want := []api.Done{{Slot: 0}, {Slot: 4}, {Slot: 8}}
	if done := h.Done(0); !slices.Equal(done, want) {
		t.Errorf("done is %+v, want %+v", done, want)
	}
}

// TestSlots are as many as are told, whatever else the step tells.
func TestSlots(t *testing.T) {
	h := made(t, setup(20, 4), busy()...)
	for _, count := range []int{0, 1, 2, 3, 4, 5, 64, 4095, 4096} {
		was := h.Slots()
		s := api.Step{Kind: api.StepSlots, Tenant: 7, Other: -1, A: count, B: -5, Command: api.Command{Op: 9}}
		is(t, told(s), Do(h, s), api.OK)
		if h.Slots() != was+count || !h.Up() {
			t.Errorf("%d slots, want %d", h.Slots()-was, count)
		}
	}
	was := stateOf(h)
	for _, count := range []int{-1, -2, math.MinInt, 4097, 4098, 1 << 32, math.MaxInt} {
		is(t, told(pause(count)), Do(h, pause(count)), api.ErrRange)
		alike(t, told(pause(count)), h, was)
	}
}

// TestSlotsWhileDown are none, as many as may be asked for.
func TestSlotsWhileDown(t *testing.T) {
	h := down(t, setup(20, 4), busy()...)
	was := stateOf(h)
	for _, count := range numbers {
		want := api.ErrCut
		if count < 0 || count > 4096 {
			want = api.ErrRange
		}
		is(t, told(pause(count)), Do(h, pause(count)), want)
		is(t, told(pause(count)), Do(nil, pause(count)), want)
	}
	alike(t, "slots", h, was)
}

// TestPowerGoesInSlots has a budget be in force that somebody else set: what was up is asked, and no slot is counted behind that.
func TestPowerGoesInSlots(t *testing.T) {
	h := made(t, setup(9, 4), create(2, 3, 0), write(2, 0, "a"), flush(2), write(2, 1, "b"), flush(2))
	h.Budget(1)
	is(t, "slots", Do(h, pause(40)), api.OK)
	if h.Up() || h.Slots() != 15 || len(h.Done(2)) != 3 {
		t.Errorf("up %t, %d slots, %+v", h.Up(), h.Slots(), h.Done(2))
	}
	is(t, "slots", Do(h, pause(1)), api.ErrCut)
}

// P22.1: StepCut, StepMount

// TestCutAtOnce does no slot, whatever B is.
func TestCutAtOnce(t *testing.T) {
	for _, a := range []int{-1, -2, -4096, -4097, math.MinInt} {
		for _, b := range numbers {
			h := made(t, setup(9, 4), create(0, 3, 0), write(0, 0, "a"), read(0, 0))
			ops := h.Ops()
			is(t, told(cutIn(a, b)), Do(h, cutIn(a, b)), api.OK)
			if h.Up() || h.Slots() != 0 || h.Ops() != ops || h.Done(0) != nil {
				t.Fatalf("%s: up %t, %d slots, %d operations, %+v", told(cutIn(a, b)), h.Up(), h.Slots(), h.Ops()-ops, h.Done(0))
			}
			is(t, "Mount", h.Mount(-1), api.OK)
			if s, err := h.Stat(0); err != api.OK || s.Waiting != 0 {
				t.Fatalf("%d wait, error %d", s.Waiting, err)
			}
		}
	}
}

// TestCutBehindSlots has as many go first as are told; with B below 0 none comes behind them, else one.
func TestCutBehindSlots(t *testing.T) {
	for _, a := range []int{0, 1, 2, 3, 4, 5, 6, 7, 8, 9, 64, 4095, 4096} {
		for _, b := range []int{math.MinInt, -2, -1, 0, 1, 2, 40, math.MaxInt} {
			h := made(t, setup(9, 4), create(0, 3, 0), read(0, 0), read(0, 1), read(0, 2))
			is(t, told(cutIn(a, b)), Do(h, cutIn(a, b)), api.OK)
			slots := a
			if b >= 0 {
				slots++
			}
			reads := min(3, (slots+3)/4)
			if h.Up() || h.Slots() != slots || len(h.Done(0)) != reads {
				t.Fatalf("%s: up %t, %d slots, %+v", told(cutIn(a, b)), h.Up(), h.Slots(), h.Done(0))
			}
		}
	}
}

// TestCutAsks for no more slots than may be.
func TestCutAsks(t *testing.T) {
	h := made(t, setup(20, 4), busy()...)
	was := stateOf(h)
	for _, a := range []int{4097, 4098, 1 << 32, math.MaxInt} {
		for _, b := range numbers {
			is(t, told(cutIn(a, b)), Do(h, cutIn(a, b)), api.ErrRange)
			alike(t, told(cutIn(a, b)), h, was)
		}
	}
	// no budget is left behind
	does(t, h, write(0, 0, "x"), flush(0), pause(12))
	if !h.Up() {
		t.Error("the power went")
	}
}

// TestCutWhileDown is OK, and nothing becomes of it.
func TestCutWhileDown(t *testing.T) {
	h := down(t, setup(20, 4), busy()...)
	was := stateOf(h)
	for _, a := range numbers {
		for _, b := range numbers {
			want := api.OK
			if a > 4096 {
				want = api.ErrRange
			}
			is(t, told(cutIn(a, b)), Do(h, cutIn(a, b)), want)
			is(t, told(cutIn(a, b)), Do(nil, cutIn(a, b)), want)
		}
	}
	alike(t, "cuts", h, was)
	is(t, "Mount", h.Mount(-1), api.OK)
	does(t, h, write(0, 0, "x"), flush(0), pause(12))
	if !h.Up() {
		t.Error("a budget was left behind")
	}
}

// TestCutInSlot has three changes and a flush: the power goes in the flush's slot, behind each number of operations. Those ahead of it aren't in the slot.
func TestCutInSlot(t *testing.T) {
	changes := []string{"x", "y", "z"}
	for b := range 8 {
		// a block of 16 pages has room for all, so that each change is one operation
		h := made(t, setup(20, 16), create(1, 3, 0))
		for place := range 3 {
			does(t, h, write(1, place, "old"), flush(1))
		}
		for place, data := range changes[:2] {
			does(t, h, write(1, place, data))
		}
		// of the slots behind these 32, the second and the sixth are tenant 1's: the last write, and the flush
		does(t, h, pause(4*8), write(1, 2, "z"), flush(1), read(1, 0))
		ops := h.Ops()
		is(t, "the cut", Do(h, cutIn(5, b)), api.OK)
		if h.Up() || h.Slots() != 4*8+6 || h.Ops() != ops+min(3, b+1) {
			t.Fatalf("B %d: up %t, %d slots, %d operations", b, h.Up(), h.Slots(), h.Ops()-ops)
		}
		done := h.Done(1)
		want := 9
		if b >= 3 {
			want = 10 // the flush, too
		}
		if len(done) != want || want == 10 && done[9] != (api.Done{Slot: 4*8 + 5}) {
			t.Fatalf("B %d: done is %+v", b, done)
		}
		is(t, "the mounting", Do(h, mounting(-1)), api.OK)
		for place, data := range changes {
			want := "old"
			if place < b {
				want = data
			}
			if got, err := h.Peek(1, place); got != want || err != api.OK {
				t.Fatalf("B %d: place %d is %q, error %d; want %q", b, place, got, err, want)
			}
		}
	}
}

// TestCutSpendsNoneAhead has many operations in the slots that go first: B counts none of them.
func TestCutSpendsNoneAhead(t *testing.T) {
	h := made(t, setup(20, 4), create(0, 3, 0), create(1, 3, 0))
	for place := range 3 {
		does(t, h, write(0, place, "a"), flush(0), write(1, place, "b"), flush(1))
	}
	ops := h.Ops()
	// slots 20 and 21 are the last flushes'
	does(t, h, cutIn(21, 0))
	if h.Up() || h.Slots() != 22 || h.Ops() != ops+6 || len(h.Done(0)) != 6 || len(h.Done(1)) != 5 {
		t.Errorf("up %t, %d slots, %d operations, %+v, %+v", h.Up(), h.Slots(), h.Ops()-ops, h.Done(0), h.Done(1))
	}
	does(t, h, mounting(-1))
	for place := range 3 {
		mine, _ := h.Peek(0, place)
		other, _ := h.Peek(1, place)
		if mine != "a" || (other == "b") != (place < 2) {
			t.Errorf("place %d is %q, %q", place, mine, other)
		}
	}
}

// TestCutAtItsEnd has a slot without operations: what was done in it stays told.
func TestCutAtItsEnd(t *testing.T) {
	for _, b := range []int{0, 1, math.MaxInt} {
		h := made(t, setup(9, 4), create(0, 3, 0), write(0, 0, "a"), flush(0), pause(8), read(0, 0), read(0, 1))
		does(t, h, cutIn(0, b))
		done := h.Done(0)
		if h.Up() || h.Slots() != 9 || len(done) != 3 || done[2] != (api.Done{Slot: 8, Data: "a"}) {
			t.Errorf("B %d: up %t, %d slots, %+v", b, h.Up(), h.Slots(), done)
		}
	}
}

// TestCutPutsAside a budget that was in force, but not while the slots go that go first.
func TestCutPutsAside(t *testing.T) {
	h := made(t, setup(9, 4), create(0, 3, 0), write(0, 0, "a"), write(0, 1, "b"), flush(0))
	h.Budget(1)
	does(t, h, cutIn(8, 2))
	if done := h.Done(0); h.Up() || h.Slots() != 9 || len(done) != 3 {
		t.Errorf("up %t, %d slots, %+v", h.Up(), h.Slots(), done)
	}
	h = made(t, setup(9, 4), create(0, 3, 0), write(0, 0, "a"), flush(0))
	h.Budget(0)
	does(t, h, cutIn(20, 9))
	if done := h.Done(0); h.Up() || h.Slots() != 5 || len(done) != 1 {
		t.Errorf("up %t, %d slots, %+v", h.Up(), h.Slots(), done)
	}
}

// TestMount has the power go in mountings that erase a block: the budget is A, and B is none.
func TestMount(t *testing.T) {
	for _, budget := range []int{0, 1, 2, -1, -2, math.MinInt, math.MaxInt} {
		// the torn page leaves a block that is to be erased
		h := made(t, setup(9, 4), create(0, 3, 0), write(0, 0, "a"), flush(0), cutIn(4, 0))
		s := api.Step{Kind: api.StepMount, Tenant: 9, Other: -1, A: budget, B: 0}
		ops, want := h.Ops(), api.OK
		if budget == 0 {
			want = api.ErrCut
		}
		is(t, told(s), Do(h, s), want)
		if h.Up() != (want == api.OK) || h.Ops() != ops+1 {
			t.Fatalf("%s: up %t, %d operations", told(s), h.Up(), h.Ops()-ops)
		}
		if !h.Up() {
			is(t, "a mounting", Do(h, mounting(-1)), api.OK)
		}
		was := stateOf(h)
		is(t, "a mounting more", Do(h, s), api.ErrTwice)
		alike(t, "a mounting more", h, was)
		// the budget isn't in force behind it
		for range 4 {
			does(t, h, write(0, 0, "b"), flush(0), pause(8))
		}
		if !h.Up() {
			t.Fatalf("%s: the power didn't last", told(s))
		}
	}
}

// P22.1: Torn

// TestTornAsks for an admin's step, and a budget; these are told ahead of the power.
func TestTornAsks(t *testing.T) {
	up, off := made(t, setup(20, 4), busy()...), down(t, setup(20, 4), busy()...)
	wasUp, wasOff := stateOf(up), stateOf(off)
	others := []api.Step{read(0, 0), flush(1), pause(0), pause(3), pause(-1), cutIn(-1, 0), cutIn(0, 0), cutIn(4097, 0), mounting(-1), {}}
	for _, kind := range strangers {
		others = append(others, api.Step{Kind: kind, Tenant: 3, A: 5})
	}
	for _, s := range others {
		for _, budget := range numbers {
			is(t, told(s), Torn(up, s, budget), api.ErrArg)
			is(t, told(s), Torn(off, s, budget), api.ErrArg)
			is(t, told(s), Torn(nil, s, budget), api.ErrArg)
		}
	}
	for _, s := range append(admins(), create(9, 99, 99), destroy(-1)) {
		for _, budget := range numbers {
			want := api.ErrCut
			if budget < 0 {
				want = api.ErrArg
				is(t, told(s), Torn(up, s, budget), want)
			}
			is(t, told(s), Torn(off, s, budget), want)
			is(t, told(s), Torn(nil, s, budget), want)
			is(t, told(s), Torn(new(house.House), s, budget), want)
		}
	}
	alike(t, "a house that is up", up, wasUp)
	alike(t, "one that is down", off, wasOff)
	does(t, up, pause(40), destroy(0))
	is(t, "Mount", off.Mount(-1), api.OK)
	does(t, off, destroy(0), destroy(1))
}

// TestTornRefused has the power go with steps that are refused, too.
func TestTornRefused(t *testing.T) {
	for _, c := range []struct {
		s    api.Step
		want api.Errno
	}{
		{create(4, 5, 1), api.ErrRange},
		{create(0, 5, 1), api.ErrTwice},
		{create(3, 64, 8), api.ErrFull},
		{resize(2, 9), api.ErrNone},
		{resize(0, 0), api.ErrRange},
		{destroy(2), api.ErrNone},
		{swap(1, 1), api.ErrArg},
		{swap(0, 4), api.ErrRange},
	} {
		for _, budget := range []int{0, 1, 50, math.MaxInt} {
			h := made(t, setup(20, 4), busy()...)
			ops, slots, l := h.Ops(), h.Slots(), h.Ledger()
			is(t, told(c.s), Torn(h, c.s, budget), c.want)
			if h.Up() || h.Ops() != ops || h.Slots() != slots {
				t.Fatalf("%s: up %t, %d operations", told(c.s), h.Up(), h.Ops()-ops)
			}
			is(t, "Mount", h.Mount(-1), api.OK)
			if !reflect.DeepEqual(h.Ledger(), l) {
				t.Fatalf("%s: the ledger is %+v, was %+v", told(c.s), h.Ledger(), l)
			}
		}
	}
}

// TestTorn has the power go in each operation of each admin's step, and at the end of it: the step is done as a whole, or not at all.
func TestTorn(t *testing.T) {
	for _, s := range admins() {
		h := made(t, setup(20, 4), busy()...)
		was, ops := h.Ledger(), h.Ops()
		does(t, h, s)
		after, all := h.Ledger(), h.Ops()-ops
		if all == 0 {
			t.Fatalf("%s has no operation", told(s))
		}
		for _, budget := range append(upTo(all+3), 1000, math.MaxInt) {
			tears(t, s, budget, all, was, after)
		}
	}
}

// upTo are the numbers from 0 on, below n.
func upTo(n int) []int {
	var row []int
	for i := range n {
		row = append(row, i)
	}
	return row
}

// tears has the power go behind so many operations of a step that has so many in all; the ledger was, and is to be.
func tears(t *testing.T, s api.Step, budget, all int, was, after api.Ledger) {
	t.Helper()
	h := made(t, setup(20, 4), busy()...)
	ops, slots := h.Ops(), h.Slots()
	want, l, spent := api.OK, after, all
	if budget < all {
		want, l, spent = api.ErrCut, was, budget+1
	}
	is(t, told(s), Torn(h, s, budget), want)
	if h.Up() || h.Ops() != ops+spent || h.Slots() != slots {
		t.Fatalf("%s, budget %d: up %t, %d operations, %d slots", told(s), budget, h.Up(), h.Ops()-ops, h.Slots()-slots)
	}
	is(t, "a step", Do(h, s), api.ErrCut)
	is(t, "Torn", Torn(h, s, budget), api.ErrCut)
	is(t, "Mount", h.Mount(-1), api.OK)
	if !reflect.DeepEqual(h.Ledger(), l) {
		t.Fatalf("%s, budget %d: the ledger is %+v, want %+v", told(s), budget, h.Ledger(), l)
	}
	if want == api.ErrCut {
		is(t, "the step again", Do(h, s), api.OK)
	}
	if l := h.Ledger(); l.Epochs != after.Epochs || l.Gen != after.Gen {
		t.Fatalf("%s, budget %d: the ledger is %+v, want %+v", told(s), budget, h.Ledger(), after)
	}
}

// P22.1: Run

// TestRun does all, one behind the other, whatever comes of them.
func TestRun(t *testing.T) {
	steps := []api.Step{
		create(0, 3, 0), create(0, 3, 0), write(0, 1, "a"), read(0, 1), flush(0), pause(8), {Kind: 99},
		cutIn(0, 0), read(0, 1), pause(1), cutIn(0, 0), create(1, 3, 0), mounting(0), mounting(-1), mounting(-1), read(0, 1), pause(-1), pause(4),
	}
	want := []api.Errno{
		api.OK, api.ErrTwice, api.OK, api.OK, api.OK, api.OK, api.ErrArg,
		api.OK, api.ErrCut, api.ErrCut, api.OK, api.ErrCut, api.ErrCut, api.OK, api.ErrTwice, api.OK, api.ErrRange, api.OK,
	}
	h := madeOf(t, setup(9, 4))
	was := slices.Clone(steps)
	if got := Run(h, steps); !slices.Equal(got, want) {
		t.Errorf("it comes to %v, want %v", got, want)
	}
	if !slices.Equal(steps, was) {
		t.Error("the steps were changed")
	}
	if done := h.Done(0); h.Slots() != 13 || len(done) != 3 || done[1] != (api.Done{Slot: 4, Data: "a"}) {
		t.Errorf("%d slots, %+v", h.Slots(), done)
	}
}

// TestRunIsDo holds drawn rows against their steps, done one by one.
func TestRunIsDo(t *testing.T) {
	for seed := range 40 {
		draw := drawer(uint32(500 + seed))
		var steps []api.Step
		for i := range draw(250) {
			steps = append(steps, stepDrawn(draw, strconv.Itoa(i)))
		}
		h, twin := madeOf(t, setup(30, 3, []int{9}, []int{4, 5})), madeOf(t, setup(30, 3, []int{9}, []int{4, 5}))
		var want []api.Errno
		for _, s := range steps {
			want = append(want, Do(twin, s))
		}
		if got := Run(h, steps); !slices.Equal(got, want) {
			t.Fatalf("it comes to %v, want %v", got, want)
		}
		alike(t, "a run", h, stateOf(twin))
	}
}

// TestRunOfNothing answers nothing, and changes nothing.
func TestRunOfNothing(t *testing.T) {
	h := made(t, setup(20, 4), busy()...)
	was := stateOf(h)
	for _, l := range [][]api.Step{nil, {}} {
		if got := Run(h, l); len(got) != 0 {
			t.Errorf("it comes to %v", got)
		}
		if got := Run(nil, l); len(got) != 0 {
			t.Errorf("without a house it comes to %v", got)
		}
	}
	alike(t, "a run of nothing", h, was)
}

// TestRunWithoutHouse tells what comes of each step.
func TestRunWithoutHouse(t *testing.T) {
	steps := append(admins(), read(0, 0), pause(1), cutIn(0, 0), mounting(-1), api.Step{}, pause(-1))
	want := append(slices.Repeat([]api.Errno{api.ErrCut}, len(admins())), api.ErrCut, api.ErrCut, api.OK, api.ErrCut, api.ErrArg, api.ErrRange)
	if got := Run(nil, steps); !slices.Equal(got, want) {
		t.Errorf("it comes to %v, want %v", got, want)
	}
}

// TestRunOfManySteps has no bound of its own.
func TestRunOfManySteps(t *testing.T) {
	h := made(t, setup(9, 4))
	got := Run(h, slices.Repeat([]api.Step{pause(1)}, 3*api.MaxSteps))
	if len(got) != 3*api.MaxSteps || h.Slots() != 3*api.MaxSteps {
		t.Errorf("%d answers, %d slots", len(got), h.Slots())
	}
}
