package play

import (
	"math"
	"reflect"
	"slices"
	"strconv"
	"strings"
	"testing"

	"almshouse/api"
	"almshouse/house"
	"almshouse/script"
)

// nobodies are numbers that no tenant has.
var nobodies = []int{math.MinInt, -1 << 32, -1, api.Tenants, api.Admin + 1, 99, 1 << 32, math.MaxInt}

// is holds an error against the one that is to be.
func is(t *testing.T, what string, got, want api.Errno) {
	t.Helper()
	if got != want {
		t.Fatalf("%s: error %d, want %d", what, got, want)
	}
}

// setup is of so many blocks and pages; of the tenants' operations these fail.
func setup(blocks, pages int, faults ...[]int) api.Setup {
	s := api.Setup{Geometry: api.Geometry{Channels: 1, Dies: 1, Blocks: blocks, Pages: pages}}
	copy(s.Faults[:], faults)
	return s
}

func create(who, size, spare int) api.Step {
	return api.Step{Kind: api.StepCreate, Tenant: who, A: size, B: spare}
}

func resize(who, size int) api.Step { return api.Step{Kind: api.StepResize, Tenant: who, A: size} }

func destroy(who int) api.Step { return api.Step{Kind: api.StepDestroy, Tenant: who} }

func swap(a, b int) api.Step { return api.Step{Kind: api.StepSwap, Tenant: a, Other: b} }

func submit(who int, c api.Command) api.Step {
	return api.Step{Kind: api.StepSubmit, Tenant: who, Command: c}
}

func read(who, place int) api.Step {
	return submit(who, api.Command{Op: api.OpRead, Place: place})
}

func write(who, place int, data string) api.Step {
	return submit(who, api.Command{Op: api.OpWrite, Place: place, Data: data})
}

func trim(who, place int) api.Step {
	return submit(who, api.Command{Op: api.OpTrim, Place: place})
}

func flush(who int) api.Step { return submit(who, api.Command{Op: api.OpFlush}) }

func pause(count int) api.Step { return api.Step{Kind: api.StepSlots, A: count} }

func cutIn(others, ops int) api.Step { return api.Step{Kind: api.StepCut, A: others, B: ops} }

func mounting(budget int) api.Step { return api.Step{Kind: api.StepMount, A: budget} }

// played is the house of a script that may be played; each of its steps is to come to OK.
func played(t *testing.T, s api.Setup, l ...api.Step) *house.House {
	t.Helper()
	h, came, err := Play(s, l)
	is(t, "Play", err, api.OK)
	if len(came) != len(l) {
		t.Fatalf("%d steps came to %d errors", len(l), len(came))
	}
	for i, e := range came {
		is(t, "step "+strconv.Itoa(i), e, api.OK)
	}
	return h
}

// has holds what a tenant's places have.
func has(t *testing.T, h *house.House, who int, want ...string) {
	t.Helper()
	if row, err := Places(h, who); err != api.OK || !slices.Equal(row, want) {
		t.Fatalf("the places of tenant %d are %q, error %d, want %q", who, row, err, want)
	}
}

// lacks holds that a tenant's places aren't told.
func lacks(t *testing.T, what string, h *house.House, who int, want api.Errno) {
	t.Helper()
	if row, err := Places(h, who); err != want || row != nil {
		t.Fatalf("%s: the places of tenant %d are %q, error %d, want error %d", what, who, row, err, want)
	}
}

// page is what is told of one.
type page struct {
	err          api.Errno
	beside, data string
}

// state is all that is told of a house, but its tenants' places and what they did.
type state struct {
	up     bool
	slots  int
	ops    int
	ledger api.Ledger
	stats  [api.Tenants]api.Stat
	errs   [api.Tenants]api.Errno
	bad    []bool
	erases []int
	pages  [][]page
	done   [api.Tenants][]api.Done
	places [api.Tenants][]string
}

// stateOf is a house's.
func stateOf(h *house.House) state {
	x := state{up: h.Up(), slots: h.Slots(), ops: h.Ops(), ledger: h.Ledger()}
	for who := range api.Tenants {
		x.done[who] = h.Done(who)
		x.stats[who], x.errs[who] = h.Stat(who)
		for place := range x.stats[who].Size {
			data, _ := h.Peek(who, place)
			x.places[who] = append(x.places[who], data)
		}
	}
	n := h.Array()
	for block := range n.Blocks() {
		x.bad = append(x.bad, n.Bad(block))
		x.erases = append(x.erases, n.Erases(block))
		var row []page
		for i := range n.Next(block) {
			beside, data, err := n.Read(block, i)
			row = append(row, page{err, strconv.Quote(string(beside)), strconv.Quote(data)})
		}
		x.pages = append(x.pages, row)
	}
	return x
}

// alike asks whether a house is as it is to be.
func alike(t *testing.T, what string, h *house.House, want state) {
	t.Helper()
	if now := stateOf(h); !reflect.DeepEqual(now, want) {
		t.Fatalf("%s: the house is %+v, want %+v", what, now, want)
	}
}

// busy is a script of steps of all kinds, of which some are refused, and what comes of each.
func busy() ([]api.Step, []api.Errno) {
	var l []api.Step
	var came []api.Errno
	add := func(s api.Step, e api.Errno) {
		l = append(l, s)
		came = append(came, e)
	}
	add(mounting(-1), api.ErrTwice)
	add(write(0, 0, "early"), api.ErrNone)
	add(create(0, 3, 0), api.OK)
	add(create(0, 3, 0), api.ErrTwice)
	add(create(2, 5, 1), api.OK)
	add(create(4, 5, 1), api.ErrRange)
	add(create(3, 64, 8), api.ErrFull)
	add(write(0, 2, "two"), api.OK)
	add(flush(0), api.OK)
	add(write(2, 4, "four"), api.OK)
	add(flush(2), api.OK)
	add(read(2, 4), api.OK)
	add(submit(2, api.Command{Op: 9}), api.ErrArg)
	add(pause(-1), api.ErrRange)
	add(pause(9), api.OK)
	add(read(2, 5), api.OK)
	add(pause(2), api.OK)
	add(resize(0, 4), api.OK)
	add(swap(0, 2), api.OK)
	add(swap(2, 2), api.ErrArg)
	add(destroy(1), api.ErrNone)
	add(write(2, 0, "gone"), api.OK)
	add(pause(4), api.OK)
	add(cutIn(2, 0), api.OK)
	add(pause(1), api.ErrCut)
	add(destroy(0), api.ErrCut)
	add(mounting(-1), api.OK)
	add(create(1, 1, 0), api.OK)
	add(destroy(0), api.OK)
	add(api.Step{}, api.ErrArg)
	add(api.Step{Kind: 99}, api.ErrArg)
	add(trim(2, 3), api.OK)
	add(write(2, 1, "last"), api.OK)
	add(pause(9), api.OK)
	return l, came
}

// P26.1: Play

func TestNoSteps(t *testing.T) {
	for _, l := range [][]api.Step{nil, {}} {
		s := setup(9, 4)
		s.Marked = []int{5}
		h, came, err := Play(s, l)
		if err != api.OK || len(came) != 0 || h == nil {
			t.Fatalf("a script without steps is %v, error %d", came, err)
		}
		plain, _ := house.New(s)
		alike(t, "a script without steps", h, stateOf(plain))
		if h.Ops() != 0 || h.Slots() != 0 || !h.Up() || !h.Array().Bad(5) || h.Array().Blocks() != 9 {
			t.Errorf("it had %d operations and %d slots", h.Ops(), h.Slots())
		}
		for who := range api.Tenants {
			lacks(t, "a script without steps", h, who, api.ErrNone)
		}
	}
}

func TestAllStepsAreDone(t *testing.T) {
	l, want := busy()
	h, came, err := Play(setup(14, 4), l)
	if err != api.OK || !slices.Equal(came, want) {
		t.Fatalf("the steps came to %v, error %d, want %v", came, err, want)
	}
	done := [api.Tenants][]api.Done{
		0: {{Slot: 0}, {Slot: 4}},
		2: {{Slot: 2}, {Slot: 6}, {Slot: 10, Data: "four"}, {Slot: 14, Status: api.ErrRange}, {Slot: 18}, {Slot: 22}},
	}
	for who, got := range Done(h) {
		if !slices.Equal(got, done[who]) {
			t.Errorf("tenant %d did %+v, want %+v", who, got, done[who])
		}
	}
	lacks(t, "a tenant that was destroyed", h, 0, api.ErrNone)
	has(t, h, 1, "")
	has(t, h, 2, "", "last", "", "", "four")
	lacks(t, "a tenant that wasn't created", h, 3, api.ErrNone)
	if h.Slots() != 27 || !h.Up() {
		t.Errorf("there were %d slots", h.Slots())
	}
}

// asked has a house do a step by its own calls.
func asked(h *house.House, s api.Step) api.Errno {
	switch s.Kind {
	case api.StepCreate:
		return h.Create(s.Tenant, s.A, s.B)
	case api.StepResize:
		return h.Resize(s.Tenant, s.A)
	case api.StepDestroy:
		return h.Destroy(s.Tenant)
	case api.StepSwap:
		return h.Swap(s.Tenant, s.Other)
	case api.StepSubmit:
		return h.Submit(s.Tenant, s.Command)
	case api.StepMount:
		return h.Mount(s.A)
	case api.StepSlots, api.StepCut:
		if s.A < 0 && s.Kind == api.StepSlots {
			return api.ErrRange
		}
		if !h.Up() && s.Kind == api.StepSlots {
			return api.ErrCut
		}
		for range max(0, s.A) {
			h.Slot()
		}
		if s.Kind == api.StepSlots {
			return api.OK
		}
		if s.A >= 0 && s.B >= 0 {
			h.Budget(s.B)
			h.Slot()
		}
		h.Cut()
		return api.OK
	}
	return api.ErrArg
}

func TestAPlayedHouseIsOneOfWhichTheStepsWereAsked(t *testing.T) {
	l, _ := busy()
	for count := range len(l) + 1 {
		s := setup(14, 4, []int{2}, nil, []int{3, 5})
		s.Marked = []int{6}
		plain, _ := house.New(s)
		var want []api.Errno
		for _, x := range l[:count] {
			want = append(want, asked(plain, x))
		}
		h, came, err := Play(s, l[:count])
		if err != api.OK || !slices.Equal(came, want) {
			t.Fatalf("%d steps came to %v, error %d, want %v", count, came, err, want)
		}
		alike(t, strconv.Itoa(count)+" steps", h, stateOf(plain))
	}
}

// unplayed holds that a script isn't played, and that nothing is told beside the error.
func unplayed(t *testing.T, what string, want api.Errno, s api.Setup, l []api.Step) {
	t.Helper()
	if h, came, err := Play(s, l); err != want || h != nil || came != nil {
		t.Fatalf("%s: %v came of it, error %d, want error %d", what, came, err, want)
	}
}

// wrong are setups of which there is no house, and the errors that tell so.
func wrong() map[string]struct {
	setup api.Setup
	want  api.Errno
} {
	type row = struct {
		setup api.Setup
		want  api.Errno
	}
	strange := setup(9, 4)
	strange.Marked = []int{9}
	admins := setup(9, 4)
	admins.Marked = []int{3, 1}
	return map[string]row{
		"no array":                       {api.Setup{}, api.ErrArg},
		"an array without channels":      {api.Setup{Geometry: api.Geometry{Dies: 1, Blocks: 9, Pages: 4}}, api.ErrArg},
		"an array of one page a block":   {setup(9, 1), api.ErrArg},
		"an array of the admin's blocks": {setup(2, 4), api.ErrArg},
		"an array of too many blocks":    {setup(65, 4), api.ErrMany},
		"an array of too many pages":     {setup(9, 17), api.ErrMany},
		"too many faults":                {setup(9, 4, nil, make([]int, api.MaxDraws+1)), api.ErrMany},
		"too many faults of no array":    {setup(0, 0, nil, make([]int, api.MaxDraws+1)), api.ErrMany},
		"a fault of no operation":        {setup(9, 4, nil, nil, nil, []int{1, 0}), api.ErrRange},
		"a fault, and too many pages":    {setup(9, 17, []int{-1}), api.ErrRange},
		"a marked block that is none":    {strange, api.ErrRange},
		"a marked block of the admin's":  {admins, api.ErrRange},
	}
}

func TestASetupThatMayNotBe(t *testing.T) {
	busy, _ := busy()
	for what, x := range wrong() {
		for _, l := range [][]api.Step{nil, {pause(1)}, {{Kind: 99}}, busy, make([]api.Step, api.MaxSteps)} {
			unplayed(t, what, x.want, x.setup, l)
		}
		unplayed(t, what, api.ErrMany, x.setup, make([]api.Step, api.MaxSteps+1))
	}
}

func TestTooManySteps(t *testing.T) {
	l := slices.Repeat([]api.Step{pause(1)}, api.MaxSteps)
	if h := played(t, setup(9, 4), l...); h.Slots() != api.MaxSteps {
		t.Errorf("%d steps had %d slots", len(l), h.Slots())
	}
	unplayed(t, "one step more", api.ErrMany, setup(9, 4), append(l, pause(1)))
	unplayed(t, "one step more, that is none", api.ErrMany, setup(9, 4), append(l, api.Step{}))
	unplayed(t, "many steps more", api.ErrMany, setup(9, 4), slices.Repeat(l, 16))
}

// TestMostSlots has as many slots as a script can have.
func TestMostSlots(t *testing.T) {
	l := slices.Repeat([]api.Step{pause(api.MaxSteps)}, api.MaxSteps)
	if h := played(t, setup(9, 4), l...); h.Slots() != api.MaxSteps*api.MaxSteps {
		t.Errorf("there were %d slots", h.Slots())
	}
}

func TestAHouseMayEndDown(t *testing.T) {
	h := played(t, setup(9, 4), create(0, 3, 0), write(0, 1, "x"), pause(1), flush(0), cutIn(2, -1))
	if h.Up() || h.Slots() != 3 || len(Done(h)[0]) != 1 {
		t.Errorf("it is up: %t, had %d slots, and did %+v", h.Up(), h.Slots(), Done(h))
	}
	is(t, "Mount", h.Mount(-1), api.OK)
	has(t, h, 0, "", "", "")
}

// TestNothingHandedInIsKept changes what was handed in, and what was told: the house goes on as its twin does.
func TestNothingHandedInIsKept(t *testing.T) {
	l, want := busy()
	more := slices.Repeat([]api.Step{write(2, 1, "more"), flush(2), pause(8)}, 12)
	made := func() api.Setup {
		s := setup(14, 4, []int{7}, nil, []int{9, 12})
		s.Marked = []int{6}
		return s
	}
	s := made()
	twin, _, _ := Play(s, append(slices.Clone(l), more...))
	h, came, _ := Play(s, l)
	if again, _ := busy(); !slices.Equal(l, again) || !reflect.DeepEqual(s, made()) {
		t.Fatalf("the script is %+v, %+v now", s, l)
	}
	if !slices.Equal(came, want) {
		t.Fatalf("the steps came to %v, want %v", came, want)
	}
	clear(l)
	clear(came)
	stat, _ := h.Stat(2)
	s.Faults[2][0], s.Faults[2][1] = stat.Ops+1, stat.Ops+2 // the next ones
	s.Faults[0][0], s.Marked[0] = 1, 7
	for _, x := range more {
		asked(h, x)
	}
	alike(t, "what was handed in is changed", h, stateOf(twin))
}

func TestTwoHousesAreTwo(t *testing.T) {
	l := []api.Step{create(0, 3, 0), write(0, 1, "x"), pause(1)}
	one, other := played(t, setup(9, 4), l...), played(t, setup(9, 4), l...)
	was := stateOf(other)
	one.Destroy(0)
	one.Cut()
	alike(t, "another house", other, was)
}

// P26.1: Text

func TestExampleOfStage(t *testing.T) {
	h, came, err := Text("array 1 1 9 4\ncreate 0 3 0\nwrite 0 2 6869\nslots 4\n")
	if err != api.OK || !slices.Equal(came, make([]api.Errno, 3)) {
		t.Fatalf("the steps came to %v, error %d", came, err)
	}
	has(t, h, 0, "", "", "hi")
	if got := Done(h)[0]; !slices.Equal(got, []api.Done{{}}) {
		t.Errorf("%+v was done", got)
	}
}

func TestATextIsPlayedAsItsScript(t *testing.T) {
	s := setup(14, 4, []int{2}, nil, []int{3, 5})
	s.Marked = []int{6}
	var l []api.Step
	steps, _ := busy()
	for _, x := range steps {
		if _, ok := script.Line(x); ok {
			l = append(l, x)
		}
	}
	for count := range len(l) + 1 {
		text, ok := script.Print(s, l[:count])
		if !ok {
			t.Fatalf("%d steps can't be written", count)
		}
		plain, want, _ := Play(s, l[:count])
		h, came, err := Text(text)
		if err != api.OK || !slices.Equal(came, want) {
			t.Fatalf("%d steps as text came to %v, error %d, want %v", count, came, err, want)
		}
		alike(t, strconv.Itoa(count)+" steps as text", h, stateOf(plain))
	}
}

func TestATextWithoutSteps(t *testing.T) {
	h, came, err := Text("array 1 1 9 4\nfault 2 1\nmarked 4\n")
	if err != api.OK || len(came) != 0 || h == nil {
		t.Fatalf("a text without steps is %v, error %d", came, err)
	}
	s := setup(9, 4, nil, nil, []int{1})
	s.Marked = []int{4}
	plain, _ := house.New(s)
	alike(t, "a text without steps", h, stateOf(plain))
}

func TestATextThatMayNotBe(t *testing.T) {
	const most = api.MaxSteps
	slots := func(count int) string { return strings.Repeat("slots 1\n", count) }
	for text, want := range map[string]api.Errno{
		"":                                       api.ErrForm,
		"\n":                                     api.ErrForm,
		"array 1 1 9 4":                          api.ErrForm,
		"slots 1\n":                              api.ErrForm,
		"array 1 1 9 4\nslots 1":                 api.ErrForm,
		"array 1 1 9 4\nslots\n":                 api.ErrForm,
		"array 1 1 9 4\nslots 1\nmarked 3\n":     api.ErrForm,
		"array 0 1 9 4\nslots x\n":               api.ErrForm, // the text is read first
		"array 1 1 9 4\n" + slots(most+1):        api.ErrMany,
		"array 0 1 9 4\n" + slots(most+1):        api.ErrMany,
		"array 1 1 9 4\nslots\n" + slots(most+1): api.ErrForm,
		"array 0 1 9 4\n":                        api.ErrArg,
		"array 0 1 9 4\n" + slots(most):          api.ErrArg,
		"array 1 1 9 1\nslots 1\n":               api.ErrArg,
		"array 1 1 65 4\nslots 1\n":              api.ErrMany,
		"array -1 1 9 4\nfault 0 0\nslots 1\n":   api.ErrRange,
		"array 1 1 9 4\nfault 3 0\n":             api.ErrRange,
		"array 1 1 9 4\nmarked 1\n":              api.ErrRange,
		"array 1 1 9 4\nmarked 9\nslots 1\n":     api.ErrRange,
		"array 1 1 9 4\nfault 1" + strings.Repeat(" 1", api.MaxDraws+1) + "\n": api.ErrMany,
	} {
		if h, came, err := Text(text); err != want || h != nil || came != nil {
			t.Errorf("%.60q: %v came of it, error %d, want error %d", text, came, err, want)
		}
	}
	if h, came, err := Text("array 1 1 9 4\n" + slots(most)); err != api.OK || len(came) != most || h.Slots() != most {
		t.Errorf("as many steps as may be are error %d", err)
	}
}

// P26.1: Done

func TestDoneIsEachTenants(t *testing.T) {
	var l []api.Step
	for who := range api.Tenants {
		l = append(l, create(who, 3, 0))
	}
	for who := range api.Tenants {
		for place := range who {
			l = append(l, write(who, place, "x"))
		}
	}
	h := played(t, setup(14, 4), append(l, pause(20))...)
	want := [api.Tenants][]api.Done{1: {{Slot: 1}}, 2: {{Slot: 2}, {Slot: 6}}, 3: {{Slot: 3}, {Slot: 7}, {Slot: 11}}}
	for who, got := range Done(h) {
		if !slices.Equal(got, want[who]) {
			t.Errorf("tenant %d did %+v, want %+v", who, got, want[who])
		}
	}
}

func TestDoneStaysTold(t *testing.T) {
	want := []api.Done{{Slot: 1}, {Slot: 5, Status: api.ErrLong}, {Slot: 9, Data: "x"}}
	l := []api.Step{create(1, 3, 0), write(1, 2, "x"), write(1, 2, "12345678901234567"), read(1, 2), pause(12)}
	for _, more := range [][]api.Step{nil, {write(1, 0, "waits")}, {cutIn(-1, 0)}, {cutIn(-1, 0), mounting(-1)}, {destroy(1)}} {
		h := played(t, setup(9, 4), append(slices.Clone(l), more...)...)
		for who, got := range Done(h) {
			if who == 1 && !slices.Equal(got, want) || who != 1 && len(got) != 0 {
				t.Errorf("behind %+v, tenant %d did %+v", more, who, got)
			}
		}
	}
	h := played(t, setup(9, 4), append(l, destroy(1), create(1, 3, 0))...)
	if got := Done(h)[1]; len(got) != 0 {
		t.Errorf("a new tenant did %+v", got)
	}
}

func TestDoneOfNoHouse(t *testing.T) {
	for what, h := range map[string]*house.House{"nil": nil, "one that wasn't made": new(house.House), "a new one": played(t, setup(9, 4))} {
		for who, got := range Done(h) {
			if len(got) != 0 {
				t.Errorf("%s: tenant %d did %+v", what, who, got)
			}
		}
	}
}

func TestWhatIsToldIsNewMemory(t *testing.T) {
	h := played(t, setup(9, 4), create(0, 3, 0), write(0, 1, "x"), read(0, 1), pause(5))
	was := stateOf(h)
	told, _ := Places(h, 0)
	done := Done(h)
	told[1], done[0][1].Data = "y", "y"
	_ = append(told[:1], "z")
	_ = append(done[0][:1], api.Done{Slot: 99})
	has(t, h, 0, "", "x", "")
	if again := Done(h)[0]; !slices.Equal(again, []api.Done{{}, {Slot: 4, Data: "x"}}) {
		t.Errorf("it did %+v", again)
	}
	alike(t, "what was told is changed", h, was)
}

// P26.1: Places

func TestPlacesAreAllOfATenants(t *testing.T) {
	for _, size := range []int{1, 2, 5, api.MaxSize - 1, api.MaxSize} {
		h := played(t, setup(40, 4), create(3, size, 0), create(1, 3, 0), write(3, size-1, "last"), write(3, 0, "first"), write(1, 1, "other"), pause(8))
		want := make([]string, size)
		want[size-1] = "last"
		want[0] = "first"
		has(t, h, 3, want...)
		has(t, h, 1, "", "other", "")
	}
}

func TestPlacesAreThoseOfNow(t *testing.T) {
	l := []api.Step{create(0, 3, 0), write(0, 0, "a"), write(0, 1, "b"), write(0, 2, "\x00\xff"), flush(0), pause(16)}
	for _, x := range []struct {
		what string
		more []api.Step
		want []string
	}{
		{"flushed", nil, []string{"a", "b", "\x00\xff"}},
		{"a command that waits", []api.Step{write(0, 0, "x")}, []string{"a", "b", "\x00\xff"}},
		{"a change that waits", []api.Step{write(0, 0, "x"), pause(4)}, []string{"x", "b", "\x00\xff"}},
		{"a trim that waits", []api.Step{trim(0, 1), pause(4)}, []string{"a", "", "\x00\xff"}},
		{"a trim that is flushed", []api.Step{trim(0, 1), flush(0), pause(8)}, []string{"a", "", "\x00\xff"}},
		{"one that is emptied", []api.Step{write(0, 2, ""), pause(4)}, []string{"a", "b", ""}},
		{"more places", []api.Step{resize(0, 5)}, []string{"a", "b", "\x00\xff", "", ""}},
		{"fewer places", []api.Step{resize(0, 1)}, []string{"a"}},
		{"more again", []api.Step{resize(0, 1), resize(0, 3)}, []string{"a", "", ""}},
		{"a change that isn't flushed, and a cut", []api.Step{write(0, 0, "x"), pause(4), cutIn(-1, 0), mounting(-1)}, []string{"a", "b", "\x00\xff"}},
		{"a new tenant", []api.Step{destroy(0), create(0, 2, 0)}, []string{"", ""}},
		{"other blocks", []api.Step{create(2, 1, 0), swap(0, 2)}, []string{"a", "b", "\x00\xff"}},
	} {
		t.Run(x.what, func(t *testing.T) {
			h := played(t, setup(12, 4), append(slices.Clone(l), x.more...)...)
			was := stateOf(h)
			has(t, h, 0, x.want...)
			alike(t, "what was asked", h, was)
		})
	}
}

func TestPlacesOfNobody(t *testing.T) {
	h := played(t, setup(9, 4), create(0, 3, 0), create(3, 3, 0), destroy(0))
	for _, who := range nobodies {
		lacks(t, "a house that is up", h, who, api.ErrRange)
	}
	lacks(t, "one that was destroyed", h, 0, api.ErrNone)
	lacks(t, "one that wasn't created", h, 1, api.ErrNone)
	has(t, h, 3, "", "", "")
	down := played(t, setup(9, 4), create(0, 3, 0), create(3, 3, 0), cutIn(-1, -1))
	for what, h := range map[string]*house.House{"a house that is down": down, "nil": nil, "one that wasn't made": new(house.House)} {
		for _, who := range append([]int{0, 1, 2, 3}, nobodies...) {
			lacks(t, what, h, who, api.ErrCut)
		}
	}
}

// TestPlacesOfASpoiltPage has somebody erase what a place had: what Peek tells is told, and no place.
func TestPlacesOfASpoiltPage(t *testing.T) {
	h := played(t, setup(9, 4), create(0, 3, 0), write(0, 1, "x"), flush(0), pause(8))
	is(t, "Erase", h.Array().Erase(api.Admin, 2), api.OK)
	_, want := h.Peek(0, 1)
	if want == api.OK {
		t.Fatal("the page is there")
	}
	lacks(t, "a spoilt page", h, 0, want)
}
