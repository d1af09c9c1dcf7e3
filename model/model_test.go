package model

import (
	"math"
	"slices"
	"strconv"
	"strings"
	"testing"

	"almshouse/api"
)

// strangers are numbers that no tenant has.
var strangers = []int{math.MinInt, -1 << 32, -4, -1, 4, 5, 8, 1 << 32, math.MaxInt}

// unfit are sizes that no tenant is made of.
var unfit = []int{math.MinInt, -1 << 32, -64, -1, 0, 65, 128, 1<<32 + 1, math.MaxInt}

// far are numbers that no place has.
var far = []int{math.MinInt, -1 << 32, -65, -2, -1, 65, 1 << 20, 1 << 32, math.MaxInt}

func read(place int) api.Command { return api.Command{Op: api.OpRead, Place: place} }

func write(place int, data string) api.Command {
	return api.Command{Op: api.OpWrite, Place: place, Data: data}
}

func trim(place int) api.Command { return api.Command{Op: api.OpTrim, Place: place} }

func flush() api.Command { return api.Command{Op: api.OpFlush} }

// always and never tell of all tenants that they are to be read only, and that they aren't.
func always(int) bool { return true }

func never(int) bool { return false }

// submits has commands wait, all of which may.
func submits(t *testing.T, m *Model, who int, l ...api.Command) {
	t.Helper()
	for _, c := range l {
		if e := m.Submit(who, c); e != api.OK {
			t.Fatalf("Submit(%d, %+v) is %d", who, c, e)
		}
	}
}

// slot holds the next slot, the first one of which something is to be done.
func slot(t *testing.T, m *Model, only func(int) bool, who int, want api.Done) {
	t.Helper()
	at, d, ok := m.Slot(only)
	if at != who || d != want || !ok {
		t.Fatalf("the slot is %d, %+v, %t, want %d, %+v", at, d, ok, who, want)
	}
}

// passes has slots go by in which nothing is done, the first one of them that tenant's.
func passes(t *testing.T, m *Model, who, count int) {
	t.Helper()
	asks := func(about int) bool {
		t.Errorf("nothing is done, and somebody is asked about %d", about)
		return false
	}
	for i := range count {
		at, d, ok := m.Slot(asks)
		if at != (who+i)%4 || d != (api.Done{}) || ok {
			t.Fatalf("the slot is %d, %+v, %t, want nothing of %d", at, d, ok, (who+i)%4)
		}
	}
}

// comes does a command of tenant 0, whose slot is the next one, and has the others' slots go by.
func comes(t *testing.T, m *Model, slots *int, only func(int) bool, c api.Command, want api.Errno, data string) {
	t.Helper()
	submits(t, m, 0, c)
	slot(t, m, only, 0, api.Done{Slot: *slots, Status: want, Data: data})
	passes(t, m, 1, 3)
	*slots += 4
}

// holds holds what a model tells of a tenant against what it is to have.
func holds(t *testing.T, m *Model, who int, places, durable []string, behind []Change) {
	t.Helper()
	if !m.There(who) || m.Size(who) != len(places) {
		t.Fatalf("of %d: There is %t, Size %d, want %d places", who, m.There(who), m.Size(who), len(places))
	}
	for place, want := range places {
		if got := m.Place(who, place); got != want {
			t.Fatalf("Place(%d, %d) is %q, want %q", who, place, got, want)
		}
	}
	for _, place := range append([]int{len(places), len(places) + 1}, far...) {
		if got := m.Place(who, place); (place < 0 || place >= len(places)) && got != "" {
			t.Fatalf("Place(%d, %d) of %d places is %q", who, place, len(places), got)
		}
	}
	if got := m.Durable(who); !slices.Equal(got, durable) {
		t.Fatalf("Durable(%d) is %q, want %q", who, got, durable)
	}
	if got := m.Behind(who); !slices.Equal(got, behind) {
		t.Fatalf("Behind(%d) is %v, want %v", who, got, behind)
	}
}

// lacks holds what a model tells of a tenant that isn't there.
func lacks(t *testing.T, m *Model, who int) {
	t.Helper()
	if m.There(who) || m.Size(who) != 0 || len(m.Durable(who)) != 0 || len(m.Behind(who)) != 0 {
		t.Fatalf("of %d, who isn't there: There is %t, Size %d, Durable %q, Behind %v", who, m.There(who), m.Size(who), m.Durable(who), m.Behind(who))
	}
	for _, place := range append([]int{0, 1, 63}, far...) {
		if got := m.Place(who, place); got != "" {
			t.Fatalf("Place(%d, %d), who isn't there, is %q", who, place, got)
		}
	}
}

// lacksAll holds that nobody is there, of the numbers that tenants have and of others.
func lacksAll(t *testing.T, m *Model) {
	t.Helper()
	for _, who := range append([]int{0, 1, 2, 3}, strangers...) {
		lacks(t, m, who)
	}
}

// blanks are so many empty places.
func blanks(count int) []string { return make([]string, count) }

// busy is a model whose tenant 0 of three places has flushed "a" at 0 and "b" at 1, has "c" at 1 and nothing at 0 behind that, and lets a read of 1 wait; its next slot is tenant 0's.
func busy(t *testing.T) (*Model, int) {
	t.Helper()
	m, slots := New(), 0
	m.Create(0, 3)
	comes(t, m, &slots, nil, write(0, "a"), api.OK, "")
	comes(t, m, &slots, nil, write(1, "b"), api.OK, "")
	comes(t, m, &slots, nil, flush(), api.OK, "")
	comes(t, m, &slots, nil, write(1, "c"), api.OK, "")
	comes(t, m, &slots, nil, trim(0), api.OK, "")
	submits(t, m, 0, read(1))
	holds(t, m, 0, []string{"", "c", ""}, []string{"a", "b", ""}, []Change{{1, "c"}, {0, ""}})
	return m, slots
}

// staysBusy holds that a busy model is as it was.
func staysBusy(t *testing.T, m *Model, slots int) {
	t.Helper()
	holds(t, m, 0, []string{"", "c", ""}, []string{"a", "b", ""}, []Change{{1, "c"}, {0, ""}})
	for who := 1; who < 4; who++ {
		lacks(t, m, who)
	}
	slot(t, m, nil, 0, api.Done{Slot: slots, Data: "c"})
	passes(t, m, 1, 7)
}

// P23.1

func TestNewHasNone(t *testing.T) {
	if New() == nil {
		t.Fatal("New is nil")
	}
	for _, m := range []*Model{New(), new(Model)} {
		lacksAll(t, m)
		m.Fall()
		passes(t, m, 0, 9)
		m.Create(1, 1)
		holds(t, m, 1, blanks(1), blanks(1), nil)
	}
}

func TestExample(t *testing.T) {
	m := New()
	m.Create(0, 1)
	submits(t, m, 0, write(0, "x"))
	slot(t, m, nil, 0, api.Done{})
	holds(t, m, 0, []string{"x"}, []string{""}, []Change{{0, "x"}})
}

func TestCreate(t *testing.T) {
	for size := 1; size <= 64; size++ {
		for who := range 4 {
			m := New()
			m.Create(who, size)
			holds(t, m, who, blanks(size), blanks(size), nil)
			for other := range 4 {
				if other != who {
					lacks(t, m, other)
				}
			}
			passes(t, m, 0, 4)
		}
	}
}

func TestCreateOfNone(t *testing.T) {
	m, slots := busy(t)
	for _, who := range strangers {
		for _, size := range append([]int{1, 3, 64}, unfit...) {
			m.Create(who, size)
			lacks(t, m, who)
		}
	}
	for _, size := range unfit {
		for who := range 4 {
			m.Create(who, size)
		}
	}
	staysBusy(t, m, slots)
}

// TestCreateAnew creates who is there already, of as many places, of fewer, of more.
func TestCreateAnew(t *testing.T) {
	for _, size := range []int{1, 2, 3, 4, 64} {
		m, slots := busy(t)
		m.Create(0, size)
		holds(t, m, 0, blanks(size), blanks(size), nil)
		passes(t, m, 0, 4) // nothing waits
		slots += 4
		comes(t, m, &slots, nil, write(0, "n"), api.OK, "")
		want := blanks(size)
		want[0] = "n"
		holds(t, m, 0, want, blanks(size), []Change{{0, "n"}})
	}
}

func TestDestroy(t *testing.T) {
	m, _ := busy(t)
	m.Create(2, 2)
	submits(t, m, 2, write(1, "two"))
	m.Destroy(0)
	lacks(t, m, 0)
	if e := m.Submit(0, flush()); e != api.ErrNone {
		t.Errorf("Submit to one that was destroyed is %d", e)
	}
	passes(t, m, 0, 2)
	slot(t, m, nil, 2, api.Done{Slot: 22})
	holds(t, m, 2, []string{"", "two"}, blanks(2), []Change{{1, "two"}})
	m.Destroy(0)
	lacks(t, m, 0)
	m.Create(0, 3)
	holds(t, m, 0, blanks(3), blanks(3), nil)
	passes(t, m, 3, 9) // nothing of the former one waits
	m.Destroy(2)
	m.Destroy(0)
	lacksAll(t, m)
}

func TestDestroyOfNone(t *testing.T) {
	m, slots := busy(t)
	for _, who := range append([]int{1, 2, 3}, strangers...) {
		m.Destroy(who)
	}
	staysBusy(t, m, slots)
}

func TestResize(t *testing.T) {
	for size := 1; size <= 64; size++ {
		m, slots := busy(t)
		m.Resize(0, size)
		want := blanks(size)
		copy(want, []string{"", "c", ""})
		holds(t, m, 0, want, want, nil)
		// what waits goes on to
		came := api.Done{Slot: slots, Data: "c"}
		if size == 1 {
			came = api.Done{Slot: slots, Status: api.ErrRange}
		}
		slot(t, m, nil, 0, came)
		passes(t, m, 1, 3)
		slots += 4
		comes(t, m, &slots, nil, write(size-1, "end"), api.OK, "")
		durable := slices.Clone(want)
		want[size-1] = "end"
		holds(t, m, 0, want, durable, []Change{{size - 1, "end"}})
		comes(t, m, &slots, nil, write(size, "no"), api.ErrRange, "")
	}
}

// TestResizeToAsMany asks for the size that is: what it had is durable then, too.
func TestResizeToAsMany(t *testing.T) {
	m, _ := busy(t)
	m.Resize(0, 3)
	holds(t, m, 0, []string{"", "c", ""}, []string{"", "c", ""}, nil)
}

// TestResizeLeavesNothing lets places go, and come again: they are empty.
func TestResizeLeavesNothing(t *testing.T) {
	m := New()
	m.Create(3, 4)
	submits(t, m, 3, write(0, "a"), write(1, "b"), write(2, "c"), write(3, "d"))
	for range 16 {
		m.Slot(nil)
	}
	m.Resize(3, 2)
	holds(t, m, 3, []string{"a", "b"}, []string{"a", "b"}, nil)
	m.Resize(3, 4)
	holds(t, m, 3, []string{"a", "b", "", ""}, []string{"a", "b", "", ""}, nil)
	m.Resize(3, 1)
	m.Resize(3, 64)
	want := blanks(64)
	want[0] = "a"
	holds(t, m, 3, want, want, nil)
}

func TestResizeOfNone(t *testing.T) {
	m, slots := busy(t)
	for _, who := range append([]int{1, 2, 3}, strangers...) {
		for _, size := range append([]int{1, 3, 64}, unfit...) {
			m.Resize(who, size)
			lacks(t, m, who)
		}
	}
	for _, size := range unfit {
		m.Resize(0, size)
	}
	staysBusy(t, m, slots)
}

// wrong are commands that may not be.
func wrong() []api.Command {
	return []api.Command{
		{},
		{Op: 5},
		{Op: -1},
		{Op: math.MaxInt},
		{Op: api.OpRead, Data: "d"},
		{Op: api.OpTrim, Data: "d"},
		{Op: api.OpFlush, Data: "d"},
		{Op: api.OpFlush, Place: 1},
		{Op: api.OpFlush, Place: -1},
	}
}

func TestSubmit(t *testing.T) {
	m, slots := busy(t)
	for _, c := range append(wrong(), flush(), read(0), write(0, "a"), trim(9)) {
		for _, who := range strangers {
			if e := m.Submit(who, c); e != api.ErrRange {
				t.Errorf("Submit(%d, %+v) is %d", who, c, e)
			}
		}
		for who := 1; who < 4; who++ {
			if e := m.Submit(who, c); e != api.ErrNone {
				t.Errorf("Submit(%d, %+v), who isn't there, is %d", who, c, e)
			}
		}
	}
	for _, c := range wrong() {
		if e := m.Submit(0, c); e != api.ErrArg {
			t.Errorf("Submit(0, %+v) is %d", c, e)
		}
	}
	staysBusy(t, m, slots)
}

// TestSubmitTillFull lets as many wait as may, of any place and any length, of each tenant for itself.
func TestSubmitTillFull(t *testing.T) {
	m := New()
	m.Create(0, 1)
	m.Create(1, 1)
	for i := range 8 {
		submits(t, m, 0, write(math.MaxInt-i, strings.Repeat("x", 1000)))
	}
	for _, c := range []api.Command{read(0), write(0, "a"), trim(0), flush()} {
		if e := m.Submit(0, c); e != api.ErrFull {
			t.Errorf("a ninth Submit(0, %+v) is %d", c, e)
		}
	}
	if e := m.Submit(0, api.Command{}); e != api.ErrArg {
		t.Errorf("a ninth Submit of no command is %d", e)
	}
	submits(t, m, 1, flush())
	slot(t, m, nil, 0, api.Done{Status: api.ErrRange})
	submits(t, m, 0, flush())
	if e := m.Submit(0, flush()); e != api.ErrFull {
		t.Errorf("one was done, one more waits, and Submit is %d", e)
	}
}

// TestSlotsGoRound has four tenants' commands wait: each one is done in its tenant's slots, the one that waits longest first.
func TestSlotsGoRound(t *testing.T) {
	m := New()
	for who := range 4 {
		m.Create(who, who+1)
		for i := range 3 {
			submits(t, m, who, write(who, strconv.Itoa(who)+strconv.Itoa(i)), read(who))
		}
	}
	for i := range 3 {
		for who := range 4 {
			slot(t, m, nil, who, api.Done{Slot: 8*i + who})
			if got, want := m.Place(who, who), strconv.Itoa(who)+strconv.Itoa(i); got != want {
				t.Fatalf("Place(%d, %d) is %q, want %q", who, who, got, want)
			}
		}
		for who := range 4 {
			slot(t, m, nil, who, api.Done{Slot: 8*i + 4 + who, Data: strconv.Itoa(who) + strconv.Itoa(i)})
		}
	}
	passes(t, m, 0, 8)
}

// TestSlotsAreCounted counts slots of tenants that aren't there, or let nothing wait, as others.
func TestSlotsAreCounted(t *testing.T) {
	for ahead := range 13 {
		m := New()
		passes(t, m, 0, ahead)
		m.Create(2, 2)
		m.Create(3, 2)
		submits(t, m, 2, read(0))
		last := ahead
		for ; last%4 != 2; last++ {
			passes(t, m, last, 1)
		}
		slot(t, m, nil, 2, api.Done{Slot: last})
		passes(t, m, 3, 5)
		submits(t, m, 3, write(2, "no"), flush())
		passes(t, m, 0, 3)
		slot(t, m, nil, 3, api.Done{Slot: last + 9, Status: api.ErrRange})
		m.Destroy(2)
		passes(t, m, 0, 3)
		slot(t, m, nil, 3, api.Done{Slot: last + 13})
		m.Fall()
		passes(t, m, 0, 2)
		m.Create(2, 1)
		m.Restore(2, []string{"r"})
		submits(t, m, 2, read(0))
		slot(t, m, nil, 2, api.Done{Slot: last + 16, Data: "r"})
	}
}

// TestCommands does commands one by one, and holds all that the tenant has behind each.
func TestCommands(t *testing.T) {
	m, slots := New(), 0
	m.Create(0, 2)
	full := strings.Repeat("x", 16)
	for _, x := range []struct {
		command         api.Command
		data            string
		places, durable []string
		behind          []Change
	}{
		{read(0), "", []string{"", ""}, []string{"", ""}, nil},
		{flush(), "", []string{"", ""}, []string{"", ""}, nil},
		{write(1, "b"), "", []string{"", "b"}, []string{"", ""}, []Change{{1, "b"}}},
		{read(1), "b", []string{"", "b"}, []string{"", ""}, []Change{{1, "b"}}},
		{read(0), "", []string{"", "b"}, []string{"", ""}, []Change{{1, "b"}}},
		{write(1, "b"), "", []string{"", "b"}, []string{"", ""}, []Change{{1, "b"}, {1, "b"}}},
		{trim(0), "", []string{"", "b"}, []string{"", ""}, []Change{{1, "b"}, {1, "b"}, {0, ""}}},
		{flush(), "", []string{"", "b"}, []string{"", "b"}, nil},
		{write(0, full), "", []string{full, "b"}, []string{"", "b"}, []Change{{0, full}}},
		{read(0), full, []string{full, "b"}, []string{"", "b"}, []Change{{0, full}}},
		{trim(1), "", []string{full, ""}, []string{"", "b"}, []Change{{0, full}, {1, ""}}},
		{read(1), "", []string{full, ""}, []string{"", "b"}, []Change{{0, full}, {1, ""}}},
		{write(1, ""), "", []string{full, ""}, []string{"", "b"}, []Change{{0, full}, {1, ""}, {1, ""}}},
		{write(1, "\x00\xff"), "", []string{full, "\x00\xff"}, []string{"", "b"}, []Change{{0, full}, {1, ""}, {1, ""}, {1, "\x00\xff"}}},
		{flush(), "", []string{full, "\x00\xff"}, []string{full, "\x00\xff"}, nil},
		{flush(), "", []string{full, "\x00\xff"}, []string{full, "\x00\xff"}, nil},
		{trim(0), "", []string{"", "\x00\xff"}, []string{full, "\x00\xff"}, []Change{{0, ""}}},
	} {
		comes(t, m, &slots, never, x.command, api.OK, x.data)
		holds(t, m, 0, x.places, x.durable, x.behind)
	}
}

// TestRefused refuses commands, by the first error that is named: nothing is changed, and nobody is asked about the tenant where that doesn't matter.
func TestRefused(t *testing.T) {
	long := strings.Repeat("x", 17)
	places := append([]int{3, 4, 63, 64}, far...)
	m, slots := busy(t)
	slot(t, m, nil, 0, api.Done{Slot: slots, Data: "c"})
	passes(t, m, 1, 3)
	slots += 4
	asked := 0
	counts := func(who int) bool {
		asked++
		return true
	}
	for _, only := range []func(int) bool{nil, never, counts} {
		for _, place := range places {
			for _, c := range []api.Command{read(place), write(place, "d"), write(place, long), trim(place)} {
				comes(t, m, &slots, only, c, api.ErrRange, "")
			}
		}
		for place := range 3 {
			comes(t, m, &slots, only, write(place, long), api.ErrLong, "")
			comes(t, m, &slots, only, write(place, strings.Repeat("x", 100000)), api.ErrLong, "")
		}
		comes(t, m, &slots, only, read(0), api.OK, "")
		comes(t, m, &slots, only, read(1), api.OK, "c")
	}
	if asked != 0 {
		t.Errorf("asked %d times about the tenant", asked)
	}
	submits(t, m, 0, read(1))
	staysBusy(t, m, slots)
}

// TestReadOnly tells of a tenant that it is to be read only: reads go on, and nothing else.
func TestReadOnly(t *testing.T) {
	m, slots := busy(t)
	slot(t, m, always, 0, api.Done{Slot: slots, Data: "c"})
	passes(t, m, 1, 3)
	slots += 4
	for range 2 {
		for place := range 3 {
			comes(t, m, &slots, always, write(place, "d"), api.ErrRead, "")
			comes(t, m, &slots, always, write(place, strings.Repeat("x", 16)), api.ErrRead, "")
			comes(t, m, &slots, always, trim(place), api.ErrRead, "")
		}
		comes(t, m, &slots, always, flush(), api.ErrRead, "")
		comes(t, m, &slots, always, read(1), api.OK, "c")
		comes(t, m, &slots, always, read(3), api.ErrRange, "")
	}
	holds(t, m, 0, []string{"", "c", ""}, []string{"a", "b", ""}, []Change{{1, "c"}, {0, ""}})
	// it is asked anew in each slot
	comes(t, m, &slots, never, write(2, "d"), api.OK, "")
	comes(t, m, &slots, always, flush(), api.ErrRead, "")
	comes(t, m, &slots, nil, trim(1), api.OK, "")
	comes(t, m, &slots, always, trim(1), api.ErrRead, "")
	holds(t, m, 0, []string{"", "", "d"}, []string{"a", "b", ""}, []Change{{1, "c"}, {0, ""}, {2, "d"}, {1, ""}})
	comes(t, m, &slots, never, flush(), api.OK, "")
	holds(t, m, 0, []string{"", "", "d"}, []string{"", "", "d"}, nil)
}

// TestOnlyIsAsked asks who is asked about, and how often: of each tenant whose command isn't a read, once, in its slot.
func TestOnlyIsAsked(t *testing.T) {
	m := New()
	for who := range 4 {
		m.Create(who, 2)
		submits(t, m, who, read(0), write(0, "a"), trim(1), flush(), write(2, "a"))
	}
	var asked []int
	for i := range 20 {
		who := i % 4
		want := api.Done{Slot: i}
		switch {
		case i >= 16:
			want.Status = api.ErrRange
		case i >= 4 && who == 2:
			want.Status = api.ErrRead
		}
		slot(t, m, func(t int) bool {
			asked = append(asked, t)
			return t == 2
		}, who, want)
	}
	if want := []int{0, 1, 2, 3, 0, 1, 2, 3, 0, 1, 2, 3}; !slices.Equal(asked, want) {
		t.Errorf("asked about %d, want %d", asked, want)
	}
	for who := range 4 {
		want := []string{"a", ""}
		if who == 2 {
			want = blanks(2)
		}
		holds(t, m, who, want, want, nil)
	}
}

// TestOnlyPanics hands a function that panics: it hasn't told that the tenant is to be read only.
func TestOnlyPanics(t *testing.T) {
	m, slots := New(), 0
	m.Create(0, 1)
	var none map[int]bool
	for _, only := range []func(int) bool{
		func(int) bool { panic("asked") },
		func(int) bool { panic(nil) },
		func(t int) bool { none[t] = true; return true },
	} {
		comes(t, m, &slots, only, write(0, "a"), api.OK, "")
		holds(t, m, 0, []string{"a"}, []string{""}, []Change{{0, "a"}})
		comes(t, m, &slots, only, trim(0), api.OK, "")
		comes(t, m, &slots, only, flush(), api.OK, "")
		holds(t, m, 0, []string{""}, []string{""}, nil)
	}
}

// TestOnlyAsksModel hands functions that ask, and change, the model itself: no call panics, and all end.
func TestOnlyAsksModel(t *testing.T) {
	for _, c := range []api.Command{write(2, "d"), trim(2), flush()} {
		for _, does := range []func(m *Model){
			func(m *Model) { m.Resize(0, 1) },
			func(m *Model) { m.Restore(0, nil) },
			func(m *Model) { m.Destroy(0) },
			func(m *Model) { m.Create(0, 1) },
			func(m *Model) { m.Fall() },
			func(m *Model) { m.Slot(always) },
			func(m *Model) { m.Place(0, 2) },
		} {
			m := New()
			m.Create(0, 3)
			m.Create(1, 3)
			submits(t, m, 0, c, read(2), c)
			submits(t, m, 1, c, c)
			slot(t, m, func(int) bool { does(m); return false }, 0, api.Done{})
			if size := m.Size(0); len(m.Durable(0)) != size {
				t.Errorf("%d places, and %d durable ones", size, len(m.Durable(0)))
			}
			for range 20 {
				m.Slot(nil)
			}
		}
	}
}

func TestFall(t *testing.T) {
	m := New()
	for who := range 4 {
		if who == 2 {
			continue
		}
		m.Create(who, 2)
		submits(t, m, who, write(0, "a"), flush(), write(1, "b"), write(0, "c"), flush(), trim(0))
	}
	for range 12 {
		m.Slot(nil)
	}
	holdsAll := func() {
		t.Helper()
		for who := range 4 {
			if who == 2 {
				lacks(t, m, who)
				continue
			}
			holds(t, m, who, []string{"a", "b"}, []string{"a", ""}, []Change{{1, "b"}})
		}
	}
	holdsAll()
	m.Fall()
	holdsAll()
	passes(t, m, 0, 8)
	m.Fall()
	holdsAll()
	for range 8 {
		submits(t, m, 1, read(1))
	}
	passes(t, m, 0, 1)
	slot(t, m, nil, 1, api.Done{Slot: 21, Data: "b"})
}

func TestRestore(t *testing.T) {
	var many []string
	for i := range 100 {
		many = append(many, strings.Repeat("x", i))
	}
	for _, places := range [][]string{
		{"a", "b", ""},
		{"", "c", ""},
		{"r"},
		{"", "", "", "z"},
		blanks(64),
		blanks(65),
		many,
		{},
		nil,
	} {
		m, slots := busy(t)
		m.Restore(0, places)
		holds(t, m, 0, places, places, nil)
		want := api.Done{Slot: slots, Status: api.ErrRange} // what waits waits on
		if len(places) > 1 {
			want = api.Done{Slot: slots, Data: places[1]}
		}
		slot(t, m, nil, 0, want)
		passes(t, m, 1, 3)
		slots += 4
		comes(t, m, &slots, nil, write(len(places), "no"), api.ErrRange, "")
		if last := len(places) - 1; last >= 0 {
			comes(t, m, &slots, nil, write(last, "new"), api.OK, "")
			now := slices.Clone(places)
			now[last] = "new"
			holds(t, m, 0, now, places, []Change{{last, "new"}})
		}
		comes(t, m, &slots, nil, flush(), api.OK, "") // a flush is of no place
	}
}

// TestRestoredSizes gives who was restored to none, and to very many places, another size.
func TestRestoredSizes(t *testing.T) {
	m := New()
	m.Create(0, 3)
	m.Restore(0, nil)
	m.Resize(0, 2)
	holds(t, m, 0, blanks(2), blanks(2), nil)
	m.Restore(0, slices.Repeat([]string{"m"}, 100))
	m.Resize(0, 100)
	holds(t, m, 0, slices.Repeat([]string{"m"}, 100), slices.Repeat([]string{"m"}, 100), nil)
	m.Resize(0, 64)
	holds(t, m, 0, slices.Repeat([]string{"m"}, 64), slices.Repeat([]string{"m"}, 64), nil)
}

func TestRestoreOfNone(t *testing.T) {
	m, slots := busy(t)
	for _, who := range append([]int{1, 2, 3}, strangers...) {
		for _, places := range [][]string{nil, {}, {"a", "b"}, blanks(100)} {
			m.Restore(who, places)
			lacks(t, m, who)
			if e := m.Submit(who, flush()); e == api.OK {
				t.Errorf("%d, who isn't there, was restored, and Submit is OK", who)
			}
		}
	}
	staysBusy(t, m, slots)
}

// TestMemoryIsItsOwn spoils what was handed in, and what was answered.
func TestMemoryIsItsOwn(t *testing.T) {
	m, slots := busy(t)
	for range 3 {
		for _, l := range [][]string{m.Durable(0), m.Durable(0)} {
			l = l[:cap(l)]
			for i := range l {
				l[i] = "spoilt"
			}
		}
		b := m.Behind(0)
		b = b[:cap(b)]
		for i := range b {
			b[i] = Change{Place: 9, Data: "spoilt"}
		}
	}
	durable, behind := m.Durable(0), m.Behind(0)
	staysBusy(t, m, slots)
	slots += 8
	handed := []string{"r", "s", "t"}
	m.Restore(0, handed)
	handed[1] = "spoilt"
	holds(t, m, 0, []string{"r", "s", "t"}, []string{"r", "s", "t"}, nil)
	comes(t, m, &slots, nil, write(0, "w"), api.OK, "")
	if !slices.Equal(handed, []string{"r", "spoilt", "t"}) {
		t.Errorf("what was handed in became %q", handed)
	}
	if !slices.Equal(durable, []string{"a", "b", ""}) || !slices.Equal(behind, []Change{{1, "c"}, {0, ""}}) {
		t.Errorf("what was answered became %q and %v", durable, behind)
	}
	answered := m.Behind(0)
	comes(t, m, &slots, nil, flush(), api.OK, "")
	comes(t, m, &slots, nil, write(2, "v"), api.OK, "")
	if !slices.Equal(answered, []Change{{0, "w"}}) {
		t.Errorf("what was answered became %v", answered)
	}
	holds(t, m, 0, []string{"w", "s", "v"}, []string{"w", "s", "t"}, []Change{{2, "v"}})
}

func TestTwoModelsAreTwo(t *testing.T) {
	a, slots := busy(t)
	b := New()
	lacksAll(t, b)
	b.Create(0, 1)
	b.Restore(0, []string{"other"})
	passes(t, b, 0, 1)
	staysBusy(t, a, slots)
	holds(t, b, 0, []string{"other"}, []string{"other"}, nil)
}

func TestNilModel(t *testing.T) {
	var m *Model
	for _, who := range append([]int{0, 1, 2, 3}, strangers...) {
		m.Create(who, 3)
		m.Resize(who, 3)
		m.Restore(who, []string{"a"})
		m.Destroy(who)
		want := api.ErrNone
		if who < 0 || who > 3 {
			want = api.ErrRange
		}
		for _, c := range append(wrong(), flush(), write(0, "a")) {
			if e := m.Submit(who, c); e != want {
				t.Errorf("Submit(%d, %+v) to none is %d, want %d", who, c, e, want)
			}
		}
	}
	m.Fall()
	lacksAll(t, m)
	for range 5 {
		if who, d, ok := m.Slot(always); who != 0 || d != (api.Done{}) || ok {
			t.Errorf("a slot of none is %d, %+v, %t", who, d, ok)
		}
	}
}
