package model

import (
	"slices"
	"strconv"
	"strings"
	"testing"

	"almshouse/api"
)

// told is a tenant by plain words: its places aren't kept, but gone over anew from what was durable.
type told struct {
	there   bool
	durable []string
	behind  []Change
	waits   []api.Command
}

// places are what was durable, behind all changes.
func (x *told) places() []string {
	row := slices.Clone(x.durable)
	for _, c := range x.behind {
		row[c.Place] = c.Data
	}
	return row
}

// settles has these places be durable.
func (x *told) settles(places []string) { x.durable, x.behind = places, nil }

// comesTo does a command, and tells what it comes to.
func (x *told) comesTo(c api.Command, isReadOnly bool) (string, api.Errno) {
	places := x.places()
	isChange := c.Op == api.OpWrite || c.Op == api.OpTrim
	if (isChange || c.Op == api.OpRead) && (c.Place < 0 || c.Place > len(places)-1) {
		return "", api.ErrRange
	}
	if c.Op == api.OpWrite && len(c.Data) > 16 {
		return "", api.ErrLong
	}
	if c.Op == api.OpRead {
		return places[c.Place], api.OK
	}
	if isReadOnly {
		return "", api.ErrRead
	}
	if isChange {
		x.behind = append(x.behind, Change{c.Place, c.Data})
	} else {
		x.settles(places)
	}
	return "", api.OK
}

// walk is a model, and what is to be told of it.
type walk struct {
	*Model
	tenants [4]told
	slots   int
}

// drawer draws numbers from 0 on, always the same.
func drawer(x uint32) func(n int) int {
	return func(n int) int {
		x = x*1664525 + 1013904223
		return int(x>>8) % n
	}
}

// whoDrawn is a tenant, seldom a number that none has.
func whoDrawn(draw func(int) int) int {
	if draw(30) == 0 {
		return strangers[draw(len(strangers))]
	}
	return draw(4)
}

// sizeDrawn is a size, sometimes one that may not be.
func sizeDrawn(draw func(int) int) int {
	switch draw(8) {
	case 0:
		return unfit[draw(len(unfit))]
	case 1:
		return 64 - draw(3)
	}
	return 1 + draw(6)
}

// commandDrawn is a command, sometimes one that may not be, or of no place, or too long.
func commandDrawn(draw func(int) int, data string) api.Command {
	place := draw(6)
	switch draw(20) {
	case 0:
		place = far[draw(len(far))]
	case 1:
		data = strings.Repeat("x", 15+draw(4))
	}
	switch draw(12) {
	case 0, 1, 2, 3, 4:
		return write(place, data)
	case 5, 6:
		return trim(place)
	case 7, 8, 9:
		return read(place)
	case 10:
		return flush()
	}
	return wrong()[draw(len(wrong()))]
}

// submits lets a command wait in both.
func (w *walk) submits(t *testing.T, who int, c api.Command) {
	t.Helper()
	want := api.OK
	switch {
	case who < 0 || who > 3:
		want = api.ErrRange
	case !w.tenants[who].there:
		want = api.ErrNone
	case slices.Contains(wrong(), c):
		want = api.ErrArg
	case len(w.tenants[who].waits) == 8:
		want = api.ErrFull
	default:
		w.tenants[who].waits = append(w.tenants[who].waits, c)
	}
	if e := w.Submit(who, c); e != want {
		t.Fatalf("Submit(%d, %+v) is %d, want %d", who, c, e, want)
	}
}

// slot has the next slot be in both.
func (w *walk) slot(t *testing.T, only func(int) bool) {
	t.Helper()
	number := w.slots
	w.slots++
	who := number % 4
	at, d, ok := w.Slot(only)
	x := &w.tenants[who]
	if len(x.waits) == 0 {
		if at != who || d != (api.Done{}) || ok {
			t.Fatalf("slot %d is %d, %+v, %t, want nothing", number, at, d, ok)
		}
		return
	}
	c := x.waits[0]
	x.waits = x.waits[1:]
	data, e := x.comesTo(c, only != nil && only(who))
	if want := (api.Done{Slot: number, Status: e, Data: data}); at != who || d != want || !ok {
		t.Fatalf("slot %d of %+v is %d, %+v, %t, want %+v", number, c, at, d, ok, want)
	}
}

// resizes gives a tenant another size in both.
func (w *walk) resizes(who, size int) {
	w.Resize(who, size)
	if who < 0 || who > 3 || size < 1 || size > 64 || !w.tenants[who].there {
		return
	}
	places := append(w.tenants[who].places(), blanks(64)...)
	w.tenants[who].settles(places[:size])
}

// steps does something drawn in both.
func (w *walk) steps(t *testing.T, draw func(int) int, data string) {
	t.Helper()
	who, size := whoDrawn(draw), sizeDrawn(draw)
	isTold := who >= 0 && who < 4
	switch n := draw(100); {
	case n < 4:
		w.Create(who, size)
		if isTold && size >= 1 && size <= 64 {
			w.tenants[who] = told{there: true, durable: blanks(size)}
		}
	case n < 5:
		w.Destroy(who)
		if isTold {
			w.tenants[who] = told{}
		}
	case n < 8:
		w.resizes(who, size)
	case n < 9:
		w.Fall()
		for who := range w.tenants {
			w.tenants[who].waits = nil
		}
	case n < 11:
		places := slices.Repeat([]string{data}, draw(5)*draw(20))
		w.Restore(who, places)
		if isTold && w.tenants[who].there {
			w.tenants[who].settles(places)
		}
	case n < 60:
		w.submits(t, who, commandDrawn(draw, data))
	default:
		only := []func(int) bool{nil, never, always, func(t int) bool { return t%2 == 1 }}[draw(4)]
		for range draw(5) {
			w.slot(t, only)
		}
	}
}

// TestWalks holds long rows of calls against a plain telling.
func TestWalks(t *testing.T) {
	for seed := range 30 {
		draw := drawer(uint32(seed))
		w := &walk{Model: New()}
		for i := range 1000 {
			w.steps(t, draw, "d"+strconv.Itoa(i))
			for who := range w.tenants {
				if x := &w.tenants[who]; x.there {
					holds(t, w.Model, who, x.places(), x.durable, x.behind)
				} else {
					lacks(t, w.Model, who)
				}
			}
		}
	}
}

// TestLongRow has many changes come behind one flush: all of them are told, in order.
func TestLongRow(t *testing.T) {
	m := New()
	m.Create(0, 64)
	var behind []Change
	for i := range 20000 {
		c := Change{Place: i * 7 % 64, Data: strconv.Itoa(i)}
		behind = append(behind, c)
		submits(t, m, 0, write(c.Place, c.Data))
		slot(t, m, never, 0, api.Done{Slot: 4 * i})
		passes(t, m, 1, 3)
	}
	if !slices.Equal(m.Behind(0), behind) || !slices.Equal(m.Durable(0), blanks(64)) {
		t.Errorf("behind %d changes, %d are told", len(behind), len(m.Behind(0)))
	}
}
