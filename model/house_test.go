package model_test

import (
	"slices"
	"strconv"
	"testing"

	"almshouse/api"
	"almshouse/house"
	"almshouse/model"
	"almshouse/prefix"
)

// pair is a house, and a model that goes beside it: each is told the same.
type pair struct {
	*house.House
	model             *model.Model
	reads, cuts, lost int // answers of ErrRead; how often the power went; how often a change went with it
}

// pairOf begins with a new house.
func pairOf(t *testing.T, s api.Setup) *pair {
	t.Helper()
	h, e := house.New(s)
	if e != api.OK {
		t.Fatalf("New(%+v) is %d", s, e)
	}
	return &pair{House: h, model: model.New()}
}

// isReadOnly asks about a tenant's store.
func (p *pair) isReadOnly(who int) bool {
	s, _ := p.Stat(who)
	return s.ReadOnly
}

// slot has the next slot be in both; if the power goes in it, nothing of it is taken.
func (p *pair) slot(t *testing.T) {
	t.Helper()
	number := p.Slots()
	done := p.Done(number % api.Tenants)
	ok := p.Slot()
	if !p.Up() {
		p.model.Slot(func(int) bool { return true })
		return
	}
	who, d, told := p.model.Slot(p.isReadOnly)
	if who != number%api.Tenants || told != ok {
		t.Fatalf("slot %d is %d, %t, want %t", number, who, told, ok)
	}
	if ok {
		done = append(done, d)
	}
	if got := p.Done(who); !slices.Equal(got, done) {
		t.Fatalf("slot %d: the house tells %+v, the model %+v", number, got[len(got)-1], d)
	}
	if d.Status == api.ErrRead {
		p.reads++
	}
}

// cut has the power go in the next slot.
func (p *pair) cut(t *testing.T, ops int) {
	t.Helper()
	p.Budget(ops)
	p.slot(t)
	p.Cut()
	p.model.Fall()
	p.cuts++
}

// places are all that a tenant has.
func (p *pair) places(t *testing.T, who int) []string {
	t.Helper()
	s, e := p.Stat(who)
	if e != api.OK {
		t.Fatalf("Stat(%d) is %d", who, e)
	}
	row := make([]string, s.Size)
	for place := range row {
		if row[place], e = p.Peek(who, place); e != api.OK {
			t.Fatalf("Peek(%d, %d) is %d", who, place, e)
		}
	}
	return row
}

// mounts brings the house up, and restores the model to what is there.
func (p *pair) mounts(t *testing.T) {
	t.Helper()
	if e := p.Mount(-1); e != api.OK {
		t.Fatalf("Mount is %d", e)
	}
	for who, x := range p.Ledger().Tenants {
		if x.There != p.model.There(who) {
			t.Fatalf("tenant %d is there: %t, of the model: %t", who, x.There, p.model.There(who))
		}
		if !x.There {
			continue
		}
		now, durable, behind := p.places(t, who), p.model.Durable(who), p.model.Behind(who)
		least, ok := prefix.Find(durable, behind, now)
		greatest, is := prefix.Longest(durable, behind, now)
		if !ok || !is || least > greatest || !slices.Equal(prefix.After(durable, behind[:least]), now) {
			t.Fatalf("tenant %d has %q, which isn't %q and some of %v", who, now, durable, behind)
		}
		if greatest < len(behind) {
			p.lost++
		}
		p.model.Restore(who, now)
	}
}

// steps does something drawn to both.
func (p *pair) steps(t *testing.T, draw func(int) int, data string) {
	t.Helper()
	who, size := draw(5), draw(8)
	switch n := draw(100); {
	case n < 4:
		if p.Create(who, size, draw(3)) == api.OK {
			p.model.Create(who, size)
		}
	case n < 5:
		if p.Destroy(who) == api.OK {
			p.model.Destroy(who)
		}
	case n < 7:
		if p.Resize(who, size) == api.OK {
			p.model.Resize(who, size)
		}
	case n < 9:
		p.Swap(who, draw(4))
	case n < 11:
		p.cut(t, draw(12)-1)
		p.mounts(t)
	case n < 45:
		c := commandDrawn(draw, data)
		if e, want := p.model.Submit(who, c), p.Submit(who, c); e != want {
			t.Fatalf("Submit(%d, %+v) is %d, of the house %d", who, c, e, want)
		}
	default:
		for range draw(4) {
			p.slot(t)
		}
	}
}

// commandDrawn is a command, seldom one that may not be.
func commandDrawn(draw func(int) int, data string) api.Command {
	if draw(15) == 0 {
		data += "is too long for a place"
	}
	c := api.Command{Op: draw(6), Place: draw(7) - draw(2)}
	switch c.Op {
	case 0, api.OpWrite:
		c.Op, c.Data = api.OpWrite, data
	case api.OpFlush:
		c.Place = draw(15) / 14
	}
	return c
}

// holds holds what both have.
func (p *pair) holds(t *testing.T) {
	t.Helper()
	for who, x := range p.Ledger().Tenants {
		if x.There != p.model.There(who) || x.Size != p.model.Size(who) {
			t.Fatalf("tenant %d is %+v, of the model %t, %d", who, x, p.model.There(who), p.model.Size(who))
		}
		if !x.There {
			continue
		}
		for place, want := range p.places(t, who) {
			if got := p.model.Place(who, place); got != want {
				t.Fatalf("tenant %d has %q at %d, of the model %q", who, want, place, got)
			}
		}
	}
}

// drawer draws numbers from 0 on, always the same.
func drawer(x uint32) func(n int) int {
	return func(n int) int {
		x = x*1664525 + 1013904223
		return int(x>>8) % n
	}
}

// TestBesideHouse has a model go beside houses in which things fail, and the power goes.
func TestBesideHouse(t *testing.T) {
	var reads, cuts, lost int
	for seed := range 60 {
		draw := drawer(uint32(seed))
		s := api.Setup{Geometry: api.Geometry{Channels: 2, Dies: 1, Blocks: 14, Pages: 2 + draw(4)}}
		for who := range s.Faults {
			for range draw(9) {
				s.Faults[who] = append(s.Faults[who], 1+draw(100))
			}
		}
		p := pairOf(t, s)
		for i := range 1000 {
			p.steps(t, draw, "d"+strconv.Itoa(i))
			p.holds(t)
		}
		reads, cuts, lost = reads+p.reads, cuts+p.cuts, lost+p.lost
	}
	if reads == 0 || cuts == 0 || lost == 0 {
		t.Errorf("%d answers of ErrRead, the power went %d times, and a change with it %d times: too few to tell", reads, cuts, lost)
	}
}
