package nand

import (
	"bytes"
	"math"
	"slices"
	"strings"
	"testing"

	"almshouse/api"
	"almshouse/draws"
	"almshouse/power"
)

// small has six blocks of three pages: the first two are the admin's.
var small = api.Geometry{Channels: 2, Dies: 1, Blocks: 3, Pages: 3}

// beyond are numbers of no block and of no page, whatever the geometry.
var beyond = []int{math.MinInt, -1 << 32, -64, -2, -1, 64, 1 << 32, math.MaxInt}

// drawn are draws of faults that may be.
func drawn(t *testing.T, faults ...[]int) *draws.Draws {
	t.Helper()
	var f [api.Tenants][]int
	copy(f[:], faults)
	d, e := draws.New(f)
	if e != api.OK {
		t.Fatalf("draws of %v: %d", faults, e)
	}
	return d
}

// made is an array of the small geometry, with its power and its draws.
func made(t *testing.T, budget int, marked []int, faults ...[]int) (*Nand, *power.Power, *draws.Draws) {
	t.Helper()
	p, d := power.New(budget), drawn(t, faults...)
	n, e := New(small, p, d, marked)
	if n == nil || e != api.OK {
		t.Fatalf("New is %v, %d", n, e)
	}
	return n, p, d
}

// tells holds what a page is read as against what it is to be.
func tells(t *testing.T, n *Nand, block, page int, beside, data string, want api.Errno) {
	t.Helper()
	b, s, e := n.Read(block, page)
	if string(b) != beside || s != data || e != want {
		t.Errorf("page %d of block %d: %q, %q, %d, want %q, %q, %d", page, block, b, s, e, beside, data, want)
	}
}

// stands holds what is told of a block against what is to be.
func stands(t *testing.T, n *Nand, block int, bad bool, next int, blank bool, erases int) {
	t.Helper()
	if n.Bad(block) != bad || n.Next(block) != next || n.Blank(block) != blank || n.Erases(block) != erases {
		t.Errorf("block %d: bad %t, next page %d, blank %t, %d erases, want %t, %d, %t, %d", block,
			n.Bad(block), n.Next(block), n.Blank(block), n.Erases(block), bad, next, blank, erases)
	}
}

// is holds an answer against the one that is to be.
func is(t *testing.T, what string, got, want api.Errno) {
	t.Helper()
	if got != want {
		t.Errorf("%s: %d, want %d", what, got, want)
	}
}

// filled has its blocks 2 and 3 full, and one page in block 4.
func filled(t *testing.T, n *Nand) {
	t.Helper()
	for i := range 7 {
		block, page := 2+i/3, i%3
		is(t, "filling", n.Program(api.Admin, block, page, []byte{'b', byte('0' + i)}, "d"+string(rune('0'+i))), api.OK)
	}
}

// P7.1

func TestNewIsBlank(t *testing.T) {
	for _, g := range []api.Geometry{
		small,
		{Channels: 1, Dies: 1, Blocks: 3, Pages: 2},
		{Channels: 4, Dies: 4, Blocks: 4, Pages: 16},
		{Channels: 64, Dies: 1, Blocks: 1, Pages: 2},
		{Channels: 3, Dies: 7, Blocks: 2, Pages: 9},
	} {
		all := g.Channels * g.Dies * g.Blocks
		for _, marked := range [][]int{nil, {}, {2}, {all - 1}, {all - 1, 2, 2}} {
			n, e := New(g, power.New(0), drawn(t), marked)
			if n == nil || e != api.OK {
				t.Fatalf("%v with %v marked: %v, %d", g, marked, n, e)
			}
			if n.Geometry() != g || n.Blocks() != all {
				t.Errorf("%v is told to be %v, of %d blocks", g, n.Geometry(), n.Blocks())
			}
			for block := range all {
				stands(t, n, block, slices.Contains(marked, block), 0, true, 0)
				for page := range g.Pages {
					tells(t, n, block, page, "", "", api.ErrNone)
				}
				tells(t, n, block, g.Pages, "", "", api.ErrRange)
			}
			stands(t, n, all, false, 0, false, 0)
		}
	}
}

func TestAllMarked(t *testing.T) {
	n, _, _ := made(t, -1, []int{5, 3, 2, 4})
	for block := range 6 {
		stands(t, n, block, block >= 2, 0, true, 0)
	}
}

func TestNewRefuses(t *testing.T) {
	wrong := api.Geometry{Channels: 1, Dies: 1, Blocks: 1, Pages: 2}
	p, d := power.New(-1), drawn(t)
	for _, c := range []struct {
		g      api.Geometry
		p      *power.Power
		d      *draws.Draws
		marked []int
		want   api.Errno
	}{
		{api.Geometry{}, p, d, nil, api.ErrArg},
		{wrong, p, d, nil, api.ErrArg},
		{api.Geometry{Channels: 2, Dies: 1, Blocks: 3, Pages: 1}, p, d, nil, api.ErrArg},
		{api.Geometry{Channels: 2, Dies: 1, Blocks: 3, Pages: 17}, p, d, nil, api.ErrMany},
		{api.Geometry{Channels: 13, Dies: 1, Blocks: 5, Pages: 2}, p, d, nil, api.ErrMany},
		{api.Geometry{Channels: 13, Dies: 1, Blocks: 5, Pages: 2}, nil, nil, []int{-1}, api.ErrMany},
		{api.Geometry{Channels: 13, Dies: 1, Blocks: 5, Pages: 2}, p, d, []int{0}, api.ErrMany},
		{small, nil, d, nil, api.ErrArg},
		{small, p, nil, nil, api.ErrArg},
		{small, nil, nil, nil, api.ErrArg},
		{small, nil, d, []int{0}, api.ErrArg},
		{small, p, nil, []int{6}, api.ErrArg},
		{small, p, d, []int{6}, api.ErrRange},
		{small, p, d, []int{0}, api.ErrRange},
		{small, p, d, []int{1}, api.ErrRange},
		{small, p, d, []int{-1}, api.ErrRange},
		{small, p, d, []int{2, 3, 1}, api.ErrRange},
		{small, p, d, []int{7, 2, 3}, api.ErrRange},
		{small, p, d, []int{math.MinInt}, api.ErrRange},
		{small, p, d, []int{math.MaxInt}, api.ErrRange},
	} {
		if n, e := New(c.g, c.p, c.d, c.marked); n != nil || e != c.want {
			t.Errorf("New(%v, %t, %t, %v) is %v, %d, want nil, %d", c.g, c.p != nil, c.d != nil, c.marked, n, e, c.want)
		}
	}
	if p.Ops() != 0 {
		t.Errorf("New spent %d operations", p.Ops())
	}
}

func TestPagesInTheirOrder(t *testing.T) {
	n, p, _ := made(t, -1, nil)
	is(t, "page 1 of a blank block", n.Program(0, 2, 1, nil, ""), api.ErrOrder)
	is(t, "page 2 of a blank block", n.Program(0, 2, 2, nil, ""), api.ErrOrder)
	for page := range 3 {
		for other := range 3 {
			if other != page {
				is(t, "a page out of its order", n.Program(0, 2, other, []byte("no"), "no"), api.ErrOrder)
			}
		}
		stands(t, n, 2, false, page, page == 0, 0)
		if e := n.Program(0, 2, page, []byte("b"), "d"); e != api.OK {
			t.Fatalf("page %d: %d", page, e)
		}
		stands(t, n, 2, false, page+1, false, 0)
	}
	for page := range 3 {
		is(t, "a page of a full block", n.Program(0, 2, page, []byte("no"), "no"), api.ErrOrder)
		tells(t, n, 2, page, "b", "d", api.OK)
	}
	if p.Ops() != 3 {
		t.Errorf("%d operations were spent, want 3", p.Ops())
	}
}

func TestOfNoBlockOrPage(t *testing.T) {
	n, p, d := made(t, -1, nil, []int{1})
	filled(t, n)
	spent := p.Ops()
	for _, block := range append([]int{6, 7, 63}, beyond...) {
		is(t, "Program", n.Program(0, block, 0, nil, ""), api.ErrRange)
		is(t, "Program of too much", n.Program(0, block, 0, make([]byte, 33), ""), api.ErrRange)
		tells(t, n, block, 0, "", "", api.ErrRange)
		is(t, "Erase", n.Erase(0, block), api.ErrRange)
		is(t, "Mark", n.Mark(block), api.ErrRange)
		stands(t, n, block, false, 0, false, 0)
	}
	for _, page := range append([]int{3, 4, 16}, beyond...) {
		for block := range 6 {
			is(t, "Program", n.Program(0, block, page, nil, ""), api.ErrRange)
			is(t, "Program of too much", n.Program(0, block, page, nil, strings.Repeat("x", 161)), api.ErrRange)
			tells(t, n, block, page, "", "", api.ErrRange)
		}
	}
	if p.Ops() != spent || d.Ops(0) != 0 {
		t.Errorf("%d operations were spent and %d counted, want %d and 0", p.Ops(), d.Ops(0), spent)
	}
	p.Cut()
	tells(t, n, 6, 0, "", "", api.ErrRange)
	tells(t, n, 2, 3, "", "", api.ErrRange)
	is(t, "Program without power", n.Program(0, 2, 3, nil, ""), api.ErrRange)
	is(t, "Erase without power", n.Erase(0, 6), api.ErrRange)
	is(t, "Mark without power", n.Mark(6), api.ErrRange)
}

func TestTooLong(t *testing.T) {
	n, p, d := made(t, -1, nil)
	most, data := bytes.Repeat([]byte{7}, api.MaxOob), strings.Repeat("x", api.MaxData)
	is(t, "beside too long", n.Program(0, 2, 0, append(most, 7), ""), api.ErrLong)
	is(t, "data too long", n.Program(0, 2, 0, nil, data+"x"), api.ErrLong)
	is(t, "both too long", n.Program(0, 2, 0, append(most, 7), data+"x"), api.ErrLong)
	is(t, "much too long", n.Program(0, 2, 0, nil, strings.Repeat("x", 1<<17)), api.ErrLong)
	is(t, "too long, out of its order", n.Program(0, 2, 1, nil, data+"x"), api.ErrLong)
	if p.Ops() != 0 || d.Ops(0) != 0 || !n.Blank(2) {
		t.Errorf("%d operations were spent, %d counted, blank is %t", p.Ops(), d.Ops(0), n.Blank(2))
	}
	is(t, "as long as may be", n.Program(0, 2, 0, most, data), api.OK)
	tells(t, n, 2, 0, string(most), data, api.OK)
	p.Cut()
	is(t, "too long, without power", n.Program(0, 2, 1, nil, data+"x"), api.ErrLong)
	is(t, "too long, on a marked block", func() api.Errno {
		m, _, _ := made(t, -1, []int{2})
		return m.Program(0, 2, 0, nil, data+"x")
	}(), api.ErrLong)
}

func TestMarkedBlock(t *testing.T) {
	n, p, d := made(t, -1, []int{5}, []int{1})
	filled(t, n)
	is(t, "Mark", n.Mark(4), api.OK)
	spent := p.Ops()
	for _, block := range []int{4, 5} {
		next := n.Next(block)
		for page := range 3 {
			is(t, "Program of a marked block", n.Program(0, block, page, nil, "x"), api.ErrFail)
		}
		is(t, "Erase of a marked block", n.Erase(0, block), api.ErrFail)
		stands(t, n, block, true, next, next == 0, 0)
	}
	tells(t, n, 4, 0, "b6", "d6", api.OK)
	tells(t, n, 4, 1, "", "", api.ErrNone)
	if p.Ops() != spent || d.Ops(0) != 0 {
		t.Errorf("%d operations were spent and %d counted, want %d and 0", p.Ops(), d.Ops(0), spent)
	}
	p.Cut()
	is(t, "Program of a marked block without power", n.Program(0, 4, 1, nil, "x"), api.ErrFail)
	is(t, "Erase of a marked block without power", n.Erase(0, 4), api.ErrFail)
	is(t, "Mark of a marked block without power", n.Mark(4), api.ErrCut)
	stands(t, n, 4, true, 1, false, 0)
}

func TestMark(t *testing.T) {
	n, p, d := made(t, -1, nil, []int{1}, []int{1}, []int{1}, []int{1})
	is(t, "Mark of the admin's first", n.Mark(0), api.ErrArg)
	is(t, "Mark of the admin's second", n.Mark(1), api.ErrArg)
	if p.Ops() != 0 {
		t.Errorf("%d operations were spent", p.Ops())
	}
	for i, block := range []int{2, 5, 2, 2} {
		is(t, "Mark", n.Mark(block), api.OK)
		if p.Ops() != i+1 {
			t.Errorf("%d operations were spent, want %d", p.Ops(), i+1)
		}
	}
	for block := range 6 {
		stands(t, n, block, block == 2 || block == 5, 0, true, 0)
	}
	for who := range api.Tenants {
		if d.Ops(who) != 0 {
			t.Errorf("Mark counted %d operations of %d", d.Ops(who), who)
		}
	}
	p.Back(0)
	is(t, "Mark that is torn", n.Mark(3), api.ErrCut)
	is(t, "Mark without power", n.Mark(4), api.ErrCut)
	is(t, "Mark of the admin's without power", n.Mark(1), api.ErrArg)
	stands(t, n, 3, false, 0, true, 0)
	stands(t, n, 4, false, 0, true, 0)
	p.Back(-1)
	stands(t, n, 3, false, 0, true, 0)
	is(t, "Mark again", n.Mark(3), api.OK)
	stands(t, n, 3, true, 0, true, 0)
}

func TestProgramThatIsTorn(t *testing.T) {
	n, p, d := made(t, 1, nil, []int{2})
	is(t, "Program", n.Program(0, 2, 0, []byte("b"), "d"), api.OK)
	is(t, "Program that is torn", n.Program(0, 2, 1, []byte("c"), "e"), api.ErrCut)
	is(t, "Program without power", n.Program(0, 2, 2, []byte("f"), "g"), api.ErrCut)
	is(t, "Program out of its order without power", n.Program(0, 2, 1, nil, ""), api.ErrOrder)
	for page := range 3 {
		tells(t, n, 2, page, "", "", api.ErrCut)
	}
	stands(t, n, 2, false, 2, false, 0)
	if p.Ops() != 2 || d.Ops(0) != 1 {
		t.Errorf("%d operations were spent and %d counted, want 2 and 1", p.Ops(), d.Ops(0))
	}
	p.Back(-1)
	tells(t, n, 2, 0, "b", "d", api.OK)
	tells(t, n, 2, 1, "", "", api.ErrTorn)
	tells(t, n, 2, 2, "", "", api.ErrNone)
	is(t, "Program of a torn page", n.Program(0, 2, 1, nil, ""), api.ErrOrder)
	is(t, "Program that fails", n.Program(0, 2, 2, nil, "h"), api.ErrFail)
	tells(t, n, 2, 2, "", "", api.ErrTorn)
	stands(t, n, 2, false, 3, false, 0)
}

func TestTornPageAlone(t *testing.T) {
	n, p, _ := made(t, 0, nil)
	is(t, "Program that is torn", n.Program(0, 2, 0, []byte("c"), "e"), api.ErrCut)
	stands(t, n, 2, false, 1, false, 0)
	p.Back(-1)
	is(t, "Program", n.Program(0, 2, 1, []byte("b"), "d"), api.OK)
	tells(t, n, 2, 0, "", "", api.ErrTorn)
	tells(t, n, 2, 1, "b", "d", api.OK)
	is(t, "Erase", n.Erase(0, 2), api.OK)
	stands(t, n, 2, false, 0, true, 1)
}

func TestProgramThatFails(t *testing.T) {
	for who := range api.Tenants {
		faults := make([][]int, api.Tenants)
		faults[who] = []int{2, 4}
		n, p, d := made(t, -1, nil, faults...)
		is(t, "first", n.Program(who, 2, 0, []byte("b"), "d"), api.OK)
		is(t, "second", n.Program(who, 2, 1, []byte("c"), "e"), api.ErrFail)
		tells(t, n, 2, 1, "", "", api.ErrTorn)
		stands(t, n, 2, false, 2, false, 0)
		is(t, "again", n.Program(who, 2, 1, nil, ""), api.ErrOrder)
		is(t, "third", n.Program(who, 2, 2, []byte("f"), "g"), api.OK)
		is(t, "fourth", n.Program(who, 3, 0, []byte("f"), "g"), api.ErrFail)
		tells(t, n, 2, 0, "b", "d", api.OK)
		tells(t, n, 2, 2, "f", "g", api.OK)
		tells(t, n, 3, 0, "", "", api.ErrTorn)
		if p.Ops() != 4 || d.Ops(who) != 4 || d.Faults(who) != 2 {
			t.Errorf("%d operations were spent, %d counted, %d failed", p.Ops(), d.Ops(who), d.Faults(who))
		}
	}
}

// TestEachHasHisFaults asks others, and those that are no tenants, between a tenant's operations.
func TestEachHasHisFaults(t *testing.T) {
	n, _, d := made(t, -1, nil, []int{2}, nil, []int{1})
	who := []int{api.Admin, 0, 1, 3, -1, 0, 2, 5, math.MaxInt, 2}
	want := []api.Errno{0, 0, 0, 0, 0, api.ErrFail, api.ErrFail, 0, 0, 0}
	for i, w := range who {
		is(t, "Program", n.Program(w, i/3, i%3, nil, "x"), want[i])
	}
	for w, ops := range []int{2, 1, 2, 1} {
		if d.Ops(w) != ops {
			t.Errorf("%d operations of %d were counted, want %d", d.Ops(w), w, ops)
		}
	}
	is(t, "Erase of the admin's, by another one", n.Erase(2, 0), api.OK)
	stands(t, n, 0, false, 0, true, 1)
}

func TestErase(t *testing.T) {
	n, p, d := made(t, -1, nil)
	filled(t, n)
	for i := range 3 {
		is(t, "Erase", n.Erase(1, 2), api.OK)
		stands(t, n, 2, false, 0, true, i+1)
		for page := range 3 {
			tells(t, n, 2, page, "", "", api.ErrNone)
		}
	}
	stands(t, n, 3, false, 3, false, 0)
	tells(t, n, 3, 0, "b3", "d3", api.OK)
	if p.Ops() != 10 || d.Ops(1) != 3 {
		t.Errorf("%d operations were spent and %d counted, want 10 and 3", p.Ops(), d.Ops(1))
	}
	is(t, "Program of an erased block", n.Program(1, 2, 0, nil, "new"), api.OK)
	tells(t, n, 2, 0, "", "new", api.OK)
	is(t, "Erase of the admin's", n.Erase(api.Admin, 0), api.OK)
	stands(t, n, 0, false, 0, true, 1)
}

// spoilt holds that all pages of a block are torn, and that it was erased so often.
func spoilt(t *testing.T, n *Nand, block, erases int) {
	t.Helper()
	stands(t, n, block, false, 3, false, erases)
	for page := range 3 {
		tells(t, n, block, page, "", "", api.ErrTorn)
		is(t, "Program of a torn page", n.Program(3, block, page, nil, ""), api.ErrOrder)
	}
}

func TestEraseThatFails(t *testing.T) {
	n, p, d := made(t, -1, nil, nil, []int{1, 3, 4})
	filled(t, n)
	is(t, "Erase of a full block", n.Erase(1, 2), api.ErrFail)
	spoilt(t, n, 2, 0)
	is(t, "Erase again", n.Erase(1, 2), api.OK)
	stands(t, n, 2, false, 0, true, 1)
	is(t, "Erase of a block begun", n.Erase(1, 4), api.ErrFail)
	spoilt(t, n, 4, 0)
	is(t, "Erase of a blank block", n.Erase(1, 2), api.ErrFail)
	spoilt(t, n, 2, 1)
	if p.Ops() != 11 || d.Ops(1) != 4 || d.Faults(1) != 3 {
		t.Errorf("%d operations were spent, %d counted, %d failed", p.Ops(), d.Ops(1), d.Faults(1))
	}
	tells(t, n, 3, 2, "b5", "d5", api.OK)
}

func TestEraseThatIsTorn(t *testing.T) {
	n, p, d := made(t, 7, nil, nil, []int{1})
	filled(t, n)
	is(t, "Erase that is torn", n.Erase(1, 2), api.ErrCut)
	is(t, "Erase without power", n.Erase(1, 3), api.ErrCut)
	if p.Ops() != 8 || d.Ops(1) != 0 {
		t.Errorf("%d operations were spent and %d counted, want 8 and 0", p.Ops(), d.Ops(1))
	}
	p.Back(1)
	spoilt(t, n, 2, 0)
	stands(t, n, 3, false, 3, false, 0)
	tells(t, n, 3, 0, "b3", "d3", api.OK)
	is(t, "Erase", n.Erase(2, 2), api.OK)
	stands(t, n, 2, false, 0, true, 1)
	is(t, "Erase of a blank block, torn", n.Erase(1, 2), api.ErrCut)
	p.Back(-1)
	spoilt(t, n, 2, 1)
}

func TestWithoutPower(t *testing.T) {
	n, p, d := made(t, -1, nil)
	filled(t, n)
	p.Cut()
	is(t, "Program", n.Program(0, 4, 1, nil, "x"), api.ErrCut)
	is(t, "Program out of its order", n.Program(0, 4, 2, nil, "x"), api.ErrOrder)
	is(t, "Erase", n.Erase(0, 2), api.ErrCut)
	is(t, "Mark", n.Mark(3), api.ErrCut)
	for block := range 6 {
		for page := range 3 {
			tells(t, n, block, page, "", "", api.ErrCut)
		}
	}
	if p.Ops() != 7 || d.Ops(0) != 0 {
		t.Errorf("%d operations were spent and %d counted, want 7 and 0", p.Ops(), d.Ops(0))
	}
	for block, next := range []int{0, 0, 3, 3, 1, 0} {
		stands(t, n, block, false, next, next == 0, 0)
	}
	if n.Geometry() != small || n.Blocks() != 6 {
		t.Errorf("without power it is %v, of %d blocks", n.Geometry(), n.Blocks())
	}
	p.Back(-1)
	tells(t, n, 4, 0, "b6", "d6", api.OK)
	tells(t, n, 4, 1, "", "", api.ErrNone)
}

func TestNilNand(t *testing.T) {
	var n *Nand
	for _, block := range append([]int{0, 1, 2, 3}, beyond...) {
		is(t, "Program of nil", n.Program(0, block, 0, nil, ""), api.ErrArg)
		is(t, "Program of nil, too long", n.Program(0, block, -1, make([]byte, 99), ""), api.ErrArg)
		tells(t, n, block, 0, "", "", api.ErrArg)
		is(t, "Erase of nil", n.Erase(0, block), api.ErrArg)
		is(t, "Mark of nil", n.Mark(block), api.ErrArg)
		stands(t, n, block, false, 0, false, 0)
	}
	if n.Geometry() != (api.Geometry{}) || n.Blocks() != 0 {
		t.Errorf("nil is %v, of %d blocks", n.Geometry(), n.Blocks())
	}
}

// TestNotMade asks an array that New did not make: it has no blocks.
func TestNotMade(t *testing.T) {
	n := new(Nand)
	is(t, "Program", n.Program(0, 0, 0, nil, ""), api.ErrRange)
	tells(t, n, 0, 0, "", "", api.ErrRange)
	is(t, "Erase", n.Erase(0, 2), api.ErrRange)
	is(t, "Mark", n.Mark(2), api.ErrRange)
	stands(t, n, 2, false, 0, false, 0)
	if n.Geometry() != (api.Geometry{}) || n.Blocks() != 0 {
		t.Errorf("it is %v, of %d blocks", n.Geometry(), n.Blocks())
	}
}

func TestNothingIsShared(t *testing.T) {
	marked := []int{3, 2}
	n, _, _ := made(t, -1, marked)
	marked[0], marked[1] = 4, 4
	for block, bad := range []bool{false, false, true, true, false, false} {
		stands(t, n, block, bad, 0, true, 0)
	}
	in := []byte("beside")
	is(t, "Program", n.Program(0, 4, 0, in, "data"), api.OK)
	if string(in) != "beside" {
		t.Errorf("what was handed in became %q", in)
	}
	in[0] = 'X'
	one, _, _ := n.Read(4, 0)
	one[1] = 'X'
	_ = append(one[:3], "XXXXXXXX"...)
	tells(t, n, 4, 0, "beside", "data", api.OK)
}

func TestTwoArraysAreTwo(t *testing.T) {
	p, d := power.New(-1), drawn(t)
	a, _ := New(small, p, d, nil)
	b, _ := New(small, p, d, nil)
	filled(t, a)
	is(t, "Erase", a.Erase(0, 2), api.OK)
	is(t, "Mark", a.Mark(3), api.OK)
	for block := range 6 {
		stands(t, b, block, false, 0, true, 0)
	}
}

// P7.2

func TestWhatIsWrittenIsRead(t *testing.T) {
	n, _, _ := made(t, -1, nil)
	for _, c := range []struct {
		block, page  int
		beside, data string
	}{
		{0, 0, "", ""}, {0, 1, "a", ""}, {0, 2, "", "a"},
		{5, 0, "\x00\xff\x80", "\x00\xff\x80"}, {5, 1, "b", "é語"}, {1, 0, "c", "d"}, {5, 2, "e", "f"},
	} {
		is(t, "Program", n.Program(0, c.block, c.page, []byte(c.beside), c.data), api.OK)
		defer tells(t, n, c.block, c.page, c.beside, c.data, api.OK)
		tells(t, n, c.block, c.page, c.beside, c.data, api.OK)
	}
}

// plainPage is a page as the document tells it: blank, while it is nothing else.
type plainPage struct {
	written, torn bool
	beside, data  string
}

// plain is an array as the document tells it.
type plain struct {
	pages         map[[2]int]plainPage
	bad           map[int]bool
	erases        map[int]int
	budget, spent int
	gone          bool
	faults        [][]int
	ops           map[int]int
}

func (p *plain) spend() api.Errno {
	if p.gone {
		return api.ErrCut
	}
	p.spent++
	if p.budget == 0 {
		p.gone = true
		return api.ErrTorn
	}
	p.budget--
	return api.OK
}

func (p *plain) fails(who int) bool {
	if who < 0 || who >= len(p.faults) {
		return false
	}
	p.ops[who]++
	return slices.Contains(p.faults[who], p.ops[who])
}

func (p *plain) next(block int) int {
	next := 0
	for at, k := range p.pages {
		if at[0] == block && (k.written || k.torn) {
			next = max(next, at[1]+1)
		}
	}
	return next
}

func (p *plain) program(who, block, page int, beside, data string) api.Errno {
	at := [2]int{block, page}
	switch {
	case block < 0 || block > 5 || page < 0 || page > 2:
		return api.ErrRange
	case len(beside) > 32 || len(data) > 160:
		return api.ErrLong
	case p.bad[block]:
		return api.ErrFail
	case page != p.next(block):
		return api.ErrOrder
	}
	switch p.spend() {
	case api.ErrCut:
		return api.ErrCut
	case api.ErrTorn:
		p.pages[at] = plainPage{torn: true}
		return api.ErrCut
	}
	if p.fails(who) {
		p.pages[at] = plainPage{torn: true}
		return api.ErrFail
	}
	p.pages[at] = plainPage{written: true, beside: beside, data: data}
	return api.OK
}

func (p *plain) all(block int, k plainPage) {
	for page := range 3 {
		p.pages[[2]int{block, page}] = k
	}
}

func (p *plain) erase(who, block int) api.Errno {
	switch {
	case block < 0 || block > 5:
		return api.ErrRange
	case p.bad[block]:
		return api.ErrFail
	}
	switch p.spend() {
	case api.ErrCut:
		return api.ErrCut
	case api.ErrTorn:
		p.all(block, plainPage{torn: true})
		return api.ErrCut
	}
	if p.fails(who) {
		p.all(block, plainPage{torn: true})
		return api.ErrFail
	}
	p.all(block, plainPage{})
	p.erases[block]++
	return api.OK
}

func (p *plain) mark(block int) api.Errno {
	switch {
	case block < 0 || block > 5:
		return api.ErrRange
	case block < 2:
		return api.ErrArg
	case p.spend() != api.OK:
		return api.ErrCut
	}
	p.bad[block] = true
	return api.OK
}

// alike holds all that the array tells against the plain telling.
func alike(t *testing.T, n *Nand, p *plain) {
	t.Helper()
	for block := range 6 {
		stands(t, n, block, p.bad[block], p.next(block), p.next(block) == 0, p.erases[block])
		for page := range 3 {
			k := p.pages[[2]int{block, page}]
			switch {
			case p.gone:
				tells(t, n, block, page, "", "", api.ErrCut)
			case k.torn:
				tells(t, n, block, page, "", "", api.ErrTorn)
			case k.written:
				tells(t, n, block, page, k.beside, k.data, api.OK)
			default:
				tells(t, n, block, page, "", "", api.ErrNone)
			}
		}
	}
}

// TestManyRows holds rows of calls, in which none tells the next, against the plain telling.
func TestManyRows(t *testing.T) {
	x := uint32(1)
	next := func(n int) int {
		x = x*1664525 + 1013904223
		return int(x>>8) % n
	}
	for row := range 300 {
		faults := [][]int{{1 + next(9), 5, 12 + next(9)}, {1 + next(30)}, nil, {3, 4, 5, 6}}
		budget := next(60)
		p := &plain{map[[2]int]plainPage{}, map[int]bool{}, map[int]int{}, budget, 0, false, faults, map[int]int{}}
		n, pow, d := made(t, budget, nil, faults...)
		for i := range 120 {
			var got, want api.Errno
			who, block := next(6)-1, next(8)-1
			switch next(20) {
			case 0:
				got, want = n.Mark(block), p.mark(block)
			case 1, 2, 3, 4:
				got, want = n.Erase(who, block), p.erase(who, block)
			case 5:
				budget := next(40)
				pow.Back(budget)
				p.budget, p.gone = budget, false
			default:
				page := p.next(block)
				if next(5) == 0 {
					page = next(5) - 1
				}
				beside, data := strings.Repeat(string(rune('a'+next(26))), next(34)), strings.Repeat(string(rune('a'+next(26))), next(165))
				got, want = n.Program(who, block, page, []byte(beside), data), p.program(who, block, page, beside, data)
			}
			is(t, "an answer", got, want)
			alike(t, n, p)
			if pow.Ops() != p.spent {
				t.Errorf("%d operations were spent, want %d", pow.Ops(), p.spent)
			}
			for who := range api.Tenants {
				if d.Ops(who) != p.ops[who] {
					t.Errorf("%d operations of %d were counted, want %d", d.Ops(who), who, p.ops[who])
				}
			}
			if t.Failed() {
				t.Fatalf("row %d, call %d", row, i)
			}
		}
	}
}
