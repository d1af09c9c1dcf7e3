package power

import (
	"math"
	"testing"

	"almshouse/api"
)

// plain is the power as the document tells it.
type plain struct {
	budget, ops int
	gone        bool
}

func (p *plain) spend() api.Errno {
	if p.gone {
		return api.ErrCut
	}
	p.ops++
	switch {
	case p.budget < 0:
		return api.OK
	case p.budget > 0:
		p.budget--
		return api.OK
	}
	p.gone = true
	return api.ErrTorn
}

// spent asks for so many operations, and tells what each was told.
func spent(p *Power, n int) []api.Errno {
	var told []api.Errno
	for range n {
		told = append(told, p.Spend())
	}
	return told
}

// same holds what was told against what is to be told.
func same(t *testing.T, told []api.Errno, want ...api.Errno) {
	t.Helper()
	for i, w := range want {
		if told[i] != w {
			t.Errorf("operation %d is told %d, want %d (of %v)", i+1, told[i], w, told)
		}
	}
}

// P6.1

func TestBudgetOfOne(t *testing.T) {
	p := New(1)
	same(t, spent(p, 3), api.OK, api.ErrTorn, api.ErrCut)
}

func TestBudgets(t *testing.T) {
	for budget := range 40 {
		p := New(budget)
		if p.Gone() || p.Ops() != 0 {
			t.Fatalf("budget %d: when new, gone is %t, and %d operations are told", budget, p.Gone(), p.Ops())
		}
		for i := range budget {
			if e := p.Spend(); e != api.OK || p.Gone() || p.Ops() != i+1 {
				t.Fatalf("budget %d, operation %d: %d, gone %t, %d operations", budget, i+1, e, p.Gone(), p.Ops())
			}
		}
		if e := p.Spend(); e != api.ErrTorn || !p.Gone() || p.Ops() != budget+1 {
			t.Fatalf("budget %d: behind it %d, gone %t, %d operations", budget, e, p.Gone(), p.Ops())
		}
		for range 3 {
			if e := p.Spend(); e != api.ErrCut || !p.Gone() || p.Ops() != budget+1 {
				t.Fatalf("budget %d: without power %d, gone %t, %d operations", budget, e, p.Gone(), p.Ops())
			}
		}
	}
}

func TestNoEnd(t *testing.T) {
	for _, budget := range []int{-1, -2, -64, math.MinInt32, math.MinInt + 1, math.MinInt} {
		p := New(budget)
		for i := range 5000 {
			if e := p.Spend(); e != api.OK || p.Gone() || p.Ops() != i+1 {
				t.Fatalf("budget %d, operation %d: %d, gone %t, %d operations", budget, i+1, e, p.Gone(), p.Ops())
			}
		}
	}
}

func TestGreatBudgets(t *testing.T) {
	for _, budget := range []int{1 << 16, 1<<32 - 1, 1 << 32, 1 << 33, math.MaxInt} {
		p := New(budget)
		same(t, spent(p, 3), api.OK, api.OK, api.OK)
		if p.Gone() || p.Ops() != 3 {
			t.Errorf("budget %d: gone %t, %d operations", budget, p.Gone(), p.Ops())
		}
	}
	p := New(1 << 16)
	for range 1 << 16 {
		if e := p.Spend(); e != api.OK {
			t.Fatalf("operation %d is told %d", p.Ops(), e)
		}
	}
	same(t, spent(p, 2), api.ErrTorn, api.ErrCut)
}

func TestCut(t *testing.T) {
	for _, budget := range []int{-1, 0, 1, 5} {
		p := New(budget)
		p.Cut()
		if !p.Gone() || p.Ops() != 0 {
			t.Errorf("budget %d: cut, gone is %t, and %d operations are told", budget, p.Gone(), p.Ops())
		}
		p.Cut()
		same(t, spent(p, 2), api.ErrCut, api.ErrCut)
		if !p.Gone() || p.Ops() != 0 {
			t.Errorf("budget %d: cut and spent, gone is %t, and %d operations are told", budget, p.Gone(), p.Ops())
		}
	}
}

func TestBackBringsNewBudget(t *testing.T) {
	for _, lose := range []func(*Power){
		func(p *Power) {},
		func(p *Power) { p.Cut() },
		func(p *Power) { spent(p, 2); p.Cut() },
		func(p *Power) { spent(p, 9) },
	} {
		p := New(3)
		lose(p)
		before := p.Ops()
		p.Back(1)
		if p.Gone() || p.Ops() != before {
			t.Errorf("back: gone is %t, and %d operations are told, want %d", p.Gone(), p.Ops(), before)
		}
		same(t, spent(p, 3), api.OK, api.ErrTorn, api.ErrCut)
		if p.Ops() != before+2 {
			t.Errorf("%d operations are told, want %d", p.Ops(), before+2)
		}
		p.Back(0)
		same(t, spent(p, 2), api.ErrTorn, api.ErrCut)
		p.Back(-1)
		same(t, spent(p, 3), api.OK, api.OK, api.OK)
		if p.Gone() || p.Ops() != before+6 {
			t.Errorf("no end: gone is %t, and %d operations are told, want %d", p.Gone(), p.Ops(), before+6)
		}
	}
}

func TestTwoPowersAreTwo(t *testing.T) {
	a, b := New(1), New(1)
	spent(a, 3)
	if b.Gone() || b.Ops() != 0 {
		t.Error("one power is spent by the other's operations")
	}
	same(t, spent(b, 2), api.OK, api.ErrTorn)
}

// TestManyRows holds rows of calls, in which none tells the next, against the plain telling.
func TestManyRows(t *testing.T) {
	x := uint32(1)
	next := func(n uint32) uint32 {
		x = x*1664525 + 1013904223
		return x >> 8 % n
	}
	for range 500 {
		budget := int(next(8)) - 2
		p, q := New(budget), &plain{budget: budget}
		for i := range 60 {
			switch next(8) {
			case 0:
				p.Cut()
				q.gone = true
			case 1:
				budget := int(next(8)) - 2
				p.Back(budget)
				q.budget, q.gone = budget, false
			default:
				if got, want := p.Spend(), q.spend(); got != want {
					t.Fatalf("call %d: Spend is %d, want %d", i, got, want)
				}
			}
			if p.Gone() != q.gone || p.Ops() != q.ops {
				t.Fatalf("call %d: gone %t and %d operations, want %t and %d", i, p.Gone(), p.Ops(), q.gone, q.ops)
			}
		}
	}
}

func TestNilPower(t *testing.T) {
	var p *Power
	for range 2 {
		if e := p.Spend(); e != api.ErrCut {
			t.Errorf("Spend of nil is %d", e)
		}
		if !p.Gone() {
			t.Error("a nil power is there")
		}
		if n := p.Ops(); n != 0 {
			t.Errorf("Ops of nil is %d", n)
		}
		p.Back(-1)
		p.Cut()
	}
}
