package draws

import (
	"math"
	"slices"
	"testing"

	"almshouse/api"
)

// nobodies are no tenants.
var nobodies = []int{math.MinInt, -1 << 32, -2, -1, api.Tenants, api.Admin, 5, 64, 1 << 32, math.MaxInt}

// made are draws of faults that may be.
func made(t *testing.T, faults [api.Tenants][]int) *Draws {
	t.Helper()
	d, e := New(faults)
	if d == nil || e != api.OK {
		t.Fatalf("New(%v) is %v, %d", faults, d, e)
	}
	return d
}

// many are n faults, from first on.
func many(first, n int) []int {
	var f []int
	for i := range n {
		f = append(f, first+i)
	}
	return f
}

// asked holds n operations of a tenant's against his faults.
func asked(t *testing.T, d *Draws, who, n int, faults []int) {
	t.Helper()
	failed := 0
	for i := 1; i <= n; i++ {
		want := slices.Contains(faults, i)
		if want {
			failed++
		}
		if got := d.Next(who); got != want || d.Ops(who) != i || d.Faults(who) != failed {
			t.Fatalf("tenant %d with faults %v, operation %d: %t, %d operations, %d failed, want %t, %d, %d",
				who, faults, i, got, d.Ops(who), d.Faults(who), want, i, failed)
		}
	}
}

// P5.1

func TestSecondFails(t *testing.T) {
	d := made(t, [api.Tenants][]int{{2}})
	if d.Next(0) {
		t.Error("the first operation fails")
	}
	if !d.Next(0) {
		t.Error("the second operation is whole")
	}
	if d.Next(0) {
		t.Error("the third operation fails")
	}
}

func TestFaultsOfEachTenant(t *testing.T) {
	for _, f := range [][]int{
		nil, {}, {1}, {2}, {1, 2, 3}, {3, 1, 2}, {5, 1, 9}, {7, 7}, {2, 1, 2, 1}, {100}, {101}, {1 << 32, 1<<32 + 1}, {math.MaxInt},
		many(1, 64), many(30, 64), slices.Repeat([]int{4}, 64),
	} {
		for who := range api.Tenants {
			var faults [api.Tenants][]int
			faults[who] = f
			d := made(t, faults)
			for other := range api.Tenants {
				asked(t, d, other, 100, faults[other])
			}
		}
	}
}

func TestTenantsCountApart(t *testing.T) {
	faults := [api.Tenants][]int{{1, 5}, {2}, nil, {3, 4, 4}}
	d := made(t, faults)
	var ops, failed [api.Tenants]int
	for i := range 200 {
		who := i * i % 7 % api.Tenants
		ops[who]++
		want := slices.Contains(faults[who], ops[who])
		if want {
			failed[who]++
		}
		if got := d.Next(who); got != want {
			t.Errorf("tenant %d, operation %d: %t, want %t", who, ops[who], got, want)
		}
		for other := range api.Tenants {
			if d.Ops(other) != ops[other] || d.Faults(other) != failed[other] {
				t.Fatalf("call %d: tenant %d has %d operations, %d failed, want %d, %d",
					i, other, d.Ops(other), d.Faults(other), ops[other], failed[other])
			}
		}
	}
}

func TestNothingCountedYet(t *testing.T) {
	d := made(t, [api.Tenants][]int{{1}, {1}, {1}, {1}})
	for who := range api.Tenants {
		if d.Ops(who) != 0 || d.Faults(who) != 0 {
			t.Errorf("tenant %d has %d operations, %d failed", who, d.Ops(who), d.Faults(who))
		}
	}
}

func TestNobody(t *testing.T) {
	d := made(t, [api.Tenants][]int{{1, 2}, {1, 2}, {1, 2}, {1, 2}})
	for range 3 {
		for _, who := range nobodies {
			if d.Next(who) || d.Ops(who) != 0 || d.Faults(who) != 0 {
				t.Errorf("%d is no tenant, and has %d operations, %d failed", who, d.Ops(who), d.Faults(who))
			}
		}
	}
	for who := range api.Tenants {
		if d.Ops(who) != 0 || d.Faults(who) != 0 {
			t.Errorf("tenant %d is counted for nobody's operations", who)
		}
		asked(t, d, who, 4, []int{1, 2})
	}
}

func TestNilDraws(t *testing.T) {
	var d *Draws
	for _, who := range append([]int{0, 1, 2, 3}, nobodies...) {
		if d.Next(who) || d.Ops(who) != 0 || d.Faults(who) != 0 {
			t.Errorf("nil draws tell of %d: %d operations, %d failed", who, d.Ops(who), d.Faults(who))
		}
	}
}

func TestWrongFaults(t *testing.T) {
	for who := range api.Tenants {
		for _, c := range []struct {
			f    []int
			want api.Errno
		}{
			{many(1, 65), api.ErrMany},
			{slices.Repeat([]int{4}, 65), api.ErrMany},
			{many(1, 1000), api.ErrMany},
			{many(0, 65), api.ErrMany},
			{[]int{0}, api.ErrRange},
			{[]int{-1}, api.ErrRange},
			{[]int{math.MinInt}, api.ErrRange},
			{[]int{1, 2, 0}, api.ErrRange},
			{[]int{-7, 1, 2}, api.ErrRange},
			{many(0, 64), api.ErrRange},
		} {
			faults := [api.Tenants][]int{{1}, {2, 2}, nil, {3}}
			faults[who] = c.f
			if d, e := New(faults); d != nil || e != c.want {
				t.Errorf("tenant %d with faults %v: %v, %d, want nil, %d", who, c.f, d, e, c.want)
			}
		}
	}
}

// TestManyIsToldFirst asks for both errors, of two tenants in either order.
func TestManyIsToldFirst(t *testing.T) {
	for a := range api.Tenants {
		for b := range api.Tenants {
			if a == b {
				continue
			}
			var faults [api.Tenants][]int
			faults[a], faults[b] = []int{0}, many(1, 65)
			if d, e := New(faults); d != nil || e != api.ErrMany {
				t.Errorf("tenant %d below 1, tenant %d too many: %v, %d", a, b, d, e)
			}
		}
	}
}

func TestFaultsAreNotShared(t *testing.T) {
	row := []int{3, 1, 3, 2}
	d := made(t, [api.Tenants][]int{row, row})
	if !slices.Equal(row, []int{3, 1, 3, 2}) {
		t.Errorf("what was handed in became %v", row)
	}
	for i := range row {
		row[i] = 50
	}
	asked(t, d, 0, 60, []int{1, 2, 3})
	asked(t, d, 1, 60, []int{1, 2, 3})
	if !slices.Equal(row, []int{50, 50, 50, 50}) {
		t.Errorf("what was handed in became %v", row)
	}
}

func TestTwoDrawsAreTwo(t *testing.T) {
	a := made(t, [api.Tenants][]int{{1}})
	b := made(t, [api.Tenants][]int{{2}})
	asked(t, a, 0, 5, []int{1})
	if b.Ops(0) != 0 || b.Faults(0) != 0 {
		t.Error("one's operations are counted by the other")
	}
	asked(t, b, 0, 5, []int{2})
}
