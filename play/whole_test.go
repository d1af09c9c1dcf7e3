package play

import (
	"slices"
	"strconv"
	"strings"
	"testing"

	"almshouse/api"
	"almshouse/house"
	"almshouse/warden"
)

// lines are a script's, as a text.
func lines(l ...string) string { return strings.Join(l, "\n") + "\n" }

// told is the house of a text that may be played.
func told(t *testing.T, l ...string) (*house.House, []api.Errno) {
	t.Helper()
	h, came, err := Text(lines(l...))
	is(t, "Text", err, api.OK)
	return h, came
}

// The ten examples of the whole, as scripts.

func TestWhole1(t *testing.T) {
	h, _ := told(t, "array 1 1 9 4", "create 1 5 1")
	if x, err := h.Stat(1); err != api.OK || x.Blocks != 4 || x.Size != 5 || x.Spare != 1 {
		t.Errorf("the tenant is %+v, error %d", x, err)
	}
}

func TestWhole2(t *testing.T) {
	for cut := range 4 {
		h, _ := told(t, "array 1 1 9 4", "create 0 3 0", "write 0 1 61", "flush 0", "slots 8", "write 0 1 62", "slots 4", "flush 0", "cut 0 "+strconv.Itoa(cut), "mount -1")
		row, err := Places(h, 0)
		is(t, "Places", err, api.OK)
		if len(row) != 3 || row[0] != "" || row[2] != "" || row[1] != "a" && row[1] != "b" {
			t.Errorf("cut behind %d operations, the places are %q", cut, row)
		}
	}
	h, _ := told(t, "array 1 1 9 4", "create 0 3 0", "write 0 1 61", "slots 4", "cut -1 0", "mount -1")
	has(t, h, 0, "", "", "")
}

func TestWhole3(t *testing.T) {
	h, _ := told(t, "array 1 1 9 4", "create 0 3 0", "write 0 1 61", "flush 0", "slots 8", "cut -1 0", "mount -1")
	if got := Done(h)[0]; !slices.Equal(got, []api.Done{{Slot: 0}, {Slot: 4}}) {
		t.Fatalf("it did %+v", got)
	}
	has(t, h, 0, "", "a", "")
}

func TestWhole4(t *testing.T) {
	h, _ := told(t, "array 1 1 9 4", "fault 0 1", "create 0 3 0", "write 0 1 61", "flush 0", "write 0 0 62", "read 0 1", "read 0 2", "slots 20")
	want := []api.Done{{Slot: 0}, {Slot: 4, Status: api.ErrRead}, {Slot: 8, Status: api.ErrRead}, {Slot: 12, Data: "a"}, {Slot: 16}}
	if got := Done(h)[0]; !slices.Equal(got, want) {
		t.Errorf("it did %+v, want %+v", got, want)
	}
	has(t, h, 0, "", "a", "")
}

func TestWhole5(t *testing.T) {
	h, _ := told(t, "array 1 1 9 4", "fault 0 2", "create 0 3 1", "write 0 0 61", "write 0 1 62", "flush 0", "write 0 2 63", "flush 0", "slots 20")
	for _, d := range Done(h)[0] {
		is(t, "slot "+strconv.Itoa(d.Slot), d.Status, api.OK)
	}
	has(t, h, 0, "a", "b", "c")
	x, _ := h.Stat(0)
	if x.Bad != 1 || x.Faults != 1 || x.ReadOnly || !h.Array().Bad(2) {
		t.Errorf("the tenant is %+v", x)
	}
}

// TestWhole6 has a tenant write one place over and over, till blocks are collected, and cuts its last flush behind each number of operations.
func TestWhole6(t *testing.T) {
	var l []string
	l = append(l, "array 1 1 9 4", "create 0 3 0", "write 0 0 61", "write 0 1 62", "flush 0", "slots 12")
	for range 5 {
		l = append(l, "write 0 2 63", "flush 0", "slots 8")
	}
	collects := 0
	for more := range 8 {
		for cut := range 12 {
			h, _ := told(t, append(slices.Clone(l), "write 0 2 64", "slots 4", "flush 0", "cut 0 "+strconv.Itoa(cut), "mount -1", "write 0 2 65", "flush 0", "slots 8")...)
			has(t, h, 0, "a", "b", "e")
			collects += h.Array().Erases(2) + h.Array().Erases(3)
		}
		l = append(l, "write 0 2 "+strconv.Itoa(66+more), "flush 0", "slots 8")
	}
	if collects == 0 {
		t.Error("no block was collected")
	}
}

func TestWhole7(t *testing.T) {
	times := map[bool]int{}
	for cut := range 8 {
		h, _ := told(t, "array 1 1 9 4", "create 1 3 0", "write 1 2 61", "flush 1", "slots 8", "destroy 1")
		warden.Torn(h, create(0, 3, 0), cut)
		is(t, "Mount", h.Mount(-1), api.OK)
		there := h.Ledger().Tenants[0].There
		times[there]++
		if there {
			has(t, h, 0, "", "", "")
		} else {
			lacks(t, "cut behind "+strconv.Itoa(cut)+" operations", h, 0, api.ErrNone)
		}
	}
	if times[true] == 0 || times[false] == 0 {
		t.Errorf("it was there or not: %v", times)
	}
}

func TestWhole8(t *testing.T) {
	h, _ := told(t, "array 1 1 4 4", "create 0 3 0", "write 0 0 61", "flush 0", "slots 8", "destroy 0", "create 1 3 0")
	has(t, h, 1, "", "", "")
	for _, block := range h.Ledger().Tenants[1].Blocks {
		if !h.Array().Blank(block) {
			t.Errorf("block %d isn't blank", block)
		}
	}
	if h.Array().Erases(2)+h.Array().Erases(3) != 1 {
		t.Error("not the one block was erased into which something was written")
	}
}

func TestWhole9(t *testing.T) {
	h, came := told(t, "array 1 1 9 4", "create 0 3 0", "create 1 3 0", "write 0 0 61", "write 1 0 62", "flush 0", "flush 1", "slots 8", "swap 0 1")
	is(t, "swap", came[len(came)-1], api.OK)
	has(t, h, 0, "a", "", "")
	has(t, h, 1, "b", "", "")
	if l := h.Ledger(); slices.Equal(l.Tenants[0].Blocks, []int{2, 3}) || slices.Equal(l.Tenants[1].Blocks, []int{4, 5}) {
		t.Errorf("the ledger is %+v", l)
	}
}

func TestWhole10(t *testing.T) {
	l := []string{"array 1 1 9 4", "create 0 3 0"}
	for range api.MaxQueue + 1 {
		l = append(l, "flush 0")
	}
	_, came := told(t, l...)
	for i, e := range came {
		want := api.OK
		if i == len(came)-1 {
			want = api.ErrFull
		}
		is(t, "step "+strconv.Itoa(i), e, want)
	}
}
