package heal

import (
	"math"
	"slices"
	"testing"

	"almshouse/api"
	"almshouse/draws"
	"almshouse/nand"
	"almshouse/power"
	"almshouse/scan"
	"almshouse/tag"
)

// The tests ask for tenant 1, of epoch 2, if they don't say otherwise.
const (
	who   = 1
	since = 2
)

// at is a page of the tenant that is no copy.
func at(block, page, place, seq int) api.Found {
	return api.Found{Block: block, Page: page, Tag: api.Tag{Tenant: who, Epoch: since, Place: place, Seq: seq, Kind: api.KindWrite}}
}

// copyAt is one that is a copy.
func copyAt(block, page, place, seq int) api.Found {
	f := at(block, page, place, seq)
	f.Tag.Copy = true
	return f
}

// trimAt is one of a trim.
func trimAt(block, page, place, seq int) api.Found {
	f := at(block, page, place, seq)
	f.Tag.Kind = api.KindTrim
	return f
}

// tornAt is one that can't be read.
func tornAt(block, page int) api.Found {
	return api.Found{Block: block, Page: page, Torn: true}
}

// othersAt is one of another tenant.
func othersAt(block, page, place, seq int) api.Found {
	f := at(block, page, place, seq)
	f.Tag.Tenant = who + 1
	return f
}

// oldAt is one of an earlier epoch.
func oldAt(block, page, place, seq int) api.Found {
	f := at(block, page, place, seq)
	f.Tag.Epoch = since - 1
	return f
}

// same asks whether two answers are.
func same(a, b Healed) bool {
	return slices.Equal(a.Spots, b.Spots) && slices.Equal(a.Go, b.Go) && a.Seq == b.Seq
}

// heals holds an answer of Heal against the one that is wanted, and asks it of the pages backwards, too.
func heals(t *testing.T, l []api.Found, blocks, size int, want Healed) {
	t.Helper()
	if got := Heal(l, blocks, who, since, size); !same(got, want) {
		t.Fatalf("Heal(%+v, %d blocks, size %d) is %+v, want %+v", l, blocks, size, got, want)
	}
	back := slices.Clone(l)
	slices.Reverse(back)
	if got := Heal(back, blocks, who, since, size); !same(got, want) {
		t.Fatalf("Heal(%+v, %d blocks, size %d) is %+v, want %+v", back, blocks, size, got, want)
	}
}

// voids holds an answer of Void against the one that is wanted, and asks it of the pages backwards, too.
func voids(t *testing.T, l []api.Found, blocks, size int, want ...int) {
	t.Helper()
	if got := Void(l, blocks, who, since, size); !slices.Equal(got, want) {
		t.Fatalf("Void(%+v, %d blocks, size %d) is %v, want %v", l, blocks, size, got, want)
	}
	back := slices.Clone(l)
	slices.Reverse(back)
	if got := Void(back, blocks, who, since, size); !slices.Equal(got, want) {
		t.Fatalf("Void(%+v, %d blocks, size %d) is %v, want %v", back, blocks, size, got, want)
	}
}

// asked is what is asked of pages beside their row.
type asked struct{ blocks, tenant, epoch, size int }

// looked asks whether a page is looked at.
func (a asked) looked(f api.Found) bool { return 0 <= f.Block && f.Block < a.blocks }

// mine asks whether a page that is looked at is the tenant's.
func (a asked) mine(f api.Found) bool {
	return a.looked(f) && !f.Torn && f.Tag.Tenant == a.tenant && f.Tag.Epoch == a.epoch
}

// counts asks whether a page that is looked at counts.
func (a asked) counts(f api.Found) bool { return a.mine(f) && f.Tag.Place < a.size }

// values are what a function tells of pages of which another one holds: rising, each once.
func values(l []api.Found, holds func(api.Found) bool, tell func(api.Found) int) []int {
	var row []int
	for _, f := range l {
		if v := tell(f); holds(f) && !slices.Contains(row, v) {
			row = append(row, v)
		}
	}
	slices.Sort(row)
	return row
}

func blockOf(f api.Found) int { return f.Block }
func placeOf(f api.Found) int { return f.Tag.Place }
func seqOf(f api.Found) int   { return f.Tag.Seq }

// plainGo are the blocks that may go, by their words.
func plainGo(l []api.Found, a asked) []int {
	var gone []int
	for _, block := range values(l, a.looked, blockOf) {
		may := true
		for _, f := range l {
			if f.Block != block || !a.counts(f) {
				continue
			}
			isElsewhere := false
			for _, o := range l {
				isElsewhere = isElsewhere || a.counts(o) && o.Block != block && !slices.Contains(gone, o.Block) &&
					o.Tag.Place == f.Tag.Place && o.Tag.Seq >= f.Tag.Seq
			}
			may = may && isElsewhere
		}
		if may {
			gone = append(gone, block)
		}
	}
	return gone
}

// plainSpot is a place's page, by its words: no other one is ahead of it.
func plainSpot(l []api.Found, a asked, gone []int, place int) (Spot, bool) {
	var rivals []api.Found
	for _, f := range l {
		if a.counts(f) && !slices.Contains(gone, f.Block) && f.Tag.Place == place {
			rivals = append(rivals, f)
		}
	}
	for _, f := range rivals {
		isBeaten := false
		for _, o := range rivals {
			newer, older := tag.Newer(o.Tag, f.Tag), tag.Newer(f.Tag, o.Tag)
			lower := o.Block < f.Block || o.Block == f.Block && o.Page < f.Page
			isBeaten = isBeaten || newer || !older && lower
		}
		if !isBeaten {
			return Spot{place, f.Block, f.Page}, true
		}
	}
	return Spot{}, false
}

// plainHeal is what Heal is to answer, by its words.
func plainHeal(l []api.Found, a asked) Healed {
	h := Healed{Go: plainGo(l, a)}
	for _, place := range values(l, a.counts, placeOf) {
		if s, ok := plainSpot(l, a, h.Go, place); ok {
			h.Spots = append(h.Spots, s)
		}
	}
	if seqs := values(l, a.mine, seqOf); len(seqs) > 0 {
		h.Seq = seqs[len(seqs)-1] + 1
	}
	return h
}

// plainVoid is what Void is to answer, by its words.
func plainVoid(l []api.Found, a asked) []int {
	return values(l, func(f api.Found) bool { return a.mine(f) && f.Tag.Place >= a.size }, blockOf)
}

// agrees holds both calls against their words.
func agrees(t *testing.T, l []api.Found, a asked) {
	t.Helper()
	if got, want := Heal(l, a.blocks, a.tenant, a.epoch, a.size), plainHeal(l, a); !same(got, want) {
		t.Fatalf("Heal of %+v and %+v is %+v, want %+v", a, l, got, want)
	}
	if got, want := Void(l, a.blocks, a.tenant, a.epoch, a.size), plainVoid(l, a); !slices.Equal(got, want) {
		t.Fatalf("Void of %+v and %+v is %v, want %v", a, l, got, want)
	}
}

// isKept asks that nothing is lost: P17.2.
func isKept(t *testing.T, l []api.Found, a asked) {
	t.Helper()
	h := Heal(l, a.blocks, a.tenant, a.epoch, a.size)
	spots := map[int]Spot{}
	for _, s := range h.Spots {
		if slices.Contains(h.Go, s.Block) {
			t.Fatalf("%+v and %+v: place %d's page goes with block %d", a, l, s.Place, s.Block)
		}
		spots[s.Place] = s
	}
	for _, place := range values(l, a.counts, placeOf) {
		s, ok := spots[place]
		isOfPlace := func(f api.Found) bool { return a.counts(f) && f.Tag.Place == place }
		isSpot := func(f api.Found) bool { return isOfPlace(f) && f.Block == s.Block && f.Page == s.Page }
		all, had := values(l, isOfPlace, seqOf), values(l, isSpot, seqOf)
		if !ok || len(had) == 0 || had[len(had)-1] != all[len(all)-1] {
			t.Fatalf("%+v and %+v: place %d's page is %+v, its Seq of %v; all are %v", a, l, place, s, had, all)
		}
	}
	if len(spots) != len(values(l, a.counts, placeOf)) || len(spots) != len(h.Spots) {
		t.Fatalf("%+v and %+v: the places' pages are %v", a, l, h.Spots)
	}
}

// drawing answers drawn numbers, the same ones of the same beginning.
func drawing(x uint32) func(int) int {
	return func(n int) int {
		x = x*1664525 + 1013904223
		return int(x>>8) % n
	}
}

// P17.1

func TestNothingFound(t *testing.T) {
	for _, l := range [][]api.Found{nil, {}} {
		for _, v := range []int{math.MinInt, -1, 0, 1, 64, math.MaxInt} {
			heals(t, l, v, 9, Healed{})
			heals(t, l, 9, v, Healed{})
			voids(t, l, v, 9)
			voids(t, l, 9, v)
		}
	}
}

func TestGo(t *testing.T) {
	for _, c := range []struct {
		name string
		l    []api.Found
		want []int
	}{
		{"one page", []api.Found{at(0, 0, 3, 1)}, nil},
		{"the same copies", []api.Found{copyAt(0, 0, 3, 7), copyAt(1, 0, 3, 7)}, []int{0}},
		{"the same copies, in later blocks", []api.Found{copyAt(5, 0, 3, 7), copyAt(2, 0, 3, 7)}, []int{2}},
		{"a page, and its copy", []api.Found{at(0, 0, 3, 7), copyAt(1, 0, 3, 7)}, []int{0}},
		{"a copy, and its page", []api.Found{copyAt(0, 0, 3, 7), at(1, 0, 3, 7)}, []int{0}},
		{"three of them", []api.Found{at(0, 0, 3, 7), copyAt(1, 0, 3, 7), copyAt(2, 0, 3, 7)}, []int{0, 1}},
		{"an older page", []api.Found{at(0, 0, 3, 7), at(1, 0, 3, 8)}, []int{0}},
		{"an older page behind", []api.Found{at(0, 0, 3, 8), at(1, 0, 3, 7)}, []int{1}},
		{"a page of another place", []api.Found{at(0, 0, 3, 7), at(1, 0, 4, 8)}, nil},
		{"a page that stays", []api.Found{at(0, 0, 3, 7), at(0, 1, 4, 9), at(1, 0, 3, 8), at(1, 1, 4, 8)}, nil},
		{"copied in part", []api.Found{at(0, 0, 3, 7), at(0, 1, 4, 8), copyAt(1, 0, 3, 7)}, []int{1}},
		{"copied wholly", []api.Found{at(0, 0, 3, 7), at(0, 1, 4, 8), copyAt(1, 0, 3, 7), copyAt(1, 1, 4, 8)}, []int{0}},
		{"copied into two", []api.Found{at(0, 0, 3, 7), at(0, 1, 4, 8), copyAt(1, 0, 3, 7), copyAt(2, 0, 4, 8)}, []int{0}},
		{"its own pages alone", []api.Found{at(0, 0, 3, 7), at(0, 1, 3, 8)}, nil},
		{"two of the same in a block", []api.Found{at(0, 0, 3, 7), copyAt(0, 1, 3, 7)}, nil},
		{"two of the same in each block", []api.Found{at(0, 0, 3, 7), copyAt(0, 1, 3, 7), copyAt(1, 0, 3, 7), copyAt(1, 1, 3, 7)}, []int{0}},
		{"one that stands in for one that went", []api.Found{at(0, 0, 3, 7), at(1, 0, 3, 7), at(1, 1, 4, 1), at(2, 0, 4, 1)}, []int{0, 2}},
		{"one that stays for another place's sake", []api.Found{at(0, 0, 3, 7), at(0, 1, 5, 1), at(1, 0, 3, 7)}, []int{1}},
		{"trims", []api.Found{at(0, 0, 3, 7), trimAt(1, 0, 3, 8), trimAt(2, 0, 3, 8)}, []int{0, 1}},
		{"torn pages", []api.Found{tornAt(0, 0), tornAt(0, 1)}, []int{0}},
		{"a torn page beside one that counts", []api.Found{tornAt(0, 0), at(0, 1, 3, 1), tornAt(1, 0)}, []int{1}},
		{"a torn page with a tag", []api.Found{{Block: 1, Torn: true, Tag: at(0, 0, 3, 7).Tag}, at(0, 0, 3, 6)}, []int{1}},
		{"another tenant's", []api.Found{othersAt(0, 0, 3, 7), at(1, 0, 3, 6)}, []int{0}},
		{"another epoch's", []api.Found{oldAt(0, 0, 3, 7), at(1, 0, 3, 6)}, []int{0}},
		{"of the last place", []api.Found{at(0, 0, 8, 7)}, nil},
		{"beyond the size", []api.Found{at(0, 0, 9, 7), at(1, 0, 10, 7), at(2, 0, 63, 7)}, []int{0, 1, 2}},
		{"beyond the size, beside one that counts", []api.Found{at(0, 0, 9, 7), at(0, 1, 0, 7)}, nil},
	} {
		h := Heal(c.l, 6, who, since, 9)
		if !slices.Equal(h.Go, c.want) {
			t.Errorf("%s: the blocks %v may go, want %v", c.name, h.Go, c.want)
		}
		agrees(t, c.l, asked{6, who, since, 9})
		isKept(t, c.l, asked{6, who, since, 9})
	}
}

func TestSpots(t *testing.T) {
	heals(t, []api.Found{at(0, 0, 3, 7), at(0, 1, 4, 8), copyAt(1, 0, 3, 7)}, 2, 9,
		Healed{Spots: []Spot{{3, 0, 0}, {4, 0, 1}}, Go: []int{1}, Seq: 9})
	// rising by places, not by blocks
	heals(t, []api.Found{at(0, 0, 8, 1), at(0, 1, 0, 2), at(1, 0, 5, 3), at(1, 1, 4, 4)}, 2, 9,
		Healed{Spots: []Spot{{0, 0, 1}, {4, 1, 1}, {5, 1, 0}, {8, 0, 0}}, Seq: 5})
	// the greatest Seq, wherever it stands
	heals(t, []api.Found{at(0, 0, 3, 1), at(0, 1, 3, 3), at(0, 2, 3, 2)}, 2, 9,
		Healed{Spots: []Spot{{3, 0, 1}}, Seq: 4})
	// a trim is a place's page, too
	heals(t, []api.Found{at(0, 0, 3, 1), trimAt(0, 1, 3, 2)}, 2, 9,
		Healed{Spots: []Spot{{3, 0, 1}}, Seq: 3})
	// of one Seq, what is no copy is newer
	heals(t, []api.Found{copyAt(0, 0, 3, 1), at(0, 1, 3, 1)}, 2, 9,
		Healed{Spots: []Spot{{3, 0, 1}}, Seq: 2})
	heals(t, []api.Found{copyAt(0, 0, 3, 1), at(0, 1, 6, 2), at(1, 0, 3, 1), at(1, 1, 7, 3)}, 2, 9,
		Healed{Spots: []Spot{{3, 1, 0}, {6, 0, 1}, {7, 1, 1}}, Seq: 4})
	// what is newer may go: then it isn't the place's
	heals(t, []api.Found{at(0, 0, 3, 1), copyAt(1, 0, 3, 1)}, 2, 9,
		Healed{Spots: []Spot{{3, 1, 0}}, Go: []int{0}, Seq: 2})
	// of several the one of the lowest block, then page
	heals(t, []api.Found{at(1, 1, 3, 1), at(1, 2, 3, 1), at(1, 3, 4, 2), at(2, 0, 3, 1), at(2, 1, 5, 3)}, 3, 9,
		Healed{Spots: []Spot{{3, 1, 1}, {4, 1, 3}, {5, 2, 1}}, Seq: 4})
	heals(t, []api.Found{copyAt(1, 3, 3, 1), at(1, 4, 4, 2), copyAt(2, 0, 3, 1), at(2, 1, 5, 3)}, 3, 9,
		Healed{Spots: []Spot{{3, 1, 3}, {4, 1, 4}, {5, 2, 1}}, Seq: 4})
	// places that no page counts for have none
	heals(t, []api.Found{tornAt(0, 0), othersAt(0, 1, 1, 1), oldAt(0, 2, 2, 1), at(0, 3, 9, 1), at(0, 4, 3, 1)}, 1, 9,
		Healed{Spots: []Spot{{3, 0, 4}}, Seq: 2})
}

func TestSeq(t *testing.T) {
	for _, c := range []struct {
		name string
		l    []api.Found
		want int
	}{
		{"none that is the tenant's", []api.Found{tornAt(0, 0), othersAt(0, 1, 1, 5), oldAt(0, 2, 2, 6)}, 0},
		{"the first one", []api.Found{at(0, 0, 3, 0)}, 1},
		{"the greatest", []api.Found{at(0, 0, 3, 4), at(0, 1, 3, 9), at(0, 2, 3, 6)}, 10},
		{"of places beyond the size", []api.Found{at(0, 0, 3, 4), at(0, 1, 9, 50), at(0, 2, 8, 20)}, 51},
		{"of places beyond the size alone", []api.Found{at(0, 0, 63, 4)}, 5},
		{"of copies and trims", []api.Found{at(0, 0, 3, 4), copyAt(0, 1, 4, 6), trimAt(0, 2, 5, 5)}, 7},
		{"of a block that goes", []api.Found{at(0, 0, 3, 4), at(1, 0, 12, 6)}, 7},
		{"not another one's", []api.Found{at(0, 0, 3, 4), othersAt(0, 1, 4, 60), oldAt(0, 2, 5, 50)}, 5},
		{"not a torn one's", []api.Found{at(0, 0, 3, 4), {Block: 1, Torn: true, Tag: at(0, 0, 3, 90).Tag}}, 5},
		{"not of blocks beyond", []api.Found{at(0, 0, 3, 4), at(6, 0, 3, 60), at(-1, 0, 3, 50)}, 5},
		{"the last one that a tag may have", []api.Found{at(0, 0, 3, math.MaxInt32)}, math.MaxInt32 + 1},
	} {
		if h := Heal(c.l, 6, who, since, 9); h.Seq != c.want {
			t.Errorf("%s: the next Seq is %d, want %d", c.name, h.Seq, c.want)
		}
	}
}

// TestBlocksBeyond asks of pages in blocks that aren't looked at.
func TestBlocksBeyond(t *testing.T) {
	far := []int{math.MinInt, -1 << 32, -2, -1, 2, 3, 64, 1 << 32, 1<<32 + 1, math.MaxInt}
	for _, block := range far {
		l := []api.Found{at(block, 0, 3, 9), at(0, 0, 3, 4), tornAt(block, 1), at(block, 2, 20, 7), at(1, 0, 20, 2)}
		heals(t, l, 2, 9, Healed{Spots: []Spot{{3, 0, 0}}, Go: []int{1}, Seq: 5})
		voids(t, l, 2, 9, 1)
		heals(t, l[:1], 2, 9, Healed{})
		voids(t, l[2:4], 2, 9)
	}
	for _, blocks := range []int{math.MinInt, -1 << 32, -1, 0} {
		l := []api.Found{at(0, 0, 3, 9), at(-1, 0, 4, 9), at(blocks, 0, 20, 8), at(0, 1, 20, 7)}
		heals(t, l, blocks, 9, Healed{})
		voids(t, l, blocks, 9)
	}
	// the last one is looked at
	l := []api.Found{at(63, 0, 3, 9), at(64, 0, 3, 10), at(63, 1, 20, 1), at(64, 1, 20, 1)}
	heals(t, l, 64, 9, Healed{Spots: []Spot{{3, 63, 0}}, Seq: 10})
	heals(t, l, 65, 9, Healed{Spots: []Spot{{3, 64, 0}}, Go: []int{63}, Seq: 11})
	voids(t, l, 64, 9, 63)
	voids(t, l, 65, 9, 63, 64)
	top := math.MaxInt - 1
	heals(t, []api.Found{at(top, 0, 3, 9), at(0, 0, 3, 8)}, math.MaxInt, 9, Healed{Spots: []Spot{{3, top, 0}}, Go: []int{0}, Seq: 10})
	voids(t, []api.Found{at(top, 0, 30, 9)}, math.MaxInt, 9, top)
}

func TestVoid(t *testing.T) {
	voids(t, []api.Found{at(1, 0, 9, 0)}, 2, 9, 1)
	voids(t, []api.Found{at(1, 0, 8, 0)}, 2, 9)
	voids(t, []api.Found{at(1, 0, 8, 0)}, 2, 8, 1)
	voids(t, []api.Found{at(4, 0, 10, 0), at(2, 0, 9, 1), at(4, 1, 63, 2), at(3, 0, 0, 3), at(0, 0, 9, 4)}, 5, 9, 0, 2, 4)
	voids(t, []api.Found{copyAt(0, 0, 9, 0), trimAt(1, 0, 9, 0), at(2, 0, 9, 0)}, 3, 9, 0, 1, 2)
	voids(t, []api.Found{tornAt(0, 0), othersAt(1, 0, 9, 0), oldAt(2, 0, 9, 0)}, 3, 9)
	voids(t, []api.Found{tornAt(0, 0), othersAt(0, 1, 9, 0), oldAt(0, 2, 9, 0), at(0, 3, 9, 0)}, 3, 9, 0)
	voids(t, []api.Found{{Torn: true, Tag: at(0, 0, 9, 0).Tag}}, 3, 9)
	// blocks that may go are told, too
	voids(t, []api.Found{at(0, 0, 9, 0), at(1, 0, 9, 5)}, 2, 9, 0, 1)
}

// TestSizes asks for sizes about the pages' places, and far from them.
func TestSizes(t *testing.T) {
	l := []api.Found{at(0, 0, 0, 1), at(1, 0, 5, 2), at(2, 0, 63, 3)}
	spots := []Spot{{0, 0, 0}, {5, 1, 0}, {63, 2, 0}}
	for _, c := range []struct{ size, count int }{
		{math.MinInt, 0}, {-1, 0}, {0, 0}, {1, 1}, {5, 1}, {6, 2}, {63, 2}, {64, 3}, {65, 3}, {1 << 32, 3}, {math.MaxInt, 3},
	} {
		var beyond []int
		for block := c.count; block < 3; block++ {
			beyond = append(beyond, block)
		}
		heals(t, l, 3, c.size, Healed{Spots: spots[:c.count], Go: beyond, Seq: 4})
		voids(t, l, 3, c.size, beyond...)
	}
}

// TestWhoseItIs asks for tenants and epochs, also those that may not be.
func TestWhoseItIs(t *testing.T) {
	numbers := []int{math.MinInt, -1, 0, 1, 2, 3, 4, 1<<32 + 1, math.MaxInt}
	var l []api.Found
	for i, tenant := range numbers {
		for j, epoch := range numbers {
			f := at(i, j, i*9+j, i*100+j)
			f.Tag.Tenant, f.Tag.Epoch = tenant, epoch
			l = append(l, f)
		}
	}
	for i, tenant := range numbers {
		for j, epoch := range numbers {
			h := Heal(l, 9, tenant, epoch, 81)
			others := slices.Delete([]int{0, 1, 2, 3, 4, 5, 6, 7, 8}, i, i+1)
			if want := (Healed{[]Spot{{i*9 + j, i, j}}, others, i*100 + j + 1}); !same(h, want) {
				t.Fatalf("Heal of tenant %d, epoch %d: %+v, want %+v", tenant, epoch, h, want)
			}
			if v := Void(l, 9, tenant, epoch, i*9+j); !slices.Equal(v, []int{i}) {
				t.Fatalf("Void of tenant %d, epoch %d: %v", tenant, epoch, v)
			}
			if v := Void(l, 9, tenant, epoch, i*9+j+1); len(v) != 0 {
				t.Fatalf("Void of tenant %d, epoch %d, beyond its place: %v", tenant, epoch, v)
			}
		}
	}
}

// TestFarNumbers gives tags and pages that may not be: they are numbers as others.
func TestFarNumbers(t *testing.T) {
	heals(t, []api.Found{at(0, -7, -1, 3), at(0, math.MaxInt, 70, 5)}, 1, 71, Healed{Spots: []Spot{{-1, 0, -7}, {70, 0, math.MaxInt}}, Seq: 6})
	heals(t, []api.Found{at(0, 0, 1, -3), at(1, 0, 1, -4)}, 2, 9, Healed{Spots: []Spot{{1, 0, 0}}, Go: []int{1}, Seq: -2})
	heals(t, []api.Found{at(0, 0, 1, math.MinInt), at(1, 0, 1, math.MaxInt-1)}, 2, 9, Healed{Spots: []Spot{{1, 1, 0}}, Go: []int{0}, Seq: math.MaxInt})
	voids(t, []api.Found{at(0, 0, -5, 0), at(1, 0, math.MaxInt, 0), at(2, 0, math.MinInt, 0)}, 3, -5, 0, 1)
}

// TestAllSmallRows holds all rows of up to four of some pages against the words.
func TestAllSmallRows(t *testing.T) {
	var pages []api.Found
	for block := range 3 {
		for place := range 2 {
			pages = append(pages, at(block, place, place, 0), at(block, place, place, 1))
		}
		pages = append(pages, copyAt(block, 2, 0, 1))
	}
	pages = append(pages, tornAt(0, 3), othersAt(1, 3, 0, 2), at(2, 3, 2, 3), at(3, 0, 0, 4))
	row := make([]api.Found, 0, 4)
	a := asked{3, who, since, 2}
	var more func()
	more = func() {
		agrees(t, row, a)
		isKept(t, row, a)
		if len(row) == cap(row) {
			return
		}
		for _, f := range pages {
			row = append(row, f)
			more()
			row = row[:len(row)-1]
		}
	}
	more()
}

// drawnPage is a page that may be anyone's, in any block, with few numbers, so that much is alike.
func drawnPage(draw func(int) int, few int) api.Found {
	f := api.Found{Block: draw(few+2) - 1, Page: draw(16), Torn: draw(12) == 0}
	f.Tag = api.Tag{Tenant: who, Epoch: since, Place: draw(few), Seq: draw(2 * few), Kind: 1 + draw(2), Copy: draw(2) == 0}
	if draw(16) == 0 {
		f.Tag.Tenant = draw(4)
	}
	if draw(16) == 0 {
		f.Tag.Epoch = draw(4)
	}
	return f
}

// TestDrawnRows holds drawn rows against the words, and asks that nothing is lost.
func TestDrawnRows(t *testing.T) {
	draw := drawing(17)
	for range 6000 {
		few := 1 + draw(8)
		l := make([]api.Found, draw(40))
		for i := range l {
			l[i] = drawnPage(draw, few)
		}
		a := asked{few + draw(3) - 1, who, since, few + draw(4) - 2}
		kept := slices.Clone(l)
		agrees(t, l, a)
		isKept(t, l, a)
		if !slices.Equal(l, kept) {
			t.Fatalf("what was handed in became %+v, it was %+v", l, kept)
		}
	}
}

// TestFullArrays holds arrays as great as they may be against the words.
func TestFullArrays(t *testing.T) {
	draw := drawing(5)
	for _, seqs := range []int{1, 64, 1 << 20} {
		for _, size := range []int{1, 40, 64} {
			var l []api.Found
			for block := range api.MaxBlocks {
				for page := range api.MaxPages {
					f := at(block, page, draw(api.MaxSize), draw(seqs))
					f.Tag.Copy = draw(2) == 0
					l = append(l, f)
				}
			}
			a := asked{api.MaxBlocks, who, since, size}
			agrees(t, l, a)
			isKept(t, l, a)
		}
	}
}

// TestManyPages asks of more pages than an array has: of one place, all of one Seq, and of many.
func TestManyPages(t *testing.T) {
	const many = 200000
	l := make([]api.Found, many)
	for i := range l {
		l[i] = at(i, 0, 0, 7)
	}
	h := Heal(l, many, who, since, 1)
	if len(h.Go) != many-1 || h.Go[many-2] != many-2 || !slices.Equal(h.Spots, []Spot{{0, many - 1, 0}}) || h.Seq != 8 {
		t.Errorf("%d blocks may go; the places' pages are %v; the next Seq is %d", len(h.Go), h.Spots, h.Seq)
	}
	for i := range l {
		l[i] = at(i%2, i, i, i)
	}
	h = Heal(l, 2, who, since, many)
	if len(h.Go) != 0 || len(h.Spots) != many || h.Spots[many-1] != (Spot{many - 1, 1, many - 1}) || h.Seq != many {
		t.Errorf("%v may go; %d places have pages; the next Seq is %d", h.Go, len(h.Spots), h.Seq)
	}
	if v := Void(l, 2, who, since, many-1); !slices.Equal(v, []int{1}) {
		t.Errorf("Void is %v", v)
	}
}

func TestAnswersAreNewMemory(t *testing.T) {
	l := []api.Found{at(0, 0, 3, 7), copyAt(1, 0, 3, 7), copyAt(2, 0, 3, 7), at(2, 1, 20, 1)}
	want := Healed{Spots: []Spot{{3, 2, 0}}, Go: []int{0, 1}, Seq: 8}
	h, v := Heal(l, 3, who, since, 9), Void(l, 3, who, since, 9)
	clear(h.Spots)
	clear(v)
	if !slices.Equal(h.Go, want.Go) {
		t.Errorf("the blocks that may go became %v", h.Go)
	}
	clear(h.Go)
	heals(t, l, 3, 9, want)
	voids(t, l, 3, 9, 2)
}

// P17.2

// bench is an array, with what writes into it.
type bench struct {
	array *nand.Nand
	power *power.Power
	row   []int
	seq   int
}

// made is a blank array of six blocks of three pages, of which a tenant has four.
func made(t *testing.T) *bench {
	t.Helper()
	p := power.New(-1)
	d, _ := draws.New([api.Tenants][]int{})
	n, e := nand.New(api.Geometry{Channels: 1, Dies: 1, Blocks: 6, Pages: 3}, p, d, nil)
	if e != api.OK {
		t.Fatalf("New: %d", e)
	}
	return &bench{array: n, power: p, row: []int{5, 2, 4, 3}}
}

// put writes a block's next page, if it has one and the power lasts, and tells whether it did.
func (b *bench) put(t *testing.T, block int, x api.Tag) bool {
	t.Helper()
	beside, e := tag.Bytes(x)
	if e != api.OK {
		t.Fatalf("Bytes(%+v): %d", x, e)
	}
	at := b.row[block]
	return b.array.Program(who, at, b.array.Next(at), beside, "") == api.OK
}

// found are the pages, once the power is there again.
func (b *bench) found(t *testing.T) []api.Found {
	t.Helper()
	b.power.Back(-1)
	l, e := scan.Pages(b.array, b.row)
	if e != api.OK {
		t.Fatalf("Pages: %d", e)
	}
	return l
}

// newest is the greatest Seq of each place's pages that count.
func newest(l []api.Found, a asked) map[int]int {
	m := map[int]int{}
	for _, f := range l {
		if seq, ok := m[f.Tag.Place]; a.counts(f) && (!ok || f.Tag.Seq > seq) {
			m[f.Tag.Place] = f.Tag.Seq
		}
	}
	return m
}

// fill writes drawn pages and copies, until the power goes that lasts for so many.
func (b *bench) fill(t *testing.T, draw func(int) int, ops int) {
	t.Helper()
	b.power.Back(ops)
	for range 12 {
		x := api.Tag{Tenant: who, Epoch: since, Place: draw(4), Seq: b.seq, Kind: 1 + draw(2)}
		l, e := scan.Pages(b.array, b.row)
		if e == api.OK && len(l) > 0 && draw(3) > 0 {
			if f := l[draw(len(l))]; !f.Torn {
				x = f.Tag
				x.Copy = true
			}
		}
		if b.put(t, draw(len(b.row)), x) {
			b.seq++
		}
	}
}

// TestWhatGoesIsErased erases the blocks that may go, one by one; the power goes in some of these erasings. After each, what is found comes to the same places, as new as they were, and no block goes that was to stay.
func TestWhatGoesIsErased(t *testing.T) {
	draw := drawing(29)
	a := asked{4, who, since, 4}
	erased, torn := 0, 0
	for range 400 {
		b := made(t)
		b.fill(t, draw, draw(14))
		l := b.found(t)
		want := newest(l, a)
		for {
			isKept(t, l, a)
			agrees(t, l, a)
			h := Heal(l, a.blocks, a.tenant, a.epoch, a.size)
			if len(h.Go) == 0 {
				break
			}
			b.power.Back(draw(3) - 1)
			switch b.array.Erase(who, b.row[h.Go[0]]) {
			case api.OK:
				erased++
			case api.ErrCut:
				torn++
			}
			l = b.found(t)
			got := newest(l, a)
			for place, seq := range want {
				if s, ok := got[place]; !ok || s != seq {
					t.Fatalf("place %d had the Seq %d, has %d in %+v", place, seq, s, l)
				}
			}
			next := Heal(l, a.blocks, a.tenant, a.epoch, a.size)
			for _, block := range next.Go {
				if !slices.Contains(h.Go, block) {
					t.Fatalf("block %d goes, now that of %v one is erased", block, h.Go)
				}
			}
		}
	}
	if erased < 100 || torn < 100 {
		t.Errorf("only %d blocks were erased, %d torn", erased, torn)
	}
}
