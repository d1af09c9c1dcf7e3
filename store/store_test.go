package store

import (
	"math"
	"slices"
	"strconv"
	"strings"
	"testing"

	"almshouse/api"
	"almshouse/draws"
	"almshouse/heal"
	"almshouse/nand"
	"almshouse/power"
	"almshouse/rule"
	"almshouse/scan"
	"almshouse/tag"
)

const (
	who   = 1 // whose the stores are
	epoch = 7
)

// disk is a store, with what is beneath it.
type disk struct {
	*Store
	array *nand.Nand
	power *power.Power
	draws *draws.Draws
	entry api.Tenant
}

// entryOf is one whose blocks fall, so that their numbers in the entry aren't those in the array, nor in their order.
func entryOf(size, spare, blocks int) api.Tenant {
	t := api.Tenant{There: true, Epoch: epoch, Size: size, Spare: spare}
	for i := range blocks {
		t.Blocks = append(t.Blocks, api.AdminAt+blocks-1-i)
	}
	return t
}

// diskOf is a store of an entry, on a blank array with two blocks more; of its operations these fail.
func diskOf(t *testing.T, pages int, entry api.Tenant, faults ...int) *disk {
	t.Helper()
	d, err := draws.New([api.Tenants][]int{0: {1, 2, 3}, who: faults, 2: {1, 2, 3}, 3: {1, 2, 3}})
	is(t, "draws", err, api.OK)
	p := power.New(-1)
	all := api.AdminAt + len(entry.Blocks) + 2
	n, err := nand.New(api.Geometry{Channels: all, Dies: 1, Blocks: 1, Pages: pages}, p, d, nil)
	is(t, "an array", err, api.OK)
	s, err := New(n, who, entry)
	is(t, "New", err, api.OK)
	if s == nil {
		t.Fatal("no store")
	}
	return &disk{s, n, p, d, entry}
}

// made is a store with as many blocks as its room needs.
func made(t *testing.T, pages, size, spare int, faults ...int) *disk {
	t.Helper()
	return diskOf(t, pages, entryOf(size, spare, rule.Total(size, spare, pages)), faults...)
}

// is holds an error against the one that is to be.
func is(t *testing.T, what string, got, want api.Errno) {
	t.Helper()
	if got != want {
		t.Fatalf("%s: error %d, want %d", what, got, want)
	}
}

// reads asks what a place has.
func (d *disk) reads(t *testing.T, place int, want string) {
	t.Helper()
	if data, err := d.Read(place); data != want || err != api.OK {
		t.Fatalf("Read(%d) is %q, error %d; want %q", place, data, err, want)
	}
}

// refuses asks that a place isn't read.
func (d *disk) refuses(t *testing.T, place int, want api.Errno) {
	t.Helper()
	if data, err := d.Read(place); data != "" || err != want {
		t.Fatalf("Read(%d) is %q, error %d; want error %d", place, data, err, want)
	}
}

// shownPage is a page as a short text: w or t, the place, the Seq, ' of a copy, the data.
func shownPage(t *testing.T, n *nand.Nand, block, page int) string {
	t.Helper()
	beside, data, err := n.Read(block, page)
	if err == api.ErrTorn {
		return "x"
	}
	is(t, "a page", err, api.OK)
	g, err := tag.Parse(beside)
	is(t, "a tag", err, api.OK)
	if g.Tenant != who || g.Epoch != epoch {
		return "another's"
	}
	b := []byte{"?wt"[g.Kind]}
	b = strconv.AppendInt(b, int64(g.Place), 10)
	b = strconv.AppendInt(append(b, ':'), int64(g.Seq), 10)
	if g.Copy {
		b = append(b, '\'')
	}
	if g.Kind == api.KindWrite {
		b = append(append(b, '='), data...)
	}
	return string(b) + strings.Repeat("?", min(1, len(data)*(g.Kind-1)))
}

// shown are the blocks of the entry, as texts: what is in their pages, and bad ahead of marked ones.
func (d *disk) shown(t *testing.T) []string {
	t.Helper()
	var l []string
	for _, block := range d.Blocks() {
		var words []string
		if d.array.Bad(block) {
			words = append(words, "bad")
		}
		for page := range d.array.Next(block) {
			words = append(words, shownPage(t, d.array, block, page))
		}
		l = append(l, strings.Join(words, " "))
	}
	return l
}

// shows asks what stands in the blocks.
func (d *disk) shows(t *testing.T, want ...string) {
	t.Helper()
	if got := d.shown(t); !slices.Equal(got, want) {
		t.Fatalf("the blocks are %q, want %q", got, want)
	}
}

// reopen is a new store of what stands in the blocks, or the error.
func (d *disk) reopen() api.Errno {
	s, err := New(d.array, who, d.entry)
	if err != api.OK {
		return err
	}
	l, err := scan.Pages(d.array, d.entry.Blocks)
	if err != api.OK {
		return err
	}
	d.Store = s
	return s.Restore(heal.Heal(l, len(d.entry.Blocks), who, d.entry.Epoch, d.entry.Size))
}

// do does what a text tells: "3=hi" a write, "3-" a trim, both flushed behind it; "3<hi" a write that waits; "!" a flush; "c3" Collect; "p3" Purge; "r3" Resize to that size; "open" opens it anew.
func (d *disk) do(t *testing.T, what string) api.Errno {
	t.Helper()
	number := func(s string) int {
		v, err := strconv.Atoi(s)
		if err != nil {
			t.Fatalf("no number in %q", what)
		}
		return v
	}
	at := strings.IndexAny(what, "=-<")
	switch {
	case what == "!":
		return d.Flush()
	case what == "open":
		return d.reopen()
	case what[0] == 'c':
		return d.Collect(number(what[1:]))
	case what[0] == 'p':
		return d.Purge(number(what[1:]))
	case what[0] == 'r':
		d.Resize(number(what[1:]), nil)
		d.entry.Size = number(what[1:])
		return api.OK
	case what[at] == '<':
		return d.Write(number(what[:at]), what[at+1:])
	case what[at] == '=':
		is(t, what, d.Write(number(what[:at]), what[at+1:]), api.OK)
	default:
		is(t, what, d.Trim(number(what[:at])), api.OK)
	}
	return d.Flush()
}

// does does one thing after another, all of them OK.
func (d *disk) does(t *testing.T, l ...string) {
	t.Helper()
	for _, what := range l {
		is(t, what, d.do(t, what), api.OK)
	}
}

// New

func TestNewRefuses(t *testing.T) {
	n := made(t, 4, 5, 1).array
	there := entryOf(5, 1, 4)
	away := there
	away.There = false
	for _, c := range []struct {
		n     *nand.Nand
		who   int
		entry api.Tenant
	}{
		{nil, 1, there},
		{n, -1, there},
		{n, api.Tenants, there},
		{n, math.MinInt, there},
		{n, math.MaxInt, there},
		{n, 1 << 32, there},
		{n, 1, away},
		{n, 1, api.Tenant{}},
		{nil, 4, away},
	} {
		if s, err := New(c.n, c.who, c.entry); s != nil || err != api.ErrArg {
			t.Errorf("New(%v, %d, %+v) is %v, error %d", c.n != nil, c.who, c.entry, s, err)
		}
	}
	for who := range api.Tenants {
		if s, err := New(n, who, there); s == nil || err != api.OK {
			t.Errorf("New of tenant %d is %v, error %d", who, s, err)
		}
	}
}

func TestNewHasNothing(t *testing.T) {
	d := made(t, 4, 5, 1)
	for place := range 5 {
		d.reads(t, place, "")
	}
	if !slices.Equal(d.Free(), []int{0, 1, 2, 3}) || d.Bad() != 0 || d.Waiting() != 0 || d.Size() != 5 || d.ReadOnly() {
		t.Errorf("Free %v, Bad %d, Waiting %d, Size %d, ReadOnly %t", d.Free(), d.Bad(), d.Waiting(), d.Size(), d.ReadOnly())
	}
	if !slices.Equal(d.Blocks(), []int{5, 4, 3, 2}) {
		t.Errorf("Blocks are %v", d.Blocks())
	}
	if d.power.Ops() != 0 {
		t.Errorf("%d operations", d.power.Ops())
	}
}

// TestNewIsTheTenants asks whose the operations and the tags are.
func TestNewIsTheTenants(t *testing.T) {
	for who := range api.Tenants {
		d, _ := draws.New([api.Tenants][]int{})
		n, err := nand.New(api.Geometry{Channels: 4, Dies: 1, Blocks: 1, Pages: 2}, power.New(-1), d, nil)
		is(t, "an array", err, api.OK)
		entry := api.Tenant{There: true, Epoch: 100 + who, Size: 1, Blocks: []int{2, 3}}
		s, err := New(n, who, entry)
		is(t, "New", err, api.OK)
		for range 3 { // the third one has a page copied, and a block erased
			is(t, "Write", s.Write(0, "a"), api.OK)
			is(t, "Flush", s.Flush(), api.OK)
		}
		for other := range api.Tenants {
			if got := d.Ops(other); got != 0 && other != who || got != 5 && other == who {
				t.Errorf("tenant %d's store: %d operations of tenant %d", who, got, other)
			}
		}
		l, err := scan.Pages(n, entry.Blocks)
		is(t, "Pages", err, api.OK)
		for _, f := range l {
			if !scan.Mine(f, who, 100+who) {
				t.Errorf("tenant %d's page is %+v", who, f)
			}
		}
		if len(l) != 2 {
			t.Errorf("%d pages", len(l))
		}
	}
}

// TestMemoryIsItsOwn changes what was handed in, and what was answered.
func TestMemoryIsItsOwn(t *testing.T) {
	entry := entryOf(5, 1, 4)
	entry.Blocks = append(make([]int, 0, 10), entry.Blocks...)
	d := diskOf(t, 4, entry)
	got := append(make([]int, 0, 9), 6, 7)
	d.Resize(9, got)
	d.Take(0, 5)
	clear(got)
	if rest := entry.Blocks[4:6]; !slices.Equal(rest, []int{0, 0}) || !slices.Equal(entry.Blocks, []int{5, 4, 3, 2}) {
		t.Errorf("what was handed in is %v, behind it %v", entry.Blocks, rest)
	}
	clear(entry.Blocks)
	want := []int{5, 4, 3, 2, 6, 7}
	clear(d.Blocks())
	_ = append(d.Blocks(), 9)
	if !slices.Equal(d.Blocks(), want) {
		t.Errorf("Blocks are %v, want %v", d.Blocks(), want)
	}
	clear(d.Free())
	if !slices.Equal(d.Free(), []int{0, 1, 2, 3, 4, 5}) {
		t.Errorf("Free is %v", d.Free())
	}
	d.does(t, "0=a")
	h := heal.Healed{Go: []int{3, 2, 1}, Spots: []heal.Spot{{Place: 0, Block: 0, Page: 0}}, Seq: 1}
	is(t, "Restore", d.Restore(h), api.OK)
	if !slices.Equal(h.Go, []int{3, 2, 1}) {
		t.Errorf("Go became %v", h.Go)
	}
	clear(h.Spots)
	d.reads(t, 0, "a")
}

// Read, Write, Trim, Flush

func TestWrongCalls(t *testing.T) {
	long := strings.Repeat("x", 17)
	for _, isRead := range []bool{false, true} {
		d := made(t, 4, 5, 0, 1)
		late := api.OK
		if isRead {
			is(t, "a failing", d.do(t, "0=a"), api.ErrRead)
			late = api.ErrRead
		}
		waits := d.Waiting()
		for _, place := range []int{-1, 5, 6, 63, 64, math.MinInt, math.MaxInt, 1 << 32} {
			is(t, "Write", d.Write(place, "a"), api.ErrRange)
			is(t, "Write", d.Write(place, long), api.ErrRange)
			is(t, "Trim", d.Trim(place), api.ErrRange)
			d.refuses(t, place, api.ErrRange)
		}
		is(t, "Write", d.Write(0, long), api.ErrLong)
		is(t, "Write", d.Write(4, strings.Repeat("x", 1000)), api.ErrLong)
		if d.Waiting() != waits {
			t.Fatalf("%d changes wait, want %d", d.Waiting(), waits)
		}
		is(t, "Write", d.Write(4, long[:16]), late)
		is(t, "Write", d.Write(0, ""), late)
		is(t, "Trim", d.Trim(0), late)
		if !isRead {
			d.reads(t, 4, long[:16])
		} else if d.Waiting() != waits {
			t.Fatalf("%d changes wait, want %d", d.Waiting(), waits)
		}
	}
}

// TestBufferOnly asks that four changes wait without any operation, and are read.
func TestBufferOnly(t *testing.T) {
	d := made(t, 2, 3, 0)
	d.does(t, "0<a", "1<b", "0<c")
	is(t, "Trim", d.Trim(1), api.OK)
	d.power.Cut() // nothing of it is a page's
	d.reads(t, 0, "c")
	d.reads(t, 1, "")
	d.reads(t, 2, "")
	if d.Waiting() != 4 || d.power.Ops() != 0 {
		t.Errorf("%d wait behind %d operations", d.Waiting(), d.power.Ops())
	}
	is(t, "one more", d.Write(2, "d"), api.ErrCut)
	is(t, "one more", d.Trim(2), api.ErrCut)
	is(t, "Flush", d.Flush(), api.ErrCut)
	if d.Waiting() != 4 {
		t.Errorf("%d wait", d.Waiting())
	}
	d.reads(t, 2, "")
}

// TestFullBuffer asks that one more change has the first one written, and no other.
func TestFullBuffer(t *testing.T) {
	d := made(t, 4, 5, 0)
	d.does(t, "0<a", "1<b", "2<c", "3<d")
	d.shows(t, "", "", "")
	d.does(t, "4<e")
	d.shows(t, "w0:0=a", "", "")
	is(t, "Trim", d.Trim(0), api.OK)
	d.shows(t, "w0:0=a w1:1=b", "", "")
	for place, want := range []string{"", "b", "c", "d", "e"} {
		d.reads(t, place, want)
	}
	if d.Waiting() != 4 {
		t.Errorf("%d wait", d.Waiting())
	}
	is(t, "Flush", d.Flush(), api.OK)
	d.shows(t, "w0:0=a w1:1=b w2:2=c w3:3=d", "w4:4=e t0:5", "")
	for place, want := range []string{"", "b", "c", "d", "e"} {
		d.reads(t, place, want)
	}
	if d.Waiting() != 0 {
		t.Errorf("%d wait", d.Waiting())
	}
	is(t, "Flush of nothing", d.Flush(), api.OK)
	if d.power.Ops() != 6 {
		t.Errorf("%d operations", d.power.Ops())
	}
}

// TestReadWithoutPower asks pages, and what is no page's.
func TestReadWithoutPower(t *testing.T) {
	d := made(t, 4, 5, 0)
	d.does(t, "0=a", "1-", "2=c", "2<d")
	d.power.Cut()
	d.refuses(t, 0, api.ErrCut)
	d.refuses(t, 1, api.ErrCut)
	d.reads(t, 2, "d")
	d.reads(t, 3, "")
	d.refuses(t, 5, api.ErrRange)
	d.power.Back(-1)
	d.reads(t, 0, "a")
}

// TestDataAreBytes writes data of all kinds.
func TestDataAreBytes(t *testing.T) {
	d := made(t, 4, 5, 0)
	for _, data := range []string{"", "\x00", "\xff\xfe", "0123456789abcdef", strings.Repeat("\x00", 16)} {
		is(t, "Write", d.Write(3, data), api.OK)
		d.reads(t, 3, data)
		is(t, "Flush", d.Flush(), api.OK)
		d.reads(t, 3, data)
	}
}

// Stories: what is done one behind the other, and what stands in the blocks then.

// story is told of a store.
type story struct {
	pages, size, spare int
	faults             []int
	does               []string
	last               string // what is done at last
	err                api.Errno
	blocks             []string
	ops                int // of the power
	isRead             bool
	waits              int
}

// holds tells the story.
func (y story) holds(t *testing.T) *disk {
	t.Helper()
	d := made(t, y.pages, y.size, y.spare, y.faults...)
	d.does(t, y.does...)
	is(t, y.last, d.do(t, y.last), y.err)
	d.shows(t, y.blocks...)
	bad := strings.Count(strings.Join(y.blocks, " "), "bad")
	if d.power.Ops() != y.ops || d.ReadOnly() != y.isRead || d.Waiting() != y.waits || d.Bad() != bad {
		t.Fatalf("%d operations, ReadOnly %t, %d wait, %d are bad; want %d, %t, %d, %d",
			d.power.Ops(), d.ReadOnly(), d.Waiting(), d.Bad(), y.ops, y.isRead, y.waits, bad)
	}
	return d
}

// two are pages of two places, of which each has one in each of the first two blocks, full both.
var two = []string{"0=a", "1=b", "0=c", "0=d"}

// behind is the row, and more.
func behind(row []string, more ...string) []string { return slices.Concat(row, more) }

func TestStoriesOfRoom(t *testing.T) {
	for _, y := range []story{
		// the front is the first free block, while more than 1 is free
		{2, 2, 0, nil, []string{"0=a", "1=b"}, "0=c", api.OK, []string{"w0:0=a w1:1=b", "w0:2=c", ""}, 3, false, 0},
		// then the first one of those that are worth least is collected
		{2, 2, 0, nil, two, "1=e", api.OK, []string{"", "w0:2=c w0:3=d", "w1:1'=b w1:4=e"}, 7, false, 0},
		{2, 2, 0, nil, behind(two, "1=e"), "0-", api.OK, []string{"w0:3'=d t0:5", "", "w1:1'=b w1:4=e"}, 10, false, 0},
		// a trim is needed, and copied, as a write is
		{2, 2, 0, nil, behind(two, "1=e", "0-"), "1=f", api.OK, []string{"", "t0:5' w1:6=f", "w1:1'=b w1:4=e"}, 13, false, 0},
		// of a block that is worth nothing, nothing is copied; one that is worth all is left
		{2, 2, 0, nil, behind(two, "1=e", "0-", "1=f"), "1=g", api.OK, []string{"w1:7=g", "t0:5' w1:6=f", ""}, 15, false, 0},
		{2, 2, 0, nil, []string{"0=a", "1=b", "0=c", "1=d"}, "1=e", api.OK, []string{"", "w0:2=c w1:3=d", "w1:4=e"}, 6, false, 0},
		{4, 5, 0, nil, []string{"0=a", "1=b", "2=c", "3=d", "0=e", "0=f", "0=g", "0=h"}, "4=i", api.OK, []string{"w0:0=a w1:1=b w2:2=c w3:3=d", "", "w0:7'=h w4:8=i"}, 11, false, 0},
		// the front may be collected
		{2, 1, 0, nil, []string{"0=a", "0=b"}, "0=c", api.OK, []string{"", "w0:1'=b w0:2=c"}, 5, false, 0},
		{2, 2, 0, nil, []string{"0=a", "1=b", "0-", "0-", "0<c", "!", "1=d"}, "1=e", api.OK, []string{"w1:5=d w1:6=e", "", "w1:1'=b w0:4=c"}, 10, false, 0},
		// spare blocks stay free
		{2, 2, 2, nil, two, "1=e", api.OK, []string{"", "w0:2=c w0:3=d", "w1:1'=b w1:4=e", "", ""}, 7, false, 0},
		{4, 5, 1, nil, []string{"0=a", "1=b", "2=c", "0=d", "1=e", "2=f", "0=g"}, "3=h", api.OK, []string{"w0:0=a w1:1=b w2:2=c w0:3=d", "w1:4=e w2:5=f w0:6=g w3:7=h", "", ""}, 8, false, 0},
		{4, 5, 1, nil, []string{"0=a", "1=b", "2=c", "0=d", "1=e", "2=f", "0=g", "3=h"}, "4=i", api.OK, []string{"", "w1:4=e w2:5=f w0:6=g w3:7=h", "w4:8=i", ""}, 10, false, 0},
		// what was copied is copied again, with its own Seq
		{2, 2, 0, nil, behind(two, "0=e", "0=f", "c2"), "0=g", api.OK, []string{"w0:5=f", "w1:1'=b w0:6=g", ""}, 12, false, 0},
	} {
		y.holds(t)
	}
}

func TestStoriesOfFronts(t *testing.T) {
	for _, y := range []story{
		// a page that fails: what is needed is copied, the block marked, and it is tried again
		{2, 2, 1, []int{2}, []string{"0=a"}, "1=b", api.OK, []string{"bad w0:0=a x", "w0:0'=a w1:1=b", "", ""}, 5, false, 0},
		// with nothing needed nothing is copied
		{2, 2, 1, []int{1}, nil, "1=b", api.OK, []string{"bad x", "w1:0=b", "", ""}, 3, false, 0},
		{4, 5, 1, []int{4}, []string{"0=a", "1-", "0=b"}, "2=c", api.OK, []string{"bad w0:0=a t1:1 w0:2=b x", "t1:1' w0:2'=b w2:3=c", "", ""}, 8, false, 0},
		// without a spare it is to be read only
		{2, 2, 0, []int{2}, []string{"0=a"}, "1=b", api.ErrRead, []string{"w0:0=a x", "", ""}, 2, true, 1},
		{2, 2, 1, []int{1, 2}, nil, "1=b", api.ErrRead, []string{"bad x", "x", "", ""}, 3, true, 1},
		{2, 2, 1, []int{2, 4}, []string{"0=a"}, "1=b", api.ErrRead, []string{"bad w0:0=a x", "w0:0'=a x", "", ""}, 5, true, 1},
		// one behind the other
		{2, 2, 2, []int{1, 2}, nil, "1=b", api.OK, []string{"bad x", "bad x", "w1:0=b", "", ""}, 5, false, 0},
		{2, 2, 2, []int{2, 4}, []string{"0=a"}, "1=b", api.OK, []string{"bad w0:0=a x", "bad w0:0'=a x", "w0:0'=a w1:1=b", "", ""}, 8, false, 0},
		// a copy of the front fails: one spare is the front's
		{2, 2, 2, []int{2, 3}, []string{"0=a"}, "1=b", api.OK, []string{"bad w0:0=a x", "bad x", "w0:0'=a w1:1=b", "", ""}, 7, false, 0},
		{2, 2, 1, []int{2, 3}, []string{"0=a"}, "1=b", api.ErrRead, []string{"w0:0=a x", "x", "", ""}, 3, true, 1},
		{2, 2, 2, []int{2, 3, 4}, []string{"0=a"}, "1=b", api.ErrRead, []string{"w0:0=a x", "bad x", "x", "", ""}, 5, true, 1},
		{2, 2, 3, []int{2, 3, 4}, []string{"0=a"}, "1=b", api.OK, []string{"bad w0:0=a x", "bad x", "bad x", "w0:0'=a w1:1=b", "", ""}, 9, false, 0},
		// from the beginning
		{4, 5, 2, []int{3, 5}, []string{"0=a", "1=b"}, "2=c", api.OK, []string{"bad w0:0=a w1:1=b x", "bad w0:0'=a x", "w0:0'=a w1:1'=b w2:2=c", "", ""}, 10, false, 0},
		// the changes behind the one that fails wait, too; those ahead of it don't
		{2, 2, 0, []int{2}, []string{"0<a", "1<b", "0<c"}, "!", api.ErrRead, []string{"w0:0=a x", "", ""}, 2, true, 2},
		{2, 2, 0, []int{1}, []string{"0<a", "1<b", "0<c", "1<d"}, "0<e", api.ErrRead, []string{"x", "", ""}, 1, true, 4},
		{2, 2, 1, []int{1}, []string{"0<a", "1<b", "0<c", "1<d"}, "0<e", api.OK, []string{"bad x", "w0:0=a", "", ""}, 3, false, 4},
	} {
		y.holds(t)
	}
}

func TestStoriesOfCollecting(t *testing.T) {
	for _, y := range []story{
		// a copy fails
		{2, 2, 1, []int{5}, two, "1=e", api.OK, []string{"", "w0:2=c w0:3=d", "bad x", "w1:1'=b w1:4=e"}, 9, false, 0},
		{2, 2, 0, []int{5}, two, "1=e", api.ErrRead, []string{"w0:0=a w1:1=b", "w0:2=c w0:3=d", "x"}, 5, true, 1},
		// with two spares
		{2, 2, 2, []int{5}, two, "1=e", api.OK, []string{"", "w0:2=c w0:3=d", "bad x", "w1:1'=b w1:4=e", ""}, 9, false, 0},
		{2, 2, 2, []int{5, 6}, two, "1=e", api.OK, []string{"", "w0:2=c w0:3=d", "bad x", "bad x", "w1:1'=b w1:4=e"}, 11, false, 0},
		{2, 2, 1, []int{5, 6}, two, "1=e", api.ErrRead, []string{"w0:0=a w1:1=b", "w0:2=c w0:3=d", "bad x", "x"}, 7, true, 1},
		// the erasing fails
		{2, 2, 1, []int{6}, two, "1=e", api.OK, []string{"bad x x", "w0:2=c w0:3=d", "w1:1'=b w1:4=e", ""}, 8, false, 0},
		{2, 2, 0, []int{6}, two, "1=e", api.ErrRead, []string{"x x", "w0:2=c w0:3=d", "w1:1'=b"}, 6, true, 1},
		// the block that was copied into fails, as the front
		{2, 2, 1, []int{7}, two, "1=e", api.OK, []string{"w1:1'=b w1:4=e", "w0:2=c w0:3=d", "bad w1:1'=b x", ""}, 10, false, 0},
		{2, 2, 0, []int{7}, two, "1=e", api.ErrRead, []string{"", "w0:2=c w0:3=d", "w1:1'=b x"}, 7, true, 1},
	} {
		d := y.holds(t)
		d.reads(t, 0, "d")
		d.reads(t, 1, "e")
	}
}

// TestReadOnly asks all calls of a store that is to be read only.
func TestReadOnly(t *testing.T) {
	d := made(t, 2, 3, 0, 4)
	d.does(t, "0=a", "1=b", "2-")
	is(t, "a failing", d.do(t, "0=c"), api.ErrRead)
	want, ops := d.shown(t), d.power.Ops()
	for range 3 {
		for _, what := range []string{"!", "c0", "c1", "c9", "c-1", "p0", "p1"} {
			is(t, what, d.do(t, what), api.ErrRead)
		}
		is(t, "Write", d.Write(1, "e"), api.ErrRead)
		is(t, "Trim", d.Trim(1), api.ErrRead)
		is(t, "Purge of nothing", d.Purge(3), api.OK)
		d.reads(t, 0, "c")
		d.reads(t, 1, "b")
		d.reads(t, 2, "")
		if !d.ReadOnly() || d.Waiting() != 1 || d.power.Ops() != ops {
			t.Fatalf("ReadOnly %t, %d wait, %d operations", d.ReadOnly(), d.Waiting(), d.power.Ops())
		}
	}
	d.shows(t, want...)
	d.power.Cut()
	is(t, "Flush", d.Flush(), api.ErrRead)
	d.refuses(t, 1, api.ErrCut)
	d.reads(t, 0, "c")
}

// Collect and Purge

func TestCollect(t *testing.T) {
	for _, y := range []story{
		{4, 5, 0, nil, []string{"0=a", "1=b", "0=c"}, "c0", api.OK, []string{"", "w1:1'=b w0:2'=c", ""}, 6, false, 0},
		{4, 5, 0, nil, []string{"0=a", "1=b", "0=c", "c0"}, "2=d", api.OK, []string{"", "w1:1'=b w0:2'=c w2:3=d", ""}, 7, false, 0},
		{4, 5, 1, nil, []string{"0=a", "1=b", "0=c", "2-", "1=d"}, "c0", api.OK, []string{"", "w1:4=d", "w0:2'=c t2:3'", ""}, 8, false, 0},
		{4, 5, 1, nil, []string{"0=a", "1=b", "0=c", "2-", "1=d", "c0"}, "c1", api.OK, []string{"w1:4'=d", "", "w0:2'=c t2:3'", ""}, 10, false, 0},
		{4, 5, 1, []int{6, 8}, []string{"0=a", "1=b", "0=c", "2-", "1=d"}, "c0", api.ErrRead, []string{"w0:0=a w1:1=b w0:2=c t2:3", "w1:4=d", "bad x", "w0:2'=c x"}, 9, true, 0},
		// what waits is left waiting
		{4, 5, 0, nil, []string{"0=a", "0=b", "0<c", "1<d"}, "c0", api.OK, []string{"", "w0:1'=b", ""}, 4, false, 2},
		// others that may not be
		{4, 5, 0, nil, []string{"0=a", "1=b", "2=c", "3=d"}, "c0", api.ErrArg, []string{"w0:0=a w1:1=b w2:2=c w3:3=d", "", ""}, 4, false, 0},
		{4, 5, 0, nil, []string{"0=a"}, "c1", api.ErrArg, []string{"w0:0=a", "", ""}, 1, false, 0},
		{4, 5, 1, []int{2}, []string{"0=a", "1=b"}, "c0", api.ErrArg, []string{"bad w0:0=a x", "w0:0'=a w1:1=b", "", ""}, 5, false, 0},
		{4, 5, 0, nil, []string{"0=a"}, "c3", api.ErrRange, []string{"w0:0=a", "", ""}, 1, false, 0},
		{4, 5, 0, nil, []string{"0=a"}, "c-1", api.ErrRange, []string{"w0:0=a", "", ""}, 1, false, 0},
	} {
		y.holds(t)
	}
	d := made(t, 4, 5, 0)
	d.does(t, "0=a")
	for _, block := range []int{3, 64, 1 << 32, math.MinInt, math.MaxInt} {
		is(t, "Collect", d.Collect(block), api.ErrRange)
	}
}

func TestCollectCut(t *testing.T) {
	for budget, want := range [][]string{
		{"w0:0=a w1:1=b w0:2=c", "x", ""},
		{"w0:0=a w1:1=b w0:2=c", "w1:1'=b x", ""},
		{"x x x x", "w1:1'=b w0:2'=c", ""},
	} {
		d := made(t, 4, 5, 0)
		d.does(t, "0=a", "1=b", "0=c")
		d.power.Back(budget)
		is(t, "Collect", d.Collect(0), api.ErrCut)
		is(t, "once more", d.Collect(0), api.ErrCut)
		d.power.Back(-1)
		d.shows(t, want...)
		d.reads(t, 0, "c")
		d.reads(t, 1, "b")
		if d.ReadOnly() || d.Bad() != 0 {
			t.Errorf("ReadOnly %t, %d are bad", d.ReadOnly(), d.Bad())
		}
	}
}

func TestPurge(t *testing.T) {
	for _, y := range []story{
		// pages of places from the size on: nothing of them stays
		{2, 5, 0, nil, []string{"0=a", "4=b", "1=c", "2=d", "4=e", "r3"}, "p3", api.OK, []string{"", "w1:2=c w2:3=d", "", "w0:0'=a"}, 8, false, 0},
		{2, 5, 0, nil, []string{"0=a", "4=b", "1=c", "4-", "r4"}, "p4", api.OK, []string{"w1:2'=c", "", "w0:0'=a", ""}, 8, false, 0},
		{2, 5, 0, nil, []string{"0=a", "4=b", "1=c", "4-", "r4"}, "p5", api.OK, []string{"w0:0=a w4:1=b", "w1:2=c t4:3", "", ""}, 4, false, 0},
		{2, 5, 0, nil, nil, "p0", api.OK, []string{"", "", "", ""}, 0, false, 0},
		// those that are needed, too
		{2, 5, 0, nil, []string{"0=a", "4=b", "1=c"}, "p4", api.OK, []string{"", "w1:2=c", "w0:0'=a w4:1'=b", ""}, 6, false, 0},
		{2, 5, 0, nil, []string{"0=a", "4=b", "1=c"}, "p-1", api.OK, []string{"w1:2'=c", "", "w0:0'=a w4:1'=b", ""}, 8, false, 0},
		// failings end it, or don't
		{2, 5, 1, []int{5, 8}, []string{"0=a", "4=b", "1=c", "4-", "r4"}, "p4", api.ErrRead, []string{"x", "w1:2=c t4:3", "bad x", "w0:0'=a", ""}, 9, true, 0},
		{2, 5, 2, []int{5, 8}, []string{"0=a", "4=b", "1=c", "4-", "r4"}, "p4", api.OK, []string{"bad x", "", "bad x", "w0:0'=a", "w1:2'=c", ""}, 12, false, 0},
		{2, 5, 0, []int{6}, []string{"0=a", "4=b", "1=c", "4-", "r4"}, "p4", api.ErrRead, []string{"x x", "w1:2=c t4:3", "w0:0'=a", ""}, 6, true, 0},
	} {
		y.holds(t)
	}
}

// TestPurgeOfOthers asks that pages of others, and of another epoch, are left, and that the last block is asked, too.
func TestPurgeOfOthers(t *testing.T) {
	d := made(t, 2, 5, 1)
	for block, x := range map[int]api.Tag{
		0: {Tenant: 2, Epoch: epoch, Place: 60, Kind: api.KindWrite},
		1: {Tenant: who, Epoch: epoch - 1, Place: 60, Kind: api.KindWrite},
		4: {Tenant: who, Epoch: epoch, Place: 4, Kind: api.KindWrite},
	} {
		b, err := tag.Bytes(x)
		is(t, "a tag", err, api.OK)
		is(t, "a page", d.array.Program(api.Admin, d.entry.Blocks[block], 0, b, "x"), api.OK)
	}
	is(t, "Purge", d.Purge(5), api.OK)
	d.shows(t, "another's", "another's", "", "", "w4:0=x")
	is(t, "Purge", d.Purge(4), api.OK)
	d.shows(t, "another's", "another's", "", "", "")
	if d.power.Ops() != 4 {
		t.Errorf("%d operations", d.power.Ops())
	}
}

func TestPurgeCut(t *testing.T) {
	for budget, want := range [][]string{
		{"w0:0=a w4:1=b", "w1:2=c t4:3", "x", ""},
		{"x x", "w1:2=c t4:3", "w0:0'=a", ""},
		{"x", "w1:2=c t4:3", "w0:0'=a", ""},
		{"w1:2'=c", "x x", "w0:0'=a", ""},
	} {
		d := made(t, 2, 5, 0)
		d.does(t, "0=a", "4=b", "1=c", "4-", "r4")
		d.power.Back(budget)
		is(t, "Purge", d.Purge(4), api.ErrCut)
		is(t, "once more", d.Purge(4), api.ErrCut)
		is(t, "of nothing", d.Purge(64), api.ErrCut)
		d.power.Back(-1)
		d.shows(t, want...)
		d.reads(t, 0, "a")
		d.reads(t, 1, "c")
	}
	d := made(t, 2, 5, 0)
	d.power.Cut()
	is(t, "Purge of blank blocks", d.Purge(0), api.OK)
}

// Resize, Give, Take, Free

func TestResize(t *testing.T) {
	d := made(t, 2, 5, 0)
	d.does(t, "0=a", "4=b", "3-", "2=c")
	ops := d.power.Ops()
	d.Resize(3, nil)
	if d.Size() != 3 || len(d.Blocks()) != 4 || d.power.Ops() != ops {
		t.Errorf("Size %d, Blocks %v, %d operations", d.Size(), d.Blocks(), d.power.Ops())
	}
	d.refuses(t, 3, api.ErrRange)
	d.refuses(t, 4, api.ErrRange)
	is(t, "Write", d.Write(3, "x"), api.ErrRange)
	d.reads(t, 0, "a")
	d.reads(t, 2, "c")
	d.Resize(9, []int{6, 7})
	if d.Size() != 9 || !slices.Equal(d.Blocks(), []int{5, 4, 3, 2, 6, 7}) || !slices.Equal(d.Free(), []int{2, 3, 4, 5}) {
		t.Errorf("Size %d, Blocks %v, Free %v", d.Size(), d.Blocks(), d.Free())
	}
	for place, want := range []string{"a", "", "c", "", "", "", "", "", ""} {
		d.reads(t, place, want)
	}
	// the blocks that were got are written
	d.does(t, "8=h", "7=g", "6=f", "5=e", "4=d", "3=x", "1=y", "8=i", "7=j", "6=k")
	for place, want := range []string{"a", "y", "c", "x", "d", "e", "f", "j", "i"} {
		if place == 6 {
			want = "k"
		}
		d.reads(t, place, want)
	}
	if len(d.Free()) != 1 {
		t.Errorf("Free %v", d.Free())
	}
}

// TestResizeLeavesPages asks that pages of places that are gone aren't needed any more.
func TestResizeLeavesPages(t *testing.T) {
	d := made(t, 2, 4, 0)
	d.does(t, "0=a", "1=b", "2=c", "3=d")
	is(t, "worth all", d.Collect(0), api.ErrArg)
	d.Resize(1, nil)
	is(t, "Collect", d.Collect(1), api.OK)
	is(t, "Collect", d.Collect(0), api.OK)
	d.shows(t, "", "w0:0'=a", "", "")
	d.Resize(0, nil)
	is(t, "Collect", d.Collect(1), api.OK)
	d.shows(t, "", "", "", "")
	d.refuses(t, 0, api.ErrRange)
	d.Resize(-1, nil)
	d.refuses(t, 0, api.ErrRange)
	d.Resize(4, nil)
	for place := range 4 {
		d.reads(t, place, "")
	}
}

func TestGiveAndTake(t *testing.T) {
	d := made(t, 2, 5, 1)
	gives := func(want int, wantOK bool) {
		t.Helper()
		if block, ok := d.Give(); block != want || ok != wantOK {
			t.Fatalf("Give is %d, %t; want %d, %t", block, ok, want, wantOK)
		}
	}
	gives(0, true)
	d.does(t, "0=a")
	gives(1, true)
	ops := d.power.Ops()
	d.Take(1, 8)
	if want := []int{6, 8, 4, 3, 2}; !slices.Equal(d.Blocks(), want) || d.power.Ops() != ops {
		t.Fatalf("Blocks are %v, want %v", d.Blocks(), want)
	}
	gives(1, true)
	d.does(t, "1=b", "2=c")
	if d.array.Next(8) != 1 || d.array.Next(5) != 0 {
		t.Errorf("what was taken isn't written")
	}
	d.reads(t, 2, "c")
	for _, i := range []int{-1, 5, 64, math.MinInt, math.MaxInt} {
		d.Take(i, 7)
	}
	if want := []int{6, 8, 4, 3, 2}; !slices.Equal(d.Blocks(), want) {
		t.Fatalf("Blocks are %v, want %v", d.Blocks(), want)
	}
	gives(2, true)
	is(t, "Mark", d.array.Mark(4), api.OK)
	gives(3, true)
	if d.Bad() != 1 || !slices.Equal(d.Free(), []int{3, 4}) {
		t.Errorf("Bad %d, Free %v", d.Bad(), d.Free())
	}
	is(t, "Program", d.array.Program(api.Admin, 3, 0, nil, ""), api.OK)
	gives(4, true)
	is(t, "Mark", d.array.Mark(2), api.OK)
	gives(0, false)
	if len(d.Free()) != 0 {
		t.Errorf("Free %v", d.Free())
	}
}

// TestFreeIsNotTheFront cuts the power just when a blank block is the front.
func TestFreeIsNotTheFront(t *testing.T) {
	d := made(t, 2, 5, 0)
	d.does(t, "0<a")
	d.power.Cut()
	is(t, "Flush", d.Flush(), api.ErrCut)
	if !slices.Equal(d.Free(), []int{1, 2, 3}) {
		t.Errorf("Free %v", d.Free())
	}
}

// Restore

// restored is a store on blocks with these rows of pages: "w0:3'=a" as they are shown, "x" torn ones.
func restored(t *testing.T, spare int, faults []int, rows ...string) *disk {
	t.Helper()
	d := diskOf(t, 4, entryOf(5, spare, len(rows)), faults...)
	for i, row := range rows {
		for page, text := range strings.Fields(row) {
			if text == "x" {
				d.power.Back(0)
				is(t, "a torn page", d.array.Program(api.Admin, d.entry.Blocks[i], page, nil, ""), api.ErrCut)
				d.power.Back(-1)
				continue
			}
			head, data, _ := strings.Cut(text, "=")
			place, seq, _ := strings.Cut(head[1:], ":")
			x := api.Tag{Tenant: who, Epoch: epoch, Kind: api.KindWrite, Copy: strings.HasSuffix(seq, "'")}
			x.Place, _ = strconv.Atoi(place)
			x.Seq, _ = strconv.Atoi(strings.TrimSuffix(seq, "'"))
			if head[0] == 't' {
				x.Kind = api.KindTrim
			}
			b, err := tag.Bytes(x)
			is(t, "a tag", err, api.OK)
			is(t, "a page", d.array.Program(api.Admin, d.entry.Blocks[i], page, b, data), api.OK)
		}
	}
	d.shows(t, rows...)
	return d
}

func TestRestore(t *testing.T) {
	d := restored(t, 0, nil, "w0:0=a w1:1=b x w2:3=c", "w1:4=d t3:5", "w2:3'=c w0:0'=a", "x", "")
	ops := d.power.Ops()
	h := heal.Healed{
		Spots: []heal.Spot{{Place: 0, Block: 0, Page: 0}, {Place: 1, Block: 1, Page: 0}, {Place: 2, Block: 0, Page: 3}, {Place: 3, Block: 1, Page: 1}},
		Go:    []int{2, 3},
		Seq:   6,
	}
	is(t, "Restore", d.Restore(h), api.OK)
	d.shows(t, "w0:0=a w1:1=b x w2:3=c", "w1:4=d t3:5", "", "", "")
	for place, want := range []string{"a", "d", "c", "", ""} {
		d.reads(t, place, want)
	}
	if d.power.Ops() != ops+2 || d.ReadOnly() || d.Waiting() != 0 || !slices.Equal(d.Free(), []int{2, 3, 4}) {
		t.Errorf("%d operations, ReadOnly %t, %d wait, Free %v", d.power.Ops()-ops, d.ReadOnly(), d.Waiting(), d.Free())
	}
	// the front is block 1, the lowest one with pages left; the next Seq is 6
	d.does(t, "4=e")
	d.shows(t, "w0:0=a w1:1=b x w2:3=c", "w1:4=d t3:5 w4:6=e", "", "", "")
	// of block 0 two pages are needed
	is(t, "Collect", d.Collect(0), api.OK)
	d.shows(t, "", "w1:4=d t3:5 w4:6=e", "w0:0'=a w2:3'=c", "", "")
}

// TestRestoreFronts asks which block is the front.
func TestRestoreFronts(t *testing.T) {
	for _, c := range []struct {
		rows []string
		gone []int
		want int // where the next page is written
	}{
		{[]string{"", "", ""}, nil, 0},
		{[]string{"", "x", ""}, nil, 1},
		{[]string{"", "x", "x"}, nil, 1},
		{[]string{"", "x", "x"}, []int{1}, 2},
		{[]string{"", "x", "x"}, []int{1, 2}, 0},
		{[]string{"x x x x", "", "x x x", ""}, nil, 2},
		{[]string{"x x x x", "", "x x x x", "", ""}, nil, 1},
		{[]string{"x x x x", "w0:0=a", "x x x", ""}, []int{0}, 1},
	} {
		d := restored(t, 0, nil, c.rows...)
		is(t, "Restore", d.Restore(heal.Healed{Go: c.gone}), api.OK)
		before := d.array.Next(d.entry.Blocks[c.want])
		d.does(t, "0=b")
		if got := d.array.Next(d.entry.Blocks[c.want]); got != before+1 {
			t.Errorf("%q, without %v: the blocks are %q", c.rows, c.gone, d.shown(t))
		}
	}
	// a marked block is no front
	d := restored(t, 1, nil, "w0:0=a", "x", "", "", "")
	is(t, "Mark", d.array.Mark(d.entry.Blocks[0]), api.OK)
	is(t, "Restore", d.Restore(heal.Healed{Seq: 3}), api.OK)
	d.does(t, "0=b")
	d.shows(t, "bad w0:0=a", "x w0:3=b", "", "", "")
}

// TestRestoreFails has erasings fail.
func TestRestoreFails(t *testing.T) {
	rows := []string{"w0:0=a", "x", "x x", "x x x", ""}
	h := heal.Healed{Spots: []heal.Spot{{Place: 0, Block: 0, Page: 0}}, Go: []int{1, 2, 3}, Seq: 9}
	for _, c := range []struct {
		spare  int
		faults []int
		isRead bool
		ops    int
		want   []string
	}{
		{0, nil, false, 3, []string{"w0:0=a", "", "", "", ""}},
		{1, []int{2}, false, 4, []string{"w0:0=a", "", "bad x x x x", "", ""}},
		{2, []int{1, 3}, false, 5, []string{"w0:0=a", "bad x x x x", "", "bad x x x x", ""}},
		{0, []int{1}, true, 1, []string{"w0:0=a", "x x x x", "x x", "x x x", ""}},
		{0, []int{2}, true, 2, []string{"w0:0=a", "", "x x x x", "x x x", ""}},
		{0, []int{3}, true, 3, []string{"w0:0=a", "", "", "x x x x", ""}},
		{1, []int{1, 2}, true, 3, []string{"w0:0=a", "bad x x x x", "x x x x", "x x x", ""}},
	} {
		d := restored(t, c.spare, c.faults, rows...)
		ops := d.power.Ops()
		is(t, "Restore", d.Restore(h), api.OK)
		d.shows(t, c.want...)
		d.reads(t, 0, "a")
		d.reads(t, 1, "")
		if d.ReadOnly() != c.isRead || d.power.Ops() != ops+c.ops {
			t.Errorf("spare %d, faults %v: ReadOnly %t, %d operations", c.spare, c.faults, d.ReadOnly(), d.power.Ops()-ops)
		}
		if !c.isRead {
			d.does(t, "1=b")
			d.shows(t, append([]string{"w0:0=a w1:9=b"}, c.want[1:]...)...)
		}
	}
}

func TestRestoreCut(t *testing.T) {
	h := heal.Healed{Spots: []heal.Spot{{Place: 0, Block: 0, Page: 0}}, Go: []int{1, 2}, Seq: 9}
	for budget, want := range [][]string{
		{"w0:0=a", "x x x x", "x x", ""},
		{"w0:0=a", "", "x x x x", ""},
	} {
		d := restored(t, 0, nil, "w0:0=a", "x", "x x", "")
		d.power.Back(budget)
		is(t, "Restore", d.Restore(h), api.ErrCut)
		is(t, "once more", d.Restore(h), api.ErrCut)
		d.reads(t, 0, "") // it is as it was
		d.power.Back(-1)
		d.shows(t, want...)
		is(t, "at last", d.Restore(h), api.OK)
		d.shows(t, "w0:0=a", "", "", "")
		d.reads(t, 0, "a")
	}
	d := restored(t, 0, nil, "w0:0=a", "x", "x x", "")
	h.Go = nil
	d.power.Cut()
	is(t, "without any operation", d.Restore(h), api.OK)
	d.refuses(t, 0, api.ErrCut)
}

// TestRestoreAnew restores a store that has something: it has what it was told, and what waits.
func TestRestoreAnew(t *testing.T) {
	d := restored(t, 0, nil, "w0:0=a w1:1=b", "", "")
	is(t, "Restore", d.Restore(heal.Healed{Spots: []heal.Spot{{Place: 0, Block: 0, Page: 0}, {Place: 1, Block: 0, Page: 1}}, Seq: 2}), api.OK)
	d.does(t, "2<c")
	is(t, "Restore", d.Restore(heal.Healed{Spots: []heal.Spot{{Place: 3, Block: 0, Page: 1}}, Seq: 5}), api.OK)
	for place, want := range []string{"", "", "c", "b", ""} {
		d.reads(t, place, want)
	}
	d.does(t, "!")
	d.shows(t, "w0:0=a w1:1=b w2:5=c", "", "")
}

// TestRestoreOfTrims has a trim with data, which no store writes: nothing is read.
func TestRestoreOfTrims(t *testing.T) {
	d := made(t, 2, 5, 0)
	b, err := tag.Bytes(api.Tag{Tenant: who, Epoch: epoch, Place: 2, Seq: 3, Kind: api.KindTrim})
	is(t, "a tag", err, api.OK)
	is(t, "a page", d.array.Program(who, d.entry.Blocks[1], 0, b, "data"), api.OK)
	is(t, "reopen", d.reopen(), api.OK)
	d.reads(t, 2, "")
	d.power.Cut()
	d.refuses(t, 2, api.ErrCut)
}

// TestRestoreOfNone tells blocks, pages and places that are none.
func TestRestoreOfNone(t *testing.T) {
	d := restored(t, 1, nil, "w0:0=a", "x", "x", "", "")
	is(t, "Mark", d.array.Mark(d.entry.Blocks[2]), api.OK)
	ops := d.power.Ops()
	h := heal.Healed{
		Spots: []heal.Spot{
			{Place: -1}, {Place: 64}, {Place: math.MaxInt}, {Place: 1, Block: -1}, {Place: 1, Block: 5}, {Place: 1, Page: -1}, {Place: 1, Page: 4},
			{Place: 0, Block: 0, Page: 0}, {Place: 2, Block: math.MinInt, Page: math.MaxInt},
		},
		Go:  []int{math.MaxInt, 5, 2, 1, 1, -1, math.MinInt, 1},
		Seq: 1,
	}
	is(t, "Restore", d.Restore(h), api.OK)
	d.shows(t, "w0:0=a", "", "bad x", "", "")
	for place, want := range []string{"a", "", "", "", ""} {
		d.reads(t, place, want)
	}
	if d.power.Ops() != ops+1 || d.ReadOnly() || d.Bad() != 1 {
		t.Errorf("%d operations, ReadOnly %t, %d are bad", d.power.Ops()-ops, d.ReadOnly(), d.Bad())
	}
}

// Stores that are none, and entries that may not be

func TestNilStore(t *testing.T) {
	d := &disk{}
	for _, place := range []int{-1, 0, 64} {
		d.refuses(t, place, api.ErrArg)
		is(t, "Write", d.Write(place, strings.Repeat("x", 17)), api.ErrArg)
		is(t, "Trim", d.Trim(place), api.ErrArg)
		is(t, "Collect", d.Collect(place), api.ErrArg)
		is(t, "Purge", d.Purge(place), api.ErrArg)
		d.Resize(place, []int{place})
		d.Take(place, place)
	}
	is(t, "Flush", d.Flush(), api.ErrArg)
	is(t, "Restore", d.Restore(heal.Healed{Go: []int{0}}), api.ErrArg)
	if block, ok := d.Give(); block != 0 || ok {
		t.Errorf("Give is %d, %t", block, ok)
	}
	if !d.ReadOnly() || d.Free() != nil || d.Bad() != 0 || d.Waiting() != 0 || d.Size() != 0 || d.Blocks() != nil {
		t.Errorf("ReadOnly %t, Free %v, Bad %d, Waiting %d, Size %d, Blocks %v", d.ReadOnly(), d.Free(), d.Bad(), d.Waiting(), d.Size(), d.Blocks())
	}
}

// calls asks a store for all that it has, with a number; it is enough that they end.
func calls(s *Store, v int) {
	for range 2 {
		for place := range 6 {
			s.Write(place, "a")
			s.Trim(v)
			s.Write(v, "b")
			s.Read(place)
			s.Read(v)
		}
		s.Flush()
		s.Collect(v)
		s.Collect(0)
		s.Purge(v)
		s.Purge(2)
		s.Give()
		s.Take(v, v)
		s.Free()
		s.Bad()
		s.Blocks()
		s.Restore(heal.Healed{Go: []int{v, 0}, Spots: []heal.Spot{{Place: v, Block: v, Page: v}, {Place: 1}}, Seq: v})
		s.Resize(v, []int{v, 2})
		s.Resize(4, nil)
	}
}

// TestOddEntries has entries that no ledger has: nothing panics, and all calls end.
func TestOddEntries(t *testing.T) {
	numbers := []int{math.MinInt, math.MinInt32, -1, 0, 1, 2, 3, 5, 8, 9, 63, 64, 1 << 31, 1 << 32, math.MaxInt}
	rows := [][]int{nil, {}, {2}, {2, 3}, {2, 2, 2, 2}, {2, 3, 2, 3, 2}, {0, 1}, {0, 1, 2, 3}, {-1, 2, 3, 4}, {8, 9, 2, 3}, {math.MaxInt, 2, 3}, make([]int, 100), slices.Repeat([]int{5, 4, 3}, 30)}
	for _, row := range rows {
		for _, v := range numbers {
			for _, faults := range [][]int{nil, {1, 2, 3, 4, 5, 6, 7, 8}, {3, 5, 7, 9, 12}} {
				d := diskOf(t, 2, entryOf(5, 1, 5), faults...)
				for _, entry := range []api.Tenant{
					{There: true, Epoch: 1, Size: 5, Spare: 1, Blocks: row},
					{There: true, Epoch: 1, Size: v, Spare: 0, Blocks: row},
					{There: true, Epoch: 1, Size: 5, Spare: v, Blocks: row},
					{There: true, Epoch: v, Size: 4, Spare: 0, Blocks: row},
				} {
					s, err := New(d.array, who, entry)
					is(t, "New", err, api.OK)
					calls(s, v)
				}
			}
		}
	}
}

// TestNotMade asks a store that New didn't make, on no array.
func TestNotMade(t *testing.T) {
	for _, v := range []int{math.MinInt, -1, 0, 1, 2, 64, math.MaxInt} {
		calls(new(Store), v)
		d := made(t, 2, 2, 0)
		s, err := New(new(nand.Nand), who, d.entry)
		is(t, "New", err, api.OK)
		calls(s, v)
	}
}

// TestSpoiltArray spoils blocks beneath a store: nothing panics, and all calls end.
func TestSpoiltArray(t *testing.T) {
	for _, block := range []int{0, 1, 2} {
		for way := range 4 {
			d := made(t, 2, 3, 1)
			d.does(t, "0=a", "1=b", "2=c")
			b := d.entry.Blocks[block]
			switch way {
			case 0:
				d.array.Erase(api.Admin, b)
			case 1:
				d.array.Mark(b)
			case 2:
				d.power.Back(0)
				d.array.Erase(api.Admin, b)
				d.power.Back(-1)
			case 3:
				d.array.Program(api.Admin, b, d.array.Next(b), nil, "no tag")
			}
			if data, err := d.Read(0); way == 0 && block == 0 && (data != "" || err != api.ErrNone) || way == 2 && block == 0 && (data != "" || err != api.ErrTorn) {
				t.Errorf("block %d, way %d: Read is %q, error %d", block, way, data, err)
			}
			for range 3 {
				calls(d.Store, 1)
			}
		}
	}
}

// Walks: drawn calls, held against plain rows of places

// drawer draws numbers below n.
func drawer(x uint32) func(n int) int {
	return func(n int) int {
		x = x*1664525 + 1013904223
		return int(x>>8) % n
	}
}

// plain are the places by their plain words: what they are, and what they were when they were flushed last, with the changes behind that.
type plain struct {
	now, durable []string
	behind       []plainChange
}

type plainChange struct {
	place int
	data  string
}

func (p *plain) change(place int, data string) {
	p.now[place] = data
	p.behind = append(p.behind, plainChange{place, data})
}

func (p *plain) flushed() {
	p.durable = slices.Clone(p.now)
	p.behind = nil
}

// mayBe asks whether places are what was flushed last, and some of the first changes behind that.
func (p *plain) mayBe(places []string) bool {
	row := slices.Clone(p.durable)
	for _, c := range p.behind {
		if slices.Equal(row, places) {
			return true
		}
		row[c.place] = c.data
	}
	return slices.Equal(row, places)
}

// places are all that are read.
func (d *disk) places(t *testing.T) []string {
	t.Helper()
	var l []string
	for place := range d.Size() {
		data, err := d.Read(place)
		is(t, "Read", err, api.OK)
		l = append(l, data)
	}
	return l
}

// sound asks what holds of a store at all times, while the power lasts.
func (d *disk) sound(t *testing.T) {
	t.Helper()
	bad, blank := 0, 0
	for _, block := range d.Blocks() {
		if d.array.Bad(block) {
			bad++
		} else if d.array.Blank(block) {
			blank++
		}
	}
	if d.Bad() != bad || bad > d.entry.Spare {
		t.Fatalf("Bad is %d, %d are marked, of %d spare ones", d.Bad(), bad, d.entry.Spare)
	}
	if !d.ReadOnly() && blank < 1+d.entry.Spare-bad {
		t.Fatalf("%d blocks are blank, of %d spare ones %d are left", blank, d.entry.Spare, d.entry.Spare-bad)
	}
	free := d.Free()
	for i, block := range free {
		b := d.Blocks()[block]
		if i > 0 && free[i-1] >= block || !d.array.Blank(b) || d.array.Bad(b) {
			t.Fatalf("Free is %v", free)
		}
	}
	if len(free) > blank || len(free) < blank-1 {
		t.Fatalf("Free is %v, %d are blank", free, blank)
	}
	if block, ok := d.Give(); ok != (len(free) > 0) || ok && block != free[0] {
		t.Fatalf("Give is %d, %t of %v", block, ok, free)
	}
}

// faultsDrawn are some, drawn.
func faultsDrawn(draw func(int) int) []int {
	var faults []int
	for range draw(api.MaxSpare + 2) {
		faults = append(faults, 1+draw(150))
	}
	return faults
}

// step does something drawn, and answers how many changes it may have written, and what came of it.
func (d *disk) step(t *testing.T, p *plain, draw func(int) int) (int, api.Errno) {
	t.Helper()
	place, data := draw(len(p.now)), strings.Repeat("ab"[draw(2):][:1], draw(17))
	wrote := d.Waiting() / api.Buffer
	switch draw(12) {
	case 0:
		wrote = d.Waiting()
		err := d.Flush()
		if err == api.OK {
			p.flushed()
		}
		return wrote, err
	case 1:
		err := d.Collect(draw(len(d.Blocks())))
		if err == api.ErrArg {
			err = api.OK
		}
		return 1, err
	case 2, 3:
		err := d.Trim(place)
		if err == api.OK {
			p.change(place, "")
		}
		return wrote, err
	default:
		err := d.Write(place, data)
		if err == api.OK {
			p.change(place, data)
		}
		return wrote, err
	}
}

// TestWalks asks P18.1, P18.2 and P18.3.
func TestWalks(t *testing.T) {
	reads := 0
	for round := range 600 {
		draw := drawer(uint32(round))
		size, spare, pages := 1+draw(12), draw(4), 2+draw(4)
		if round%20 == 0 {
			size, spare, pages = 1+draw(64), draw(9), 2+draw(15)
			size = min(size, rule.Most(50, spare, pages))
		}
		d := made(t, pages, size, spare, faultsDrawn(draw)...)
		p := &plain{now: make([]string, size)}
		p.flushed()
		for range 200 {
			ops, failed := d.power.Ops(), d.draws.Faults(who)
			wasRead := d.ReadOnly()
			wrote, err := d.step(t, p, draw)
			ops, failed = d.power.Ops()-ops, d.draws.Faults(who)-failed
			if most := max(wrote, 1) * rule.Bound(pages, failed); wrote <= 1 && ops > most || wrote == 0 && ops > 0 || wasRead && ops > 0 {
				t.Fatalf("%d operations, %d of them failed, for %d changes", ops, failed, wrote)
			}
			isRead := d.draws.Faults(who) > spare
			if d.ReadOnly() != isRead || isRead && err != api.ErrRead || !isRead && err != api.OK {
				t.Fatalf("ReadOnly is %t, behind %d failed operations, with %d spare blocks: error %d", d.ReadOnly(), d.draws.Faults(who), spare, err)
			}
			if got := d.places(t); !slices.Equal(got, p.now) {
				t.Fatalf("the places are %q, want %q", got, p.now)
			}
			d.sound(t)
			if isRead {
				reads++
			}
		}
	}
	if reads < 1000 {
		t.Errorf("only %d steps of stores that are to be read only", reads)
	}
}

// resize gives another size as layer 21 does: flushed, purged of what was beyond the old size, with as many blocks as the new one needs.
func (d *disk) resize(t *testing.T, p *plain, size int) api.Errno {
	t.Helper()
	if err := d.Flush(); err != api.OK {
		return err
	}
	p.flushed()
	old := d.Size()
	if size > old {
		if err := d.Purge(old); err != api.OK {
			return err
		}
		l, err := scan.Pages(d.array, d.Blocks())
		is(t, "Pages", err, api.OK)
		for _, f := range l {
			if !f.Torn && f.Tag.Place >= old {
				t.Fatalf("a page of place %d is left", f.Tag.Place)
			}
		}
	}
	have := len(d.entry.Blocks)
	var got []int
	for i := range max(0, rule.Total(size, d.entry.Spare, d.array.Geometry().Pages)-have) {
		got = append(got, api.AdminAt+have+i)
	}
	d.Resize(size, got)
	d.entry.Size, d.entry.Blocks = size, append(d.entry.Blocks, got...)
	if !slices.Equal(d.Blocks(), d.entry.Blocks) || d.Size() != size {
		t.Fatalf("Size %d, Blocks %v; want %d, %v", d.Size(), d.Blocks(), size, d.entry.Blocks)
	}
	row := make([]string, size)
	copy(row, p.now)
	p.now = row
	p.flushed()
	return api.OK
}

// TestWalksOfSizes has sizes change, and stores opened anew: places that were gone are empty when they are there again.
func TestWalksOfSizes(t *testing.T) {
	for round := range 200 {
		draw := drawer(uint32(round))
		spare, pages := draw(4), 2+draw(4)
		most := 1 + draw(16)
		big := diskOf(t, pages, entryOf(most, spare, rule.Total(most, spare, pages)), faultsDrawn(draw)...)
		first := 1 + draw(most)
		d := &disk{array: big.array, power: big.power, draws: big.draws}
		d.entry = api.Tenant{There: true, Epoch: epoch, Size: first, Spare: spare}
		for i := range rule.Total(first, spare, pages) {
			d.entry.Blocks = append(d.entry.Blocks, api.AdminAt+i)
		}
		is(t, "reopen", d.reopen(), api.OK)
		p := &plain{now: make([]string, first)}
		p.flushed()
		for range 300 {
			var err api.Errno
			switch draw(20) {
			case 0:
				err = d.resize(t, p, 1+draw(most))
			case 1:
				if err = d.Flush(); err == api.OK {
					is(t, "reopen", d.reopen(), api.OK)
				}
			default:
				_, err = d.step(t, p, draw)
			}
			if d.ReadOnly() && err == api.OK {
				err = d.Flush() // an opening may end so, too
			}
			if d.ReadOnly() != (err == api.ErrRead) || !d.ReadOnly() && err != api.OK {
				t.Fatalf("ReadOnly is %t: error %d", d.ReadOnly(), err)
			}
			if got := d.places(t); !slices.Equal(got, p.now) {
				t.Fatalf("the places are %q, want %q", got, p.now)
			}
			d.sound(t)
		}
	}
}

// TestRoomNeverEnds goes over rooms of all kinds, with as many failing as there are spares.
func TestRoomNeverEnds(t *testing.T) {
	for pages := api.MinPages; pages <= api.MaxPages; pages++ {
		for size := 1; size <= api.MaxSize; size++ {
			for _, spare := range []int{0, 1, api.MaxSpare} {
				if rule.Total(size, spare, pages) > api.MaxBlocks-api.AdminAt-2 {
					continue
				}
				draw := drawer(uint32(size * pages))
				var faults []int
				for i := range spare {
					faults = append(faults, 1+size+i*(1+draw(9)))
				}
				d := made(t, pages, size, spare, faults...)
				want := make([]string, size)
				for i := range 3*size + 4*pages {
					place := i % size
					if i > 2*size {
						place = draw(size)
					}
					want[place] = strconv.Itoa(i)
					is(t, "Write", d.Write(place, want[place]), api.OK)
				}
				is(t, "Flush", d.Flush(), api.OK)
				if got := d.places(t); !slices.Equal(got, want) {
					t.Fatalf("%d places of %d pages: %q, want %q", size, pages, got, want)
				}
				d.sound(t)
			}
		}
	}
}

// TestCuts cuts the power in each operation of a walk, and again while it is restored: what comes of it is what was flushed last, and some of the first changes behind that; and it goes on.
func TestCuts(t *testing.T) {
	cuts := 0
	for round := range 12 {
		draw := drawer(uint32(round))
		size, spare, pages, faults := 1+draw(6), draw(3), 2+draw(3), faultsDrawn(draw)
		for budget := range 90 {
			d := made(t, pages, size, spare, faults...)
			p := &plain{now: make([]string, size)}
			p.flushed()
			walk := drawer(uint32(round))
			d.power.Back(budget)
			for range 120 {
				_, err := d.step(t, p, walk)
				if d.power.Gone() {
					if err != api.ErrCut {
						t.Fatalf("the power is gone: error %d", err)
					}
					d.isRestored(t, p, walk)
					cuts++
				}
			}
		}
	}
	if cuts < 1000 {
		t.Errorf("only %d cuts", cuts)
	}
}

// isRestored brings the power back, and opens the store anew till it is there.
func (d *disk) isRestored(t *testing.T, p *plain, draw func(int) int) {
	t.Helper()
	for try := range 10 {
		d.power.Back(try)
		err := d.reopen()
		if d.power.Gone() {
			is(t, "reopen", err, api.ErrCut)
			continue
		}
		is(t, "reopen", err, api.OK)
		break
	}
	d.power.Back(20 + draw(60))
	now := d.places(t)
	if !p.mayBe(now) {
		t.Fatalf("the places are %q; they were %q when they were flushed, then came %v", now, p.durable, p.behind)
	}
	p.now = now
	p.flushed()
	d.sound(t)
}
