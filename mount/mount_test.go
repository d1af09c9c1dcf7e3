package mount

import (
	"math"
	"slices"
	"strconv"
	"strings"
	"testing"

	"almshouse/api"
	"almshouse/draws"
	"almshouse/nand"
	"almshouse/power"
	"almshouse/rule"
	"almshouse/store"
	"almshouse/tag"
)

const (
	who   = 2 // whose the stores are
	epoch = 9
)

// bench is an array, a tenant's entry, and the tenant's store.
type bench struct {
	array *nand.Nand
	power *power.Power
	draws *draws.Draws
	entry api.Tenant
	store *store.Store
}

// entryOf is one whose blocks fall, so that their numbers in the entry aren't those in the array, nor in their order.
func entryOf(size, spare, blocks int) api.Tenant {
	e := api.Tenant{There: true, Epoch: epoch, Size: size, Spare: spare}
	for i := range blocks {
		e.Blocks = append(e.Blocks, api.AdminAt+blocks-1-i)
	}
	return e
}

// benchOf is a blank array for an entry, with two blocks more; of the tenant's operations these fail, and of the others' all first ones.
func benchOf(t *testing.T, pages int, entry api.Tenant, faults ...int) *bench {
	t.Helper()
	return benchWith(t, pages, entry, [api.Tenants][]int{0: {1, 2, 3}, 1: {1, 2, 3}, who: faults, 3: {1, 2, 3}})
}

// benchWith is one with all tenants' faults.
func benchWith(t *testing.T, pages int, entry api.Tenant, faults [api.Tenants][]int) *bench {
	t.Helper()
	d, err := draws.New(faults)
	is(t, "draws", err, api.OK)
	p := power.New(-1)
	g := api.Geometry{Channels: api.AdminAt + len(entry.Blocks) + 2, Dies: 1, Blocks: 1, Pages: pages}
	n, err := nand.New(g, p, d, nil)
	is(t, "an array", err, api.OK)
	return &bench{array: n, power: p, draws: d, entry: entry}
}

// is holds an error against the one that is to be.
func is(t *testing.T, what string, got, want api.Errno) {
	t.Helper()
	if got != want {
		t.Fatalf("%s: error %d, want %d", what, got, want)
	}
}

// opens opens the store, which is to be there.
func (b *bench) opens(t *testing.T) {
	t.Helper()
	s, err := Open(b.array, who, b.entry)
	is(t, "Open", err, api.OK)
	if s == nil {
		t.Fatal("no store")
	}
	b.store = s
}

// refuses opens the store, which isn't to be there.
func (b *bench) refuses(t *testing.T, want api.Errno) {
	t.Helper()
	if s, err := Open(b.array, who, b.entry); s != nil || err != want {
		t.Fatalf("Open is %v, error %d; want error %d", s != nil, err, want)
	}
}

// places are all that are read.
func (b *bench) places(t *testing.T) []string {
	t.Helper()
	var row []string
	for place := range b.store.Size() {
		data, err := b.store.Read(place)
		is(t, "Read", err, api.OK)
		row = append(row, data)
	}
	return row
}

// has asks what the places are.
func (b *bench) has(t *testing.T, want ...string) {
	t.Helper()
	if got := b.places(t); !slices.Equal(got, want) {
		t.Fatalf("the places are %q, want %q", got, want)
	}
}

// writes writes a place, and flushes it.
func (b *bench) writes(t *testing.T, place int, data string) {
	t.Helper()
	is(t, "Write", b.store.Write(place, data), api.OK)
	is(t, "Flush", b.store.Flush(), api.OK)
}

// Pages as texts: w a write, t a trim; o another tenant's, e one of another epoch; then the place, the Seq, ' of a copy, the data. x is a torn one, n one beside which no tag stands.

// letters are the kinds of pages with a tag.
const letters = "wtoe"

// tagOf is a text's tag, and its data.
func tagOf(text string) (api.Tag, string) {
	head, data, _ := strings.Cut(text, "=")
	place, seq, _ := strings.Cut(head[1:], ":")
	x := api.Tag{Tenant: who, Epoch: epoch, Kind: api.KindWrite, Copy: strings.HasSuffix(seq, "'")}
	x.Place, _ = strconv.Atoi(place)
	x.Seq, _ = strconv.Atoi(strings.TrimSuffix(seq, "'"))
	switch head[0] {
	case 't':
		x.Kind = api.KindTrim
	case 'o':
		x.Tenant = who + 1
	case 'e':
		x.Epoch = epoch + 1
	}
	return x, data
}

// textOf is a tag's text, with its data.
func textOf(x api.Tag, data string) string {
	letter := letters[0]
	switch {
	case x.Tenant != who:
		letter = letters[2]
	case x.Epoch != epoch:
		letter = letters[3]
	case x.Kind == api.KindTrim:
		letter = letters[1]
	}
	text := string(letter) + strconv.Itoa(x.Place) + ":" + strconv.Itoa(x.Seq)
	if x.Copy {
		text += "'"
	}
	if letter != letters[1] || data != "" {
		text += "=" + data
	}
	return text
}

// lay writes a page by its text.
func (b *bench) lay(t *testing.T, block, page int, text string) {
	t.Helper()
	switch text {
	case "x":
		b.power.Back(0)
		is(t, "a torn page", b.array.Program(api.Admin, block, page, nil, ""), api.ErrCut)
		b.power.Back(-1)
	case "n":
		is(t, "a page without a tag", b.array.Program(api.Admin, block, page, []byte("no tag"), "?"), api.OK)
	default:
		x, data := tagOf(text)
		beside, err := tag.Bytes(x)
		is(t, "a tag", err, api.OK)
		is(t, "a page", b.array.Program(api.Admin, block, page, beside, data), api.OK)
	}
}

// laid is an array with these rows of pages in the entry's blocks; those whose row begins with bad are marked.
func laid(t *testing.T, size, spare int, faults []int, rows ...string) *bench {
	t.Helper()
	b := benchOf(t, 4, entryOf(size, spare, len(rows)), faults...)
	for i, row := range rows {
		rest, isBad := strings.CutPrefix(row, "bad")
		for page, text := range strings.Fields(rest) {
			b.lay(t, b.entry.Blocks[i], page, text)
		}
		if isBad {
			is(t, "Mark", b.array.Mark(b.entry.Blocks[i]), api.OK)
		}
	}
	b.shows(t, rows...)
	return b
}

// shown is a page as a text.
func (b *bench) shown(t *testing.T, block, page int) string {
	t.Helper()
	beside, data, err := b.array.Read(block, page)
	if err == api.ErrTorn {
		return "x"
	}
	is(t, "a page", err, api.OK)
	x, err := tag.Parse(beside)
	if err != api.OK {
		return "n"
	}
	return textOf(x, data)
}

// shows asks what stands in the entry's blocks.
func (b *bench) shows(t *testing.T, want ...string) {
	t.Helper()
	var got []string
	for _, block := range b.entry.Blocks {
		var row []string
		if b.array.Bad(block) {
			row = append(row, "bad")
		}
		for page := range b.array.Next(block) {
			row = append(row, b.shown(t, block, page))
		}
		got = append(got, strings.Join(row, " "))
	}
	if !slices.Equal(got, want) {
		t.Fatalf("the blocks are %q, want %q", got, want)
	}
}

// P19.1: what is refused

func TestNoStore(t *testing.T) {
	b := laid(t, 5, 0, nil, "w0:0=a", "x", "")
	there := b.entry
	with := func(blocks ...int) api.Tenant {
		e := there
		e.Blocks = blocks
		return e
	}
	away := there
	away.There = false
	all := b.array.Blocks()
	for _, c := range []struct {
		n     *nand.Nand
		who   int
		entry api.Tenant
		want  api.Errno
	}{
		{nil, who, there, api.ErrArg},
		{b.array, -1, there, api.ErrArg},
		{b.array, api.Tenants, there, api.ErrArg},
		{b.array, math.MinInt, there, api.ErrArg},
		{b.array, math.MaxInt, there, api.ErrArg},
		{b.array, 1<<32 + who, there, api.ErrArg},
		{b.array, who, away, api.ErrArg},
		{b.array, who, api.Tenant{}, api.ErrArg},
		{nil, 9, away, api.ErrArg},
		{nil, who, with(-1), api.ErrArg},
		{b.array, 4, with(all), api.ErrArg},
		{b.array, who, with(-1), api.ErrRange},
		{b.array, who, with(all), api.ErrRange},
		{b.array, who, with(4, 3, all), api.ErrRange},
		{b.array, who, with(math.MinInt, 3), api.ErrRange},
		{b.array, who, with(4, math.MaxInt, 3), api.ErrRange},
		{new(nand.Nand), who, there, api.ErrRange},
	} {
		for range 2 {
			if s, err := Open(c.n, c.who, c.entry); s != nil || err != c.want {
				t.Errorf("Open(%t, %d, %+v) is %t, error %d; want error %d", c.n != nil, c.who, c.entry, s != nil, err, c.want)
			}
			b.power.Cut() // what is wrong is told ahead of that
		}
		b.power.Back(-1)
		b.shows(t, "w0:0=a", "x", "")
	}
	if b.power.Ops() != 2 {
		t.Errorf("%d operations, two of them for the pages", b.power.Ops())
	}
}

// TestNoPower opens stores while the power is gone: what isn't read, and needs no operation, needs no power.
func TestNoPower(t *testing.T) {
	for _, c := range []struct {
		rows []string
		want api.Errno
	}{
		{[]string{"w0:0=a", "", ""}, api.ErrCut},
		{[]string{"", "", "x"}, api.ErrCut},
		{[]string{"", "n", ""}, api.ErrCut},
		{[]string{"bad w0:0=a", "o0:0=b", "", ""}, api.ErrCut},
		{[]string{"", "", ""}, api.OK},
		{[]string{"bad w0:0=a", "", "", ""}, api.OK},
		{[]string{"", "bad x x", "bad", ""}, api.OK},
	} {
		b := laid(t, 5, 0, nil, c.rows...)
		b.power.Cut()
		if c.want != api.OK {
			b.refuses(t, c.want)
			continue
		}
		b.opens(t)
		b.has(t, "", "", "", "", "")
		is(t, "Write", b.store.Write(0, "b"), api.OK)
		is(t, "Flush", b.store.Flush(), api.ErrCut)
	}
}

// TestPowerGoesWhileOpened has it go in each erasing, and each marking.
func TestPowerGoesWhileOpened(t *testing.T) {
	rows := []string{"w0:0=a", "w0:0'=a w1:1=b", "x", "w2:2=c w0:3=d t1:4", ""}
	for _, c := range []struct {
		spare, budget int
		faults        []int
		want          []string
	}{
		{0, 0, nil, []string{"x x x x", "w0:0'=a w1:1=b", "x", "w2:2=c w0:3=d t1:4", ""}},
		{0, 1, nil, []string{"", "x x x x", "x", "w2:2=c w0:3=d t1:4", ""}},
		{0, 2, nil, []string{"", "", "x x x x", "w2:2=c w0:3=d t1:4", ""}},
		{1, 1, []int{1}, []string{"x x x x", "w0:0'=a w1:1=b", "x", "w2:2=c w0:3=d t1:4", ""}},
		{1, 2, []int{1}, []string{"bad x x x x", "x x x x", "x", "w2:2=c w0:3=d t1:4", ""}},
		{1, 3, []int{2}, []string{"", "bad x x x x", "x x x x", "w2:2=c w0:3=d t1:4", ""}},
	} {
		b := laid(t, 5, c.spare, c.faults, rows...)
		b.power.Back(c.budget)
		b.refuses(t, api.ErrCut)
		b.refuses(t, api.ErrCut)
		b.power.Back(-1)
		b.shows(t, c.want...)
		b.opens(t)
		b.has(t, "d", "", "c", "", "")
	}
}

// P19.1: what is opened

func TestBlank(t *testing.T) {
	for tenant := range api.Tenants {
		for spare := range 3 {
			b := benchOf(t, 4, entryOf(5, spare, 3+spare))
			s, err := Open(b.array, tenant, b.entry)
			is(t, "Open", err, api.OK)
			b.store = s
			b.has(t, "", "", "", "", "")
			free := []int{0, 1, 2, 3, 4}[:3+spare]
			if !slices.Equal(s.Free(), free) || !slices.Equal(s.Blocks(), b.entry.Blocks) {
				t.Errorf("Free is %v, Blocks %v", s.Free(), s.Blocks())
			}
			if s.ReadOnly() || s.Bad() != 0 || s.Waiting() != 0 || s.Size() != 5 || b.power.Ops() != 0 {
				t.Errorf("ReadOnly %t, Bad %d, Waiting %d, Size %d, %d operations", s.ReadOnly(), s.Bad(), s.Waiting(), s.Size(), b.power.Ops())
			}
		}
	}
	// without blocks there is nothing either
	b := benchOf(t, 4, api.Tenant{There: true})
	b.opens(t)
	if b.store.Size() != 0 || b.store.Blocks() != nil || b.store.Free() != nil {
		t.Errorf("Size %d, Blocks %v, Free %v", b.store.Size(), b.store.Blocks(), b.store.Free())
	}
}

// TestWhatStands opens stores of five places on hand-laid blocks, and writes place 4 behind it.
func TestWhatStands(t *testing.T) {
	for _, c := range []struct {
		rows   []string
		places []string
		free   []int
		ops    int
		want   []string // behind one more write
	}{
		// the newest page is the place's; the front is written on
		{[]string{"w0:0=a w1:1=b w0:2=c t1:3", "w3:4=d", ""}, []string{"c", "", "", "d", ""}, []int{2}, 0, []string{"w0:0=a w1:1=b w0:2=c t1:3", "w3:4=d w4:5=z", ""}},
		{[]string{"w0:7=a", "w1:3=b w2:4=c w3:5=d w0:6=e", ""}, []string{"a", "b", "c", "d", ""}, []int{2}, 0, []string{"w0:7=a w4:8=z", "w1:3=b w2:4=c w3:5=d w0:6=e", ""}},
		// behind a torn page, too
		{[]string{"w0:0=a x", "", ""}, []string{"a", "", "", "", ""}, []int{1, 2}, 0, []string{"w0:0=a x w4:1=z", "", ""}},
		// no block is begun: the first free one
		{[]string{"", "w0:0=a w1:1=b w2:2=c w3:3=d", ""}, []string{"a", "b", "c", "d", ""}, []int{0, 2}, 0, []string{"w4:4=z", "w0:0=a w1:1=b w2:2=c w3:3=d", ""}},
		// of two that are begun the lowest
		{[]string{"w1:1=b", "w0:0=a", ""}, []string{"a", "b", "", "", ""}, []int{2}, 0, []string{"w1:1=b w4:2=z", "w0:0=a", ""}},
		// the power went while block 0 was collected: what was copied is dropped
		{[]string{"w0:0=a w1:1=b w0:2=c t2:3", "w1:1'=b", ""}, []string{"c", "b", "", "", ""}, []int{1, 2}, 1, []string{"w0:0=a w1:1=b w0:2=c t2:3", "w4:4=z", ""}},
		{[]string{"w0:0=a w1:1=b w0:2=c t2:3", "w1:1'=b w0:2'=c x", ""}, []string{"c", "b", "", "", ""}, []int{1, 2}, 1, []string{"w0:0=a w1:1=b w0:2=c t2:3", "w4:4=z", ""}},
		// or block 0 is, if all was copied
		{[]string{"w0:0=a w1:1=b w0:2=c t2:3", "w1:1'=b w0:2'=c t2:3'", ""}, []string{"c", "b", "", "", ""}, []int{0, 2}, 1, []string{"", "w1:1'=b w0:2'=c t2:3' w4:4=z", ""}},
		{[]string{"x x x x", "w1:1'=b w0:2'=c t2:3'", ""}, []string{"c", "b", "", "", ""}, []int{0, 2}, 1, []string{"", "w1:1'=b w0:2'=c t2:3' w4:4=z", ""}},
		// the lowest goes first, though it has the copies
		{[]string{"w1:1'=b w0:2'=c t2:3'", "w0:0=a w1:1=b w0:2=c t2:3", ""}, []string{"c", "b", "", "", ""}, []int{0, 2}, 1, []string{"w4:4=z", "w0:0=a w1:1=b w0:2=c t2:3", ""}},
		// torn pages, others' pages, pages of another epoch, and without a tag, aren't the tenant's
		{[]string{"x", "w0:3=a", "o0:8=b o1:9=c", "e0:8=d e1:9=e", "n"}, []string{"a", "", "", "", ""}, []int{0, 2, 3, 4}, 4, []string{"", "w0:3=a w4:4=z", "", "", ""}},
		{[]string{"w0:3=a o0:8=b e0:9=c n", "", ""}, []string{"a", "", "", "", ""}, []int{1, 2}, 0, []string{"w0:3=a o0:8=b e0:9=c n", "w4:4=z", ""}},
		// pages of places that aren't the tenant's any more don't count; their Seqs do
		{[]string{"w5:7=b w63:6=c", "w0:3=a", ""}, []string{"a", "", "", "", ""}, []int{0, 2}, 1, []string{"", "w0:3=a w4:8=z", ""}},
		{[]string{"w5:7=b w0:1=a", "", ""}, []string{"a", "", "", "", ""}, []int{1, 2}, 0, []string{"w5:7=b w0:1=a w4:8=z", "", ""}},
		// marked blocks aren't looked at, nor erased, nor written
		{[]string{"bad w0:9=b", "w0:3=a", "bad x", "", "", ""}, []string{"a", "", "", "", ""}, []int{3, 4, 5}, 0, []string{"bad w0:9=b", "w0:3=a w4:4=z", "bad x", "", "", ""}},
		{[]string{"bad w0:3'=a w1:4'=b", "w0:3=a", "", ""}, []string{"a", "", "", "", ""}, []int{2, 3}, 0, []string{"bad w0:3'=a w1:4'=b", "w0:3=a w4:4=z", "", ""}},
		// a trim is nothing, whatever stands there
		{[]string{"w0:0=a t0:1=b", "", ""}, []string{"", "", "", "", ""}, []int{1, 2}, 0, []string{"w0:0=a t0:1=b w4:2=z", "", ""}},
	} {
		b := laid(t, 5, 0, nil, c.rows...)
		ops, bad := b.power.Ops(), strings.Count(strings.Join(c.rows, " "), "bad")
		b.opens(t)
		b.has(t, c.places...)
		s := b.store
		if !slices.Equal(s.Free(), c.free) || b.power.Ops() != ops+c.ops || b.draws.Ops(who) != c.ops {
			t.Errorf("%q: Free is %v, behind %d operations", c.rows, s.Free(), b.power.Ops()-ops)
		}
		if s.ReadOnly() || s.Waiting() != 0 || s.Size() != 5 || s.Bad() != bad || !slices.Equal(s.Blocks(), b.entry.Blocks) {
			t.Errorf("%q: ReadOnly %t, Waiting %d, Size %d, Bad %d, Blocks %v", c.rows, s.ReadOnly(), s.Waiting(), s.Size(), s.Bad(), s.Blocks())
		}
		b.writes(t, 4, "z")
		b.shows(t, c.want...)
	}
}

// TestFailings has erasings fail while a store is opened.
func TestFailings(t *testing.T) {
	rows := []string{"x", "w0:0=a w1:1=b", "x x", "x x x", "", "", ""}
	for _, c := range []struct {
		spare  int
		faults []int
		isRead bool
		want   []string
	}{
		{0, nil, false, []string{"", "w0:0=a w1:1=b", "", "", "", "", ""}},
		{0, []int{5}, false, []string{"", "w0:0=a w1:1=b", "", "", "", "", ""}},
		{0, []int{1}, true, []string{"x x x x", "w0:0=a w1:1=b", "x x", "x x x", "", "", ""}},
		{0, []int{2}, true, []string{"", "w0:0=a w1:1=b", "x x x x", "x x x", "", "", ""}},
		{0, []int{3}, true, []string{"", "w0:0=a w1:1=b", "", "x x x x", "", "", ""}},
		{1, []int{2}, false, []string{"", "w0:0=a w1:1=b", "bad x x x x", "", "", "", ""}},
		{1, []int{1, 3}, true, []string{"bad x x x x", "w0:0=a w1:1=b", "", "x x x x", "", "", ""}},
		{3, []int{3, 1, 2}, false, []string{"bad x x x x", "w0:0=a w1:1=b", "bad x x x x", "bad x x x x", "", "", ""}},
	} {
		b := laid(t, 2, c.spare, c.faults, rows...)
		b.opens(t)
		b.shows(t, c.want...)
		b.has(t, "a", "b")
		if b.store.ReadOnly() != c.isRead || b.store.Bad() != strings.Count(strings.Join(c.want, " "), "bad") {
			t.Errorf("%d spare, %v fail: ReadOnly %t, Bad %d", c.spare, c.faults, b.store.ReadOnly(), b.store.Bad())
		}
		if c.isRead {
			is(t, "Write", b.store.Write(0, "c"), api.ErrRead)
			is(t, "Flush", b.store.Flush(), api.ErrRead)
			// opened anew, it may be written till something fails
			b.opens(t)
			b.has(t, "a", "b")
			if b.store.ReadOnly() {
				t.Errorf("%d spare, %v fail: to be read only, again", c.spare, c.faults)
			}
		}
		b.writes(t, 0, "c")
		b.has(t, "c", "b")
	}
}

// TestEntryTells opens the same blocks by other entries.
func TestEntryTells(t *testing.T) {
	rows := []string{"w0:0=a w1:1=b", "w2:2=c w3:3=d", "", ""}
	for _, c := range []struct {
		what   string
		change func(e *api.Tenant)
		places []string
		want   []string
	}{
		{"all", func(*api.Tenant) {}, []string{"a", "b", "c", "d", ""}, rows},
		{"more places", func(e *api.Tenant) { e.Size = 7 }, []string{"a", "b", "c", "d", "", "", ""}, rows},
		{"fewer places", func(e *api.Tenant) { e.Size = 3 }, []string{"a", "b", "c"}, rows},
		{"few places", func(e *api.Tenant) { e.Size = 2 }, []string{"a", "b"}, []string{rows[0], "", "", ""}},
		{"no places", func(e *api.Tenant) { e.Size = 0 }, nil, []string{"", "", "", ""}},
		{"another epoch", func(e *api.Tenant) { e.Epoch++ }, make([]string, 5), []string{"", "", "", ""}},
		{"without the first block", func(e *api.Tenant) { e.Blocks = e.Blocks[1:] }, []string{"", "", "c", "d", ""}, rows},
		{"the first block alone", func(e *api.Tenant) { e.Blocks = e.Blocks[:1] }, []string{"a", "b", "", "", ""}, rows},
	} {
		b := laid(t, 5, 0, nil, rows...)
		entry := b.entry
		c.change(&entry)
		s, err := Open(b.array, who, entry)
		is(t, c.what, err, api.OK)
		b.store = s
		b.has(t, c.places...)
		b.shows(t, c.want...)
		if s.Size() != entry.Size || !slices.Equal(s.Blocks(), entry.Blocks) {
			t.Errorf("%s: Size %d, Blocks %v", c.what, s.Size(), s.Blocks())
		}
	}
}

// TestWhose asks whose the pages are that count, and whose the operations.
func TestWhose(t *testing.T) {
	for tenant := range api.Tenants {
		var faults [api.Tenants][]int
		faults[tenant] = []int{1}
		b := benchWith(t, 4, entryOf(5, 1, 4), faults)
		b.lay(t, b.entry.Blocks[0], 0, "w0:0=a")
		b.lay(t, b.entry.Blocks[2], 0, "o0:0=b") // the next tenant's
		b.lay(t, b.entry.Blocks[3], 0, "e0:0=c")
		ops := b.power.Ops()
		s, err := Open(b.array, tenant, b.entry)
		is(t, "Open", err, api.OK)
		b.store = s
		spent := 4 // the first block that goes isn't erased, but marked
		switch tenant {
		case who:
			b.has(t, "a", "", "", "", "")
			b.shows(t, "w0:0=a", "", "bad x x x x", "")
			spent = 3
		case who + 1:
			b.has(t, "b", "", "", "", "")
			b.shows(t, "bad x x x x", "", "o0:0=b", "")
			spent = 3
		default:
			b.has(t, "", "", "", "", "")
			b.shows(t, "bad x x x x", "", "", "")
		}
		if b.power.Ops() != ops+spent || b.draws.Ops(tenant) != spent-1 || s.Bad() != 1 {
			t.Errorf("tenant %d: %d operations, %d of them its own, Bad %d", tenant, b.power.Ops()-ops, b.draws.Ops(tenant), s.Bad())
		}
		for other := range api.Tenants {
			if other != tenant && b.draws.Ops(other) != 0 {
				t.Errorf("tenant %d: %d operations of tenant %d", tenant, b.draws.Ops(other), other)
			}
		}
	}
}

// TestMemoryIsItsOwn changes what was handed in, and what was answered.
func TestMemoryIsItsOwn(t *testing.T) {
	b := laid(t, 5, 1, nil, "w0:0=a", "x", "", "")
	blocks := append(make([]int, 0, 10), b.entry.Blocks...)
	behind := blocks[4:6]
	entry := b.entry
	entry.Blocks = blocks
	s, err := Open(b.array, who, entry)
	is(t, "Open", err, api.OK)
	b.store = s
	s.Resize(9, []int{6, 7})
	s.Take(1, 8)
	if !slices.Equal(blocks, b.entry.Blocks) || !slices.Equal(behind, []int{0, 0}) {
		t.Errorf("what was handed in is %v, behind it %v", blocks, behind)
	}
	clear(blocks)
	if want := []int{5, 8, 3, 2, 6, 7}; !slices.Equal(s.Blocks(), want) {
		t.Errorf("Blocks are %v, want %v", s.Blocks(), want)
	}
	b.has(t, "a", "", "", "", "", "", "", "", "")
	// a second store is another one
	entry = b.entry
	other, err := Open(b.array, who, entry)
	is(t, "Open", err, api.OK)
	is(t, "Write", other.Write(0, "b"), api.OK)
	if other == s || s.Waiting() != 0 || other.Size() != 5 {
		t.Errorf("one store: %t, %d changes wait, Size %d", other == s, s.Waiting(), other.Size())
	}
	b.has(t, "a", "", "", "", "", "", "", "", "")
}

// TestOddArguments has entries that no ledger has: nothing panics, and all calls end.
func TestOddArguments(t *testing.T) {
	numbers := []int{math.MinInt, math.MinInt32, -1, 0, 1, 2, 3, 5, 9, 63, 64, 65, 1 << 31, 1 << 32, math.MaxInt}
	rows := [][]int{nil, {}, {2}, {2, 3}, {2, 2, 2, 2}, {2, 3, 2, 3, 2}, {0, 1}, {1, 0, 2, 3}, {-1, 2, 3, 4}, {8, 9, 2, 3}, {math.MaxInt, 2, 3}, make([]int, 100), slices.Repeat([]int{5, 4, 3}, 30)}
	for _, row := range rows {
		for _, v := range numbers {
			for _, faults := range [][]int{nil, {1, 2, 3, 4, 5, 6, 7, 8}, {2, 3, 5, 7}} {
				for _, entry := range []api.Tenant{
					{There: true, Epoch: epoch, Size: 5, Spare: 1, Blocks: row},
					{There: true, Epoch: epoch, Size: v, Spare: 0, Blocks: row},
					{There: true, Epoch: epoch, Size: 5, Spare: v, Blocks: row},
					{There: true, Epoch: v, Size: 4, Spare: 0, Blocks: row},
				} {
					b := laid(t, 5, 1, faults, "w0:0=a w1:1=b w0:2=c x", "n", "w0:2'=c", "x", "")
					b.lay(t, 0, 0, "w1:7=z")
					usedAnyhow(t, b.array, who, entry)
					usedAnyhow(t, b.array, v, entry)
				}
			}
		}
	}
}

// usedAnyhow opens a store, and uses it, some times; it is enough that it ends, and that beside an error there is no store.
func usedAnyhow(t *testing.T, n *nand.Nand, tenant int, entry api.Tenant) {
	t.Helper()
	for range 2 {
		s, err := Open(n, tenant, entry)
		if (s == nil) == (err == api.OK) {
			t.Fatalf("of %+v a store: %t, beside error %d", entry, s != nil, err)
		}
		for place := range 6 {
			s.Write(place, "a")
			s.Read(place)
		}
		s.Flush()
		s.Purge(2)
	}
}

// P19.2

// change is one of a place.
type change struct {
	place int
	data  string
}

// plain are the places by their plain words: what they were when they were flushed last, and the changes behind that.
type plain struct {
	flushed []string
	behind  []change
}

// now is what they are, with so many of the changes.
func (p *plain) now(changes int) []string {
	row := slices.Clone(p.flushed)
	for _, c := range p.behind[:changes] {
		row[c.place] = c.data
	}
	return row
}

// settles has these be the places from now on.
func (p *plain) settles(row []string) { p.flushed, p.behind = row, nil }

// mayBe asks whether places are what was flushed last, and some of the first changes behind that.
func (p *plain) mayBe(places []string) bool {
	for changes := range len(p.behind) + 1 {
		if slices.Equal(p.now(changes), places) {
			return true
		}
	}
	return false
}

// act is something that is asked of a store.
type act struct {
	op     int // of api's; 0: the block place is collected
	change change
}

// plan is a room, its faults, and what is asked, one behind the other.
type plan struct {
	pages, size, spare int
	faults             []int
	acts               []act
}

// drawer draws numbers below n.
func drawer(x uint32) func(n int) int {
	return func(n int) int {
		x = x*1664525 + 1013904223
		return int(x>>8) % n
	}
}

// actsDrawn are so many, drawn.
func actsDrawn(draw func(int) int, many, size, blocks int) []act {
	var acts []act
	for i := range many {
		c := change{place: draw(size), data: strconv.Itoa(i)}
		switch draw(8) {
		case 0:
			acts = append(acts, act{op: api.OpFlush})
		case 1:
			acts = append(acts, act{op: api.OpTrim, change: change{place: c.place}})
		case 2:
			acts = append(acts, act{change: change{place: draw(blocks)}})
		default:
			acts = append(acts, act{op: api.OpWrite, change: c})
		}
	}
	return acts
}

// does asks an act of the store, and notes what came of it.
func (b *bench) does(p *plain, a act) api.Errno {
	var err api.Errno
	switch a.op {
	case api.OpFlush:
		if err = b.store.Flush(); err == api.OK {
			p.settles(p.now(len(p.behind)))
		}
		return err
	case api.OpWrite:
		err = b.store.Write(a.change.place, a.change.data)
	case api.OpTrim:
		err = b.store.Trim(a.change.place)
	default:
		if err = b.store.Collect(a.change.place); err == api.ErrArg {
			err = api.OK // there is nothing to collect
		}
		return err
	}
	if err == api.OK {
		p.behind = append(p.behind, a.change)
	}
	return err
}

// isOpened opens the store, and asks what it has; false: the power went.
func (b *bench) isOpened(t *testing.T, p *plain) bool {
	t.Helper()
	s, err := Open(b.array, who, b.entry)
	if b.power.Gone() {
		if s != nil || err != api.ErrCut {
			t.Fatalf("Open without power: a store: %t, error %d", s != nil, err)
		}
		return false
	}
	is(t, "Open", err, api.OK)
	b.store = s
	got := b.places(t)
	if !p.mayBe(got) {
		t.Fatalf("the places are %q; they were %q when they were flushed, then came %v", got, p.flushed, p.behind)
	}
	p.settles(got)
	b.sound(t)
	return true
}

// sound asks what holds of a store while the power lasts: there is room, and the spares do.
func (b *bench) sound(t *testing.T) {
	t.Helper()
	bad, blank := 0, 0
	for _, block := range b.entry.Blocks {
		switch {
		case b.array.Bad(block):
			bad++
		case b.array.Blank(block):
			blank++
		}
	}
	if b.store.Bad() != bad || bad > b.entry.Spare {
		t.Fatalf("Bad is %d, %d are marked, of %d spare ones", b.store.Bad(), bad, b.entry.Spare)
	}
	if !b.store.ReadOnly() && blank < 1+b.entry.Spare-bad {
		t.Fatalf("%d blocks are blank, of %d spare ones %d are left", blank, b.entry.Spare, b.entry.Spare-bad)
	}
}

// lives opens the store, and has it do what is left of the acts; false: the power went. The acts that are left then are answered.
func (b *bench) lives(t *testing.T, p *plain, acts []act) ([]act, bool) {
	t.Helper()
	if !b.isOpened(t, p) {
		return acts, false
	}
	for i, a := range acts {
		err := b.does(p, a)
		if b.power.Gone() {
			is(t, "without power", err, api.ErrCut)
			return acts[i+1:], false
		}
		want := api.OK
		if b.store.ReadOnly() {
			want = api.ErrRead
		}
		is(t, "an act", err, want)
		if got, want := b.places(t), p.now(len(p.behind)); !slices.Equal(got, want) {
			t.Fatalf("the places are %q, want %q", got, want)
		}
		b.sound(t)
	}
	return nil, true
}

// isRun does a plan, with a budget for each time that the power comes back, and asks at last what is there, and whether it goes on. It answers whether the power went with the last budget.
func (l plan) isRun(t *testing.T, budgets ...int) bool {
	t.Helper()
	b := benchOf(t, l.pages, entryOf(l.size, l.spare, rule.Total(l.size, l.spare, l.pages)), l.faults...)
	p := &plain{flushed: make([]string, l.size)}
	acts, lasts := l.acts, false
	for _, budget := range budgets {
		b.power.Back(budget)
		acts, lasts = b.lives(t, p, acts)
	}
	b.power.Back(-1)
	if !b.isOpened(t, p) {
		t.Fatal("not opened")
	}
	b.isOpenedAgain(t, p)
	b.goesOn(t)
	return !lasts
}

// isOpenedAgain asks that opening a store that was just opened changes nothing.
func (b *bench) isOpenedAgain(t *testing.T, p *plain) {
	t.Helper()
	if b.store.ReadOnly() {
		return // some block that may go wasn't erased
	}
	ops := b.power.Ops()
	if !b.isOpened(t, p) || b.power.Ops() != ops {
		t.Fatalf("opened again: %d operations", b.power.Ops()-ops)
	}
}

// goesOn writes all places twice, and reads them, also from a store opened anew.
func (b *bench) goesOn(t *testing.T) {
	t.Helper()
	want := b.places(t)
	for i := range 2 * len(want) {
		place := i % len(want)
		data := "on" + strconv.Itoa(i)
		err := b.store.Write(place, data)
		if err == api.ErrRead && b.store.ReadOnly() {
			return
		}
		is(t, "Write", err, api.OK)
		want[place] = data
		b.has(t, want...)
	}
	if err := b.store.Flush(); err != api.ErrRead || !b.store.ReadOnly() {
		is(t, "Flush", err, api.OK)
		b.opens(t)
	}
	b.has(t, want...)
	b.sound(t)
}

// cuts has the power go in each operation behind some budgets, and so many times again in each one behind that; it answers how many runs there were.
func (l plan) cuts(t *testing.T, times int, ahead ...int) int {
	t.Helper()
	runs := 1
	for budget := 0; times > 0; budget++ {
		row := append(slices.Clone(ahead), budget)
		if !l.isRun(t, row...) {
			break
		}
		runs += l.cuts(t, times-1, row...)
	}
	return runs
}

// planDrawn is one of a small room.
func planDrawn(seed, many int) plan {
	draw := drawer(uint32(seed))
	l := plan{pages: 2 + draw(3), size: 1 + draw(5), spare: draw(3)}
	l.acts = actsDrawn(draw, many, l.size, rule.Total(l.size, l.spare, l.pages))
	return l
}

// TestCuts has the power go three times, in each operation.
func TestCuts(t *testing.T) {
	runs := 0
	for seed := range 5 {
		runs += planDrawn(seed, 20).cuts(t, 3)
	}
	if runs < 4000 {
		t.Errorf("only %d runs", runs)
	}
}

// TestCutsAmongFaults has the power go twice, in each operation, while another one fails, each in its turn, or two do.
func TestCutsAmongFaults(t *testing.T) {
	runs := 0
	for seed := range 4 {
		l := planDrawn(100+seed, 14)
		for first := range 12 {
			for _, then := range []int{0, 1, 3} {
				l.faults = []int{1 + first, 1 + first + then}
				runs += l.cuts(t, 2)
			}
		}
	}
	if runs < 4000 {
		t.Errorf("only %d runs", runs)
	}
}

// TestNoProgress has the power go in the first operation of each opening, many times.
func TestNoProgress(t *testing.T) {
	for seed := range 20 {
		l := planDrawn(200+seed, 30)
		for budget := range 20 {
			row := append([]int{budget}, make([]int, 20)...)
			l.isRun(t, row...)
		}
	}
}

// resizes gives the entry another size, as layer 21 does: the store is flushed, and purged of what is beyond the old size; the array has the blocks that are got.
func (b *bench) resizes(p *plain, size int) {
	if b.does(p, act{op: api.OpFlush}) != api.OK {
		return
	}
	old := b.entry.Size
	if size > old && b.store.Purge(old) != api.OK {
		return
	}
	var got []int
	have := len(b.entry.Blocks)
	for i := range max(0, rule.Total(size, b.entry.Spare, b.array.Geometry().Pages)-have) {
		got = append(got, api.AdminAt+2+have+i)
	}
	b.store.Resize(size, got)
	b.entry.Size, b.entry.Blocks = size, slices.Concat(b.entry.Blocks, got)
	row := make([]string, size)
	copy(row, p.flushed)
	p.settles(row)
}

// swaps gives another blank block for a free one, and answers that.
func (b *bench) swaps(other int) int {
	i, ok := b.store.Give()
	if !ok {
		return other
	}
	own := b.entry.Blocks[i]
	b.store.Take(i, other)
	b.entry.Blocks = slices.Clone(b.entry.Blocks)
	b.entry.Blocks[i] = other
	return own
}

// roomDrawn is a bench for rooms of up to so many places, whose entry has fewer; the two blocks behind the admin's are nobody's.
func roomDrawn(t *testing.T, draw func(int) int) (b *bench, most int) {
	t.Helper()
	pages, spare := 2+draw(5), draw(5)
	if draw(5) == 0 {
		pages, spare = 2+draw(15), draw(9)
	}
	most = 1 + draw(rule.Most(30, spare, pages))
	var faults []int
	for range draw(2 * api.MaxSpare) {
		faults = append(faults, 1+draw(300))
	}
	b = benchOf(t, pages, entryOf(most, spare, rule.Total(most, spare, pages)), faults...)
	b.entry.Size, b.entry.Blocks = 1+draw(most), nil
	for i := range rule.Total(b.entry.Size, spare, pages) {
		b.entry.Blocks = append(b.entry.Blocks, api.AdminAt+2+i)
	}
	return b, most
}

// TestWalks has the power go again and again, in rooms of all kinds, among faults, and while sizes and blocks change; at times it goes between two operations.
func TestWalks(t *testing.T) {
	reads, lost, sizes := 0, 0, 0
	for seed := range 150 {
		draw := drawer(uint32(1000 + seed))
		b, most := roomDrawn(t, draw)
		p := &plain{flushed: make([]string, b.entry.Size)}
		other := api.AdminAt
		for range 40 {
			b.power.Back(draw(60) - 1)
			if _, lasts := b.lives(t, p, actsDrawn(draw, draw(40), b.entry.Size, len(b.entry.Blocks))); !lasts {
				continue
			}
			switch size := 1 + draw(most); {
			case b.store.ReadOnly():
				reads++
			case draw(2) == 0:
				other = b.swaps(other)
			case size != b.entry.Size:
				b.resizes(p, size)
				sizes++
			}
			lost += b.store.Waiting()
			b.power.Cut()
		}
		b.power.Back(-1)
		if !b.isOpened(t, p) {
			t.Fatal("not opened")
		}
		b.goesOn(t)
	}
	if reads < 50 || lost < 300 || sizes < 300 {
		t.Errorf("%d times to be read only, %d changes that waited were lost, %d times another size", reads, lost, sizes)
	}
}
