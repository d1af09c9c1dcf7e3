package house

import (
	"slices"
	"strconv"
	"testing"

	"almshouse/adlog"
	"almshouse/api"
	"almshouse/ledger"
	"almshouse/scan"
)

// change is one of a place.
type change struct {
	place int
	data  string
}

// tenant is one by plain words: what its places were when they were flushed last, the changes behind that, the commands that wait, and what was done.
type tenant struct {
	entry   api.Tenant
	flushed []string
	behind  []change
	waits   []api.Command
	done    []api.Done
}

// now is what its places are, with so many of the changes.
func (x *tenant) now(changes int) []string {
	row := slices.Clone(x.flushed)
	for _, c := range x.behind[:changes] {
		row[c.place] = c.data
	}
	return row
}

// settles has these be its places, whatever happens.
func (x *tenant) settles(row []string) { x.flushed, x.behind = row, nil }

// mayBe asks whether places are what was flushed last, and some of the first changes behind that.
func (x *tenant) mayBe(places []string) bool {
	for changes := range len(x.behind) + 1 {
		if slices.Equal(x.now(changes), places) {
			return true
		}
	}
	return false
}

// walk is a house, and what is to be told of it.
type walk struct {
	*House
	pages       int
	gen, epochs int
	slots       int
	tenants     [api.Tenants]tenant
	cut         int // how often the power went
	reads       int // how often a tenant came to be to be read only
}

// walkOf begins with a new house.
func walkOf(t *testing.T, s api.Setup) *walk {
	t.Helper()
	return &walk{House: madeOf(t, s), pages: s.Geometry.Pages}
}

// there are the tenants that are.
func (w *walk) there() []int {
	var row []int
	for who := range w.tenants {
		if w.tenants[who].entry.There {
			row = append(row, who)
		}
	}
	return row
}

// kept is the ledger that is to be.
func (w *walk) kept() api.Ledger {
	l := api.Ledger{Gen: w.gen, Epochs: w.epochs}
	for who := range w.tenants {
		l.Tenants[who] = w.tenants[who].entry
	}
	return l
}

// nobodys are the blocks that nobody has, and that aren't marked.
func (w *walk) nobodys() []int {
	had := map[int]int{}
	for _, who := range w.there() {
		for _, block := range w.tenants[who].entry.Blocks {
			had[block]++
		}
	}
	var row []int
	for block := api.AdminAt; block < w.Array().Blocks(); block++ {
		if had[block] == 0 && !w.Array().Bad(block) {
			row = append(row, block)
		}
	}
	return row
}

// blanks are the numbers in its entry of a tenant's blocks that are blank, and not marked.
func (w *walk) blanks(who int) []int {
	var row []int
	for i, block := range w.tenants[who].entry.Blocks {
		if w.Array().Blank(block) && !w.Array().Bad(block) {
			row = append(row, i)
		}
	}
	return row
}

// falls has nothing wait any more.
func (w *walk) falls() {
	w.cut++
	for who := range w.tenants {
		w.tenants[who].waits = nil
	}
}

// isReadOnly asks about a tenant that is there.
func (w *walk) isReadOnly(t *testing.T, who int) bool {
	t.Helper()
	return stat(t, w.House, who).ReadOnly
}

// lacking is the error of asking for a tenant.
func (w *walk) lacking(who int) api.Errno {
	switch {
	case who < 0 || who >= api.Tenants:
		return api.ErrRange
	case !w.tenants[who].entry.There:
		return api.ErrNone
	}
	return api.OK
}

// does holds what came of an admin's step against what is to come of it; whether it was done.
func (w *walk) does(t *testing.T, what string, got, want api.Errno) bool {
	t.Helper()
	if want == api.OK && !w.Up() {
		is(t, what+" without power", got, api.ErrCut)
		w.falls()
		return false
	}
	is(t, what, got, want)
	return got == api.OK
}

// creates makes a tenant, or is refused.
func (w *walk) creates(t *testing.T, who, size, spare int) {
	t.Helper()
	free, want := w.nobodys(), api.OK
	switch lacking := w.lacking(who); {
	case lacking == api.ErrRange:
		want = api.ErrRange
	case lacking == api.OK:
		want = api.ErrTwice
	case size < 1 || size > api.MaxSize || spare < 0 || spare > api.MaxSpare:
		want = api.ErrRange
	case len(free) < size/w.pages+2+spare:
		want = api.ErrFull
	}
	if !w.does(t, "Create", w.Create(who, size, spare), want) {
		return
	}
	w.gen++
	w.epochs++
	w.tenants[who] = tenant{
		entry:   api.Tenant{There: true, Epoch: w.epochs, Size: size, Spare: spare, Blocks: free[:size/w.pages+2+spare]},
		flushed: make([]string, size),
	}
	w.areBlank(t, w.tenants[who].entry.Blocks)
}

// areBlank asks whether blocks that were granted are.
func (w *walk) areBlank(t *testing.T, row []int) {
	t.Helper()
	for _, block := range row {
		if !w.Array().Blank(block) || w.Array().Bad(block) {
			t.Fatalf("block %d is granted: blank %t, marked %t", block, w.Array().Blank(block), w.Array().Bad(block))
		}
	}
}

// destroys ends a tenant, or is refused.
func (w *walk) destroys(t *testing.T, who int) {
	t.Helper()
	if !w.does(t, "Destroy", w.Destroy(who), w.lacking(who)) {
		return
	}
	w.gen++
	w.tenants[who] = tenant{done: w.tenants[who].done}
}

// resizes gives a tenant another size, or is refused.
func (w *walk) resizes(t *testing.T, who, size int) {
	t.Helper()
	free, more, want := w.nobodys(), 0, w.lacking(who)
	if want == api.OK {
		e := w.tenants[who].entry
		more = max(0, size/w.pages+2+e.Spare-len(e.Blocks))
		switch {
		case size < 1 || size > api.MaxSize:
			want = api.ErrRange
		case w.isReadOnly(t, who):
			want = api.ErrRead
		case len(free) < more:
			want = api.ErrFull
		}
	}
	err := w.Resize(who, size)
	if want == api.OK && err == api.ErrRead && w.isReadOnly(t, who) {
		w.reads++ // just now
		return
	}
	if !w.does(t, "Resize", err, want) {
		return
	}
	w.gen++
	x := &w.tenants[who]
	row := make([]string, size)
	copy(row, x.now(len(x.behind)))
	x.settles(row)
	x.entry.Size = size
	x.entry.Blocks = slices.Concat(x.entry.Blocks, free[:more])
	w.areBlank(t, free[:more])
}

// swaps lets two tenants change blocks, or is refused.
func (w *walk) swaps(t *testing.T, a, b int) {
	t.Helper()
	want := w.lacking(a)
	if want == api.OK {
		want = w.lacking(b)
	}
	if want == api.OK && a == b {
		want = api.ErrArg
	}
	if want != api.OK {
		is(t, "Swap", w.Swap(a, b), want)
		return
	}
	if w.isReadOnly(t, a) || w.isReadOnly(t, b) {
		want = api.ErrRead
	}
	one, other := &w.tenants[a].entry, &w.tenants[b].entry
	mine, yours := w.firstFree(t, a), w.firstFree(t, b)
	if !w.does(t, "Swap", w.Swap(a, b), want) {
		return
	}
	w.gen++
	l := w.Ledger()
	i, j := differs(one.Blocks, l.Tenants[a].Blocks), differs(other.Blocks, l.Tenants[b].Blocks)
	if !slices.Contains(mine, i) || !slices.Contains(yours, j) {
		t.Fatalf("the blocks of numbers %d, %d are swapped, want one of %v, %v", i, j, mine, yours)
	}
	one.Blocks, other.Blocks = slices.Clone(one.Blocks), slices.Clone(other.Blocks)
	one.Blocks[i], other.Blocks[j] = other.Blocks[j], one.Blocks[i]
}

// firstFree is the number in its entry of a tenant's first free block: one of two, if the front is blank, too.
func (w *walk) firstFree(t *testing.T, who int) []int {
	t.Helper()
	row, fronts := w.blanks(who), 0
	fronts = len(row) - stat(t, w.House, who).Free
	if fronts < 0 || fronts > 1 {
		t.Fatalf("%d blocks are blank, %d free", len(row), len(row)-fronts)
	}
	return row[:min(len(row), 1+fronts)]
}

// differs is where two rows first do; -1: nowhere.
func differs(a, b []int) int {
	for i := range min(len(a), len(b)) {
		if a[i] != b[i] {
			return i
		}
	}
	return -1
}

// submits lets a command wait, or is refused.
func (w *walk) submits(t *testing.T, who int, c api.Command) {
	t.Helper()
	want := w.lacking(who)
	if want == api.OK && len(w.tenants[who].waits) == api.MaxQueue {
		want = api.ErrFull
	}
	is(t, "Submit", w.Submit(who, c), want)
	if want == api.OK {
		x := &w.tenants[who]
		x.waits = append(x.waits, c)
	}
}

// slot is one.
func (w *walk) slot(t *testing.T) {
	t.Helper()
	who := w.slots % api.Tenants
	x := &w.tenants[who]
	was := w.Slot()
	w.slots++
	if !w.Up() {
		if was || len(x.waits) == 0 {
			t.Fatalf("the power went in slot %d: something is done: %t, %d waited", w.slots-1, was, len(x.waits))
		}
		w.falls()
		return
	}
	if was != (len(x.waits) > 0) {
		t.Fatalf("slot %d: something is done: %t, %d waited", w.slots-1, was, len(x.waits))
	}
	if !was {
		return
	}
	c := x.waits[0]
	x.waits = x.waits[1:]
	d := x.comesTo(c, w.isReadOnly(t, who))
	d.Slot = w.slots - 1
	if d.Status == api.ErrRead {
		w.reads++
	}
	x.done = append(x.done, d)
}

// comesTo does a command to the plain places, and answers what came of it, if behind it the tenant is to be read only, or not.
func (x *tenant) comesTo(c api.Command, isReadOnly bool) api.Done {
	switch isPlace := c.Place >= 0 && c.Place < len(x.flushed); {
	case !isPlace && c.Op != api.OpFlush:
		return api.Done{Status: api.ErrRange}
	case len(c.Data) > api.MaxWords:
		return api.Done{Status: api.ErrLong}
	case c.Op == api.OpRead:
		return api.Done{Data: x.now(len(x.behind))[c.Place]}
	case isReadOnly:
		return api.Done{Status: api.ErrRead}
	case c.Op == api.OpFlush:
		x.settles(x.now(len(x.behind)))
	default:
		x.behind = append(x.behind, change{c.Place, c.Data})
	}
	return api.Done{}
}

// mounts brings the house up, or the power goes.
func (w *walk) mounts(t *testing.T, budget int) {
	t.Helper()
	err := w.Mount(budget)
	if !w.Up() {
		is(t, "Mount without power", err, api.ErrCut)
		w.falls()
		return
	}
	is(t, "Mount", err, api.OK)
	for _, who := range w.there() {
		x := &w.tenants[who]
		got := w.places(t, who)
		if !x.mayBe(got) {
			t.Fatalf("the places of tenant %d are %q; they were %q when they were flushed, then came %v", who, got, x.flushed, x.behind)
		}
		x.settles(got)
	}
}

// places are all that are read of a tenant's.
func (w *walk) places(t *testing.T, who int) []string {
	t.Helper()
	var row []string
	for place := range w.tenants[who].entry.Size {
		data, err := w.Peek(who, place)
		is(t, "Peek", err, api.OK)
		row = append(row, data)
	}
	return row
}

// holds asks whether all is as it is to be.
func (w *walk) holds(t *testing.T) {
	t.Helper()
	if w.Slots() != w.slots {
		t.Fatalf("%d slots, want %d", w.Slots(), w.slots)
	}
	for who := range w.tenants {
		if !slices.Equal(w.Done(who), w.tenants[who].done) {
			t.Fatalf("tenant %d did %+v, want %+v", who, w.Done(who), w.tenants[who].done)
		}
	}
	if !w.Up() {
		return
	}
	if l := w.Ledger(); !same(l, w.kept()) {
		t.Fatalf("the ledger is %+v, want %+v", l, w.kept())
	}
	is(t, "the ledger may be", ledger.Check(w.Ledger(), w.Array().Blocks(), w.pages), api.OK)
	if l, err := adlog.Load(w.Array()); !same(l, w.kept()) || err != api.OK {
		t.Fatalf("the ledger that is kept is %+v, error %d; want %+v", l, err, w.kept())
	}
	for _, who := range w.there() {
		w.sound(t, who)
	}
}

// sound asks what holds of a tenant while the power lasts: its places, its room, its spares, its blocks.
func (w *walk) sound(t *testing.T, who int) {
	t.Helper()
	x, s := &w.tenants[who], stat(t, w.House, who)
	if got, want := w.places(t, who), x.now(len(x.behind)); !slices.Equal(got, want) {
		t.Fatalf("the places of tenant %d are %q, want %q", who, got, want)
	}
	bad := 0
	for _, block := range x.entry.Blocks {
		if w.Array().Bad(block) {
			bad++
		}
	}
	if s.Size != x.entry.Size || s.Spare != x.entry.Spare || s.Blocks != len(x.entry.Blocks) || s.Bad != bad || bad > s.Spare {
		t.Fatalf("tenant %d: %+v, %d blocks marked, its entry is %+v", who, s, bad, x.entry)
	}
	if changes := s.Waiting - len(x.waits); changes < 0 || changes > min(api.Buffer, len(x.behind)) {
		t.Fatalf("tenant %d: %d wait, %d of them commands, behind %d changes", who, s.Waiting, len(x.waits), len(x.behind))
	}
	if s.ReadOnly && s.Faults <= bad || s.Faults > s.Ops {
		t.Fatalf("tenant %d: %+v", who, s)
	}
	if blanks := len(w.blanks(who)); !s.ReadOnly && blanks < 1+s.Spare-bad {
		t.Fatalf("tenant %d: %d blocks are blank: %+v", who, blanks, s)
	}
	w.noneStrays(t, who)
}

// noneStrays asks whether no page in a tenant's blocks is somebody else's.
func (w *walk) noneStrays(t *testing.T, who int) {
	t.Helper()
	e := w.tenants[who].entry
	for i, block := range e.Blocks {
		for page := range w.Array().Next(block) {
			f, err := scan.One(w.Array(), e.Blocks, i, page)
			is(t, "a page", err, api.OK)
			if !f.Torn && !scan.Mine(f, who, e.Epoch) {
				t.Fatalf("tenant %d, of epoch %d, has the page %+v", who, e.Epoch, f)
			}
		}
	}
}

// Scripts of api's steps. A write's data are told apart by numbers.

// drawer draws numbers below n.
func drawer(x uint32) func(n int) int {
	return func(n int) int {
		x = x*1664525 + 1013904223
		return int(x>>8) % n
	}
}

// commandDrawn is one of up to so many places, or of a few beyond.
func commandDrawn(draw func(int) int, places int, data string) api.Command {
	place := draw(places)
	if draw(30) == 0 {
		place = [...]int{-1, places, 64}[draw(3)]
	}
	switch draw(8) {
	case 0:
		return flush()
	case 1, 2:
		return read(place)
	case 3:
		return trim(place)
	}
	if draw(40) == 0 {
		data += "a text that is too long"
	}
	return write(place, data)
}

// stepDrawn is one of an array of so many blocks and pages; size is the greatest that is asked for.
func stepDrawn(draw func(int) int, size int, data string) api.Step {
	s := api.Step{Tenant: draw(api.Tenants), Other: draw(api.Tenants)}
	if draw(60) == 0 {
		s.Tenant = [...]int{-1, api.Tenants}[draw(2)]
	}
	switch draw(40) {
	case 0, 1:
		s.Kind, s.A, s.B = api.StepCreate, draw(size+2), draw(4)
	case 2:
		s.Kind, s.A = api.StepResize, draw(size+2)
	case 3:
		s.Kind, s.A = api.StepResize, 1+draw(size)
	case 4:
		if draw(2) == 0 {
			s.Kind = api.StepDestroy
			break
		}
		fallthrough
	case 5, 6:
		s.Kind = api.StepSwap
	case 7, 8, 9, 10, 11, 12, 13:
		s.Kind, s.A = api.StepSlots, draw(9)
	default:
		s.Kind, s.Command = api.StepSubmit, commandDrawn(draw, size, data)
	}
	return s
}

// step does one, of a house that is up; it ends when the power goes.
func (w *walk) step(t *testing.T, s api.Step) {
	t.Helper()
	switch s.Kind {
	case api.StepCreate:
		w.creates(t, s.Tenant, s.A, s.B)
	case api.StepResize:
		w.resizes(t, s.Tenant, s.A)
	case api.StepDestroy:
		w.destroys(t, s.Tenant)
	case api.StepSwap:
		w.swaps(t, s.Tenant, s.Other)
	case api.StepSubmit:
		w.submits(t, s.Tenant, s.Command)
	case api.StepSlots:
		for i := 0; i < s.A && w.Up(); i++ {
			w.slot(t)
		}
	}
	w.holds(t)
}

// setupDrawn is an array with some marked blocks, and tenants with faults.
func setupDrawn(draw func(int) int) api.Setup {
	s := api.Setup{Geometry: geometry(8+draw(40), 2+draw(5))}
	if draw(4) == 0 {
		s.Geometry.Pages = 2 + draw(15)
	}
	for who := range s.Faults {
		for range draw(8) {
			s.Faults[who] = append(s.Faults[who], 1+draw(250))
		}
	}
	for range draw(3) {
		s.Marked = append(s.Marked, 2+draw(6))
	}
	return s
}

// P1, P4, P21.1, P21.2

// TestWalks holds drawn scripts without cuts against plain rows of places.
func TestWalks(t *testing.T) {
	done, reads, gens := 0, 0, 0
	for seed := range 120 {
		draw := drawer(uint32(seed))
		w := walkOf(t, setupDrawn(draw))
		size := 1 + draw(2+seed%30)
		for i := range 600 {
			w.step(t, stepDrawn(draw, size, strconv.Itoa(i)))
		}
		for who := range w.tenants {
			done += len(w.tenants[who].done)
		}
		reads, gens = reads+w.reads, gens+w.gen
		if w.cut != 0 {
			t.Fatal("the power went")
		}
	}
	if done < 15000 || reads < 500 || gens < 4000 {
		t.Errorf("%d commands were done, %d of them by tenants to be read only; %d ledgers were kept", done, reads, gens)
	}
}

// P2, P21.2, P21.3

// TestWalksWithCuts has the power go again and again, in commands, admin's steps and mountings.
func TestWalksWithCuts(t *testing.T) {
	cut, done, gens := 0, 0, 0
	for seed := range 150 {
		draw := drawer(uint32(1000 + seed))
		w := walkOf(t, setupDrawn(draw))
		size := 1 + draw(2+seed%30)
		for i := range 500 {
			switch {
			case !w.Up():
				w.mounts(t, draw(4)-1)
				w.holds(t)
				continue
			case draw(12) == 0:
				w.Budget(draw(12))
			case draw(60) == 0:
				w.Cut()
				w.falls()
				w.holds(t)
				continue
			}
			w.step(t, stepDrawn(draw, size, strconv.Itoa(i)))
		}
		for who := range w.tenants {
			done += len(w.tenants[who].done)
		}
		cut, gens = cut+w.cut, gens+w.gen
	}
	if cut < 1900 || done < 12000 || gens < 3500 {
		t.Errorf("the power went %d times, %d commands were done, %d ledgers were kept", cut, done, gens)
	}
}

// lives has steps be done, the power going behind so many operations. The next budgets are for what comes behind that: for the mounting and, anew, for the steps that are left. It answers whether the power went with the last one.
func lives(t *testing.T, s api.Setup, steps []api.Step, budgets ...int) bool {
	t.Helper()
	w := walkOf(t, s)
	w.Budget(budgets[0])
	left, isCut := budgets[1:], false
	for _, s := range steps {
		w.step(t, s)
		for !w.Up() {
			budget := -1
			if len(left) > 0 {
				budget, left = left[0], left[1:]
			} else {
				isCut = true
			}
			w.mounts(t, budget)
			w.Budget(budget)
			w.holds(t)
		}
	}
	w.Cut()
	w.falls()
	w.mounts(t, -1)
	w.holds(t)
	return isCut
}

// cuts has the power go in each operation of steps, and again in each of the first ones behind that; it answers how many runs there were.
func cuts(t *testing.T, s api.Setup, steps []api.Step, firsts int) int {
	t.Helper()
	runs := 1
	for budget := 0; lives(t, s, steps, budget); budget++ {
		runs++
		for again := 0; again < firsts && lives(t, s, steps, budget, again); again++ {
			runs++
		}
	}
	return runs
}

// story is a script in which all kinds of steps come, in a small array.
func story(seed int) []api.Step {
	draw := drawer(uint32(seed))
	steps := []api.Step{
		{Kind: api.StepCreate, Tenant: 0, A: 3, B: 1},
		{Kind: api.StepCreate, Tenant: 1, A: 2 + draw(3), B: draw(2)},
	}
	busy := func(n int) {
		for i := range n {
			for who := range 3 {
				steps = append(steps, api.Step{Kind: api.StepSubmit, Tenant: who, Command: commandDrawn(draw, 3, strconv.Itoa(len(steps)+i))})
			}
			steps = append(steps, api.Step{Kind: api.StepSlots, A: 4})
		}
	}
	for _, s := range []api.Step{
		{Kind: api.StepSwap, Tenant: 0, Other: 1},
		{Kind: api.StepResize, Tenant: 0, A: 1 + draw(2)},
		{Kind: api.StepDestroy, Tenant: 1},
		{Kind: api.StepCreate, Tenant: 2, A: 4, B: 0},
		{Kind: api.StepResize, Tenant: 0, A: 4 + draw(4)},
		{Kind: api.StepSwap, Tenant: 2, Other: 0},
	} {
		busy(4)
		steps = append(steps, s)
	}
	busy(3)
	return steps
}

// TestCuts has the power go in each operation of stories, and again in each of the first ones behind it.
func TestCuts(t *testing.T) {
	runs := 0
	for seed := range 6 {
		s := api.Setup{Geometry: geometry(14, 2+seed%3)}
		runs += cuts(t, s, story(seed), 5)
	}
	if runs < 1000 {
		t.Errorf("only %d runs", runs)
	}
}

// TestCutsAmongFaults has it go while operations fail, too.
func TestCutsAmongFaults(t *testing.T) {
	runs := 0
	for seed := range 3 {
		for first := range 12 {
			s := api.Setup{Geometry: geometry(14, 3), Marked: []int{4}, Faults: [api.Tenants][]int{{1 + first, 1 + 2*first}, {2 + first}, {1 + first/2}}}
			runs += cuts(t, s, story(50+seed), 1)
		}
	}
	if runs < 1000 {
		t.Errorf("only %d runs", runs)
	}
}

// TestMountingEnds has the power go in the first operations of each mounting, many times, and then come back.
func TestMountingEnds(t *testing.T) {
	for seed := range 12 {
		s := api.Setup{Geometry: geometry(14, 2+seed%4), Faults: [api.Tenants][]int{{3 + seed}, {5}, {2}}}
		for budget := 0; budget < 60; budget += 2 {
			lives(t, s, story(100+seed), append([]int{budget}, make([]int, 20)...)...)
			lives(t, s, story(100+seed), append([]int{budget}, slices.Repeat([]int{1, 0}, 10)...)...)
		}
	}
}

// TestAdminsStepsAreWhole has the power go in each operation of each admin's step: the ledger is as it was, and so is all else, till the step is asked again.
func TestAdminsStepsAreWhole(t *testing.T) {
	for _, s := range []api.Step{
		{Kind: api.StepCreate, Tenant: 3, A: 9, B: 1},
		{Kind: api.StepDestroy, Tenant: 1},
		{Kind: api.StepResize, Tenant: 0, A: 9},
		{Kind: api.StepResize, Tenant: 0, A: 2},
		{Kind: api.StepResize, Tenant: 1, A: 20},
		{Kind: api.StepSwap, Tenant: 1, Other: 0},
	} {
		budget := 0
		for isCut := true; isCut; budget++ {
			w := walkOf(t, api.Setup{Geometry: geometry(20, 4)})
			w.creates(t, 2, 12, 0)
			w.creates(t, 0, 6, 0)
			w.creates(t, 1, 5, 1)
			for i := range 12 {
				for who := range 3 {
					w.submits(t, who, write(i%5, strconv.Itoa(i)))
					w.submits(t, who, flush())
				}
				w.step(t, api.Step{Kind: api.StepSlots, A: 8})
			}
			w.resizes(t, 0, 5)
			w.destroys(t, 2) // so that not all free blocks are blank
			w.submits(t, 0, write(4, "waits"))
			w.submits(t, 1, write(4, "waits"))
			w.step(t, api.Step{Kind: api.StepSlots, A: 4})
			w.Budget(budget)
			w.step(t, s)
			isCut = !w.Up()
			w.Budget(-1)
			if isCut {
				w.mounts(t, -1)
				w.holds(t)
				gen := w.gen
				w.step(t, s)
				if w.gen != gen+1 {
					t.Fatalf("%+v isn't done", s)
				}
			}
			w.Cut()
			w.falls()
			w.mounts(t, -1)
			w.holds(t)
		}
		if budget < 2 {
			t.Errorf("%+v takes no operation", s)
		}
	}
}

// P3

// isolated does steps to a house, and answers what each tenant did.
func isolated(t *testing.T, s api.Setup, steps []api.Step, cutAt []int) [api.Tenants][]api.Done {
	t.Helper()
	w := walkOf(t, s)
	for i, step := range steps {
		w.step(t, step)
		if slices.Contains(cutAt, i) {
			w.Cut()
			w.falls()
			w.mounts(t, -1)
		}
	}
	var all [api.Tenants][]api.Done
	for who := range all {
		all[who] = w.Done(who)
	}
	return all
}

// TestNobodyIsDisturbed changes what one tenant is asked, and what of it fails: the others are told the same, in the same slots.
func TestNobodyIsDisturbed(t *testing.T) {
	told := 0
	for seed := range 60 {
		draw := drawer(uint32(2000 + seed))
		s := api.Setup{Geometry: geometry(40, 2+draw(4))}
		for who := range s.Faults {
			for range draw(4) {
				s.Faults[who] = append(s.Faults[who], 1+draw(60))
			}
		}
		one := draw(api.Tenants)
		var steps, others []api.Step
		for who := range api.Tenants {
			steps = append(steps, api.Step{Kind: api.StepCreate, Tenant: who, A: 1 + draw(6), B: draw(3)})
		}
		others = slices.Clone(steps)
		var cutAt []int
		for i := range 300 {
			x := stepDrawn(draw, 6, strconv.Itoa(i))
			isOnes := x.Tenant == one
			switch {
			case isOnes && (x.Kind == api.StepCreate || x.Kind == api.StepResize || x.Kind == api.StepDestroy):
				continue
			case x.Kind == api.StepCreate && x.Tenant >= 0 && x.Tenant < api.Tenants:
				continue
			}
			steps = append(steps, x)
			if isOnes && x.Kind == api.StepSubmit {
				x.Command = commandDrawn(draw, 6, "other")
			}
			others = append(others, x)
			if draw(50) == 0 {
				cutAt = append(cutAt, len(steps)-1)
			}
		}
		was := isolated(t, s, steps, cutAt)
		s.Faults[one] = nil
		for range draw(10) {
			s.Faults[one] = append(s.Faults[one], 1+draw(60))
		}
		is := isolated(t, s, others, cutAt)
		for who := range api.Tenants {
			if who == one {
				continue
			}
			told += len(was[who])
			if !slices.Equal(was[who], is[who]) {
				t.Fatalf("tenant %d did %+v, and %+v with another tenant %d", who, was[who], is[who], one)
			}
		}
	}
	if told < 3000 {
		t.Errorf("the others were told %d times", told)
	}
}
