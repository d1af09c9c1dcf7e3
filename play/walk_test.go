package play

import (
	"reflect"
	"slices"
	"strconv"
	"testing"

	"almshouse/api"
	"almshouse/house"
	"almshouse/model"
	"almshouse/script"
)

// drawer draws numbers below n, the same ones each time.
func drawer(x uint32) func(n int) int {
	return func(n int) int {
		x = x*1664525 + 1013904223
		return int(x>>8) % n
	}
}

// commandDrawn is one; data tells a write from others.
func commandDrawn(draw func(int) int, data string) api.Command {
	switch draw(12) {
	case 0, 1:
		return api.Command{Op: api.OpRead, Place: draw(13) - 1}
	case 2, 3:
		return api.Command{Op: api.OpFlush}
	case 4:
		return api.Command{Op: api.OpTrim, Place: draw(12)}
	case 5:
		return api.Command{Op: api.OpWrite, Place: draw(12), Data: data + ", which is too long"}
	}
	return api.Command{Op: api.OpWrite, Place: draw(12), Data: data}
}

// stepDrawn is a step that can be written, and isn't a cut.
func stepDrawn(draw func(int) int, data string) api.Step {
	who := draw(api.Tenants)
	switch draw(32) {
	case 0, 1, 2, 3:
		return create(who, 1+draw(12), 2+draw(2))
	case 4:
		return resize(who, draw(13))
	case 5:
		return swap(who, draw(api.Tenants))
	case 6:
		return destroy(draw(api.Tenants+2) - 1)
	case 7, 8, 9, 10, 11:
		return pause(draw(16) - 1)
	}
	return submit(who, commandDrawn(draw, data))
}

// cutDrawn is a cut, or a mounting.
func cutDrawn(draw func(int) int) api.Step {
	if draw(3) == 0 {
		return cutIn(draw(10)-2, draw(8)-1)
	}
	return mounting(draw(5) - 1)
}

// scriptDrawn is of so many steps, some of them cuts or mountings.
func scriptDrawn(draw func(int) int, count int, hasCuts bool) []api.Step {
	var l []api.Step
	for i := range count {
		if hasCuts && draw(12) == 0 {
			l = append(l, cutDrawn(draw))
		} else {
			l = append(l, stepDrawn(draw, strconv.Itoa(i)))
		}
	}
	return l
}

// setupDrawn is an array in which blocks never lack; each tenant has at most so many faults.
func setupDrawn(draw func(int) int, faults int) api.Setup {
	s := api.Setup{Geometry: api.Geometry{Channels: 1 + draw(2), Dies: 1 + draw(2), Blocks: 16, Pages: 2 + draw(5)}}
	if s.Geometry.Channels*s.Geometry.Dies < 4 {
		s.Geometry = setup(api.MaxBlocks, s.Geometry.Pages).Geometry
	}
	for who := range s.Faults {
		for range draw(faults + 1) {
			s.Faults[who] = append(s.Faults[who], 1+draw(40))
		}
	}
	return s
}

// rows are what plain places tell of a script without cuts, whose tenants are never to be read only.
type rows struct {
	model *model.Model
	done  [api.Tenants][]api.Done
}

// slot is the next one.
func (r *rows) slot() {
	if who, d, ok := r.model.Slot(nil); ok {
		r.done[who] = append(r.done[who], d)
	}
}

// step does a step that came to an error in a house, and tells what it comes to.
func (r *rows) step(s api.Step, came api.Errno) api.Errno {
	switch {
	case s.Kind == api.StepSubmit:
		return r.model.Submit(s.Tenant, s.Command)
	case s.Kind == api.StepSlots:
		for range s.A {
			r.slot()
		}
	case came != api.OK:
	case s.Kind == api.StepCreate:
		r.model.Create(s.Tenant, s.A)
		r.done[s.Tenant] = nil
	case s.Kind == api.StepResize:
		r.model.Resize(s.Tenant, s.A)
	case s.Kind == api.StepDestroy:
		r.model.Destroy(s.Tenant)
	}
	return came
}

// places are a tenant's, and whether it is there.
func (r *rows) places(who int) ([]string, api.Errno) {
	if !r.model.There(who) {
		return nil, api.ErrNone
	}
	var row []string
	for place := range r.model.Size(who) {
		row = append(row, r.model.Place(who, place))
	}
	return row, api.OK
}

// TestDrawnScriptsTellWhatPlainRowsTell plays scripts without cuts, with fewer faults than spares.
func TestDrawnScriptsTellWhatPlainRowsTell(t *testing.T) {
	came := map[api.Errno]int{}
	told, filled := 0, 0
	for seed := range 150 {
		draw := drawer(uint32(seed))
		s := setupDrawn(draw, 2)
		l := scriptDrawn(draw, 400, false)
		h, errs, err := Play(s, l)
		if err != api.OK || len(errs) != len(l) {
			t.Fatalf("seed %d: %d steps came to %d errors, error %d", seed, len(l), len(errs), err)
		}
		r := rows{model: model.New()}
		for i, x := range l {
			if want := r.step(x, errs[i]); errs[i] != want {
				t.Fatalf("seed %d: %+v came to error %d, want %d", seed, x, errs[i], want)
			}
			if errs[i] == api.ErrRead && x.Kind == api.StepResize {
				t.Fatalf("seed %d: %+v was refused", seed, x)
			}
			came[errs[i]]++
		}
		for who, got := range Done(h) {
			if !slices.Equal(got, r.done[who]) {
				t.Fatalf("seed %d: tenant %d did %+v, want %+v", seed, who, got, r.done[who])
			}
			told += len(got)
			row, err := Places(h, who)
			want, wantErr := r.places(who)
			if err != wantErr || !slices.Equal(row, want) {
				t.Fatalf("seed %d: the places of tenant %d are %q, error %d, want %q, error %d", seed, who, row, err, want, wantErr)
			}
			for _, data := range row {
				filled += min(1, len(data))
			}
		}
	}
	for _, err := range []api.Errno{api.OK, api.ErrArg, api.ErrRange, api.ErrNone, api.ErrTwice, api.ErrFull} {
		if came[err] < 10 {
			t.Errorf("error %d came %d times", err, came[err])
		}
	}
	if told < 2000 || filled < 200 {
		t.Errorf("%d commands were told, and %d places filled: too few", told, filled)
	}
}

// P26.2

// result is all that comes of a script.
type result struct {
	state  state
	came   []api.Errno
	err    api.Errno
	done   [api.Tenants][]api.Done
	places [api.Tenants][]string
	errs   [api.Tenants]api.Errno
}

// resultOf is what came of one.
func resultOf(h *house.House, came []api.Errno, err api.Errno) result {
	x := result{came: came, err: err, done: Done(h)}
	if h != nil {
		x.state = stateOf(h)
	}
	for who := range api.Tenants {
		x.places[who], x.errs[who] = Places(h, who)
	}
	return x
}

// TestTheSameComesToTheSame plays drawn scripts, with cuts and faults, again and again, as text, too; others are played meanwhile.
func TestTheSameComesToTheSame(t *testing.T) {
	came := map[api.Errno]int{}
	up := map[bool]int{}
	for seed := range 100 {
		draw := drawer(uint32(7000 + seed))
		s, l := setupDrawn(draw, 6), scriptDrawn(draw, 300, true)
		s.Marked = []int{2 + draw(40), 2 + draw(40)}
		want := resultOf(Play(s, l))
		is(t, "Play", want.err, api.OK)
		for _, e := range want.came {
			came[e]++
		}
		up[want.state.up]++
		Play(setupDrawn(draw, 6), scriptDrawn(draw, 100, true))
		if again := resultOf(Play(s, l)); !reflect.DeepEqual(again, want) {
			t.Fatalf("seed %d came to %+v, and then to %+v", seed, want, again)
		}
		text, ok := script.Print(s, l)
		if again := resultOf(Text(text)); !ok || !reflect.DeepEqual(again, want) {
			t.Fatalf("seed %d came to %+v, and as text to %+v", seed, want, again)
		}
	}
	for _, err := range []api.Errno{api.OK, api.ErrArg, api.ErrRange, api.ErrNone, api.ErrTwice, api.ErrFull, api.ErrCut} {
		if came[err] < 10 {
			t.Errorf("error %d came %d times", err, came[err])
		}
	}
	if up[true] < 10 || up[false] < 10 {
		t.Errorf("up at the end, or not: %v", up)
	}
}

// TestSeveralAtOnce plays one script in several goroutines: each has its own house.
func TestSeveralAtOnce(t *testing.T) {
	draw := drawer(26)
	s, l := setupDrawn(draw, 6), scriptDrawn(draw, 300, true)
	want := resultOf(Play(s, l))
	got := make(chan result)
	const count = 8
	for range count {
		go func() { got <- resultOf(Play(s, l)) }()
	}
	for range count {
		if x := <-got; !reflect.DeepEqual(x, want) {
			t.Errorf("it came to %+v, want %+v", x, want)
		}
	}
}

// TestAllArgumentsEnd plays steps of any numbers.
func TestAllArgumentsEnd(t *testing.T) {
	numbers := append([]int{0, 1, 2, 3, 5, 8, api.MaxSize, api.MaxSteps, api.MaxSteps + 1}, nobodies...)
	draw := drawer(99)
	one := func() int { return numbers[draw(len(numbers))] }
	for range 300 {
		s := setupDrawn(draw, 6)
		var l []api.Step
		for range 60 {
			l = append(l, api.Step{Kind: draw(11) - 1, Tenant: draw(5), Other: one(), A: one(), B: one(), Command: api.Command{Op: draw(6), Place: one()}})
		}
		if draw(4) == 0 {
			s.Geometry = api.Geometry{Channels: one(), Dies: one(), Blocks: one(), Pages: one()}
		}
		h, came, err := Play(s, l)
		if err == api.OK && len(came) != len(l) || err != api.OK && (h != nil || came != nil) {
			t.Fatalf("%d steps came to %v, error %d", len(l), came, err)
		}
		for who := range api.Tenants {
			Places(h, who)
		}
	}
}
