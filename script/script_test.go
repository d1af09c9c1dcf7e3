package script

import (
	"math"
	"reflect"
	"slices"
	"strings"
	"testing"

	"almshouse/api"
)

// same asks whether setups are alike; what is nil and what is empty are one.
func same(a, b api.Setup) bool {
	for who := range api.Tenants {
		if !slices.Equal(a.Faults[who], b.Faults[who]) {
			return false
		}
	}
	return a.Geometry == b.Geometry && slices.Equal(a.Marked, b.Marked)
}

// command is a step that submits one.
func command(tenant, op, place int, data string) api.Step {
	return api.Step{Kind: api.StepSubmit, Tenant: tenant, Command: api.Command{Op: op, Place: place, Data: data}}
}

// all256 are all bytes, and their word.
func all256() (text, word string) {
	const half = "0123456789abcdef"
	for n := range 256 {
		text += string([]byte{byte(n)})
		word += half[n/16:n/16+1] + half[n%16:n%16+1]
	}
	return text, word
}

// written is a line, and its step.
type written struct {
	line string
	step api.Step
}

// lines are lines of all kinds, with small and great numbers, and texts of all bytes.
func lines() []written {
	text, word := all256()
	return []written{
		{"create 0 1 0", api.Step{Kind: api.StepCreate, A: 1}},
		{"create 3 64 8", api.Step{Kind: api.StepCreate, Tenant: 3, A: 64, B: 8}},
		{"create -1 9223372036854775807 -9223372036854775808", api.Step{Kind: api.StepCreate, Tenant: -1, A: math.MaxInt, B: math.MinInt}},
		{"create 0 0 0", api.Step{Kind: api.StepCreate}},
		{"resize 2 7", api.Step{Kind: api.StepResize, Tenant: 2, A: 7}},
		{"resize 0 -7", api.Step{Kind: api.StepResize, A: -7}},
		{"destroy 1", api.Step{Kind: api.StepDestroy, Tenant: 1}},
		{"destroy 0", api.Step{Kind: api.StepDestroy}},
		{"swap 1 2", api.Step{Kind: api.StepSwap, Tenant: 1, Other: 2}},
		{"swap 0 -4", api.Step{Kind: api.StepSwap, Other: -4}},
		{"read 1 2", command(1, api.OpRead, 2, "")},
		{"read 0 0", command(0, api.OpRead, 0, "")},
		{"write 1 3 6869", command(1, api.OpWrite, 3, "hi")},
		{"write 0 0 -", command(0, api.OpWrite, 0, "")},
		{"write 0 0 2d", command(0, api.OpWrite, 0, "-")},
		{"write 0 -1 00", command(0, api.OpWrite, -1, "\x00")},
		{"write 0 1 c3a40aff20", command(0, api.OpWrite, 1, "ä\n\xff ")},
		{"write -9 63 " + word, command(-9, api.OpWrite, 63, text)},
		{"trim 3 63", command(3, api.OpTrim, 63, "")},
		{"flush 2", command(2, api.OpFlush, 0, "")},
		{"flush 0", command(0, api.OpFlush, 0, "")},
		{"slots 4", api.Step{Kind: api.StepSlots, A: 4}},
		{"slots 0", api.Step{Kind: api.StepSlots}},
		{"cut 5 0", api.Step{Kind: api.StepCut, A: 5}},
		{"cut -2 10", api.Step{Kind: api.StepCut, A: -2, B: 10}},
		{"mount -1", api.Step{Kind: api.StepMount, A: -1}},
		{"mount 100", api.Step{Kind: api.StepMount, A: 100}},
	}
}

// P25.1: Setup.

// setups are setups, and their lines.
func setups() map[string]api.Setup {
	g := api.Geometry{Channels: 1, Dies: 2, Blocks: 9, Pages: 4}
	many := make([]int, api.MaxDraws+9)
	return map[string]api.Setup{
		"array 0 0 0 0\n":                      {},
		"array 1 2 9 4\n":                      {Geometry: g, Marked: []int{}, Faults: [api.Tenants][]int{{}, {}}},
		"array -1 -20 0 9223372036854775807\n": {Geometry: api.Geometry{Channels: -1, Dies: -20, Pages: math.MaxInt}},
		"array 1 2 9 4\nfault 0 1\n":           {Geometry: g, Faults: [api.Tenants][]int{{1}}},
		"array 1 2 9 4\nfault 3 7 5 7 0 -9\n":  {Geometry: g, Faults: [api.Tenants][]int{3: {7, 5, 7, 0, -9}}},
		"array 1 2 9 4\nfault 0 2\nfault 2 5 7\nmarked 5\n": {
			Geometry: g, Faults: [api.Tenants][]int{{2}, nil, {5, 7}}, Marked: []int{5},
		},
		"array 1 2 9 4\nfault 0 1\nfault 1 2\nfault 2 3\nfault 3 4\nmarked 8 2 2 -1\n": {
			Geometry: g, Faults: [api.Tenants][]int{{1}, {2}, {3}, {4}}, Marked: []int{8, 2, 2, -1},
		},
		"array 1 2 9 4\nmarked 0\n": {Geometry: g, Marked: []int{0}},
		"array 1 2 9 4\nfault 1" + strings.Repeat(" 0", len(many)) + "\nmarked" + strings.Repeat(" 0", len(many)) + "\n": {
			Geometry: g, Faults: [api.Tenants][]int{nil, many}, Marked: many,
		},
	}
}

func TestASetupHasItsLines(t *testing.T) {
	for text, s := range setups() {
		want := strings.Split(strings.TrimSuffix(text, "\n"), "\n")
		if got := Setup(s); !slices.Equal(got, want) {
			t.Errorf("the lines of %+v are %q, want %q", s, got, want)
		}
	}
}

func TestLinesOfASetupAreNewAndLeaveItAsItIs(t *testing.T) {
	s := api.Setup{Faults: [api.Tenants][]int{{3, 1}, nil, {2}}, Marked: []int{9, 4}}
	first := Setup(s)
	first[0] = "spoilt"
	if again := Setup(s); again[0] != "array 0 0 0 0" {
		t.Errorf("the lines are %q now", again)
	}
	if !same(s, api.Setup{Faults: [api.Tenants][]int{{3, 1}, nil, {2}}, Marked: []int{9, 4}}) {
		t.Errorf("the setup is %+v now", s)
	}
}

// P25.1: Line and Step.

func TestAStepHasItsLine(t *testing.T) {
	for _, w := range lines() {
		if got, ok := Line(w.step); got != w.line || !ok {
			t.Errorf("the line of %+v is %q, %t, want %q", w.step, got, ok, w.line)
		}
	}
}

func TestALineIsReadAsItsStep(t *testing.T) {
	for _, w := range lines() {
		if got, ok := Step(w.line); got != w.step || !ok {
			t.Errorf("%q is %+v, %t, want %+v", w.line, got, ok, w.step)
		}
	}
}

func TestNoOtherKindCanBeWritten(t *testing.T) {
	odd := []int{math.MinInt, -8, -1, 0, 9, 10, 1 << 32, 1<<32 + 1, math.MaxInt}
	for _, n := range odd {
		if line, ok := Line(api.Step{Kind: n}); line != "" || ok {
			t.Errorf("a step of kind %d is %q, %t", n, line, ok)
		}
	}
	for _, op := range append(odd, 5, 6, 7, 8) {
		if line, ok := Line(command(1, op, 0, "")); line != "" || ok {
			t.Errorf("a command of op %d is %q, %t", op, line, ok)
		}
	}
}

// fields are a step's numbers and text; each is to have a value.
func fields(s *api.Step, value int) map[string]func() {
	return map[string]func(){
		"Tenant": func() { s.Tenant = value },
		"Other":  func() { s.Other = value },
		"A":      func() { s.A = value },
		"B":      func() { s.B = value },
		"Place":  func() { s.Command.Place = value },
		"Data":   func() { s.Command.Data = "x" },
	}
}

// TestAllThatALineDoesntTellIsZero gives each field of each kind of step a value: it can be written, if its line tells the field, and not, if it doesn't.
func TestAllThatALineDoesntTellIsZero(t *testing.T) {
	told := map[string]string{
		"create": "Tenant A B", "resize": "Tenant A", "destroy": "Tenant", "swap": "Tenant Other",
		"read": "Tenant Place", "write": "Tenant Place Data", "trim": "Tenant Place", "flush": "Tenant",
		"slots": "A", "cut": "A B", "mount": "A",
	}
	for _, w := range lines() {
		name, _, _ := strings.Cut(w.line, " ")
		for _, value := range []int{math.MinInt, -3, 3, math.MaxInt} {
			for field := range fields(&api.Step{}, 0) {
				s := w.step
				fields(&s, value)[field]()
				want := slices.Contains(strings.Fields(told[name]), field)
				line, ok := Line(s)
				if ok != want || !ok && line != "" {
					t.Errorf("%+v is %q, %t, want %t", s, line, ok, want)
				}
				if back, read := Step(line); want && (!read || back != s) {
					t.Errorf("%q is %+v, %t, want %+v", line, back, read, s)
				}
			}
		}
	}
}

// TestOnlyACommandsStepHasOne gives steps of other kinds a command's op.
func TestOnlyACommandsStepHasOne(t *testing.T) {
	for _, w := range lines() {
		for op := -1; op <= 9; op++ {
			s := w.step
			s.Command.Op = op
			if line, ok := Line(s); s.Kind != api.StepSubmit && ok != (op == 0) {
				t.Errorf("%+v is %q, %t", s, line, ok)
			}
		}
	}
}

// odd are lines of which none is a step's.
func odd() []string {
	return []string{
		"", " ", "-", "0", "\n", "create", "flush", "slots", "mount", "write", "hello 1", "hello",
		"create ", "create 0", "create 0 1", "create 0 1 ", "create 0 1 0 ", "create 0 1 0 0", " create 0 1 0", "create  0 1 0",
		"create 0  1 0", "create\t0 1 0", "create 0 1 0\n", "create 0 1 0\r", "Create 0 1 0", "creat 0 1 0", "create0 1 0", "create 0 1 -",
		"create 0 1 0x1", "create 0 1 1.0", "create 0 1 1e1", "create 0 1 1_0", "create 0 1 ٣", "create 0 1 a",
		"slots +4", "slots 04", "slots -0", "slots 00", "slots -04", "slots --4", "slots 4-", "slots ", "slots 4 4", "slots 4 ", "slots  4",
		"slots 9223372036854775808", "slots -9223372036854775809", "slots 18446744073709551620", "slots 99999999999999999999999",
		"mount", "mount -", "mount 1 1", "cut 1", "cut 1 2 3", "cut", "resize 1", "resize 1 2 3", "destroy", "destroy 1 2", "swap 1", "swap 1 2 3",
		"read 1", "read 1 2 3", "read 1 2 -", "read 1 2 6869", "trim 1", "trim 1 2 -", "trim 1 2 3", "flush", "flush 1 0", "flush 1 -",
		"write 1", "write 1 2", "write 1 2 ", "write 1 2 6", "write 1 2 686", "write 1 2 6869 ", "write 1 2 6869 -", "write 1 2 68 69",
		"write 1 6869", "write - 1 6869", "write 1 2 3 6869", "write 1 2 6A", "write 1 2 6g", "write 1 2 g6", "write 1 2 A6", "write 1 2 --",
		"write 1 2 6-", "write 1 2 -6", "write 1 2 -68", "write 1 2 68-", "write 1 2 0x68", "write 1 2 \xff\xff", "write 1 2 ää", "write 1 2 \"hi\"", "write  1 2 6869", "write 1 2  6869",
		"submit 1 2", "array 1 1 9 4", "fault 0 1", "marked 1", "array", "fault", "marked",
	}
}

func TestNoStepIsReadOfOtherLines(t *testing.T) {
	for _, line := range odd() {
		if s, ok := Step(line); s != (api.Step{}) || ok {
			t.Errorf("%q is %+v, %t", line, s, ok)
		}
	}
}

func TestALineOfVeryManyWordsIsNoStep(t *testing.T) {
	for _, w := range lines() {
		for _, more := range []string{" 1", " -", " 00", " "} {
			line := w.line + strings.Repeat(more, 1000)
			if s, ok := Step(line); s != (api.Step{}) || ok {
				t.Errorf("%q, and very many words, is %+v, %t", w.line, s, ok)
			}
		}
	}
}

func TestATextOfAWriteMayBeVeryLong(t *testing.T) {
	s := command(1, api.OpWrite, 2, strings.Repeat("\x0fz", 1<<16))
	line, ok := Line(s)
	if line != "write 1 2 "+strings.Repeat("0f7a", 1<<16) || !ok {
		t.Fatalf("a line of %d bytes, %t", len(line), ok)
	}
	if back, ok := Step(line); back != s || !ok {
		t.Errorf("the step is another one, %t", ok)
	}
}

// P25.1: Print.

func TestAScriptsTextIsItsLines(t *testing.T) {
	var steps []api.Step
	text := ""
	for _, w := range lines() {
		steps = append(steps, w.step)
		text += w.line + "\n"
	}
	for ahead, s := range setups() {
		if got, ok := Print(s, nil); got != ahead || !ok {
			t.Errorf("without steps, %+v is %q, %t, want %q", s, got, ok, ahead)
		}
		if got, ok := Print(s, steps); got != ahead+text || !ok {
			t.Errorf("%+v is %q, %t, want %q", s, got, ok, ahead+text)
		}
	}
}

func TestNothingIsPrintedIfAStepCantBeWritten(t *testing.T) {
	good := api.Step{Kind: api.StepSlots, A: 4}
	for _, bad := range []api.Step{{}, {Kind: 9}, {Kind: api.StepSlots, A: 4, B: 1}, command(0, 0, 0, ""), command(0, api.OpRead, 0, "x")} {
		for _, l := range [][]api.Step{{bad}, {bad, good}, {good, bad}, {good, bad, good}} {
			if text, ok := Print(api.Setup{}, l); text != "" || ok {
				t.Errorf("%+v is %q, %t", l, text, ok)
			}
		}
	}
}

func TestPrintLeavesWhatItIsHandedAsItIs(t *testing.T) {
	s := api.Setup{Faults: [api.Tenants][]int{{3, 1}}, Marked: []int{9, 4}}
	l := []api.Step{command(2, api.OpWrite, 1, "hi"), {Kind: api.StepCut, A: 1, B: 2}}
	kept := slices.Clone(l)
	Print(s, l)
	if !slices.Equal(l, kept) || !same(s, api.Setup{Faults: [api.Tenants][]int{{3, 1}}, Marked: []int{9, 4}}) {
		t.Errorf("they are %+v and %+v now", s, l)
	}
}

// P25.1: Parse.

// refused holds that a text isn't taken, and that nothing is told beside the error.
func refused(t *testing.T, text string, want api.Errno) {
	t.Helper()
	s, l, e := Parse(text)
	if e != want || l != nil || !reflect.DeepEqual(s, api.Setup{}) {
		t.Errorf("%.80q is %+v, %d steps, %d, want %d", text, s, len(l), e, want)
	}
}

// taken holds that a text is taken as a script's.
func taken(t *testing.T, text string, s api.Setup, l []api.Step) {
	t.Helper()
	gotS, gotL, e := Parse(text)
	if e != api.OK || !same(gotS, s) || !slices.Equal(gotL, l) {
		t.Errorf("%.80q is %+v, %+v, %d, want %+v, %+v", text, gotS, gotL, e, s, l)
	}
}

func TestATextIsReadAsItsScript(t *testing.T) {
	for text, s := range setups() {
		taken(t, text, s, nil)
		for _, w := range lines() {
			taken(t, text+w.line+"\n", s, []api.Step{w.step})
			taken(t, text+w.line+"\nslots 1\n"+w.line+"\n", s, []api.Step{w.step, {Kind: api.StepSlots, A: 1}, w.step})
		}
	}
}

func TestEachLineIsEnded(t *testing.T) {
	for _, text := range []string{
		"", "array 1 1 9 4", "array 1 1 9 4\nslots 1", "array 1 1 9 4\nfault 0 1", "array 1 1 9 4\nmarked 3",
		"array 1 1 9 4\r", "array 1 1 9 4\r\n", "array 1 1 9 4\n\r", "array 1 1 9 4\nslots 1\r\n", "array 1 1 9 4\x00", "slots 1", "hello",
	} {
		refused(t, text, api.ErrForm)
	}
}

func TestTheFirstLineIsTheArrays(t *testing.T) {
	for _, text := range []string{
		"\n", " \n", "slots 1\n", "fault 0 1\n", "marked 1\n", "slots 1\narray 1 1 9 4\n", "fault 0 1\narray 1 1 9 4\n", "marked 1\narray 1 1 9 4\n",
		"\narray 1 1 9 4\n", "array\n", "array \n", "array 1 1 9\n", "array 1 1 9 \n", "array 1 1 9 4 \n", "array 1 1 9 4 1\n", "array 1 1 9 x\n",
		"array  1 1 9 4\n", " array 1 1 9 4\n", "array 1  1 9 4\n", "Array 1 1 9 4\n", "array 01 1 9 4\n", "array 1 +1 9 4\n", "array 1 1 9 -0\n", "array 1 1 - 4\n",
		"array 1 1 9 9223372036854775808\n", "array 1 1 9 4 1 1 1\n", "array" + strings.Repeat(" 1", 1000) + "\n",
	} {
		refused(t, text, api.ErrForm)
	}
}

func TestLinesOfASetupStandInOrderAndOnce(t *testing.T) {
	for _, text := range []string{
		"array 1 1 9 4\n", "fault 0 1\nfault 0 2\n", "fault 0 1\nfault 0 1\n", "fault 1 1\nfault 0 2\n", "fault 3 1\nfault 2 1\n",
		"fault 0 1\nfault 2 1\nfault 1 1\n", "fault 0 1\nfault 3 1\nfault 0 1\n", "marked 1\nfault 0 1\n", "marked 1\nfault 3 1\n", "marked 1\nmarked 1\n",
		"marked 1\nmarked 2\n", "fault 0 1\narray 1 1 9 4\n", "marked 1\narray 1 1 9 4\n", "slots 1\nfault 0 1\n", "slots 1\nfault 3 1\n",
		"slots 1\nmarked 1\n", "slots 1\narray 1 1 9 4\n", "fault 0 1\nslots 1\nfault 1 1\n", "marked 1\nslots 1\nmarked 1\n", "slots 1\nslots 1\nmarked 1\nslots 1\n",
	} {
		refused(t, "array 1 1 9 4\n"+text, api.ErrForm)
	}
}

func TestLinesOfASetupTellNumbers(t *testing.T) {
	for _, text := range []string{
		"fault", "fault ", "fault 0", "fault 0 ", "fault 3", "fault  0 1", "fault 0  1", "fault 0 1 ", "fault 0 1  2", "fault 0 x", "fault 0 1 x 2",
		"fault -1 1", "fault 4 1", "fault 5 1", "fault 00 1", "fault +1 1", "fault -0 1", "fault x 1", "fault - 1", "fault 4294967296 1", "fault 9223372036854775807 1",
		"fault -9223372036854775808 1", "fault 9223372036854775808 1", "fault 0 01", "fault 0 -", "fault 0 -0", "fault 0 1 9223372036854775808", "fault\t0 1", "Fault 0 1", "faults 0 1",
		"marked", "marked ", "marked x", "marked -", "marked 1 ", "marked  1", "marked 1  2", "marked 01", "marked +1", "marked 1 -0", "marked 1 2 x",
		"marked 1,2", "marked 9223372036854775808", "Marked 1", "mark 1",
	} {
		refused(t, "array 1 1 9 4\n"+text+"\n", api.ErrForm)
		refused(t, "array 1 1 9 4\n"+text+"\nslots 1\n", api.ErrForm)
	}
}

func TestALineThatIsNoneIsRefusedWhereverItStands(t *testing.T) {
	for _, line := range odd() {
		if line == "fault 0 1" || line == "marked 1" {
			continue // these may stand behind the array's
		}
		for _, ahead := range []string{"", "fault 0 1\n", "marked 1\n", "slots 1\n"} {
			refused(t, "array 1 1 9 4\n"+ahead+line+"\n", api.ErrForm)
			refused(t, "array 1 1 9 4\n"+ahead+line+"\nslots 1\n", api.ErrForm)
		}
	}
}

func TestMoreStepsThanMayBeAreTooMany(t *testing.T) {
	most := strings.Repeat("slots 1\n", api.MaxSteps)
	l := slices.Repeat([]api.Step{{Kind: api.StepSlots, A: 1}}, api.MaxSteps)
	g := api.Setup{Geometry: api.Geometry{Channels: 1, Dies: 1, Blocks: 9, Pages: 4}, Marked: []int{3}}
	taken(t, "array 1 1 9 4\nmarked 3\n"+most, g, l)
	refused(t, "array 1 1 9 4\nmarked 3\n"+most+"slots 1\n", api.ErrMany)
	refused(t, "array 1 1 9 4\nmarked 3\n"+most+most+most, api.ErrMany)
}

func TestALineThatIsNoneIsToldAheadOfTooManySteps(t *testing.T) {
	many := "array 1 1 9 4\n" + strings.Repeat("slots 1\n", api.MaxSteps+1)
	refused(t, many, api.ErrMany)
	for _, last := range []string{"slots", "slots 1", "\n", "hello\n", "slots x\n", "marked 1\n", "fault 0 1\n", "array 1 1 9 4\n", "slots 1\nslots 01\nslots 1\n"} {
		refused(t, many+last, api.ErrForm)
	}
	refused(t, "array 1 1 9\n"+many, api.ErrForm)
}

func TestWhatIsReadIsNew(t *testing.T) {
	const text = "array 1 1 9 4\nfault 0 1 2\nfault 1 1 2\nmarked 1 2\nslots 1\nslots 2\n"
	s, l, _ := Parse(text)
	s.Faults[0][0], s.Marked[1], l[0].A = 7, 7, 7
	_ = append(s.Faults[0], 8)
	_ = append(s.Faults[1], 8)
	_ = append(l[:1], api.Step{})
	if !slices.Equal(s.Faults[1], []int{1, 2}) || !slices.Equal(s.Marked, []int{1, 7}) {
		t.Errorf("the setup is %+v now", s)
	}
	want := api.Setup{
		Geometry: api.Geometry{Channels: 1, Dies: 1, Blocks: 9, Pages: 4},
		Faults:   [api.Tenants][]int{{1, 2}, {1, 2}}, Marked: []int{1, 2},
	}
	taken(t, text, want, []api.Step{{Kind: api.StepSlots, A: 1}, {Kind: api.StepSlots, A: 2}})
}
