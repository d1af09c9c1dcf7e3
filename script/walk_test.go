package script

import (
	"fmt"
	"regexp"
	"slices"
	"strconv"
	"strings"
	"testing"

	"almshouse/api"
)

// drawer draws numbers below n, the same ones each time.
func drawer(x uint32) func(n int) int {
	return func(n int) int {
		x = x*1664525 + 1013904223
		return int(x>>8) % n
	}
}

// The plain telling of lines: by patterns, and what they hold.

// shapes are the patterns of steps' lines: N stands for a number, T for a text.
var shapes = []string{
	"create N N N", "resize N N", "destroy N", "swap N N", "read N N", "write N N T", "trim N N", "flush N", "slots N", "cut N N", "mount N",
}

func pattern(shape string) *regexp.Regexp {
	shape = strings.ReplaceAll(shape, "N", `(0|-?[1-9][0-9]*)`)
	return regexp.MustCompile(`\A` + strings.ReplaceAll(shape, "T", `(-|(?:[0-9a-f][0-9a-f])+)`) + `\z`)
}

var patterns = func() (l []*regexp.Regexp) {
	for _, shape := range shapes {
		l = append(l, pattern(shape))
	}
	return l
}()

// plainly is the step of a line, and whether there is one.
func plainly(line string) (s api.Step, ok bool) {
	for at, p := range patterns {
		m := p.FindStringSubmatch(line)
		if m == nil {
			continue
		}
		var n []int
		for _, word := range m[1:] {
			if strings.HasSuffix(shapes[at], "T") && len(n) == 2 {
				break
			}
			number, err := strconv.ParseInt(word, 10, 64)
			if err != nil {
				return api.Step{}, false
			}
			n = append(n, int(number))
		}
		var data []byte
		if strings.HasSuffix(shapes[at], "T") && m[3] != "-" {
			fmt.Sscanf(m[3], "%x", &data)
		}
		switch name, _, _ := strings.Cut(shapes[at], " "); name {
		case "create":
			return api.Step{Kind: api.StepCreate, Tenant: n[0], A: n[1], B: n[2]}, true
		case "resize":
			return api.Step{Kind: api.StepResize, Tenant: n[0], A: n[1]}, true
		case "destroy":
			return api.Step{Kind: api.StepDestroy, Tenant: n[0]}, true
		case "swap":
			return api.Step{Kind: api.StepSwap, Tenant: n[0], Other: n[1]}, true
		case "read":
			return command(n[0], api.OpRead, n[1], ""), true
		case "write":
			return command(n[0], api.OpWrite, n[1], string(data)), true
		case "trim":
			return command(n[0], api.OpTrim, n[1], ""), true
		case "flush":
			return command(n[0], api.OpFlush, 0, ""), true
		case "slots":
			return api.Step{Kind: api.StepSlots, A: n[0]}, true
		case "cut":
			return api.Step{Kind: api.StepCut, A: n[0], B: n[1]}, true
		case "mount":
			return api.Step{Kind: api.StepMount, A: n[0]}, true
		}
	}
	return api.Step{}, false
}

// plain holds a line against the plain telling, and asks whether it is a step's.
func plain(t *testing.T, line string) bool {
	t.Helper()
	want, is := plainly(line)
	got, ok := Step(line)
	if got != want || ok != is {
		t.Fatalf("%q is %+v, %t, want %+v, %t", line, got, ok, want, is)
	}
	if back, can := Line(got); is && (back != line || !can) {
		t.Fatalf("the line of %+v is %q, %t, want %q", got, back, can, line)
	}
	return is
}

// TestEveryLineLikeAStepsIsToldPlainly changes each byte of lines, drops it, or puts another one there.
func TestEveryLineLikeAStepsIsToldPlainly(t *testing.T) {
	count := 0
	for _, w := range lines() {
		if len(w.line) > 100 {
			continue
		}
		for at := range len(w.line) + 1 {
			for _, b := range []byte(" -+0123456789abcdefgsxAF\n\t\x00\xff") {
				ahead, behind := w.line[:at], w.line[at:]
				tries := []string{ahead + string([]byte{b}) + behind, ahead, behind}
				if behind != "" {
					tries = append(tries, ahead+string([]byte{b})+behind[1:], ahead+behind[1:])
				}
				for _, line := range tries {
					if plain(t, line) {
						count++
					}
				}
			}
		}
	}
	if count < 1000 {
		t.Errorf("%d of them are steps' lines: too few to tell much", count)
	}
}

// TestDrawnWordsAreToldPlainly has words stand behind each other.
func TestDrawnWordsAreToldPlainly(t *testing.T) {
	draw := drawer(25)
	words := []string{"0", "1", "-1", "64", "-", "00", "-0", "6869", "6a", "+1", "", "a", "9223372036854775807", "9223372036854775808", "-9223372036854775808", "c3a4", "0F"}
	count := 0
	for range 60000 {
		line, _, _ := strings.Cut(shapes[draw(len(shapes))], " ")
		for range draw(5) {
			line += " " + words[draw(len(words))]
		}
		if plain(t, line) {
			count++
		}
	}
	if count < 1000 {
		t.Errorf("%d of them are steps' lines: too few to tell much", count)
	}
}

// TestAllSmallRowsOfLinesStandAsTheyMay goes over all rows of up to five lines, of which each kind has one letter.
func TestAllSmallRowsOfLinesStandAsTheyMay(t *testing.T) {
	kinds := map[byte]string{
		'A': "array 1 1 9 4", '0': "fault 0 1", '1': "fault 1 2 3", '2': "fault 2 4", '3': "fault 3 5", 'm': "marked 7 8", 's': "slots 1", 'w': "write 1 2 6869",
	}
	order := regexp.MustCompile(`\AA0?1?2?3?m?[sw]*\z`)
	rows := []string{""}
	for at := 0; at < len(rows); at++ {
		row := rows[at]
		text := ""
		for _, k := range []byte(row) {
			text += kinds[k] + "\n"
		}
		s, l, e := Parse(text)
		if may := order.MatchString(row); may != (e == api.OK) || !may && e != api.ErrForm {
			t.Fatalf("%q is %d", text, e)
		}
		if back, ok := Print(s, l); e == api.OK && (back != text || !ok) {
			t.Fatalf("%q is %q again, %t", text, back, ok)
		}
		if len(row) < 5 {
			for k := range kinds {
				rows = append(rows, row+string(k))
			}
		}
	}
}

// P25.2.

// drawn draws numbers as they come in scripts, and others.
func drawn(draw func(int) int) int {
	switch draw(4) {
	case 0:
		return draw(4)
	case 1:
		return draw(70) - 3
	case 2:
		return draw(1<<20) * draw(1<<20)
	}
	return -draw(1<<20) * draw(1<<20) * draw(1<<20)
}

func drawnList(draw func(int) int) (l []int) {
	for range draw(4) * draw(40) {
		l = append(l, drawn(draw))
	}
	return l
}

func drawnSetup(draw func(int) int) api.Setup {
	s := api.Setup{Geometry: api.Geometry{Channels: drawn(draw), Dies: drawn(draw), Blocks: drawn(draw), Pages: drawn(draw)}, Marked: drawnList(draw)}
	for who := range s.Faults {
		s.Faults[who] = drawnList(draw)
	}
	return s
}

func drawnText(draw func(int) int) string {
	var b []byte
	for range draw(3) * draw(20) {
		b = append(b, byte(draw(256)))
	}
	return string(b)
}

// samples are made once, as they are drawn from often.
var samples = lines()

// drawnStep draws a step that can be written.
func drawnStep(draw func(int) int) api.Step {
	s := samples[draw(len(samples))].step
	s.Command.Data = ""
	if s.Tenant != 0 {
		s.Tenant = drawn(draw)
	}
	if s.A != 0 {
		s.A = drawn(draw)
	}
	if s.B != 0 {
		s.B = drawn(draw)
	}
	if s.Command.Place != 0 {
		s.Command.Place = drawn(draw)
	}
	if s.Command.Op == api.OpWrite {
		s.Command.Data = drawnText(draw)
	}
	return s
}

func TestWhatIsPrintedIsParsed(t *testing.T) {
	draw := drawer(252)
	for range 400 {
		s := drawnSetup(draw)
		var l []api.Step
		for range draw(60) {
			l = append(l, drawnStep(draw))
		}
		text, ok := Print(s, l)
		if !ok {
			t.Fatalf("%+v, %+v isn't printed", s, l)
		}
		taken(t, text, s, l)
	}
}

func TestAsManyStepsAsMayBeArePrintedAndParsed(t *testing.T) {
	draw := drawer(7)
	var l []api.Step
	for range api.MaxSteps {
		l = append(l, drawnStep(draw))
	}
	text, ok := Print(api.Setup{}, l)
	if !ok {
		t.Fatal("they aren't printed")
	}
	taken(t, text, api.Setup{}, l)
}

func TestTooManyStepsArePrintedButNotParsed(t *testing.T) {
	l := slices.Repeat([]api.Step{{Kind: api.StepMount, A: -1}}, api.MaxSteps+1)
	text, ok := Print(api.Setup{}, l)
	if want := "array 0 0 0 0\n" + strings.Repeat("mount -1\n", api.MaxSteps+1); text != want || !ok {
		t.Fatalf("a text of %d bytes, %t", len(text), ok)
	}
	refused(t, text, api.ErrMany)
}

// TestDrawnTextsAreTakenOnlyAsTheyArePrinted spoils texts by a byte, and holds that what is taken is printed as it was.
func TestDrawnTextsAreTakenOnlyAsTheyArePrinted(t *testing.T) {
	draw := drawer(99)
	some := "0123456789 -\nabcdefms"
	count := 0
	for range 20000 {
		s := api.Setup{Faults: [api.Tenants][]int{{1, 2}, nil, {draw(9)}}, Marked: []int{draw(99)}}
		text, _ := Print(s, []api.Step{drawnStep(draw), drawnStep(draw)})
		at := draw(len(text))
		text = text[:at] + some[draw(len(some)):][:1] + text[at+draw(2):]
		got, l, e := Parse(text)
		if e == api.ErrForm {
			continue
		}
		count++
		if back, ok := Print(got, l); e != api.OK || back != text || !ok {
			t.Fatalf("%q is %d, and %q again", text, e, back)
		}
	}
	if count < 1000 {
		t.Errorf("%d of them are taken: too few to tell much", count)
	}
}
