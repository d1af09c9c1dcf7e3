package queue

import (
	"math"
	"slices"
	"strings"
	"testing"

	"almshouse/api"
)

// far are places that no tenant has, but that commands may have.
var far = []int{math.MinInt, -1 << 32, -2, -1, 64, 65, 1 << 32, math.MaxInt}

// submit holds an answer of Submit against what is wanted.
func submit(t *testing.T, q *Queue, c api.Command, want api.Errno) {
	t.Helper()
	if e := q.Submit(c); e != want {
		t.Fatalf("Submit(%+v) is %d, want %d", c, e, want)
	}
}

// next holds what Next takes against the first of the commands that are to wait, and answers the others.
func next(t *testing.T, q *Queue, wait []api.Command) []api.Command {
	t.Helper()
	c, ok := q.Next()
	if ok != (len(wait) > 0) || ok && c != wait[0] || !ok && c != (api.Command{}) {
		t.Fatalf("Next is %+v, %t of %+v", c, ok, wait)
	}
	return wait[min(1, len(wait)):]
}

// holds holds what a queue tells against how many are to wait, and what is to be done.
func holds(t *testing.T, q *Queue, wait int, done []api.Done) {
	t.Helper()
	if q.Len() != wait {
		t.Fatalf("Len is %d, want %d", q.Len(), wait)
	}
	if all := q.All(); !slices.Equal(all, done) || len(done) == 0 && all != nil {
		t.Fatalf("All is %+v, want %+v", all, done)
	}
}

// eight are commands that may be, as many as may wait, none like another one.
func eight() []api.Command {
	return []api.Command{
		{Op: api.OpFlush},
		{Op: api.OpWrite, Place: 3, Data: "a"},
		{Op: api.OpRead, Place: 3},
		{Op: api.OpTrim, Place: 3},
		{Op: api.OpWrite, Place: 3, Data: "b"},
		{Op: api.OpWrite},
		{Op: api.OpRead},
		{Op: api.OpTrim, Place: 63},
	}
}

// full is a queue in which eight commands wait, behind as many others that are gone.
func full(t *testing.T, gone int) *Queue {
	t.Helper()
	q := New()
	for range gone {
		submit(t, q, api.Command{Op: api.OpWrite, Place: 9, Data: "gone"}, api.OK)
		if _, ok := q.Next(); !ok {
			t.Fatal("nothing waits behind a Submit")
		}
	}
	for _, c := range eight() {
		submit(t, q, c, api.OK)
	}
	return q
}

// P20.1

func TestNewIsEmpty(t *testing.T) {
	q := New()
	if q == nil {
		t.Fatal("New is nil")
	}
	holds(t, q, 0, nil)
	next(t, q, nil)
	q.Clear()
	holds(t, q, 0, nil)
}

// tried is a command, and what Check tells of it.
type tried struct {
	command api.Command
	want    api.Errno
}

// tries are commands that may be, and ones that may not.
func tries() []tried {
	var l []tried
	for _, place := range append([]int{0, 1, 63}, far...) {
		flush := api.OK
		if place != 0 {
			flush = api.ErrArg
		}
		for _, data := range []string{"", "a", "\x00", "\xff", strings.Repeat("x", 16), strings.Repeat("x", 17), strings.Repeat("x", 100000)} {
			other := api.OK
			if data != "" {
				other, flush = api.ErrArg, api.ErrArg
			}
			l = append(l,
				tried{api.Command{Op: 1, Place: place, Data: data}, other},
				tried{api.Command{Op: 2, Place: place, Data: data}, api.OK},
				tried{api.Command{Op: 3, Place: place, Data: data}, other},
				tried{api.Command{Op: 4, Place: place, Data: data}, flush})
			for _, op := range []int{math.MinInt, -4, -1, 0, 5, 6, 9, 1<<32 + 1, 1<<32 + 2, math.MaxInt} {
				l = append(l, tried{api.Command{Op: op, Place: place, Data: data}, api.ErrArg})
			}
		}
	}
	return l
}

func TestCheck(t *testing.T) {
	for _, x := range tries() {
		if e := Check(x.command); e != x.want {
			t.Errorf("Check(%+v) is %d, want %d", x.command, e, x.want)
		}
	}
}

func TestSubmitTellsWhatIsWrong(t *testing.T) {
	had := api.Command{Op: api.OpWrite, Place: 7, Data: "z"}
	for _, x := range tries() {
		q := New()
		submit(t, q, had, api.OK)
		submit(t, q, x.command, x.want)
		wait := []api.Command{had}
		if x.want == api.OK {
			wait = append(wait, x.command)
		}
		for len(wait) > 0 {
			holds(t, q, len(wait), nil)
			wait = next(t, q, wait)
		}
		holds(t, q, 0, nil)
		next(t, q, nil)
	}
}

// TestSubmitTellsFullLast asks full queues: what is wrong with the command itself is told first.
func TestSubmitTellsFullLast(t *testing.T) {
	q := full(t, 0)
	for _, x := range tries() {
		want := x.want
		if want == api.OK {
			want = api.ErrFull
		}
		submit(t, q, x.command, want)
		holds(t, q, 8, nil)
	}
	for wait := eight(); len(wait) > 0; {
		wait = next(t, q, wait)
	}
	holds(t, q, 0, nil)
}

func TestSubmitTillFull(t *testing.T) {
	for gone := range 20 {
		q := full(t, gone)
		holds(t, q, 8, nil)
		submit(t, q, api.Command{Op: api.OpRead, Place: 9}, api.ErrFull)
		submit(t, q, api.Command{Op: api.OpFlush}, api.ErrFull)
		wait := eight()
		for len(wait) > 0 {
			wait = next(t, q, wait)
			holds(t, q, len(wait), nil)
		}
		next(t, q, nil)
		holds(t, q, 0, nil)
	}
}

// TestRoomAgain asks whether what is taken makes room for one more, and for no more than that.
func TestRoomAgain(t *testing.T) {
	q := full(t, 0)
	wait := eight()
	for i := range 100 {
		wait = next(t, q, wait)
		c := api.Command{Op: api.OpWrite, Place: i, Data: strings.Repeat("x", i)}
		submit(t, q, c, api.OK)
		submit(t, q, c, api.ErrFull)
		wait = append(wait, c)
		holds(t, q, 8, nil)
	}
	for len(wait) > 0 {
		wait = next(t, q, wait)
	}
	next(t, q, nil)
}

// TestDoneIsKept asks for all that was done, whatever it is, in order, the same one twice, too.
func TestDoneIsKept(t *testing.T) {
	q := New()
	var done []api.Done
	for _, d := range []api.Done{
		{Slot: 5, Status: api.OK, Data: "hi"},
		{Slot: 1, Status: api.ErrRange},
		{Slot: 1, Status: api.ErrRange},
		{},
		{Slot: math.MinInt, Status: -1, Data: "\x00\xff"},
		{Slot: math.MaxInt, Status: 99, Data: strings.Repeat("x", 100000)},
		{Slot: 5, Status: api.OK, Data: "hi"},
	} {
		q.Done(d)
		done = append(done, d)
		holds(t, q, 0, done)
		next(t, q, nil)
	}
	for i := range 5000 {
		d := api.Done{Slot: i, Status: api.Errno(i % 15)}
		q.Done(d)
		done = append(done, d)
	}
	holds(t, q, 0, done)
}

// TestDoneAndWaiting asks whether what is done leaves those that wait as they are, and they it.
func TestDoneAndWaiting(t *testing.T) {
	q := full(t, 3)
	var done []api.Done
	wait := eight()
	for i := range 8 {
		d := api.Done{Slot: 4 * i, Data: "d"}
		q.Done(d)
		done = append(done, d)
		holds(t, q, len(wait), done)
		wait = next(t, q, wait)
		holds(t, q, len(wait), done)
	}
	submit(t, q, api.Command{Op: api.OpFlush}, api.OK)
	holds(t, q, 1, done)
}

func TestClear(t *testing.T) {
	done := []api.Done{{Slot: 4, Data: "a"}, {Slot: 8, Status: api.ErrRead}}
	for taken := range 9 {
		q := full(t, taken)
		for _, d := range done {
			q.Done(d)
		}
		for wait := eight(); len(wait) > 8-taken; {
			wait = next(t, q, wait)
		}
		q.Clear()
		holds(t, q, 0, done)
		next(t, q, nil)
		q.Clear()
		holds(t, q, 0, done)
		for _, c := range eight() {
			submit(t, q, c, api.OK)
		}
		submit(t, q, api.Command{Op: api.OpFlush}, api.ErrFull)
		for wait := eight(); len(wait) > 0; {
			wait = next(t, q, wait)
		}
		next(t, q, nil)
		holds(t, q, 0, done)
	}
}

// TestGoneIsNotKept looks where commands stood: what is taken or cleared leaves nothing there.
func TestGoneIsNotKept(t *testing.T) {
	q := full(t, 0)
	row := q.waits
	for i := range 3 {
		q.Next()
		for _, c := range row[:i+1] {
			if c != (api.Command{}) {
				t.Errorf("behind %d calls of Next, %+v stands there", i+1, c)
			}
		}
	}
	q.Clear()
	for _, c := range row {
		if c != (api.Command{}) {
			t.Errorf("behind Clear, %+v stands there", c)
		}
	}
}

func TestAllIsNewMemory(t *testing.T) {
	q := New()
	var want []api.Done
	for i := range 20 {
		d := api.Done{Slot: i, Data: "d"}
		q.Done(d)
		want = append(want, d)
		all, more := q.All(), q.All()
		clear(all[:cap(all)])
		if !slices.Equal(more, want) {
			t.Errorf("one answer became %+v by another", more)
		}
		holds(t, q, 0, want)
		q.Done(api.Done{Slot: 100 + i})
		if !slices.Equal(more, want) {
			t.Errorf("an answer became %+v by the queue's calls", more)
		}
		want = append(want, api.Done{Slot: 100 + i})
		holds(t, q, 0, want)
	}
}

func TestTwoQueuesAreTwo(t *testing.T) {
	a, b := New(), New()
	flush, read := api.Command{Op: api.OpFlush}, api.Command{Op: api.OpRead, Place: 2}
	submit(t, a, flush, api.OK)
	holds(t, b, 0, nil)
	submit(t, b, read, api.OK)
	a.Done(api.Done{Slot: 1})
	holds(t, b, 1, nil)
	b.Clear()
	holds(t, a, 1, []api.Done{{Slot: 1}})
	next(t, a, []api.Command{flush})
	next(t, b, nil)
}

func TestNilQueue(t *testing.T) {
	var q *Queue
	for _, x := range tries() {
		submit(t, q, x.command, api.ErrArg)
	}
	next(t, q, nil)
	q.Done(api.Done{Slot: 1, Data: "a"})
	q.Clear()
	holds(t, q, 0, nil)
}

// TestQueueNotMade asks a queue that New didn't make: it has none.
func TestQueueNotMade(t *testing.T) {
	q := new(Queue)
	q.Clear()
	holds(t, q, 0, nil)
	next(t, q, nil)
	for _, c := range eight() {
		submit(t, q, c, api.OK)
	}
	submit(t, q, api.Command{Op: api.OpFlush}, api.ErrFull)
	q.Done(api.Done{Slot: 3})
	holds(t, q, 8, []api.Done{{Slot: 3}})
	for wait := eight(); len(wait) > 0; {
		wait = next(t, q, wait)
	}
}

// TestMixedCalls holds long rows of calls against plain rows of commands and of what was done.
func TestMixedCalls(t *testing.T) {
	x := uint32(1)
	draw := func(n int) int {
		x = x*1664525 + 1013904223
		return int(x>>8) % n
	}
	l := tries()
	for range 20 {
		q := New()
		var wait []api.Command
		var done []api.Done
		for range 1000 {
			switch draw(20) {
			case 0:
				q.Clear()
				wait = nil
			case 1, 2, 3, 4:
				d := api.Done{Slot: draw(9), Status: api.Errno(draw(15)), Data: strings.Repeat("d", draw(4))}
				q.Done(d)
				done = append(done, d)
			case 5, 6, 7, 8:
				wait = next(t, q, wait)
			default:
				try := l[draw(len(l))]
				want := try.want
				if want == api.OK && len(wait) == 8 {
					want = api.ErrFull
				}
				submit(t, q, try.command, want)
				if want == api.OK {
					wait = append(wait, try.command)
				}
			}
			holds(t, q, len(wait), done)
		}
	}
}
