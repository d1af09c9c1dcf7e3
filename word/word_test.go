package word

import (
	"bytes"
	"math"
	"strings"
	"testing"

	"almshouse/api"
)

// edges are numbers at and about the ends of each size, and wrong ones.
var edges = []int{
	0, 1, 2, 127, 128, 254, 255, 256, 257, 258, 65534, 65535, 65536, 65537,
	1<<24 - 1, 1 << 24, 0x01020304, 0xfffefdfc, 1<<31 - 1, 1 << 31, 1<<32 - 1, 1 << 32, 1<<32 + 1, 1<<40 + 5,
	math.MaxInt, -1, -2, -255, -256, -65536, -1 << 31, -1 << 32, math.MinInt,
}

// sizes are those that may be, and others.
var sizes = []int{1, 2, 4, 0, 3, 5, 6, 7, 8, 9, 16, 32, 64, -1, -2, -4, math.MaxInt, math.MinInt}

// greatest is the greatest number of a size, -1 of a size that may not be.
func greatest(n int) int {
	switch n {
	case 1:
		return 255
	case 2:
		return 65535
	case 4:
		return 4294967295
	}
	return -1
}

// roomy are 1, 2, 3 with 8 bytes of room behind them, in each of which 0xee stands.
func roomy() []byte {
	whole := [11]byte{1, 2, 3, 0xee, 0xee, 0xee, 0xee, 0xee, 0xee, 0xee, 0xee}
	return whole[:3]
}

// checkNew changes out, and tells whether b, which roomy made, and its room are what they were.
func checkNew(t *testing.T, what string, b, out []byte) {
	t.Helper()
	for i := range out {
		out[i] ^= 0xff
	}
	_ = append(out, 0x55)
	if now, first := b[:cap(b)], roomy(); !bytes.Equal(now, first[:cap(first)]) {
		t.Errorf("%s: what was handed in is %v now", what, now)
	}
}

// checkReader holds what a reader has left and its error against what is wanted; it asks Done.
func checkReader(t *testing.T, what string, r *Reader, left int, err api.Errno) {
	t.Helper()
	if got := r.Left(); got != left {
		t.Errorf("%s: %d left, want %d", what, got, left)
	}
	if got := r.Done(); got != err {
		t.Errorf("%s: error %d, want %d", what, got, err)
	}
}

// P1.1

func TestFits(t *testing.T) {
	for _, n := range sizes {
		for _, v := range edges {
			want := v >= 0 && v <= greatest(n)
			if got := Fits(v, n); got != want {
				t.Errorf("Fits(%d, %d) is %v", v, n, got)
			}
		}
	}
}

func TestPut(t *testing.T) {
	for _, c := range []struct {
		before []byte
		v, n   int
		want   []byte
	}{
		{nil, 258, 2, []byte{2, 1}},
		{nil, 0, 1, []byte{0}},
		{nil, 0, 4, []byte{0, 0, 0, 0}},
		{[]byte{}, 255, 1, []byte{255}},
		{[]byte{9}, 7, 1, []byte{9, 7}},
		{[]byte{9, 8}, 65535, 2, []byte{9, 8, 255, 255}},
		{[]byte{9}, 0x01020304, 4, []byte{9, 4, 3, 2, 1}},
		{[]byte{9}, 1<<32 - 1, 4, []byte{9, 255, 255, 255, 255}},
		{[]byte{9}, 1 << 31, 4, []byte{9, 0, 0, 0, 128}},
		{[]byte{9}, 256, 1, []byte{9}},
		{[]byte{9}, 65536, 2, []byte{9}},
		{[]byte{9}, 1 << 32, 4, []byte{9}},
		{[]byte{9}, -1, 1, []byte{9}},
		{[]byte{9}, -1, 4, []byte{9}},
		{[]byte{9}, math.MinInt, 4, []byte{9}},
		{[]byte{9}, 1, 3, []byte{9}},
		{[]byte{9}, 1, 0, []byte{9}},
		{[]byte{9}, 1, 8, []byte{9}},
		{[]byte{9}, 1, -1, []byte{9}},
		{nil, 256, 1, nil},
		{[]byte{}, 1, 3, nil},
	} {
		if got := Put(c.before, c.v, c.n); !bytes.Equal(got, c.want) {
			t.Errorf("Put(%v, %d, %d) is %v, want %v", c.before, c.v, c.n, got, c.want)
		}
	}
}

func TestPutAnswersNewMemory(t *testing.T) {
	for _, n := range sizes {
		for _, v := range []int{7, 256, 65536, 1 << 32, -1} {
			b := roomy()
			checkNew(t, "Put", b, Put(b, v, n))
		}
	}
	empty := make([]byte, 0, 8)
	one := Put(empty, 1, 1)
	if Put(empty, 2, 1); one[0] != 1 {
		t.Error("two answers share memory")
	}
}

func TestTextIsPut(t *testing.T) {
	for _, c := range []struct {
		before []byte
		s      string
		want   []byte
	}{
		{nil, "", []byte{0, 0}},
		{[]byte{}, "a", []byte{1, 0, 'a'}},
		{[]byte{9}, "hi", []byte{9, 2, 0, 'h', 'i'}},
		{[]byte{9, 8}, "\x00\xff\n", []byte{9, 8, 3, 0, 0, 255, 10}},
		{nil, "é", []byte{2, 0, 0xc3, 0xa9}},
	} {
		if got := Text(c.before, c.s); !bytes.Equal(got, c.want) {
			t.Errorf("Text(%v, %q) is %v, want %v", c.before, c.s, got, c.want)
		}
	}
}

func TestLongTextIsPut(t *testing.T) {
	for _, n := range []int{255, 256, 257, 65534, 65535} {
		s := strings.Repeat("x", n)
		want := append([]byte{9, byte(n % 256), byte(n / 256)}, s...)
		if got := Text([]byte{9}, s); !bytes.Equal(got, want) {
			t.Errorf("Text of %d bytes has %d", n, len(got))
		}
	}
	for _, n := range []int{65536, 65537, 65538, 131072, 1 << 20} {
		s := strings.Repeat("x", n)
		if got := Text([]byte{9, 8}, s); !bytes.Equal(got, []byte{9, 8}) {
			t.Errorf("Text of %d bytes has %d", n, len(got))
		}
		if got := Text(nil, s); len(got) != 0 {
			t.Errorf("Text of nil and %d bytes has %d", n, len(got))
		}
	}
}

func TestTextAnswersNewMemory(t *testing.T) {
	for _, s := range []string{"", "hi", strings.Repeat("x", 65536)} {
		b := roomy()
		checkNew(t, "Text", b, Text(b, s))
	}
}

func TestNumberIsRead(t *testing.T) {
	b := []byte{5, 2, 1, 4, 3, 2, 1, 255, 255, 255, 255}
	r := Read(b)
	for i, c := range []struct{ n, want, left int }{
		{1, 5, 10}, {2, 258, 8}, {4, 0x01020304, 4}, {4, 1<<32 - 1, 0},
	} {
		if got := r.Number(c.n); got != c.want || r.Left() != c.left {
			t.Errorf("number %d is %d with %d left, want %d with %d", i, got, r.Left(), c.want, c.left)
		}
	}
	checkReader(t, "numbers", r, 0, api.OK)
	checkReader(t, "numbers again", r, 0, api.OK)
}

func TestNumberOfWrongSize(t *testing.T) {
	for _, n := range sizes[3:] {
		r := Read([]byte{1, 0, 0, 0, 0, 0, 0, 0, 0})
		if got := r.Number(n); got != 0 {
			t.Errorf("number of %d bytes is %d", n, got)
		}
		checkReader(t, "wrong size", r, 9, api.ErrArg)
		r = Read(nil)
		if got := r.Number(n); got != 0 {
			t.Errorf("number of %d bytes of nothing is %d", n, got)
		}
		checkReader(t, "wrong size of nothing", r, 0, api.ErrArg)
	}
}

func TestNumberOfTooFewBytes(t *testing.T) {
	for _, n := range []int{1, 2, 4} {
		for left := range n {
			r := Read(bytes.Repeat([]byte{1}, left))
			if got := r.Number(n); got != 0 {
				t.Errorf("number of %d bytes with %d left is %d", n, left, got)
			}
			checkReader(t, "too few", r, left, api.ErrForm)
		}
	}
}

func TestTextIsRead(t *testing.T) {
	for _, c := range []struct {
		b    []byte
		most int
		want string
		left int
		err  api.Errno
	}{
		{[]byte{2, 0, 'h', 'i'}, 5, "hi", 0, api.OK},
		{[]byte{2, 0, 'h', 'i'}, 2, "hi", 0, api.OK},
		{[]byte{2, 0, 'h', 'i'}, math.MaxInt, "hi", 0, api.OK},
		{[]byte{0, 0}, 0, "", 0, api.OK},
		{[]byte{3, 0, 0, 255, 10}, 3, "\x00\xff\n", 0, api.OK},
		{[]byte{2, 0, 'h', 'i', 7}, 2, "hi", 1, api.ErrForm},
		{[]byte{2, 0, 'h', 'i'}, 1, "", 2, api.ErrLong},
		{[]byte{2, 0, 'h', 'i'}, 0, "", 2, api.ErrLong},
		{[]byte{0, 0}, -1, "", 0, api.ErrLong},
		{[]byte{1, 0, 'h'}, math.MinInt, "", 1, api.ErrLong},
		{[]byte{3, 0, 'h', 'i'}, 3, "", 2, api.ErrForm},
		{[]byte{3, 0, 'h', 'i'}, 2, "", 2, api.ErrLong}, // too long is asked first
		{[]byte{255, 255}, 65534, "", 0, api.ErrLong},
		{[]byte{255, 255}, 65535, "", 0, api.ErrForm},
		{[]byte{0, 1, 'h'}, 256, "", 1, api.ErrForm},
		{[]byte{5}, 9, "", 1, api.ErrForm},
		{[]byte{5}, -1, "", 1, api.ErrForm},
		{nil, 9, "", 0, api.ErrForm},
		{[]byte{}, -1, "", 0, api.ErrForm},
	} {
		r := Read(c.b)
		if got := r.Text(c.most); got != c.want {
			t.Errorf("text of %v, at most %d, is %q, want %q", c.b, c.most, got, c.want)
		}
		checkReader(t, "text", r, c.left, c.err)
	}
}

func TestFlagIsRead(t *testing.T) {
	for v := range 256 {
		r := Read([]byte{byte(v)})
		if got := r.Flag(); got != (v == 1) {
			t.Errorf("flag of %d is %v", v, got)
		}
		want := api.OK
		if v > 1 {
			want = api.ErrForm
		}
		checkReader(t, "flag", r, 0, want)
	}
	r := Read([]byte{1, 0, 2, 1})
	if !r.Flag() || r.Flag() || r.Flag() {
		t.Error("flags")
	}
	checkReader(t, "the byte of a wrong flag is taken", r, 1, api.ErrForm)
	r = Read(nil)
	if r.Flag() {
		t.Error("flag of nothing")
	}
	checkReader(t, "flag of nothing", r, 0, api.ErrForm)
}

func TestFirstErrorStays(t *testing.T) {
	for _, c := range []struct {
		what string
		b    []byte
		fail func(*Reader)
		left int
		err  api.Errno
	}{
		{"a wrong size", []byte{1, 0, 1, 1, 1}, func(r *Reader) { r.Number(3) }, 5, api.ErrArg},
		{"too few for a number", []byte{1, 0, 1}, func(r *Reader) { r.Number(4) }, 3, api.ErrForm},
		{"a long text", []byte{2, 0, 1, 0, 1, 1}, func(r *Reader) { r.Text(1) }, 4, api.ErrLong},
		{"too few for a text", []byte{9, 0, 1, 0, 1, 1}, func(r *Reader) { r.Text(9) }, 4, api.ErrForm},
		{"a wrong flag", []byte{2, 1, 0, 1, 1}, func(r *Reader) { r.Flag() }, 4, api.ErrForm},
		{"bytes left over", []byte{1, 0, 1, 1}, func(r *Reader) { r.Done() }, 4, api.ErrForm},
	} {
		r := Read(c.b)
		c.fail(r)
		if v := r.Number(1); v != 0 {
			t.Errorf("%s: reads number %d", c.what, v)
		}
		if v := r.Number(3); v != 0 {
			t.Errorf("%s: reads number %d of a wrong size", c.what, v)
		}
		if s := r.Text(100); s != "" {
			t.Errorf("%s: reads text %q", c.what, s)
		}
		if s := r.Text(-1); s != "" {
			t.Errorf("%s: reads text %q", c.what, s)
		}
		if r.Flag() {
			t.Errorf("%s: reads a flag", c.what)
		}
		checkReader(t, c.what, r, c.left, c.err)
		checkReader(t, c.what+", again", r, c.left, c.err)
	}
}

func TestDone(t *testing.T) {
	checkReader(t, "nil bytes", Read(nil), 0, api.OK)
	checkReader(t, "empty bytes", Read([]byte{}), 0, api.OK)
	checkReader(t, "one byte", Read([]byte{0}), 1, api.ErrForm)
	r := Read([]byte{7, 8})
	r.Number(1)
	checkReader(t, "a byte behind a number", r, 1, api.ErrForm)
	r = Read([]byte{7, 8})
	r.Number(2)
	checkReader(t, "all", r, 0, api.OK)
	if v := r.Number(1); v != 0 {
		t.Errorf("reads %d behind the end", v)
	}
	checkReader(t, "behind the end, where Done was OK", r, 0, api.ErrForm)
}

func TestNilReader(t *testing.T) {
	var r *Reader
	for _, n := range sizes {
		if r.Number(n) != 0 || r.Text(n) != "" || r.Flag() {
			t.Error("a nil reader reads")
		}
	}
	checkReader(t, "nil", r, 0, api.ErrArg)
}

func TestReaderHasItsOwnBytes(t *testing.T) {
	b := []byte{1, 2, 0, 'h', 'i', 3}
	r := Read(b)
	clear(b)
	if r.Number(1) != 1 || r.Text(2) != "hi" || r.Number(1) != 3 || r.Done() != api.OK {
		t.Error("a reader shares memory with what was handed in")
	}
	if !bytes.Equal(b, make([]byte, 6)) {
		t.Error("a reader changes what was handed in")
	}
	b = []byte{1, 2}
	one, other := Read(b), Read(b)
	if one.Number(1); other.Left() != 2 || one.Left() != 1 {
		t.Error("two readers of the same bytes disturb each other")
	}
}

// P1.2

func TestWhatIsPutIsRead(t *testing.T) {
	for _, n := range []int{1, 2, 4} {
		for _, v := range edges {
			r := Read(Put(nil, v, n))
			if !Fits(v, n) {
				checkReader(t, "nothing was put", r, 0, api.OK)
				continue
			}
			if r.Left() != n {
				t.Errorf("%d by %d bytes has %d", v, n, r.Left())
			}
			if got := r.Number(n); got != v {
				t.Errorf("%d by %d bytes is read as %d", v, n, got)
			}
			checkReader(t, "number", r, 0, api.OK)
		}
	}
}

func TestWhatIsPutOfTwoBytesIsRead(t *testing.T) {
	var b []byte
	for v := range 65536 {
		if b = Put(nil, v, 2); Read(b).Number(2) != v {
			t.Fatalf("%d is read of %v", v, b)
		}
	}
}

func TestTextThatIsPutIsRead(t *testing.T) {
	for _, n := range []int{0, 1, 2, 255, 256, 65534, 65535} {
		s := strings.Repeat("\x00é\xff", n/4+1)[:n]
		for _, most := range []int{n, n + 1, math.MaxInt} {
			r := Read(Text(nil, s))
			if got := r.Text(most); got != s {
				t.Errorf("a text of %d bytes, at most %d, is read with %d", n, most, len(got))
			}
			checkReader(t, "text", r, 0, api.OK)
		}
		r := Read(Text(nil, s))
		if got := r.Text(n - 1); got != "" {
			t.Errorf("a text of %d bytes is read where fewer are allowed", n)
		}
		checkReader(t, "long text", r, n, api.ErrLong)
	}
}

func TestRowIsRead(t *testing.T) {
	var b []byte
	for i, v := range edges {
		b = Text(Put(Put(Put(b, v, 1), v, 2), v, 4), strings.Repeat("z", i))
		b = Put(b, i%2, 1)
	}
	r := Read(b)
	for i, v := range edges {
		for _, n := range []int{1, 2, 4} {
			if Fits(v, n) && r.Number(n) != v {
				t.Errorf("%d by %d bytes is not read in a row", v, n)
			}
		}
		if s := r.Text(i); len(s) != i {
			t.Errorf("a text of %d bytes is read as %q in a row", i, s)
		}
		if r.Flag() != (i%2 == 1) {
			t.Errorf("flag %d is not read in a row", i)
		}
	}
	checkReader(t, "row", r, 0, api.OK)
}
