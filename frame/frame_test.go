package frame

import (
	"bytes"
	"hash/crc32"
	"math"
	"testing"

	"almshouse/api"
)

// mixed are n bytes of which none tells the next.
func mixed(n int) []byte {
	b := make([]byte, n)
	x := uint32(54321)
	for i := range b {
		x = x*1664525 + 1013904223
		b[i] = byte(x >> 24)
	}
	return b
}

// sealed is a frame as the document tells it: its kind, its length as it says, its body and its sum.
func sealed(kind byte, length int, body []byte) []byte {
	b := append([]byte{kind, byte(length), byte(length >> 8)}, body...)
	s := crc32.Checksum(b, crc32.MakeTable(crc32.Castagnoli))
	return append(b, byte(s), byte(s>>8), byte(s>>16), byte(s>>24))
}

// plain is the frame of a kind and a body, as the document tells it.
func plain(kind byte, body []byte) []byte { return sealed(kind, len(body), body) }

// lengths are those of bodies that may be.
var lengths = []int{0, 1, 2, 3, 4, 7, 127, 160, 255, 256, 257, 511, 512, 4096, 65534, 65535}

// made is a frame; it may be made.
func made(t *testing.T, kind int, body []byte) []byte {
	t.Helper()
	b, err := Make(kind, body)
	if err != api.OK {
		t.Fatalf("Make(%d, %d bytes): error %d", kind, len(body), err)
	}
	return b
}

// checkOpen holds what Open answers against what is wanted.
func checkOpen(t *testing.T, what string, b []byte, kind int, body []byte, size int, err api.Errno) {
	t.Helper()
	k, x, n, e := Open(b)
	if k != kind || !bytes.Equal(x, body) || n != size || e != err {
		t.Errorf("%s: Open is kind %d, %d bytes, size %d, error %d; want %d, %d, %d, %d", what, k, len(x), n, e, kind, len(body), size, err)
	}
}

// checkWhole holds what Whole answers against what is wanted.
func checkWhole(t *testing.T, what string, b []byte, kind int, body []byte, err api.Errno) {
	t.Helper()
	x, e := Whole(b, kind)
	if !bytes.Equal(x, body) || e != err {
		t.Errorf("%s: Whole of kind %d is %d bytes, error %d; want %d, %d", what, kind, len(x), e, len(body), err)
	}
}

// P3.1

func TestMake(t *testing.T) {
	b := made(t, 1, nil)
	if len(b) != 7 || !bytes.Equal(b[:3], []byte{1, 0, 0}) {
		t.Errorf("the frame of kind 1 and nothing is %v", b)
	}
	if b := made(t, 2, []byte("hi")); !bytes.Equal(b[:5], []byte{2, 2, 0, 'h', 'i'}) {
		t.Errorf("the frame of kind 2 and hi is %v", b)
	}
	for _, n := range lengths {
		body := mixed(n)
		for _, kind := range []int{0, 1, 127, 128, 254, 255} {
			if got := made(t, kind, body); !bytes.Equal(got, plain(byte(kind), body)) {
				t.Errorf("Make(%d, %d bytes) is %d bytes, not as the document tells", kind, n, len(got))
			}
		}
	}
}

func TestMakeOfWrongArguments(t *testing.T) {
	for _, kind := range []int{-1, -2, -255, -256, 256, 257, 511, 512, 65536, 1 << 32, math.MaxInt, math.MinInt} {
		for _, n := range []int{0, 1, 65535, 65536, 1 << 17} { // the kind is asked first
			if b, err := Make(kind, make([]byte, n)); len(b) != 0 || err != api.ErrArg {
				t.Errorf("Make(%d, %d bytes) is %d bytes, error %d", kind, n, len(b), err)
			}
		}
	}
	for _, kind := range []int{0, 1, 255} {
		for _, n := range []int{65536, 65537, 65536 + 7, 1 << 17, 1 << 20} {
			if b, err := Make(kind, make([]byte, n)); len(b) != 0 || err != api.ErrLong {
				t.Errorf("Make(%d, %d bytes) is %d bytes, error %d", kind, n, len(b), err)
			}
		}
	}
}

func TestOpen(t *testing.T) {
	for _, n := range lengths {
		body := mixed(n)
		for _, kind := range []int{0, 1, 200, 255} {
			b := plain(byte(kind), body)
			checkOpen(t, "a frame", b, kind, body, n+7, api.OK)
			checkOpen(t, "a frame, and a byte", append(b, 0), kind, body, n+7, api.OK)
			checkOpen(t, "a frame, and bytes", append(b, mixed(9)...), kind, body, n+7, api.OK)
		}
	}
}

func TestOpenOfTooFewBytes(t *testing.T) {
	checkOpen(t, "nil", nil, 0, nil, 0, api.ErrForm)
	for _, n := range []int{0, 1, 2, 9, 300} {
		b := plain(3, mixed(n))
		for cut := range len(b) {
			checkOpen(t, "a frame's beginning", b[:cut], 0, nil, 0, api.ErrForm)
			checkOpen(t, "a frame's beginning, with no room behind", b[:cut:cut], 0, nil, 0, api.ErrForm)
		}
	}
	long := plain(3, mixed(65535))
	for _, cut := range []int{2, 3, 4, 65535, 65538, 65541} {
		checkOpen(t, "a long frame's beginning", long[:cut], 0, nil, 0, api.ErrForm)
	}
	checkOpen(t, "a sum that doesn't hold, of which a byte lacks", []byte{3, 0, 0, 9, 9, 9}, 0, nil, 0, api.ErrForm)
	checkOpen(t, "a body that is said to be longer", sealed(3, 4, []byte("abc")), 0, nil, 0, api.ErrForm)
}

// TestTooFewBytesBehindRoom cuts a frame in memory in which the rest of it stands: what is behind the end is none of it.
func TestTooFewBytesBehindRoom(t *testing.T) {
	b := plain(3, []byte("hello"))
	checkOpen(t, "a frame without its last byte", b[:len(b)-1], 0, nil, 0, api.ErrForm)
	checkWhole(t, "a frame without its last byte", b[:len(b)-1], 3, nil, api.ErrForm)
}

func TestOpenOfAnotherSum(t *testing.T) {
	for _, n := range []int{0, 1, 5, 256} {
		b := plain(3, mixed(n))
		for i := range b {
			if i == 1 || i == 2 { // the length: TestOpenOfAnotherLength
				continue
			}
			for bit := range 8 {
				b[i] ^= 1 << bit
				checkOpen(t, "a bit turned over", b, 0, nil, 0, api.ErrCheck)
				checkWhole(t, "a bit turned over", b, 3, nil, api.ErrCheck)
				checkWhole(t, "a bit turned over, another kind asked", b, 4, nil, api.ErrCheck)
				checkOpen(t, "a bit turned over, and bytes behind", append(b, 1, 2, 3), 0, nil, 0, api.ErrCheck)
				checkWhole(t, "a bit turned over, and bytes behind", append(b, 1, 2, 3), 3, nil, api.ErrCheck)
				b[i] ^= 1 << bit
			}
		}
	}
	checkOpen(t, "zeros", make([]byte, 7), 0, nil, 0, api.ErrCheck)
	checkOpen(t, "ones", bytes.Repeat([]byte{255}, 1<<16+6), 0, nil, 0, api.ErrCheck)
}

func TestOpenOfAnotherLength(t *testing.T) {
	b := plain(3, mixed(6))
	for length := range 1 << 16 {
		if length == 6 {
			continue
		}
		b[1], b[2] = byte(length), byte(length>>8)
		want := api.ErrForm
		if length < 6 {
			want = api.ErrCheck
		}
		checkOpen(t, "another length", b, 0, nil, 0, want)
	}
}

func TestWhole(t *testing.T) {
	for _, n := range lengths {
		body := mixed(n)
		for _, kind := range []int{0, 1, 200, 255} {
			b := plain(byte(kind), body)
			checkWhole(t, "a frame", b, kind, body, api.OK)
			for _, other := range []int{kind + 1, kind - 1, kind + 256, kind - 256, -kind - 1, math.MaxInt, math.MinInt} {
				checkWhole(t, "another kind", b, other, nil, api.ErrForm)
			}
			checkWhole(t, "a byte behind", append(b, 0), kind, nil, api.ErrForm)
			checkWhole(t, "the same frame behind", append(b, b...), kind, nil, api.ErrForm)
			checkWhole(t, "a byte behind, and another kind", append(b, 0), kind+1, nil, api.ErrForm)
		}
	}
}

func TestWholeOfTooFewBytes(t *testing.T) {
	checkWhole(t, "nil", nil, 0, nil, api.ErrForm)
	b := plain(0, mixed(20))
	for cut := range len(b) {
		checkWhole(t, "a frame's beginning", b[:cut], 0, nil, api.ErrForm)
	}
}

func TestAnswersAreNewMemory(t *testing.T) {
	room := append(make([]byte, 0, 64), "hello"...)
	b := made(t, 7, room)
	clear(room[:cap(room)])
	if !bytes.Equal(b, plain(7, []byte("hello"))) {
		t.Error("a frame shares memory with its body")
	}
	_, opened, _, _ := Open(b)
	whole, _ := Whole(b, 7)
	for _, x := range [][]byte{opened, whole} {
		clear(x)
		_ = append(x, 1, 2, 3, 4, 5)
	}
	if !bytes.Equal(b, plain(7, []byte("hello"))) {
		t.Error("a body shares memory with its frame")
	}
	if again, err := Whole(b, 7); string(again) != "hello" || err != api.OK {
		t.Errorf("the body is %q, error %d", again, err)
	}
}

func TestWhatIsHandedInStays(t *testing.T) {
	body := mixed(50)
	b := append(made(t, 9, body), 1, 2, 3)
	before := bytes.Clone(b)
	Open(b)
	Whole(b, 9)
	Whole(b[:57], 9)
	if !bytes.Equal(body, mixed(50)) || !bytes.Equal(b, before) {
		t.Error("what was handed in is changed")
	}
}

// P3.2

func TestWhatIsMadeIsOpened(t *testing.T) {
	for kind := range 256 {
		for _, n := range []int{0, 1, kind, 300} {
			body := mixed(n)
			b := made(t, kind, body)
			for _, behind := range [][]byte{nil, {0}, {255}, b, mixed(100), make([]byte, 8)} {
				checkOpen(t, "what was made", append(bytes.Clone(b), behind...), kind, body, n+7, api.OK)
			}
			checkWhole(t, "what was made", b, kind, body, api.OK)
		}
	}
}

func TestEachLengthIsOpened(t *testing.T) {
	all := mixed(65535)
	for n := 0; n <= 65535; n += 1 + n/16 {
		body := all[:n]
		b := made(t, n%256, body)
		checkOpen(t, "what was made", append(b, 5, 6), n%256, body, n+7, api.OK)
	}
	checkWhole(t, "the longest", made(t, 255, all), 255, all, api.OK)
}

func TestRowIsOpened(t *testing.T) {
	var row []byte
	for i := range 40 {
		row = append(row, made(t, i, mixed(i*i))...)
	}
	for i := range 40 {
		kind, body, size, err := Open(row)
		if kind != i || !bytes.Equal(body, mixed(i*i)) || size != i*i+7 || err != api.OK {
			t.Fatalf("frame %d of a row is kind %d, %d bytes, size %d, error %d", i, kind, len(body), size, err)
		}
		row = row[size:]
	}
	if len(row) != 0 {
		t.Errorf("%d bytes are left of a row", len(row))
	}
}
