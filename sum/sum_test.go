package sum

import (
	"bytes"
	"hash/crc32"
	"strings"
	"sync"
	"testing"
)

// plain is the sum as the document tells it, bit by bit.
func plain(b []byte) uint32 {
	register := uint32(1<<32 - 1)
	for _, c := range b {
		for i := range 8 {
			unlike := register&1 != uint32(c>>i)&1
			register >>= 1
			if unlike {
				register ^= 0x82f63b78
			}
		}
	}
	return ^register
}

// mixed are n bytes of which none tells the next.
func mixed(n int) []byte {
	b := make([]byte, n)
	x := uint32(12345)
	for i := range b {
		x = x*1664525 + 1013904223
		b[i] = byte(x >> 24)
	}
	return b
}

// P2.1

// TestFirstCallers stands first, so that the table isn't made yet when they come.
func TestFirstCallers(t *testing.T) {
	b := mixed(many)
	want := plain(b)
	var answers [16]uint32
	var all sync.WaitGroup
	for i := range answers {
		all.Go(func() { answers[i] = On(0, b) })
	}
	all.Wait()
	for i, got := range answers {
		if got != want {
			t.Errorf("caller %d is told %#x, want %#x", i, got, want)
		}
	}
}

func TestOf(t *testing.T) {
	for _, c := range []struct {
		b    []byte
		want uint32
	}{
		{nil, 0},
		{[]byte{}, 0},
		{[]byte("a"), 0xc1d04330},
		{[]byte("123456789"), 3808858755},
		{make([]byte, 32), 0x8a9136aa},
		{bytes.Repeat([]byte{255}, 32), 0x62a8ab43},
	} {
		if got := Of(c.b); got != c.want {
			t.Errorf("Of(%v) is %#x, want %#x", c.b, got, c.want)
		}
	}
}

func TestOfEachByte(t *testing.T) {
	for v := range 256 {
		b := []byte{byte(v)}
		if got, want := Of(b), plain(b); got != want {
			t.Errorf("Of(%v) is %#x, want %#x", b, got, want)
		}
	}
}

func TestOfManyLengths(t *testing.T) {
	all := mixed(1 << 16)
	castagnoli := crc32.MakeTable(crc32.Castagnoli)
	for _, n := range []int{0, 1, 2, 3, 4, 5, 7, 8, 9, 15, 16, 17, 31, 160, 255, 256, 257, 4095, 4096, 4097, 1 << 16} {
		b := all[:n]
		got := Of(b)
		if want := plain(b); got != want {
			t.Errorf("Of %d bytes is %#x, want %#x", n, got, want)
		}
		if want := crc32.Checksum(b, castagnoli); got != want {
			t.Errorf("Of %d bytes is %#x, CRC-32C is %#x", n, got, want)
		}
		if on := On(0, b); on != got {
			t.Errorf("On(0, %d bytes) is %#x, Of them is %#x", n, on, got)
		}
	}
}

func TestOnGoesOnFromAnyPlace(t *testing.T) {
	for _, b := range [][]byte{nil, {0}, []byte("123456789"), mixed(200), make([]byte, 40)} {
		want := plain(b)
		for i := range len(b) + 1 {
			if got := On(Of(b[:i]), b[i:]); got != want {
				t.Errorf("%d bytes, parted at %d: %#x, want %#x", len(b), i, got, want)
			}
		}
		one := uint32(0)
		for i := range b {
			one = On(one, b[i:i+1])
		}
		if one != want {
			t.Errorf("%d bytes, one by one: %#x, want %#x", len(b), one, want)
		}
	}
}

func TestOnNothing(t *testing.T) {
	for _, s := range []uint32{0, 1, 2, 0x82f63b78, 3808858755, 1<<31 - 1, 1 << 31, 1<<32 - 1} {
		if got := On(s, nil); got != s {
			t.Errorf("On(%#x, nil) is %#x", s, got)
		}
		if got := On(s, []byte{}); got != s {
			t.Errorf("On(%#x, no bytes) is %#x", s, got)
		}
	}
}

// TestOnAnySum goes on from sums of which nobody knows the bytes.
func TestOnAnySum(t *testing.T) {
	castagnoli := crc32.MakeTable(crc32.Castagnoli)
	for _, s := range []uint32{0, 1, 0x82f63b78, 1 << 31, 1<<32 - 1} {
		for _, b := range [][]byte{{0}, {255}, []byte("almshouse"), mixed(33), mixed(4095), mixed(4096), mixed(4097)} {
			if got, want := On(s, b), crc32.Update(s, castagnoli, b); got != want {
				t.Errorf("On(%#x, %d bytes) is %#x, want %#x", s, len(b), got, want)
			}
		}
	}
}

func TestBytesStay(t *testing.T) {
	b := mixed(100)
	first := Of(b)
	On(7, b)
	if !bytes.Equal(b, mixed(100)) {
		t.Error("the bytes that were handed in are changed")
	}
	if Of(b) != first || Of([]byte(strings.Repeat("x", 9))) == first {
		t.Error("the sum hangs on what was asked before")
	}
}

// fresh forgets the table, now and when the test is over.
func fresh(t *testing.T) {
	forget := func() { once, table = sync.Once{}, steps{} }
	forget()
	t.Cleanup(forget)
}

func TestTableIsMade(t *testing.T) {
	fresh(t)
	On(7, mixed(many))
	for i, got := range table {
		want := uint32(i)
		for range 4 {
			unlike := want&1 == 1
			want >>= 1
			if unlike {
				want ^= 0x82f63b78
			}
		}
		if got != want {
			t.Errorf("the table says %#x of %d, want %#x", got, i, want)
		}
	}
}

func TestTableIsMadeOnce(t *testing.T) {
	fresh(t)
	On(7, mixed(many))
	marked := steps{1, 2, 3}
	table = marked
	On(7, mixed(many))
	if table != marked {
		t.Error("the table is made again")
	}
}

// TestFewBytesNeedNoTable asks whether what a page has is summed by a function alone, and all that Of tells.
func TestFewBytesNeedNoTable(t *testing.T) {
	fresh(t)
	On(7, nil)
	On(7, mixed(many-1))
	Of(nil)
	Of(mixed(many - 1))
	Of(mixed(many))
	Of(mixed(1 << 16))
	if table != (steps{}) {
		t.Error("the table is made where it isn't needed")
	}
}

// TestNoAnswerHangsOnTable spoils the table, as nobody can from without.
func TestNoAnswerHangsOnTable(t *testing.T) {
	fresh(t)
	for _, n := range []int{0, 100, many, many + 1} {
		b := mixed(n)
		want, wantOn := plain(b), On(12345, b)
		On(0, mixed(many))
		whole := table
		for i := range whole {
			table[i]++
			if got := Of(b); got != want {
				t.Errorf("word %d spoilt: Of %d bytes is %#x, want %#x", i, n, got, want)
			}
			if got := On(12345, b); got != wantOn {
				t.Errorf("word %d spoilt: On with %d bytes is %#x, want %#x", i, n, got, wantOn)
			}
			table = whole
		}
	}
	table = steps{}
	if b := mixed(many); On(0, b) != plain(b) {
		t.Error("without the table, On is another")
	}
}
