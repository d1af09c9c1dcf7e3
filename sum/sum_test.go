package sum

import (
	"bytes"
	"hash/crc32"
	"strings"
	"sync"
	"testing"
)

// plain is the sum as the document tells it, bit by bit.
func plain(b []byte) uint32 {
	register := uint32(1<<32 - 1)
	for _, c := range b {
		for i := range 8 {
			unlike := register&1 != uint32(c>>i)&1
			register >>= 1
			if unlike {
				register ^= 0x82f63b78
			}
		}
	}
	return ^register
}

// mixed are n bytes of which none tells the next.
func mixed(n int) []byte {
	b := make([]byte, n)
	x := uint32(12345)
	for i := range b {
		x = x*1664525 + 1013904223
		b[i] = byte(x >> 24)
	}
	return b
}

// P2.1

// TestFirstCallers stands first, so that the table isn't made yet when they come.
func TestFirstCallers(t *testing.T) {
	var answers [16]uint32
	var all sync.WaitGroup
	for i := range answers {
		all.Go(func() { answers[i] = Of([]byte("123456789")) })
	}
	all.Wait()
	for i, got := range answers {
		if got != 3808858755 {
			t.Errorf("caller %d is told %d", i, got)
		}
	}
}

func TestOf(t *testing.T) {
	for _, c := range []struct {
		b    []byte
		want uint32
	}{
		{nil, 0},
		{[]byte{}, 0},
		{[]byte("a"), 0xc1d04330},
		{[]byte("123456789"), 3808858755},
		{make([]byte, 32), 0x8a9136aa},
		{bytes.Repeat([]byte{255}, 32), 0x62a8ab43},
	} {
		if got := Of(c.b); got != c.want {
			t.Errorf("Of(%v) is %#x, want %#x", c.b, got, c.want)
		}
	}
}

func TestOfEachByte(t *testing.T) {
	for v := range 256 {
		b := []byte{byte(v)}
		if got, want := Of(b), plain(b); got != want {
			t.Errorf("Of(%v) is %#x, want %#x", b, got, want)
		}
	}
}

func TestOfManyLengths(t *testing.T) {
	all := mixed(1 << 16)
	castagnoli := crc32.MakeTable(crc32.Castagnoli)
	for _, n := range []int{0, 1, 2, 3, 4, 5, 7, 8, 9, 15, 16, 17, 31, 160, 255, 256, 257, 4096, 1 << 16} {
		b := all[:n]
		got := Of(b)
		if want := plain(b); got != want {
			t.Errorf("Of %d bytes is %#x, want %#x", n, got, want)
		}
		if want := crc32.Checksum(b, castagnoli); got != want {
			t.Errorf("Of %d bytes is %#x, CRC-32C is %#x", n, got, want)
		}
	}
}

func TestOnGoesOnFromAnyPlace(t *testing.T) {
	for _, b := range [][]byte{nil, {0}, []byte("123456789"), mixed(200), make([]byte, 40)} {
		want := plain(b)
		for i := range len(b) + 1 {
			if got := On(Of(b[:i]), b[i:]); got != want {
				t.Errorf("%d bytes, parted at %d: %#x, want %#x", len(b), i, got, want)
			}
		}
		one := uint32(0)
		for i := range b {
			one = On(one, b[i:i+1])
		}
		if one != want {
			t.Errorf("%d bytes, one by one: %#x, want %#x", len(b), one, want)
		}
	}
}

func TestOnNothing(t *testing.T) {
	for _, s := range []uint32{0, 1, 2, 0x82f63b78, 3808858755, 1<<31 - 1, 1 << 31, 1<<32 - 1} {
		if got := On(s, nil); got != s {
			t.Errorf("On(%#x, nil) is %#x", s, got)
		}
		if got := On(s, []byte{}); got != s {
			t.Errorf("On(%#x, no bytes) is %#x", s, got)
		}
	}
}

// TestOnAnySum goes on from sums of which nobody knows the bytes.
func TestOnAnySum(t *testing.T) {
	castagnoli := crc32.MakeTable(crc32.Castagnoli)
	for _, s := range []uint32{0, 1, 0x82f63b78, 1 << 31, 1<<32 - 1} {
		for _, b := range [][]byte{{0}, {255}, []byte("almshouse"), mixed(33)} {
			if got, want := On(s, b), crc32.Update(s, castagnoli, b); got != want {
				t.Errorf("On(%#x, %v) is %#x, want %#x", s, b, got, want)
			}
		}
	}
}

func TestBytesStay(t *testing.T) {
	b := mixed(100)
	first := Of(b)
	On(7, b)
	if !bytes.Equal(b, mixed(100)) {
		t.Error("the bytes that were handed in are changed")
	}
	if Of(b) != first || Of([]byte(strings.Repeat("x", 9))) == first {
		t.Error("the sum hangs on what was asked before")
	}
}

func TestTableIsMade(t *testing.T) {
	for _, first := range []func(){
		func() { Of(nil) },
		func() { On(7, nil) },
	} {
		once, table = sync.Once{}, steps{}
		first()
		for i, got := range table {
			want := uint32(i)
			for range 4 {
				unlike := want&1 == 1
				want >>= 1
				if unlike {
					want ^= 0x82f63b78
				}
			}
			if got != want {
				t.Errorf("the table says %#x of %d, want %#x", got, i, want)
			}
		}
	}
}

func TestTableIsMadeOnce(t *testing.T) {
	t.Cleanup(func() { once, table = sync.Once{}, steps{} })
	Of(nil)
	marked := steps{1, 2, 3}
	table = marked
	Of([]byte("almshouse"))
	On(7, []byte("almshouse"))
	if table != marked {
		t.Error("the table is made again")
	}
}

// TestNoAnswerHangsOnTable spoils the table, as nobody can from without.
func TestNoAnswerHangsOnTable(t *testing.T) {
	t.Cleanup(func() { once, table = sync.Once{}, steps{} })
	Of(nil)
	b := mixed(100)
	want, wantOn := Of(b), On(12345, b)
	whole := table
	for i := range whole {
		table = whole
		table[i]++
		if got := Of(b); got != want || got != plain(b) {
			t.Errorf("word %d spoilt: Of is %#x, want %#x", i, got, want)
		}
		if got := On(12345, b); got != wantOn {
			t.Errorf("word %d spoilt: On is %#x, want %#x", i, got, wantOn)
		}
	}
	table = steps{}
	if got := Of(b); got != want {
		t.Errorf("no table: Of is %#x, want %#x", got, want)
	}
}
