package tag

import (
	"bytes"
	"hash/crc32"
	"math"
	"testing"

	"almshouse/api"
)

const top = math.MaxInt32 // of an Epoch, and of a Seq

// sealed is a frame of a kind and a body, as the document tells it.
func sealed(kind byte, body []byte) []byte {
	b := append([]byte{kind, byte(len(body)), byte(len(body) >> 8)}, body...)
	s := crc32.Checksum(b, crc32.MakeTable(crc32.Castagnoli))
	return append(b, byte(s), byte(s>>8), byte(s>>16), byte(s>>24))
}

// body is a tag's, as the document tells it, whether the tag may be or not.
func body(t api.Tag) []byte {
	e, s := t.Epoch, t.Seq
	b := []byte{byte(t.Tenant), byte(e), byte(e >> 8), byte(e >> 16), byte(e >> 24), byte(t.Place)}
	b = append(b, byte(s), byte(s>>8), byte(s>>16), byte(s>>24), byte(t.Kind), 0)
	if t.Copy {
		b[11] = 1
	}
	return b
}

// plain are a tag's bytes, as the document tells them.
func plain(t api.Tag) []byte { return sealed(84, body(t)) }

// allowed calls a function with many tags that may be: about all limits, and between them.
func allowed(call func(api.Tag)) {
	for tenant := range 4 {
		for _, epoch := range []int{0, 1, 255, 256, 1 << 16, 0x01020304, 0x7f00ff80, top - 1, top} {
			for _, place := range []int{0, 1, 2, 31, 32, 62, 63} {
				for _, seq := range []int{0, 1, 127, 128, 65535, 0x04030201, 1 << 30, top - 1, top} {
					for kind := 1; kind <= 2; kind++ {
						call(api.Tag{Tenant: tenant, Epoch: epoch, Place: place, Seq: seq, Kind: kind})
						call(api.Tag{Tenant: tenant, Epoch: epoch, Place: place, Seq: seq, Kind: kind, Copy: true})
					}
				}
			}
		}
	}
}

// whole are tags that may be; each of their numbers is made wrong in turn.
var whole = []api.Tag{
	{Kind: 1},
	{Tenant: 1, Epoch: 2, Place: 3, Seq: 4, Kind: 2, Copy: true},
	{Tenant: 3, Epoch: top, Place: 63, Seq: top, Kind: 2, Copy: true},
	{Tenant: 2, Epoch: 77, Place: 40, Seq: 1000000, Kind: 1},
}

// wrong calls a function with many tags that may not be.
func wrong(call func(api.Tag)) {
	far := []int{-1, -2, -255, -256, math.MinInt32, -1 << 32, math.MinInt, 1 << 31, 1<<32 - 1, 1 << 32, 1<<32 + 1, 1 << 40, math.MaxInt}
	for _, t := range whole {
		for _, v := range append([]int{4, 5, 255, 256, 257, top}, far...) {
			x := t
			x.Tenant = v
			call(x)
		}
		for _, v := range far {
			x := t
			x.Epoch = v
			call(x)
			x = t
			x.Seq = v
			call(x)
		}
		for _, v := range append([]int{64, 65, 128, 255, 256, top}, far...) {
			x := t
			x.Place = v
			call(x)
		}
		for _, v := range append([]int{0, 3, 4, 255, 256, 257, 258, top}, far...) {
			x := t
			x.Kind = v
			call(x)
		}
	}
	call(api.Tag{})
	call(api.Tag{Copy: true})
	call(api.Tag{Tenant: -1, Epoch: -1, Place: -1, Seq: -1, Kind: -1})
	call(api.Tag{Tenant: 4, Place: 64, Kind: 3})
}

// parses holds what Parse answers against what is wanted.
func parses(t *testing.T, what string, b []byte, want api.Tag, err api.Errno) {
	t.Helper()
	if got, e := Parse(b); got != want || e != err {
		t.Errorf("%s: Parse(%v) is %+v, error %d; want %+v, %d", what, b, got, e, want, err)
	}
}

// refuses asks that bytes are no tag.
func refuses(t *testing.T, what string, b []byte, err api.Errno) {
	t.Helper()
	parses(t, what, b, api.Tag{}, err)
}

// P8.1

func TestRight(t *testing.T) {
	allowed(func(x api.Tag) {
		if !Right(x) {
			t.Errorf("%+v may not be", x)
		}
	})
	wrong(func(x api.Tag) {
		if Right(x) {
			t.Errorf("%+v may be", x)
		}
	})
}

func TestRightOfEachNumber(t *testing.T) {
	for v := -300; v <= 300; v++ {
		for _, c := range []struct {
			x    api.Tag
			want bool
		}{
			{api.Tag{Tenant: v, Kind: 1}, v >= 0 && v <= 3},
			{api.Tag{Epoch: v, Kind: 1}, v >= 0},
			{api.Tag{Epoch: top + v, Kind: 1}, v <= 0},
			{api.Tag{Place: v, Kind: 2}, v >= 0 && v <= 63},
			{api.Tag{Seq: v, Kind: 2}, v >= 0},
			{api.Tag{Seq: top + v, Kind: 2}, v <= 0},
			{api.Tag{Kind: v}, v == 1 || v == 2},
		} {
			if got := Right(c.x); got != c.want {
				t.Errorf("Right(%+v) is %t", c.x, got)
			}
		}
	}
}

func TestBytes(t *testing.T) {
	x := api.Tag{Tenant: 1, Epoch: 0x01020304, Place: 9, Seq: 0x05060708, Kind: api.KindTrim, Copy: true}
	want := []byte{84, 12, 0, 1, 4, 3, 2, 1, 9, 8, 7, 6, 5, 2, 1}
	if b, err := Bytes(x); len(b) != 19 || !bytes.Equal(b[:15], want) || err != api.OK {
		t.Errorf("Bytes(%+v) is %v, error %d", x, b, err)
	}
	allowed(func(x api.Tag) {
		if b, err := Bytes(x); !bytes.Equal(b, plain(x)) || err != api.OK {
			t.Errorf("Bytes(%+v) is %v, error %d; want %v", x, b, err, plain(x))
		}
	})
}

func TestBytesOfWhatMayNotBe(t *testing.T) {
	wrong(func(x api.Tag) {
		if b, err := Bytes(x); len(b) != 0 || err != api.ErrArg {
			t.Errorf("Bytes(%+v) is %v, error %d", x, b, err)
		}
	})
}

func TestParse(t *testing.T) {
	allowed(func(x api.Tag) {
		parses(t, "a tag", plain(x), x, api.OK)
	})
}

func TestParseOfTooFewBytes(t *testing.T) {
	refuses(t, "nil", nil, api.ErrForm)
	for _, x := range whole {
		b := plain(x)
		for cut := range len(b) {
			refuses(t, "a tag's beginning", b[:cut], api.ErrForm)
			refuses(t, "a tag's beginning, with no room behind", b[:cut:cut], api.ErrForm)
		}
	}
}

func TestParseWithBytesBehind(t *testing.T) {
	for _, x := range whole {
		b := plain(x)
		for _, behind := range [][]byte{{0}, {1}, {255}, b, make([]byte, 13)} {
			refuses(t, "a tag, and bytes", append(bytes.Clone(b), behind...), api.ErrForm)
		}
	}
}

// TestParseOfAnotherSum turns over bits: those of the length tell of more bytes than there are, or of fewer.
func TestParseOfAnotherSum(t *testing.T) {
	for _, x := range whole {
		b := plain(x)
		for i := range b {
			for bit := range 8 {
				b[i] ^= 1 << bit
				want := api.ErrCheck
				if i == 1 && b[i] > 12 || i == 2 {
					want = api.ErrForm
				}
				refuses(t, "a bit turned over", b, want)
				b[i] ^= 1 << bit
			}
		}
	}
	refuses(t, "zeros", make([]byte, 19), api.ErrCheck)
}

// TestParseTellsTheSumFirst spoils the sum of frames that are no tags for another reason, too.
func TestParseTellsTheSumFirst(t *testing.T) {
	for _, b := range [][]byte{
		sealed(83, body(whole[1])),
		sealed(84, body(api.Tag{})),
		sealed(84, body(whole[1])[:11]),
		sealed(84, nil),
	} {
		b[len(b)-1] ^= 1
		refuses(t, "another sum", b, api.ErrCheck)
		refuses(t, "another sum, and a byte behind", append(b, 7), api.ErrCheck)
	}
}

func TestParseOfAnotherKind(t *testing.T) {
	for kind := range 256 {
		if kind == 84 {
			continue
		}
		for _, x := range whole {
			refuses(t, "another kind", sealed(byte(kind), body(x)), api.ErrForm)
		}
	}
}

func TestParseOfAnotherBody(t *testing.T) {
	for _, x := range whole {
		long := append(body(x), make([]byte, 300)...)
		for n := range long {
			if n != 12 {
				refuses(t, "a body of another length", sealed(84, long[:n]), api.ErrForm)
			}
		}
	}
}

func TestParseOfAnotherFlag(t *testing.T) {
	for _, x := range whole {
		b := body(x)
		for flag := range 256 {
			b[11] = byte(flag)
			switch flag {
			case 0, 1:
				x.Copy = flag == 1
				parses(t, "a flag", sealed(84, b), x, api.OK)
			default:
				refuses(t, "no flag", sealed(84, b), api.ErrForm)
			}
		}
	}
}

// TestParseOfEachByte puts each number into each byte of a body: what may be is read as it stands, the rest is refused.
func TestParseOfEachByte(t *testing.T) {
	for _, x := range whole {
		for i := range 11 {
			for v := range 256 {
				b := body(x)
				b[i] = byte(v)
				y := api.Tag{
					Tenant: int(b[0]),
					Epoch:  int(b[1]) + int(b[2])<<8 + int(b[3])<<16 + int(b[4])<<24,
					Place:  int(b[5]),
					Seq:    int(b[6]) + int(b[7])<<8 + int(b[8])<<16 + int(b[9])<<24,
					Kind:   int(b[10]),
					Copy:   b[11] == 1,
				}
				if y.Tenant <= 3 && y.Epoch <= top && y.Place <= 63 && y.Seq <= top && (y.Kind == 1 || y.Kind == 2) {
					parses(t, "a body", sealed(84, b), y, api.OK)
				} else {
					refuses(t, "a tag that may not be", sealed(84, b), api.ErrForm)
				}
			}
		}
	}
}

func TestNewer(t *testing.T) {
	for _, c := range []struct {
		a, b api.Tag
		want bool
	}{
		{api.Tag{Seq: 2}, api.Tag{Seq: 1}, true},
		{api.Tag{Seq: 1}, api.Tag{Seq: 2}, false},
		{api.Tag{Seq: 1}, api.Tag{Seq: 1}, false},
		{api.Tag{Seq: 1}, api.Tag{Seq: 1, Copy: true}, true},
		{api.Tag{Seq: 1, Copy: true}, api.Tag{Seq: 1}, false},
		{api.Tag{Seq: 1, Copy: true}, api.Tag{Seq: 1, Copy: true}, false},
		{api.Tag{Seq: 2, Copy: true}, api.Tag{Seq: 1}, true},
		{api.Tag{Seq: 1}, api.Tag{Seq: 2, Copy: true}, false},
		{api.Tag{Seq: math.MaxInt}, api.Tag{Seq: math.MinInt}, true},
		{api.Tag{Seq: math.MinInt}, api.Tag{Seq: math.MaxInt}, false},
	} {
		if got := Newer(c.a, c.b); got != c.want {
			t.Errorf("Newer(%+v, %+v) is %t", c.a, c.b, got)
		}
	}
}

// TestNewerAsksNothingElse gives tags, also those that may not be, whose other numbers tell the other way.
func TestNewerAsksNothingElse(t *testing.T) {
	seqs := []int{math.MinInt, -1, 0, 1, 5, top, top + 1, math.MaxInt}
	others := []api.Tag{
		{},
		{Tenant: 3, Epoch: 9, Place: 63, Kind: 2},
		{Tenant: -1, Epoch: math.MinInt, Place: math.MaxInt, Kind: 77},
	}
	for _, a := range others {
		for _, b := range others {
			for _, a.Seq = range seqs {
				for _, b.Seq = range seqs {
					for _, a.Copy = range []bool{false, true} {
						for _, b.Copy = range []bool{false, true} {
							want := a.Seq > b.Seq || a.Seq == b.Seq && !a.Copy && b.Copy
							if got := Newer(a, b); got != want {
								t.Fatalf("Newer(%+v, %+v) is %t", a, b, got)
							}
						}
					}
				}
			}
		}
	}
}

func TestNothingIsShared(t *testing.T) {
	x := whole[1]
	one, _ := Bytes(x)
	other, _ := Bytes(x)
	clear(one)
	if !bytes.Equal(other, plain(x)) {
		t.Error("two answers share memory")
	}
	b := append(make([]byte, 0, 64), plain(x)...)
	parses(t, "a tag, with room behind", b, x, api.OK)
	if !bytes.Equal(b, plain(x)) || !bytes.Equal(b[:64][19:], make([]byte, 45)) {
		t.Error("what was handed in is changed")
	}
}

// P8.2

func TestWhatMayBeIsRead(t *testing.T) {
	allowed(func(x api.Tag) {
		b, err := Bytes(x)
		if err != api.OK || len(b) == 0 || len(b) > api.MaxOob {
			t.Fatalf("Bytes(%+v) are %d, error %d", x, len(b), err)
		}
		parses(t, "what was made", b, x, api.OK)
	})
}

func TestEachPlaceIsRead(t *testing.T) {
	seen := map[string]api.Tag{}
	for tenant := range api.Tenants {
		for place := range api.MaxSize {
			for kind := api.KindWrite; kind <= api.KindTrim; kind++ {
				for _, isCopy := range []bool{false, true} {
					x := api.Tag{Tenant: tenant, Epoch: 300, Place: place, Seq: 70000, Kind: kind, Copy: isCopy}
					b, _ := Bytes(x)
					if other, ok := seen[string(b)]; ok {
						t.Fatalf("%+v and %+v have the same bytes", x, other)
					}
					seen[string(b)] = x
					parses(t, "what was made", b, x, api.OK)
				}
			}
		}
	}
}
