package snap

import (
	"bytes"
	"hash/crc32"
	"math"
	"reflect"
	"slices"
	"testing"

	"almshouse/api"
	"almshouse/ledger"
)

const top = math.MaxInt32 // of Gen, and of an Epoch

// sample is a ledger that may be, of 12 blocks of 4 pages: tenant 1 isn't there, nobody has the blocks 5 and 9.
func sample() api.Ledger {
	return api.Ledger{Gen: 0x01020304, Epochs: 0x05060708, Tenants: [api.Tenants]api.Tenant{
		0: {There: true, Epoch: 0x05060708, Size: 3, Spare: 0, Blocks: []int{11, 2}},
		2: {There: true, Epoch: 1, Size: 5, Spare: 1, Blocks: []int{3, 10, 4, 8}},
		3: {There: true, Epoch: 259, Size: 1, Spare: 0, Blocks: []int{6, 7}},
	}}
}

// spoilt is the sample, with something done to it.
func spoilt(do func(l *api.Ledger)) api.Ledger {
	l := sample()
	do(&l)
	return l
}

// span are the numbers from one up to, and without, another one.
func span(from, end int) []int {
	var l []int
	for v := from; v < end; v++ {
		l = append(l, v)
	}
	return l
}

// crowded is a ledger that may be, of the greatest array: all tenants are there, and have all blocks.
func crowded() api.Ledger {
	l := api.Ledger{Gen: top, Epochs: top}
	for t := range l.Tenants {
		l.Tenants[t] = api.Tenant{There: true, Epoch: top - t, Size: 1 + t, Spare: t, Blocks: span(2+15*t, 17+15*t)}
	}
	l.Tenants[3].Blocks = span(47, 64)
	return l
}

// single is a ledger that may be, of the greatest array of the least pages: one tenant has all blocks.
func single() api.Ledger {
	l := api.Ledger{Gen: 1, Epochs: 1}
	l.Tenants[1] = api.Tenant{There: true, Epoch: 1, Size: 64, Spare: 8, Blocks: span(2, 64)}
	return l
}

// sealed is a frame of a kind and a body, as the document tells it.
func sealed(kind byte, body []byte) []byte {
	b := append([]byte{kind, byte(len(body)), byte(len(body) >> 8)}, body...)
	s := crc32.Checksum(b, crc32.MakeTable(crc32.Castagnoli))
	return append(b, byte(s), byte(s>>8), byte(s>>16), byte(s>>24))
}

// four are the bytes of a number.
func four(v int) []byte { return []byte{byte(v), byte(v >> 8), byte(v >> 16), byte(v >> 24)} }

// body is a ledger's, as the document tells it, whether the ledger may be or not.
func body(l api.Ledger) []byte {
	b := slices.Concat(four(l.Gen), four(l.Epochs))
	for _, e := range l.Tenants {
		if !e.There {
			b = append(b, 0)
			continue
		}
		b = slices.Concat(b, []byte{1}, four(e.Epoch), []byte{byte(e.Size), byte(e.Spare), byte(len(e.Blocks))})
		for _, block := range e.Blocks {
			b = append(b, byte(block))
		}
	}
	return b
}

// whole are a ledger's bytes, as the document tells them.
func whole(l api.Ledger) []byte { return sealed(76, body(l)) }

// plain makes of empty rows none, so that ledgers are held against each other without Same.
func plain(l api.Ledger) api.Ledger {
	for i, e := range l.Tenants {
		l.Tenants[i].Blocks = append([]int(nil), e.Blocks...)
	}
	return l
}

// writes asks that a ledger's bytes are as the document tells them.
func writes(t *testing.T, what string, l api.Ledger, blocks, pages int) {
	t.Helper()
	if b, err := Bytes(l, blocks, pages); !bytes.Equal(b, whole(l)) || err != api.OK {
		t.Errorf("%s: Bytes of %+v are %v, error %d; want %v", what, l, b, err, whole(l))
	}
}

// refusesBytes asks that a ledger has no bytes.
func refusesBytes(t *testing.T, what string, l api.Ledger, blocks, pages int) {
	t.Helper()
	if b, err := Bytes(l, blocks, pages); len(b) != 0 || err != api.ErrForm {
		t.Errorf("%s: Bytes of %+v are %v, error %d", what, l, b, err)
	}
}

// reads asks that bytes are a ledger's.
func reads(t *testing.T, what string, b []byte, blocks, pages int, want api.Ledger) {
	t.Helper()
	if l, err := Parse(b, blocks, pages); !reflect.DeepEqual(plain(l), plain(want)) || err != api.OK {
		t.Errorf("%s: Parse of %v is %+v, error %d; want %+v", what, b, l, err, want)
	}
}

// refuses asks that bytes are no ledger's.
func refuses(t *testing.T, what string, b []byte, blocks, pages int, want api.Errno) {
	t.Helper()
	if l, err := Parse(b, blocks, pages); !reflect.DeepEqual(l, api.Ledger{}) || err != want {
		t.Errorf("%s: Parse of %v is %+v, error %d; want nothing, error %d", what, b, l, err, want)
	}
}

// allowed calls a function with ledgers that may be, and arrays of which they may be.
func allowed(call func(what string, l api.Ledger, blocks, pages int)) {
	call("the empty one", api.Ledger{}, 3, 2)
	call("the empty one, of no array", api.Ledger{}, -1, 99)
	call("the greatest Gen and Epochs", api.Ledger{Gen: top, Epochs: top}, 64, 16)
	call("unlike Gen and Epochs", api.Ledger{Gen: 0x7f00ff80, Epochs: 0x00807f01}, 64, 16)
	call("the sample", sample(), 12, 4)
	call("the sample, of a greater array", sample(), 64, 16)
	call("the sample, of the greatest number of blocks", sample(), math.MaxInt, 4)
	call("an empty row of nobody's", spoilt(func(l *api.Ledger) { l.Tenants[1].Blocks = []int{} }), 12, 4)
	call("a crowded one", crowded(), 64, 16)
	call("a single tenant", single(), 64, 2)
	for t := range api.Tenants {
		l := api.Ledger{Gen: 5, Epochs: 9}
		l.Tenants[t] = api.Tenant{There: true, Epoch: 9, Size: 8, Spare: 1, Blocks: []int{9, 2, 8, 3, 5}}
		call("one tenant alone", l, 10, 4)
	}
}

// wrong calls a function with ledgers that may not be, of 12 blocks of 4 pages.
func wrong(call func(what string, l api.Ledger)) {
	for what, do := range map[string]func(l *api.Ledger){
		"Gen below 0":                    func(l *api.Ledger) { l.Gen = -1 },
		"Gen too great":                  func(l *api.Ledger) { l.Gen = top + 1 },
		"Gen of five bytes":              func(l *api.Ledger) { l.Gen = 1 << 32 },
		"Gen far too great":              func(l *api.Ledger) { l.Gen = math.MaxInt },
		"Epochs below 0":                 func(l *api.Ledger) { *l = api.Ledger{Epochs: -1} },
		"Epochs too great":               func(l *api.Ledger) { l.Epochs = top + 1 },
		"an Epoch of nobody's":           func(l *api.Ledger) { l.Tenants[1].Epoch = 2 },
		"a Size of nobody's":             func(l *api.Ledger) { l.Tenants[1].Size = 1 },
		"blocks of nobody's":             func(l *api.Ledger) { l.Tenants[1].Blocks = []int{5} },
		"There alone":                    func(l *api.Ledger) { l.Tenants[1].There = true },
		"Epoch 0":                        func(l *api.Ledger) { l.Tenants[2].Epoch = 0 },
		"Epoch above Epochs":             func(l *api.Ledger) { l.Tenants[2].Epoch = l.Epochs + 1 },
		"one Epoch of two":               func(l *api.Ledger) { l.Tenants[3].Epoch = 1 },
		"Size 0":                         func(l *api.Ledger) { l.Tenants[0].Size = 0 },
		"Size 65":                        func(l *api.Ledger) { l.Tenants[0].Size = 65 },
		"a Size that is right in a byte": func(l *api.Ledger) { l.Tenants[0].Size = 259 },
		"Spare below 0":                  func(l *api.Ledger) { l.Tenants[2].Spare = -1 },
		"Spare 9":                        func(l *api.Ledger) { l.Tenants[2].Spare = 9 },
		"a size that needs more blocks":  func(l *api.Ledger) { l.Tenants[3].Size = 4 },
		"a block too few":                func(l *api.Ledger) { l.Tenants[2].Blocks = []int{3, 10, 4} },
		"no block":                       func(l *api.Ledger) { l.Tenants[2].Blocks = nil },
		"an admin's block":               func(l *api.Ledger) { l.Tenants[2].Blocks[1] = 1 },
		"a block below 0":                func(l *api.Ledger) { l.Tenants[0].Blocks[0] = -1 },
		"the block behind the last one":  func(l *api.Ledger) { l.Tenants[0].Blocks[1] = 12 },
		"a block that is one in a byte":  func(l *api.Ledger) { l.Tenants[0].Blocks[1] = 258 },
		"a block of two":                 func(l *api.Ledger) { l.Tenants[3].Blocks[1] = 11 },
		"a tenant's block twice":         func(l *api.Ledger) { l.Tenants[2].Blocks[3] = 3 },
		"more blocks than the array's":   func(l *api.Ledger) { l.Tenants[2].Blocks = span(2, 13) },
	} {
		call(what, spoilt(do))
	}
}

// P11.1: Bytes

func TestBytesOfTheEmptyLedger(t *testing.T) {
	b, err := Bytes(api.Ledger{}, 3, 2)
	if want := append([]byte{76, 12, 0}, make([]byte, 12)...); len(b) != 19 || !bytes.Equal(b[:15], want) || err != api.OK {
		t.Errorf("Bytes are %v, error %d", b, err)
	}
}

func TestBytesOneByOne(t *testing.T) {
	want := []byte{
		76, 41, 0,
		4, 3, 2, 1, 8, 7, 6, 5,
		1, 8, 7, 6, 5, 3, 0, 2, 11, 2,
		0,
		1, 1, 0, 0, 0, 5, 1, 4, 3, 10, 4, 8,
		1, 3, 1, 0, 0, 1, 0, 2, 6, 7,
	}
	b, err := Bytes(sample(), 12, 4)
	if err != api.OK || len(b) != 48 || !bytes.Equal(b[:44], want) {
		t.Errorf("Bytes are %v, error %d", b, err)
	}
}

func TestBytes(t *testing.T) {
	allowed(func(what string, l api.Ledger, blocks, pages int) { writes(t, what, l, blocks, pages) })
}

func TestBytesOfWhatMayNotBe(t *testing.T) {
	wrong(func(what string, l api.Ledger) { refusesBytes(t, what, l, 12, 4) })
}

// TestBytesOfAnArray goes over the blocks and pages of the array: what a ledger may be hangs on them.
func TestBytesOfAnArray(t *testing.T) {
	for blocks := -3; blocks <= 300; blocks++ {
		for pages := -3; pages <= 20; pages++ {
			if blocks >= 12 && pages >= 4 && pages <= 16 {
				writes(t, "the sample", sample(), blocks, pages)
			} else {
				refusesBytes(t, "the sample", sample(), blocks, pages)
			}
		}
	}
	for _, n := range []int{math.MinInt, math.MinInt + 1, -1 << 32, 11, 0} {
		refusesBytes(t, "an array of too few blocks", sample(), n, 4)
		writes(t, "the empty ledger, of too few blocks", api.Ledger{Gen: 1}, n, 4)
	}
	for _, n := range []int{math.MinInt, 1, 3, 17, 1<<32 + 4, math.MaxInt} {
		refusesBytes(t, "pages that may not be", sample(), 12, n)
		writes(t, "the empty ledger, of pages that may not be", api.Ledger{Gen: 1}, 12, n)
	}
}

// TestBytesOfGreatBlocks gives blocks that no array has: those that one byte tells are told, the others can't be.
func TestBytesOfGreatBlocks(t *testing.T) {
	for _, block := range []int{12, 63, 64, 128, 254, 255} {
		l := spoilt(func(l *api.Ledger) { l.Tenants[2].Blocks[1] = block })
		for _, blocks := range []int{block + 1, 256, 257, 1000, math.MaxInt} {
			writes(t, "a block of one byte", l, blocks, 4)
		}
		refusesBytes(t, "a block behind the last one", l, block, 4)
	}
	for _, block := range []int{256, 257, 261, 1000, 1 << 16, 1<<32 + 5, math.MaxInt} {
		for _, blocks := range []int{255, 256, 257, 258, 1001, math.MaxInt} {
			refusesBytes(t, "a block of more bytes", spoilt(func(l *api.Ledger) { l.Tenants[2].Blocks[1] = block }), blocks, 4)
		}
	}
	all := single()
	all.Tenants[1].Blocks = span(2, 256)
	writes(t, "all blocks of one byte", all, 256, 2)
	writes(t, "all blocks of one byte, of more", all, 400, 2)
	all.Tenants[1].Blocks = span(2, 257)
	refusesBytes(t, "a block more", all, 400, 2)
}

// P11.1: Parse

func TestParse(t *testing.T) {
	allowed(func(what string, l api.Ledger, blocks, pages int) { reads(t, what, whole(l), blocks, pages, l) })
}

func TestParseOfTooFewBytes(t *testing.T) {
	refuses(t, "nil", nil, 12, 4, api.ErrForm)
	for _, l := range []api.Ledger{{}, sample(), crowded()} {
		b := whole(l)
		for cut := range len(b) {
			refuses(t, "a ledger's beginning", b[:cut], 64, 16, api.ErrForm)
			refuses(t, "a ledger's beginning, with no room behind", b[:cut:cut], 64, 16, api.ErrForm)
		}
	}
}

func TestParseWithBytesBehind(t *testing.T) {
	for _, l := range []api.Ledger{{}, sample(), crowded()} {
		b := whole(l)
		for _, behind := range [][]byte{{0}, {1}, {255}, b, make([]byte, 160)} {
			refuses(t, "a ledger, and bytes", append(bytes.Clone(b), behind...), 64, 16, api.ErrForm)
		}
	}
}

// TestParseOfAnotherSum turns over bits: those of the length tell of more bytes than there are, or of fewer.
func TestParseOfAnotherSum(t *testing.T) {
	for _, l := range []api.Ledger{{}, sample(), crowded()} {
		b := whole(l)
		low := b[1]
		for i := range b {
			for bit := range 8 {
				b[i] ^= 1 << bit
				want := api.ErrCheck
				if i == 1 && b[i] > low || i == 2 {
					want = api.ErrForm
				}
				refuses(t, "a bit turned over", b, 64, 16, want)
				b[i] ^= 1 << bit
			}
		}
	}
	refuses(t, "zeros", make([]byte, 160), 64, 16, api.ErrCheck)
}

// TestParseTellsTheSumFirst spoils the sum of frames that are no ledger's for another reason, too.
func TestParseTellsTheSumFirst(t *testing.T) {
	for _, b := range [][]byte{
		sealed(75, body(sample())),
		sealed(76, body(sample())[:20]),
		sealed(76, body(spoilt(func(l *api.Ledger) { l.Tenants[2].Size = 0 }))),
		sealed(76, nil),
	} {
		refuses(t, "no ledger", b, 12, 4, api.ErrForm)
		b[len(b)-1] ^= 1
		refuses(t, "another sum", b, 12, 4, api.ErrCheck)
		refuses(t, "another sum, and a byte behind", append(b, 7), 12, 4, api.ErrCheck)
		refuses(t, "another sum, of a smaller array", b, 5, 4, api.ErrCheck)
	}
}

func TestParseOfAnotherKind(t *testing.T) {
	for kind := range 256 {
		for _, l := range []api.Ledger{{}, sample()} {
			if b := sealed(byte(kind), body(l)); kind == 76 {
				reads(t, "the kind", b, 12, 4, l)
			} else {
				refuses(t, "another kind", b, 12, 4, api.ErrForm)
			}
		}
	}
}

func TestParseOfAnotherBody(t *testing.T) {
	for _, l := range []api.Ledger{{}, sample(), crowded(), single()} {
		right := body(l)
		for _, behind := range [][]byte{make([]byte, 300), bytes.Repeat([]byte{1}, 300)} {
			long := append(body(l), behind...)
			for n := range long {
				if n != len(right) {
					refuses(t, "a body of another length", sealed(76, long[:n]), 64, 2, api.ErrForm)
				}
			}
		}
	}
	refuses(t, "the longest body", sealed(76, append(body(sample()), make([]byte, 65535-41)...)), 12, 4, api.ErrForm)
}

// TestParseOfAnotherNumberOfBlocks tells of more blocks, or fewer, than there stand.
func TestParseOfAnotherNumberOfBlocks(t *testing.T) {
	for many := range 256 {
		for _, at := range []int{15, 26, 38} { // where the sample's bodies tell how many
			b := body(sample())
			if right := int(b[at]); many == right {
				continue
			}
			b[at] = byte(many)
			refuses(t, "another number of blocks", sealed(76, b), 12, 4, api.ErrForm)
		}
		l := single()
		l.Tenants[1].Blocks = span(2, 2+many)
		b := sealed(76, body(l))
		if enough := 64/4 + 2 + 8; many >= enough && many <= 62 {
			reads(t, "blocks", b, 64, 4, l)
		} else {
			refuses(t, "too few blocks, or too many", b, 64, 4, api.ErrForm)
		}
	}
}

func TestParseOfAnotherFlag(t *testing.T) {
	for flag := range 256 {
		for _, at := range []int{8, 18, 19, 31} { // where the sample's body tells who is there
			b := body(sample())
			if b[at] == byte(flag) {
				continue
			}
			b[at] = byte(flag)
			refuses(t, "another flag", sealed(76, b), 12, 4, api.ErrForm)
		}
		b := body(api.Ledger{})
		b[11] = byte(flag)
		if flag > 0 {
			refuses(t, "a flag alone", sealed(76, b), 12, 4, api.ErrForm)
		}
	}
}

// TestParseOfEachByte puts each number into each byte that tells no flag and no number of blocks: what may be is read as it stands, the rest is refused.
func TestParseOfEachByte(t *testing.T) {
	read := 0
	for at := range body(sample()) {
		if slices.Contains([]int{8, 15, 18, 19, 26, 31, 38}, at) {
			continue
		}
		for v := range 256 {
			b := body(sample())
			b[at] = byte(v)
			l := told(b)
			if ledger.Check(l, 12, 4) == api.OK {
				reads(t, "a body", sealed(76, b), 12, 4, l)
				read++
			} else {
				refuses(t, "a ledger that may not be", sealed(76, b), 12, 4, api.ErrForm)
			}
		}
	}
	if read < 1000 {
		t.Errorf("only %d were read", read)
	}
}

// told is the ledger of a body whose flags and numbers of blocks are the sample's.
func told(b []byte) api.Ledger {
	number := func(at int) int {
		return int(b[at]) + int(b[at+1])<<8 + int(b[at+2])<<16 + int(b[at+3])<<24
	}
	entry := func(at, many int) api.Tenant {
		e := api.Tenant{There: true, Epoch: number(at), Size: int(b[at+4]), Spare: int(b[at+5])}
		for _, block := range b[at+7 : at+7+many] {
			e.Blocks = append(e.Blocks, int(block))
		}
		return e
	}
	return api.Ledger{Gen: number(0), Epochs: number(4), Tenants: [api.Tenants]api.Tenant{
		0: entry(9, 2), 2: entry(20, 4), 3: entry(32, 2),
	}}
}

func TestParseOfWhatMayNotBe(t *testing.T) {
	for what, do := range map[string]func(l *api.Ledger){
		"Gen 2^31":                      func(l *api.Ledger) { l.Gen = 1 << 31 },
		"Gen 2^32 - 1":                  func(l *api.Ledger) { l.Gen = 1<<32 - 1 },
		"Epochs 2^31":                   func(l *api.Ledger) { l.Epochs = 1 << 31 },
		"Epochs 2^31, nobody there":     func(l *api.Ledger) { *l = api.Ledger{Epochs: 1 << 31} },
		"an Epoch 2^31":                 func(l *api.Ledger) { l.Epochs, l.Tenants[0].Epoch = top, 1<<31 },
		"Epoch 0":                       func(l *api.Ledger) { l.Tenants[2].Epoch = 0 },
		"Epoch above Epochs":            func(l *api.Ledger) { l.Tenants[2].Epoch = l.Epochs + 1 },
		"one Epoch of two":              func(l *api.Ledger) { l.Tenants[3].Epoch = 1 },
		"Size 0":                        func(l *api.Ledger) { l.Tenants[0].Size = 0 },
		"Size 255":                      func(l *api.Ledger) { l.Tenants[0].Size = 255 },
		"Spare 9":                       func(l *api.Ledger) { l.Tenants[2].Spare = 9 },
		"no block":                      func(l *api.Ledger) { l.Tenants[2].Blocks = nil },
		"a block too few":               func(l *api.Ledger) { l.Tenants[2].Blocks = []int{3, 10, 4} },
		"an admin's block":              func(l *api.Ledger) { l.Tenants[2].Blocks[1] = 1 },
		"the block behind the last one": func(l *api.Ledger) { l.Tenants[0].Blocks[1] = 12 },
		"block 255":                     func(l *api.Ledger) { l.Tenants[0].Blocks[1] = 255 },
		"a block of two":                func(l *api.Ledger) { l.Tenants[3].Blocks[1] = 11 },
		"a tenant's block twice":        func(l *api.Ledger) { l.Tenants[2].Blocks[3] = 3 },
	} {
		refuses(t, what, whole(spoilt(do)), 12, 4, api.ErrForm)
	}
}

// TestParseOfAnArray goes over the blocks and pages of the array: what a ledger may be hangs on them.
func TestParseOfAnArray(t *testing.T) {
	b, empty := whole(sample()), whole(api.Ledger{Gen: 1})
	for blocks := -3; blocks <= 70; blocks++ {
		for pages := -3; pages <= 20; pages++ {
			if blocks >= 12 && pages >= 4 && pages <= 16 {
				reads(t, "the sample", b, blocks, pages, sample())
			} else {
				refuses(t, "the sample", b, blocks, pages, api.ErrForm)
			}
			reads(t, "the empty ledger", empty, blocks, pages, api.Ledger{Gen: 1})
		}
	}
	for _, n := range []int{math.MinInt, math.MinInt + 1, -1 << 32, 11} {
		refuses(t, "an array of too few blocks", b, n, 4, api.ErrForm)
	}
	for _, n := range []int{math.MinInt, 1<<32 + 4, math.MaxInt} {
		refuses(t, "pages that may not be", b, 12, n, api.ErrForm)
	}
	reads(t, "the greatest number of blocks", b, math.MaxInt, 4, sample())
}

// TestNothingIsShared spoils what was answered, and what was handed in, with room behind: neither is to be seen in the other.
func TestNothingIsShared(t *testing.T) {
	given := sample()
	for i, e := range given.Tenants {
		given.Tenants[i].Blocks = append(make([]int, 0, 32), e.Blocks...)
	}
	one, _ := Bytes(given, 12, 4)
	other, _ := Bytes(given, 12, 4)
	clear(one[:cap(one)])
	if !bytes.Equal(other, whole(sample())) {
		t.Error("two answers share memory")
	}
	if !reflect.DeepEqual(plain(given), plain(sample())) {
		t.Error("what was handed in is changed")
	}
	for _, e := range given.Tenants {
		if slices.Max(e.Blocks[len(e.Blocks):32]) != 0 {
			t.Error("the room behind what was handed in is changed")
		}
		clear(e.Blocks[:32])
	}
	if !bytes.Equal(other, whole(sample())) {
		t.Error("an answer shares memory with what was handed in")
	}
}

func TestNothingThatIsReadIsShared(t *testing.T) {
	b := append(make([]byte, 0, 300), whole(sample())...)
	one, _ := Parse(b, 12, 4)
	other, _ := Parse(b, 12, 4)
	if !bytes.Equal(b, whole(sample())) || !bytes.Equal(b[48:300], make([]byte, 252)) {
		t.Error("what was handed in is changed")
	}
	clear(b)
	for i := range one.Tenants {
		l := one.Tenants[i].Blocks
		clear(l[:cap(l)])
	}
	if !ledger.Same(other, sample()) {
		t.Error("an answer shares memory")
	}
	want := sample()
	for i, e := range other.Tenants {
		clear(e.Blocks[:cap(e.Blocks)])
		clear(want.Tenants[i].Blocks)
		if !ledger.Same(other, want) {
			t.Error("two rows of an answer share memory")
		}
	}
}

// P11.2

// returns asks that a ledger is read of its bytes, and that these fit in a page.
func returns(t *testing.T, l api.Ledger, blocks, pages int) {
	t.Helper()
	b, err := Bytes(l, blocks, pages)
	if err != api.OK || len(b) == 0 || len(b) > api.MaxData {
		t.Fatalf("Bytes of %+v are %d, error %d", l, len(b), err)
	}
	reads(t, "what was made", b, blocks, pages, l)
}

func TestWhatMayBeIsRead(t *testing.T) {
	allowed(func(what string, l api.Ledger, blocks, pages int) { returns(t, l, blocks, pages) })
	if b, _ := Bytes(crowded(), 64, 16); len(b) != 109 {
		t.Errorf("the longest bytes are %d", len(b))
	}
}

// walk goes over ledgers that may be, by the calls of layer 10.
type walk struct {
	blocks, pages int
	l             api.Ledger
	x             uint32
	done          int // how many calls were OK
}

// next is a number below n.
func (w *walk) next(n int) int {
	w.x = w.x*1664525 + 1013904223
	return int(w.x>>8) % n
}

// step is one call, if what comes of it may be.
func (w *walk) step() {
	who, size, spare := w.next(api.Tenants), 1+w.next(1+w.next(min(64, w.blocks*w.pages/3))), w.next(1+w.next(5))
	free := ledger.Free(w.l, w.blocks, nil)
	for i := range free {
		j := w.next(i + 1)
		free[i], free[j] = free[j], free[i]
	}
	got := free[:w.next(1+len(free))]
	var m api.Ledger
	var err api.Errno
	switch w.next(5) {
	case 0, 1:
		m, err = ledger.Create(w.l, who, size, spare, got)
	case 2:
		m, err = ledger.Resize(w.l, who, size, got[:len(got)/2])
	case 3:
		m, err = ledger.Swap(w.l, who, w.next(4), w.next(api.Tenants), w.next(4))
	case 4:
		if w.next(3) > 0 {
			return
		}
		m, err = ledger.Destroy(w.l, who)
	}
	if err == api.OK && ledger.Check(m, w.blocks, w.pages) == api.OK {
		w.l = m
		w.done++
	}
}

func TestWhatLedgersComeToIsRead(t *testing.T) {
	for _, g := range [][2]int{{12, 4}, {9, 2}, {64, 2}, {30, 16}, {64, 16}, {4, 3}} {
		w := &walk{blocks: g[0], pages: g[1], x: 1}
		seen := map[string]struct{}{}
		for range 3000 {
			was := w.done
			if w.step(); w.done == was {
				continue
			}
			returns(t, w.l, w.blocks, w.pages)
			b, _ := Bytes(w.l, w.blocks, w.pages)
			if _, is := seen[string(b)]; is {
				t.Fatalf("%+v has another one's bytes", w.l)
			}
			seen[string(b)] = struct{}{}
		}
		if w.done < 100 {
			t.Errorf("%d blocks of %d pages: only %d calls went on", w.blocks, w.pages, w.done)
		}
	}
}
