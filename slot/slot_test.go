package slot

import (
	"bytes"
	"fmt"
	"hash/crc32"
	"math"
	"slices"
	"testing"
)

// some is the record that most tests have: no two of its bytes that aren't 0 are
// alike.
var some = Rec{Gen: 0x0807060504030201, Len: 0xfedc, Sum: 0xa1b2c3d4}

// gens are those that may be: the ends, and each bit and byte.
func gens() []uint64 {
	l := []uint64{1, 2, 3, 255, 256, 257, 258, 65535, 65536, math.MaxUint32, 1<<62 - 2, 1<<62 - 1, 1 << 62, 0x0807060504030201}
	for shift := range 62 {
		p := uint64(1) << shift
		l = append(l, p, p+1, 1<<62-p)
	}
	return l
}

// noGens are those that may not be.
func noGens() []uint64 {
	l := []uint64{0, 1<<62 + 1, 1<<62 + 2, 1<<62 + 255, 1<<62 + 256, 1<<63 - 1, 1 << 63, 1<<63 + 1, 3 << 62, math.MaxUint64 - 1, math.MaxUint64}
	for shift := range 62 {
		p := uint64(1) << shift
		l = append(l, 1<<62+p, 1<<63-p, 1<<63+p, 3<<62+p, -p)
	}
	return l
}

// lens are those that may be.
func lens() []uint64 {
	l := []uint64{0, 1, 2, 40, 255, 256, 257, 258, 511, 512, 513, 16384, 32767, 32768, 65279, 65280, 65534, 65535, 65536}
	for shift := range 16 {
		p := uint64(1) << shift
		l = append(l, p, p-1, 65536-p)
	}
	return l
}

// noLens are those that may not be; the lower bits of many are those of one that may.
func noLens() []uint64 {
	l := []uint64{65537, 65538, 65791, 65792, 65793, 131071, 131072, 131073, math.MaxUint32, math.MaxInt64, math.MaxUint64 - 1, math.MaxUint64}
	for shift := 17; shift < 64; shift++ {
		p := uint64(1) << shift
		l = append(l, p-1, p, p+1, p+65535, p+65536, -p, 1-p)
	}
	return l
}

// sums may all be.
func sums() []uint32 {
	l := []uint32{0, 1, 255, 256, 258, 0x01020304, 0xCBF43926, math.MaxInt32, math.MaxUint32 - 1, math.MaxUint32}
	for shift := range 32 {
		p := uint32(1) << shift
		l = append(l, p, p-1, ^p)
	}
	return l
}

// some records that may be, the least and the greatest among them.
func records() []Rec {
	return []Rec{
		some,
		{Gen: 1},
		{Gen: 258, Len: 3, Sum: 4},
		{Gen: 1, Len: 65536},
		{Gen: 1 << 62, Sum: math.MaxUint32},
		{Gen: 1 << 62, Len: 65536, Sum: math.MaxUint32},
	}
}

// spoil changes all that b has memory for.
func spoil(b []byte) {
	b = b[:cap(b)]
	for i := range b {
		b[i] ^= 0x5a
	}
}

// turned tells the same bytes, but one, which is turned.
func turned(b []byte, i int, by byte) []byte {
	b = bytes.Clone(b)
	b[i] ^= by
	return b
}

// wantGet wants Get of b to tell what the model does, and not to change b; and tells
// what is amiss in it.
func wantGet(t *testing.T, b []byte) int {
	t.Helper()
	was := bytes.Clone(b)
	want, amiss := recordOf(b)
	if r, ok := Get(b); r != want || ok != (amiss == nothing) {
		t.Fatalf("Get of %d bytes tells %+v, %v, want %+v (%d is amiss)\n%v", len(b), r, ok, want, amiss, b)
	}
	if !bytes.Equal(b, was) {
		t.Fatalf("Get changed the bytes from\n%v to\n%v", was, b)
	}
	return amiss
}

// wantAmiss wants Get of b to tell none, and the model why.
func wantAmiss(t *testing.T, b []byte, want int) {
	t.Helper()
	if amiss := wantGet(t, b); amiss != want {
		t.Fatalf("the model finds %d amiss, want %d", amiss, want)
	}
}

// wantRecord wants a record to be put as the model's bytes, those to be got as it
// (P17.3), and put again as they are.
func wantRecord(t *testing.T, r Rec) {
	t.Helper()
	if !isRecord(r) {
		t.Fatalf("the model takes %+v for none", r)
	}
	b := Put(r)
	if !bytes.Equal(b, bytesOf(r)) {
		t.Fatalf("Put of %+v tells\n%v, want\n%v", r, b, bytesOf(r))
	}
	wantAmiss(t, b, nothing)
	got, ok := Get(b)
	if !ok || got != r {
		t.Fatalf("Get of what was put tells %+v, %v, want %+v", got, ok, r)
	}
	if again := Put(got); !bytes.Equal(again, b) {
		t.Fatalf("what was got is put as\n%v, want\n%v", again, b)
	}
}

// wantNone wants what is no record to have no bytes, and those that it would have to
// be no record's, though their sum is right.
func wantNone(t *testing.T, r Rec) {
	t.Helper()
	if isRecord(r) {
		t.Fatalf("the model takes %+v for a record", r)
	}
	if b := Put(r); len(b) != 0 {
		t.Fatalf("Put of %+v tells %v", r, b)
	}
	wantAmiss(t, bytesOf(r), badNumber)
}

// The chapter's example.
func TestTheExample(t *testing.T) {
	if r, ok := Get(make([]byte, 512)); ok || r != (Rec{}) {
		t.Errorf("Get of 512 bytes, all 0, tells %+v, %v", r, ok)
	}
}

// The README's example.
func TestTheReadme(t *testing.T) {
	b := Put(Rec{Gen: 1, Len: 9, Sum: 0xCBF43926})
	if len(b) != 512 {
		t.Fatalf("%d bytes", len(b))
	}
	if r, ok := Get(b); !ok || r != (Rec{Gen: 1, Len: 9, Sum: 0xCBF43926}) {
		t.Errorf("Get tells %+v, %v", r, ok)
	}
	b[16] = 10
	if r, ok := Get(b); ok || r != (Rec{}) {
		t.Errorf("of a turned byte Get tells %+v, %v", r, ok)
	}
	if b = Put(Rec{Gen: 1, Len: 65537}); len(b) != 0 {
		t.Errorf("%d bytes of a Len that may not be", len(b))
	}
}

// P17.1: each byte written out, so that the model is held, too.
func TestBytesWrittenOut(t *testing.T) {
	for _, c := range []struct {
		r    Rec
		head []byte
	}{
		{Rec{Gen: 1}, []byte{83, 76, 79, 84, 0, 0, 0, 0, 1, 0, 0, 0, 0, 0, 0, 0, 0, 0, 0, 0, 0, 0, 0, 0, 0, 0, 0, 0}},
		{Rec{Gen: 1 << 62, Len: 65536, Sum: math.MaxUint32}, []byte{83, 76, 79, 84, 0, 0, 0, 0, 0, 0, 0, 0, 0, 0, 0, 64, 0, 0, 1, 0, 0, 0, 0, 0, 255, 255, 255, 255}},
		{some, []byte{83, 76, 79, 84, 0, 0, 0, 0, 1, 2, 3, 4, 5, 6, 7, 8, 0xdc, 0xfe, 0, 0, 0, 0, 0, 0, 0xd4, 0xc3, 0xb2, 0xa1}},
	} {
		s := crc32.ChecksumIEEE(c.head)
		want := slices.Concat(c.head, []byte{byte(s), byte(s >> 8), byte(s >> 16), byte(s >> 24)}, make([]byte, 480))
		if b := Put(c.r); !bytes.Equal(b, want) {
			t.Errorf("Put of %+v tells\n%v, want\n%v", c.r, b, want)
		}
		if r, ok := Get(want); !ok || r != c.r {
			t.Errorf("Get tells %+v, %v, want %+v", r, ok, c.r)
		}
		wantRecord(t, c.r)
	}
}

// P17.1: the sum, by the register of the chapter of layer 2, bit by bit.
func TestSumOfTheBytes(t *testing.T) {
	b := Put(Rec{Gen: 258, Len: 3, Sum: 4})
	register := ^uint32(0)
	for _, x := range b[:28] {
		for bit := range 8 {
			out := register&1 ^ uint32(x>>bit)&1
			register = register>>1 ^ out*0xEDB88320
		}
	}
	if got := number4(b, 28); got != ^register {
		t.Errorf("the sum is %08X, want %08X", got, ^register)
	}
}

// P17.1, P17.3: each number that may be beside each other one's ends.
func TestRecords(t *testing.T) {
	for _, r := range records() {
		wantRecord(t, r)
	}
	for _, gen := range gens() {
		for _, length := range []uint64{0, 258, 65536} {
			wantRecord(t, Rec{Gen: gen, Len: length, Sum: 4})
		}
	}
	for _, length := range lens() {
		for _, gen := range []uint64{1, 258, 1 << 62} {
			wantRecord(t, Rec{Gen: gen, Len: length, Sum: math.MaxUint32})
		}
	}
	for _, s := range sums() {
		for _, gen := range []uint64{1, 258, 1 << 62} {
			wantRecord(t, Rec{Gen: gen, Len: 0, Sum: s})
			wantRecord(t, Rec{Gen: gen, Len: 65536, Sum: s})
		}
	}
}

// P17.1: each Len there is, and those about them.
func TestEveryLen(t *testing.T) {
	for n := range uint64(65537) {
		wantRecord(t, Rec{Gen: 1 + n%9, Len: n, Sum: uint32(n)})
	}
	for n := uint64(65537); n < 70000; n++ {
		wantNone(t, Rec{Gen: 1 + n%9, Len: n, Sum: uint32(n)})
	}
}

// P17.1: a Gen that may not be, whatever the rest.
func TestNoGen(t *testing.T) {
	for _, gen := range noGens() {
		for _, length := range []uint64{0, 3, 65536, 65537, math.MaxUint64} {
			for _, s := range []uint32{0, 4, math.MaxUint32} {
				wantNone(t, Rec{Gen: gen, Len: length, Sum: s})
			}
		}
	}
	wantNone(t, Rec{})
}

// P17.1: a Len that may not be, whatever the rest.
func TestNoLen(t *testing.T) {
	for _, length := range noLens() {
		for _, gen := range []uint64{0, 1, 258, 1 << 62, 1<<62 + 1} {
			for _, s := range []uint32{0, 4, math.MaxUint32} {
				wantNone(t, Rec{Gen: gen, Len: length, Sum: s})
			}
		}
	}
}

// P17.1: bytes of other lengths; a record's with some cut off, or with 0 behind, too.
func TestOtherLengths(t *testing.T) {
	wantAmiss(t, nil, badSize)
	wantAmiss(t, []byte{}, badSize)
	for _, r := range records() {
		b := bytesOf(r)
		for n := range 512 {
			wantAmiss(t, b[:n:n], badSize)
			wantAmiss(t, b[:n], badSize)
			wantAmiss(t, b[512-n:], badSize)
		}
		for _, n := range []int{1, 2, 27, 28, 32, 480, 511, 512, 513, 1024, 65536 - 512, 65536} {
			wantAmiss(t, slices.Concat(b, make([]byte, n)), badSize)
			wantAmiss(t, slices.Concat(make([]byte, n), b), badSize)
		}
		wantAmiss(t, slices.Concat(b, b), badSize)
	}
	for _, n := range []int{1, 28, 32, 511, 513, 1024, 1 << 20} {
		wantAmiss(t, make([]byte, n), badSize)
	}
}

// P17.1: 512 bytes that are all alike.
func TestBytesAllAlike(t *testing.T) {
	for x := range 256 {
		wantAmiss(t, bytes.Repeat([]byte{byte(x)}, 512), badMark)
	}
}

// P17.1: each of the bytes turned, in each of its bits, and in all other ways.
func TestEachByteTurned(t *testing.T) {
	for _, r := range records() {
		b := bytesOf(r)
		for i := range b {
			want := badSum
			switch {
			case i < 8:
				want = badMark
			case i >= 32:
				want = badRest
			}
			for bit := range 8 {
				wantAmiss(t, turned(b, i, 1<<bit), want)
			}
		}
	}
	b := bytesOf(some)
	for i := range b {
		for by := 1; by < 256; by += 1 + i/64 {
			if amiss := wantGet(t, turned(b, i, byte(by))); amiss == nothing {
				t.Fatalf("byte %d, turned by %d, is none amiss", i, by)
			}
		}
	}
}

// P17.1: two of the bytes turned, by one of the sum's that might make up for it.
func TestTwoBytesTurned(t *testing.T) {
	b := bytesOf(some)
	for i := range 48 {
		for j := i + 1; j < 48; j++ {
			for _, by := range []byte{1, 16, 128, 255} {
				if amiss := wantGet(t, turned(turned(b, i, by), j, by)); amiss == nothing {
					t.Fatalf("bytes %d and %d, turned by %d, are not amiss", i, j, by)
				}
			}
		}
	}
}

// P17.1: each bit of the 28 bytes turned, and the sum made anew: none, if the mark
// or a number is one that may not be; else the record with that number.
func TestEachBitTurnedAndSummedAnew(t *testing.T) {
	seen := [6]int{}
	for _, r := range records() {
		for i := range 28 {
			for bit := range 8 {
				b := anew(turned(bytesOf(r), i, 1<<bit))
				amiss := wantGet(t, b)
				if (i < 8) != (amiss == badMark) || i >= 24 && amiss != nothing {
					t.Fatalf("byte %d turned: %d is amiss", i, amiss)
				}
				if got, _ := Get(b); amiss == nothing && got == r {
					t.Fatalf("byte %d turned: the record is the same", i)
				}
				seen[amiss]++
			}
		}
	}
	if seen[nothing] == 0 || seen[badMark] == 0 || seen[badNumber] == 0 {
		t.Errorf("not all came about: %v", seen)
	}
}

// P17.1: other first words, all else right.
func TestOtherMarks(t *testing.T) {
	for _, s := range []string{
		"\x00\x00\x00\x00\x00\x00\x00\x00", "slot\x00\x00\x00\x00", "TOLS\x00\x00\x00\x00", "\x00\x00\x00\x00SLOT",
		"\x00\x00\x00\x00TOLS", "SLOT\x01\x00\x00\x00", "SLOT\x00\x00\x00\x01", "SLOTSLOT", "SLOT    ",
		"SLO\x00\x00\x00\x00\x00", "SLOS\x00\x00\x00\x00", "CNTL\x01\x00\x00\x00", "CNTL\x00\x00\x00\x00",
		"\xff\xff\xff\xff\xff\xff\xff\xff",
	} {
		for _, r := range records() {
			p := partsOf(r)
			p.mark = s
			wantAmiss(t, p.all(), badMark)
		}
	}
}

// P17.1: other sums of the 28 bytes: turned, of more bytes, of fewer, the highest
// first, Sum itself, 0.
func TestOtherSums(t *testing.T) {
	for _, r := range records() {
		b := bytesOf(r)
		s := number4(b, 28)
		others := []uint32{0, 1, r.Sum, ^s, s + 1, s - 1, s<<8 | s>>24, s>>8 | s<<24, s<<16 | s>>16, math.MaxUint32}
		others = append(others, s>>24|s>>8&0xff00|s<<8&0xff0000|s<<24)
		for _, span := range [][2]int{{0, 24}, {0, 27}, {0, 29}, {0, 32}, {0, 512}, {1, 28}, {4, 28}, {8, 28}, {8, 24}, {16, 28}, {24, 28}, {28, 28}} {
			others = append(others, crc32.ChecksumIEEE(b[span[0]:span[1]]))
		}
		table := crc32.MakeTable(crc32.Castagnoli)
		others = append(others, crc32.Checksum(b[:28], table))
		for _, x := range others {
			p := partsOf(r)
			p.turn = x ^ s
			if x == s {
				continue
			}
			wantAmiss(t, p.all(), badSum)
		}
	}
}

// P17.1: behind the sum a byte, or many, that isn't 0.
func TestNotAllElseIsZero(t *testing.T) {
	for _, r := range records() {
		for i := 32; i < 512; i++ {
			for _, x := range []byte{1, 32, 128, 255} {
				p := partsOf(r)
				p.behind = map[int]byte{i: x}
				wantAmiss(t, p.all(), badRest)
				p.behind[511] = 1
				p.behind[32] = 1
				wantAmiss(t, p.all(), badRest)
			}
		}
		b := bytesOf(r)
		copy(b[32:], bytes.Repeat(b[:32], 15))
		wantAmiss(t, b, badRest)
	}
}

// P17.1: two things amiss, or more: still none, whichever they are.
func TestManyThingsAmiss(t *testing.T) {
	for set := 1; set < 64; set++ {
		p := partsOf(some)
		want := nothing
		for i, x := range []struct {
			amiss int
			make  func()
		}{
			{badSize, func() { p.size = 511 }},
			{badMark, func() { p.mark = "SLOU\x00\x00\x00\x00" }},
			{badSum, func() { p.turn = 1 << 31 }},
			{badNumber, func() { p.gen = 0 }},
			{badNumber, func() { p.length = 65537 }},
			{badRest, func() { p.behind = map[int]byte{511: 1} }},
		} {
			if set>>i%2 == 0 {
				continue
			}
			x.make()
			if want == nothing {
				want = x.amiss
			}
		}
		t.Run(fmt.Sprint(set), func(t *testing.T) { wantAmiss(t, p.all(), want) })
	}
}

// P17.2: whoever changes what Put told, or adds to it, changes nothing else that it
// told, nor what it tells next.
func TestWhatIsToldIsNewMemory(t *testing.T) {
	for _, r := range records() {
		first, second := Put(r), Put(r)
		spoil(first)
		if !bytes.Equal(second, bytesOf(r)) {
			t.Fatalf("the second of %+v is changed with the first", r)
		}
		_ = append(first, 1, 2, 3)
		wantRecord(t, r)
		for _, other := range records() {
			b := Put(other)
			spoil(second)
			if !bytes.Equal(b, bytesOf(other)) {
				t.Fatalf("those of %+v are changed with those of %+v", other, r)
			}
			spoil(b)
			wantRecord(t, other)
		}
	}
	spoil(Put(Rec{}))
	wantNone(t, Rec{})
}

// R2: Get keeps nothing of what is handed in, nor changes it, nor what is behind it.
func TestWhatIsHandedInIsNotKept(t *testing.T) {
	for _, r := range records() {
		long := bytes.Repeat([]byte{9}, 600)
		b := append(long[:20:600], bytesOf(r)...)[20:]
		got, ok := Get(b)
		if !ok || got != r {
			t.Fatalf("Get tells %+v, %v, want %+v", got, ok, r)
		}
		if !bytes.Equal(b, bytesOf(r)) || !bytes.Equal(long[:20], bytes.Repeat([]byte{9}, 20)) || !bytes.Equal(long[532:], bytes.Repeat([]byte{9}, 68)) {
			t.Fatal("Get changed bytes")
		}
		spoil(b)
		if got != r {
			t.Fatalf("with the bytes the record turned %+v, want %+v", got, r)
		}
		wantRecord(t, r)
	}
}

// Nothing is kept from call to call: whatever came ahead, the answers are alike.
func TestNothingIsKept(t *testing.T) {
	for _, r := range records() {
		for _, ahead := range [][]byte{nil, make([]byte, 512), bytesOf(some), turned(bytesOf(some), 28, 1), bytesOf(Rec{})} {
			wantGet(t, ahead)
			wantRecord(t, r)
			wantGet(t, ahead)
			wantNone(t, Rec{Gen: r.Gen, Len: 65537, Sum: r.Sum})
		}
	}
}

// draw tells numbers that follow no short rule, the same ones each time.
type draw uint32

// next tells a number from 0 to n - 1.
func (d *draw) next(n int) int {
	*d = *d*1664525 + 1013904223
	return int(*d>>8) % n
}

// wide tells a number of up to 64 bits, small ones as often as great ones.
func (d *draw) wide() uint64 {
	v := uint64(0)
	for range 4 {
		v = v<<16 | uint64(d.next(65536))
	}
	return v >> d.next(64)
}

// pick tells one of l.
func (d *draw) pick(l []uint64) uint64 { return l[d.next(len(l))] }

// record tells a record, or what is none.
func (d *draw) record() Rec {
	r := Rec{Gen: d.wide(), Len: uint64(d.next(65537)), Sum: uint32(d.wide())}
	switch d.next(8) {
	case 0:
		r.Gen = d.pick(noGens())
	case 1:
		r.Gen = d.pick(gens())
	case 2:
		r.Len = d.pick(noLens())
	case 3:
		r.Len = d.pick(lens())
	case 4:
		r.Len = d.wide()
	}
	return r
}

// bytes tells bytes that are mostly nearly a record's.
func (d *draw) bytes() []byte {
	p := partsOf(d.record())
	switch d.next(8) {
	case 0:
		p.turn = uint32(d.wide())
	case 1:
		p.behind = map[int]byte{32 + d.next(480): byte(d.next(256)), 32 + d.next(480): byte(d.next(256))}
	case 2:
		p.size = d.next(1100)
	case 3:
		p.mark = string(turned([]byte(p.mark), d.next(8), byte(d.next(256))))
	}
	b := p.all()
	if d.next(8) == 0 && len(b) > 0 {
		b[d.next(len(b))] ^= byte(d.next(256))
	}
	if d.next(8) == 0 && len(b) >= 32 {
		b[d.next(28)] ^= byte(d.next(256))
		b = anew(b)
	}
	return b
}

// P17.1, P17.3: many drawn records, held against the model.
func TestDrawnRecords(t *testing.T) {
	d := draw(17)
	are, none := 0, 0
	for range 20000 {
		if r := d.record(); isRecord(r) {
			wantRecord(t, r)
			are++
		} else {
			wantNone(t, r)
			none++
		}
	}
	if are < 2000 || none < 2000 {
		t.Errorf("%d records, %d that are none", are, none)
	}
}

// P17.1, P17.3: many drawn bytes, held against the model; what is got of them is put
// as they are.
func TestDrawnBytes(t *testing.T) {
	d := draw(18)
	seen := [6]int{}
	for range 40000 {
		b := d.bytes()
		amiss := wantGet(t, b)
		seen[amiss]++
		if amiss != nothing {
			continue
		}
		r, _ := Get(b)
		if again := Put(r); !bytes.Equal(again, b) {
			t.Fatalf("what was got is put as\n%v, want\n%v", again, b)
		}
	}
	for amiss, n := range seen {
		if n < 500 {
			t.Errorf("only %d bytes with %d amiss", n, amiss)
		}
	}
}

// P1: whatever bytes there are, Get ends, and tells what the model does.
func FuzzGet(f *testing.F) {
	f.Add([]byte(nil))
	f.Add(make([]byte, 512))
	for _, r := range records() {
		f.Add(bytesOf(r))
		f.Add(bytesOf(r)[:511])
		f.Add(bytesOf(r)[:32])
	}
	f.Fuzz(func(t *testing.T, b []byte) {
		if wantGet(t, b) != nothing {
			return
		}
		r, _ := Get(b)
		wantRecord(t, r)
		if !bytes.Equal(Put(r), b) {
			t.Fatalf("what was got is put as %v", Put(r))
		}
	})
}

// P1: whatever numbers there are, Put ends, and tells what the model does.
func FuzzPut(f *testing.F) {
	for _, r := range append(records(), Rec{}, Rec{Gen: 1<<62 + 1}, Rec{Gen: 1, Len: 65537}) {
		f.Add(r.Gen, r.Len, r.Sum)
	}
	f.Fuzz(func(t *testing.T, gen, length uint64, s uint32) {
		if r := (Rec{Gen: gen, Len: length, Sum: s}); isRecord(r) {
			wantRecord(t, r)
		} else {
			wantNone(t, r)
		}
	})
}
