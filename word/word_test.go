package word

import (
	"bytes"
	"math/big"
	"slices"
	"testing"
)

// edges are numbers at which a byte, a half or a sign would go wrong.
func edges() []uint64 {
	l := []uint64{0x0102030405060708, 0x0807060504030201, 0xfedcba9876543210, 0x80000000ffffffff}
	for i := range 64 {
		p := uint64(1) << i
		l = append(l, p-1, p, p+1, ^p, -p)
	}
	return l
}

// counted tells n bytes, no two neighbours alike, none of them 0.
func counted(n int) []byte {
	b := make([]byte, n)
	for i := range b {
		b[i] = byte(i*37%251) + 1
	}
	return b
}

// model tells the number by long arithmetic, not by shifts as the package does.
func model(b []byte) uint64 {
	up := slices.Clone(b)
	slices.Reverse(up)
	return new(big.Int).SetBytes(up).Uint64()
}

func wantGet(t *testing.T, b []byte, at, want uint64, wantOK bool) {
	t.Helper()
	if v, ok := Get(b, at); v != want || ok != wantOK {
		t.Errorf("Get of %d bytes at %d: %#x %v, want %#x %v", len(b), at, v, ok, want, wantOK)
	}
}

func wantGet4(t *testing.T, b []byte, at uint64, want uint32, wantOK bool) {
	t.Helper()
	if v, ok := Get4(b, at); v != want || ok != wantOK {
		t.Errorf("Get4 of %d bytes at %d: %#x %v, want %#x %v", len(b), at, v, ok, want, wantOK)
	}
}

// P1.1: the lowest byte comes first.
func TestGetTellsTheLowestByteFirst(t *testing.T) {
	b := []byte{1, 2, 3, 4, 5, 6, 7, 8, 9}
	wantGet(t, b, 0, 0x0807060504030201, true)
	wantGet(t, b, 1, 0x0908070605040302, true)
	wantGet4(t, b, 0, 0x04030201, true)
	wantGet4(t, b, 5, 0x09080706, true)

	wantGet(t, []byte{0, 0, 0, 0, 0, 0, 0, 0x80}, 0, 1<<63, true)
	wantGet(t, bytes.Repeat([]byte{255}, 8), 0, 1<<64-1, true)
	wantGet4(t, []byte{0, 0, 0, 0x80}, 0, 1<<31, true)
	wantGet4(t, bytes.Repeat([]byte{255}, 4), 0, 1<<32-1, true)
}

// P1.1: each length and each at around it, so both sides of every edge.
func TestGetAtEachPlace(t *testing.T) {
	for n := range 40 {
		b := counted(n)
		for at := range n + 12 {
			var want uint64
			var want4 uint32
			if at+8 <= n {
				want = model(b[at : at+8])
			}
			if at+4 <= n {
				want4 = uint32(model(b[at : at+4]))
			}
			wantGet(t, b, uint64(at), want, at+8 <= n)
			wantGet4(t, b, uint64(at), want4, at+4 <= n)
		}
	}
}

// P1.1, P1: an at that would wrap round, or turn negative, is no place.
func TestGetFarAt(t *testing.T) {
	for _, n := range []int{0, 1, 3, 4, 5, 7, 8, 9, 16, 4096} {
		b := counted(n)
		for _, top := range []uint64{0, 1 << 63, 1 << 62, 1 << 32, 1 << 31} {
			for d := range uint64(20) {
				wantGet(t, b, top-1-d, 0, false)
				wantGet4(t, b, top-1-d, 0, false)
			}
		}
		for _, at := range []uint64{1 << 31, 1 << 32, 1<<32 + 1, 1 << 62, 1 << 63, 1<<63 + 1} {
			wantGet(t, b, at, 0, false)
			wantGet4(t, b, at, 0, false)
		}
	}
}

// P1.1: no bytes at all, nil or empty.
func TestGetOfNothing(t *testing.T) {
	for _, b := range [][]byte{nil, {}} {
		for _, at := range []uint64{0, 1, 4, 8, 1<<64 - 8, 1<<64 - 4, 1<<64 - 1} {
			wantGet(t, b, at, 0, false)
			wantGet4(t, b, at, 0, false)
		}
	}
}

// P1.1: what lies behind the length, up to the capacity, isn't b's.
func TestGetKeepsToTheLength(t *testing.T) {
	b := counted(32)
	wantGet(t, b[:7], 0, 0, false)
	wantGet(t, b[:15], 8, 0, false)
	wantGet4(t, b[:3], 0, 0, false)
	wantGet4(t, b[:7], 4, 0, false)
}

// P1.1: the document's example, and the order of each byte.
func TestPut(t *testing.T) {
	for _, c := range []struct {
		v    uint64
		want []byte
	}{
		{0, make([]byte, 8)},
		{258, []byte{2, 1, 0, 0, 0, 0, 0, 0}},
		{0x0102030405060708, []byte{8, 7, 6, 5, 4, 3, 2, 1}},
		{1 << 63, []byte{0, 0, 0, 0, 0, 0, 0, 128}},
		{1<<64 - 1, bytes.Repeat([]byte{255}, 8)},
	} {
		if b := Put(c.v); !bytes.Equal(b, c.want) {
			t.Errorf("Put(%#x) = %v, want %v", c.v, b, c.want)
		}
	}
	for _, c := range []struct {
		v    uint32
		want []byte
	}{
		{0, make([]byte, 4)},
		{258, []byte{2, 1, 0, 0}},
		{0x01020304, []byte{4, 3, 2, 1}},
		{1 << 31, []byte{0, 0, 0, 128}},
		{1<<32 - 1, bytes.Repeat([]byte{255}, 4)},
	} {
		if b := Put4(c.v); !bytes.Equal(b, c.want) {
			t.Errorf("Put4(%#x) = %v, want %v", c.v, b, c.want)
		}
	}
}

// P1.2: whoever changes what was told, or adds to it, changes no other answer.
func TestPutTellsNewMemory(t *testing.T) {
	for _, v := range []uint64{0, 1, 258, 1<<64 - 1} {
		first := Put(v)
		want := slices.Clone(first)
		second := Put(v)
		spoil(first)
		if !bytes.Equal(second, want) || !bytes.Equal(Put(v), want) {
			t.Errorf("Put(%#x) shares memory", v)
		}
	}
	for _, v := range []uint32{0, 1, 258, 1<<32 - 1} {
		first := Put4(v)
		want := slices.Clone(first)
		second := Put4(v)
		spoil(first)
		if !bytes.Equal(second, want) || !bytes.Equal(Put4(v), want) {
			t.Errorf("Put4(%#x) shares memory", v)
		}
	}
}

// spoil turns every bit of b, up to its capacity.
func spoil(b []byte) {
	b = b[:cap(b)]
	for i := range b {
		b[i] = ^b[i]
	}
}

// R2: what is handed in isn't changed, within its length or behind it.
func TestGetChangesNothing(t *testing.T) {
	whole := counted(64)
	was := slices.Clone(whole)
	b := whole[8:40]
	for at := range uint64(48) {
		Get(b, at)
		Get4(b, at)
	}
	Get(b, 1<<64-8)
	Get4(b, 1<<64-4)
	if !bytes.Equal(whole, was) {
		t.Error("Get or Get4 changed what was handed in")
	}
}

// R2: nothing is kept of the bytes of an earlier call.
func TestGetKeepsNothing(t *testing.T) {
	b := counted(8)
	Get(b, 0)
	Get4(b, 0)
	clear(b)
	wantGet(t, b, 0, 0, true)
	wantGet4(t, b, 0, 0, true)
}

// P1.3: what was put is got, wherever it stands.
func TestPutIsGot(t *testing.T) {
	for _, v := range edges() {
		wantGet(t, Put(v), 0, v, true)
		wantGet4(t, Put4(uint32(v)), 0, uint32(v), true)
		for at := range uint64(5) {
			b := slices.Concat(counted(int(at)), Put(v), counted(3))
			wantGet(t, b, at, v, true)
			b = slices.Concat(counted(int(at)), Put4(uint32(v)), counted(3))
			wantGet4(t, b, at, uint32(v), true)
		}
	}
}

// P1.3: what was got, put, is the bytes it was got from.
func TestGotIsPut(t *testing.T) {
	b := counted(64)
	for at := range uint64(56) {
		if v, ok := Get(b, at); !ok || !bytes.Equal(Put(v), b[at:at+8]) {
			t.Errorf("at %d: Put of what was got is %v", at, Put(v))
		}
		if v, ok := Get4(b, at); !ok || !bytes.Equal(Put4(v), b[at:at+4]) {
			t.Errorf("at %d: Put4 of what was got is %v", at, Put4(v))
		}
	}
}

// P1.3: a number of eight bytes is its lower four and its upper four.
func TestEightBytesAreTwiceFour(t *testing.T) {
	for _, v := range edges() {
		low, high := uint32(v), uint32(v>>32)
		b := Put(v)
		if halves := slices.Concat(Put4(low), Put4(high)); !bytes.Equal(b, halves) {
			t.Errorf("Put(%#x) = %v, its halves are %v", v, b, halves)
		}
		wantGet4(t, b, 0, low, true)
		wantGet4(t, b, 4, high, true)
		wantGet(t, slices.Concat(Put4(low), Put4(high)), 0, v, true)
	}
}

// P1: no at and no bytes let a call panic.
func FuzzGet(f *testing.F) {
	f.Add([]byte(nil), uint64(0))
	f.Add(counted(8), uint64(1<<64-8))
	f.Add(counted(9), uint64(1))
	f.Fuzz(func(t *testing.T, b []byte, at uint64) {
		want, ok := uint64(0), false
		if at < uint64(len(b)) && len(b[at:]) >= 8 {
			want, ok = model(b[at:at+8]), true
		}
		wantGet(t, b, at, want, ok)
		want4, ok := uint32(0), false
		if at < uint64(len(b)) && len(b[at:]) >= 4 {
			want4, ok = uint32(model(b[at:at+4])), true
		}
		wantGet4(t, b, at, want4, ok)
	})
}
