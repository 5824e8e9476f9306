package crc

import (
	"bytes"
	"hash/crc32"
	"slices"
	"testing"
)

// sums are registers' values at which a bit, an end or a sign would go wrong.
func sums() []uint32 {
	l := []uint32{0, 7, 1<<32 - 1, 0xCBF43926, 0xEDB88320, ^uint32(0xEDB88320), 0x01020304}
	for i := range 32 {
		p := uint32(1) << i
		l = append(l, p, p-1, ^p)
	}
	return l
}

// mixed tells n bytes that follow no short rule; seed tells which.
func mixed(n int, seed uint32) []byte {
	b := make([]byte, n)
	for i := range b {
		seed = seed*1664525 + 1013904223
		b[i] = byte(seed >> 24)
	}
	return b
}

// texts are bytes of many lengths, of ends and of no rule.
func texts() [][]byte {
	l := [][]byte{nil, {}, []byte("a"), []byte("123456789")}
	for n := range 70 {
		l = append(l, make([]byte, n), bytes.Repeat([]byte{255}, n), mixed(n, uint32(n)))
	}
	return append(l, mixed(512, 1), mixed(16384, 2), mixed(70000, 3))
}

func wantSum(t *testing.T, b []byte, want uint32) {
	t.Helper()
	if sum := Sum(b); sum != want {
		t.Errorf("Sum of %d bytes: %08X, want %08X", len(b), sum, want)
	}
}

func wantMore(t *testing.T, sum uint32, b []byte, want uint32) {
	t.Helper()
	if more := More(sum, b); more != want {
		t.Errorf("More(%08X) of %d bytes: %08X, want %08X", sum, len(b), more, want)
	}
}

// P2.1: the chapter's example.
func TestSumOfTheExample(t *testing.T) {
	wantSum(t, []byte("123456789"), 0xCBF43926)
}

// P2.1: sums that are known from elsewhere, written out.
func TestSumOfKnownBytes(t *testing.T) {
	for _, c := range []struct {
		b    []byte
		want uint32
	}{
		{[]byte{0}, 0xD202EF8D},
		{[]byte{255}, 0xFF000000},
		{[]byte("a"), 0xE8B7BE43},
		{[]byte("abc"), 0x352441C2},
		{[]byte("The quick brown fox jumps over the lazy dog"), 0x414FA339},
		{make([]byte, 4), 0x2144DF1C},
		{bytes.Repeat([]byte{255}, 4), 0xFFFFFFFF},
		{make([]byte, 32), 0x190A55AD},
		{bytes.Repeat([]byte{255}, 32), 0xFF6CAB0B},
	} {
		wantSum(t, c.b, c.want)
	}
}

// P2.1: a register that took nothing is all ones still, so its sum is 0.
func TestSumOfNothing(t *testing.T) {
	wantSum(t, nil, 0)
	wantSum(t, []byte{}, 0)
	wantSum(t, mixed(8, 1)[:0], 0)
}

// P2.1: More of nothing tells the sum itself, whatever it is.
func TestMoreOfNothing(t *testing.T) {
	for _, sum := range sums() {
		wantMore(t, sum, nil, sum)
		wantMore(t, sum, []byte{}, sum)
		wantMore(t, sum, mixed(8, 1)[:0], sum)
	}
}

// P2.1: each byte alone, against the library's CRC-32 of IEEE 802.3.
func TestSumOfEachByte(t *testing.T) {
	for x := range 256 {
		b := []byte{byte(x)}
		wantSum(t, b, crc32.ChecksumIEEE(b))
	}
}

// P2.1: many lengths, against the library.
func TestSumIsTheCRC(t *testing.T) {
	for _, b := range texts() {
		wantSum(t, b, crc32.ChecksumIEEE(b))
	}
}

// P2.1: More goes on behind any sum, one that no short text has, too.
func TestMoreBehindAnySum(t *testing.T) {
	for _, sum := range sums() {
		for x := range 256 {
			b := []byte{byte(x)}
			wantMore(t, sum, b, crc32.Update(sum, crc32.IEEETable, b))
		}
		for _, b := range [][]byte{[]byte("123456789"), mixed(64, sum), make([]byte, 5)} {
			wantMore(t, sum, b, crc32.Update(sum, crc32.IEEETable, b))
		}
	}
}

// P2.1: what lies behind the length, up to the capacity, isn't b's.
func TestSumKeepsToTheLength(t *testing.T) {
	b := []byte("123456789 and more")
	wantSum(t, b[:9], 0xCBF43926)
	wantMore(t, Sum(b[:4]), b[4:9], 0xCBF43926)
}

// P2.2: the sum of two parts, wherever they are parted, one of nothing, too.
func TestSumOfTwoParts(t *testing.T) {
	for _, b := range texts() {
		if len(b) > 512 {
			continue
		}
		for k := range len(b) + 1 {
			wantMore(t, Sum(b[:k]), b[k:], Sum(b))
		}
	}
}

// P2.2: parts of parts, so byte by byte, and behind a sum that is any number.
func TestMoreOfManyParts(t *testing.T) {
	b := mixed(300, 4)
	for _, start := range sums() {
		sum := start
		for _, x := range b {
			sum = More(sum, []byte{x})
		}
		wantMore(t, start, b, sum)
	}
}

// P2.2: every change of one byte or of two that stand together.
func TestSumTellsTwoPlacesApart(t *testing.T) {
	for _, n := range []int{1, 2, 3, 9} {
		b := mixed(n, 5)
		sum := Sum(b)
		for at := range n {
			for change := 1; change < 1<<16; change++ {
				turned := slices.Clone(b)
				turned[at] ^= byte(change)
				if at+1 < n {
					turned[at+1] ^= byte(change >> 8)
				}
				if !bytes.Equal(turned, b) && Sum(turned) == sum {
					t.Fatalf("%d bytes changed by %04X at %d have the same sum", n, change, at)
				}
			}
		}
	}
}

// P2.2: changes of four places that stand together. Sums add up bit by bit, so
// no change goes unseen just if none of 32 single turns is made up of others.
func TestSumTellsFourPlacesApart(t *testing.T) {
	for _, n := range []int{4, 5, 31, 512, 16384} {
		b := mixed(n, 6)
		for _, at := range []int{0, (n - 4) / 2, n - 4} {
			if got := rank(turns(b, at)); got != 32 {
				t.Errorf("%d bytes, changes at %d: rank %d, want 32", n, at, got)
			}
		}
	}
}

// turns tells how b's sum changes with each of the 32 bits from byte at on.
func turns(b []byte, at int) []uint32 {
	sum := Sum(b)
	var l []uint32
	for i := range 32 {
		turned := slices.Clone(b)
		turned[at+i/8] ^= 1 << (i % 8)
		l = append(l, Sum(turned)^sum)
	}
	return l
}

// rank tells how many of l are made up of none of the others by turning bits.
func rank(l []uint32) int {
	l = slices.Clone(l)
	n := 0
	for i := range l {
		lead := l[i]
		if lead == 0 {
			continue
		}
		n++
		for k := i + 1; k < len(l); k++ {
			if l[k]&(lead&-lead) != 0 {
				l[k] ^= lead
			}
		}
	}
	return n
}

// P2.2: sampled changes of up to four places, not leaning on how sums add up.
func TestSumTellsSampledChangesApart(t *testing.T) {
	b := mixed(40, 7)
	sum := Sum(b)
	for i := range 20000 {
		change := mixed(1+i%4, uint32(i))
		turned := slices.Clone(b)
		at := i % (len(b) - 3)
		for k, x := range change {
			turned[at+k] ^= x
		}
		if !bytes.Equal(turned, b) && Sum(turned) == sum {
			t.Fatalf("a change by %v at %d has the same sum", change, at)
		}
	}
}

// R2: what is handed in isn't changed, within its length or behind it.
func TestSumChangesNothing(t *testing.T) {
	whole := mixed(64, 8)
	was := slices.Clone(whole)
	Sum(whole[8:40])
	More(7, whole[8:40])
	More(1<<32-1, whole)
	if !bytes.Equal(whole, was) {
		t.Error("Sum or More changed what was handed in")
	}
}

// R2: nothing is kept, neither of the bytes nor of the sum of an earlier call.
func TestSumKeepsNothing(t *testing.T) {
	b := []byte("123456789")
	for range 3 {
		wantSum(t, b, 0xCBF43926)
		wantMore(t, 7, b, crc32.Update(7, crc32.IEEETable, b))
	}
	clear(b)
	wantSum(t, b, crc32.ChecksumIEEE(make([]byte, 9)))
}

// P1, P2.1, P2.2: no bytes and no sum let a call panic, or tell another sum.
func FuzzMore(f *testing.F) {
	f.Add(uint32(0), []byte(nil), []byte(nil))
	f.Add(uint32(1<<32-1), []byte("1234"), []byte("56789"))
	f.Add(uint32(7), []byte{0, 255}, []byte{128})
	f.Fuzz(func(t *testing.T, sum uint32, a, b []byte) {
		both := slices.Concat(a, b)
		wantSum(t, both, crc32.ChecksumIEEE(both))
		wantMore(t, Sum(a), b, Sum(both))
		wantMore(t, sum, both, crc32.Update(sum, crc32.IEEETable, both))
	})
}
