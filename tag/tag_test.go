package tag

import (
	"math"
	"slices"
	"testing"
)

// told is what Unpack tells of a tag.
type told struct {
	size int
	used bool
}

// sizes tells all sizes there are, by counting them up.
func sizes() []int {
	l := []int{}
	for n := 32; n <= 16384; n += 16 {
		l = append(l, n)
	}
	return l
}

// tags tells each tag there is, and what it tells, out of all sizes alone.
func tags() map[uint64]told {
	all := map[uint64]told{}
	for _, n := range sizes() {
		all[uint64(n)] = told{n, false}
		all[uint64(n)+1] = told{n, true}
	}
	return all
}

// noTags are numbers far from all tags, but whose lower bits are often those of
// one.
func noTags() []uint64 {
	l := []uint64{16386, 16387, 16388, 16400, 16401, 16416, 32768, 32769, 65536, 65536 + 32, 65536 + 33}
	for shift := 15; shift < 64; shift++ {
		p := uint64(1) << shift
		l = append(l, p-33, p-32, p-16, p-2, p-1, p, p+1, p+2, p+32, p+33, p+48, p+16384, p+16385)
	}
	for d := range uint64(16500) {
		l = append(l, -d-1)
	}
	return slices.DeleteFunc(l, func(w uint64) bool { return w <= 16385 })
}

func wantPack(t *testing.T, size int, used bool, want uint64) {
	t.Helper()
	if w := Pack(size, used); w != want {
		t.Errorf("Pack(%d, %v) = %d, want %d", size, used, w, want)
	}
}

func wantUnpack(t *testing.T, w uint64, size int, used bool) {
	t.Helper()
	if s, u, ok := Unpack(w); s != size || u != used || !ok {
		t.Errorf("Unpack(%d) = %d, %v, %v, want %d, %v, true", w, s, u, ok, size, used)
	}
}

// wantNoTag wants nothing to be told beside the false (R3).
func wantNoTag(t *testing.T, w uint64) {
	t.Helper()
	if s, u, ok := Unpack(w); s != 0 || u || ok {
		t.Errorf("Unpack(%d) = %d, %v, %v, want 0, false, false", w, s, u, ok)
	}
}

// wantNoSize wants 0, whether used or not.
func wantNoSize(t *testing.T, size int) {
	t.Helper()
	wantPack(t, size, false, 0)
	wantPack(t, size, true, 0)
}

// The chapter's example.
func TestTheExample(t *testing.T) {
	wantPack(t, 48, true, 49)
	wantUnpack(t, 49, 48, true)
}

// P6.1: the least and the greatest size, and some between them.
func TestKnownTags(t *testing.T) {
	for _, c := range []struct {
		size int
		used bool
		w    uint64
	}{
		{32, false, 32}, {32, true, 33},
		{48, false, 48}, {48, true, 49},
		{64, false, 64}, {64, true, 65},
		{256, false, 256}, {256, true, 257},
		{1024, false, 1024}, {1024, true, 1025},
		{16368, false, 16368}, {16368, true, 16369},
		{16384, false, 16384}, {16384, true, 16385},
	} {
		wantPack(t, c.size, c.used, c.w)
		wantUnpack(t, c.w, c.size, c.used)
	}
}

// P6.1: every size, used and not.
func TestPackOfEverySize(t *testing.T) {
	l := sizes()
	if len(l) != 1023 {
		t.Fatalf("%d sizes, want 1023", len(l))
	}
	for _, n := range l {
		wantPack(t, n, false, uint64(n))
		wantPack(t, n, true, uint64(n)+1)
	}
}

// P6.1: numbers at the edges that are no size.
func TestPackOfNoSize(t *testing.T) {
	for _, n := range []int{0, 1, 8, 15, 16, 17, 24, 30, 31, 16383, 16385, 16386, 16392, 16399, 16400, 16401, 16416, 20000} {
		wantNoSize(t, n)
	}
	for n := 33; n <= 47; n++ {
		wantNoSize(t, n)
	}
	for _, n := range []int{-1, -16, -31, -32, -33, -48, -16384, -16400} {
		wantNoSize(t, n)
	}
}

// P6.1, P1: the ends of int, and numbers whose lower bits are those of a size.
func TestPackFarFromSizes(t *testing.T) {
	for d := range 100 {
		wantNoSize(t, math.MaxInt-d)
		wantNoSize(t, math.MinInt+d)
	}
	for shift := 15; shift < 63; shift++ {
		p := int64(1) << shift
		for _, n := range []int64{p, p + 16, p + 32, p + 48, p + 16384, -p, -p + 32, -p + 48, -p - 32} {
			if int64(int(n)) == n {
				wantNoSize(t, int(n))
			}
		}
	}
	wantNoSize(t, math.MinInt+32)
	wantNoSize(t, math.MinInt+16384)
}

// P6.1: each number about all sizes, those below 0 and far beyond them, too.
func TestPackOfEveryNumber(t *testing.T) {
	all := sizes()
	for n := -20000; n <= 70000; n++ {
		if slices.Contains(all, n) {
			wantPack(t, n, false, uint64(n))
			wantPack(t, n, true, uint64(n)+1)
			continue
		}
		wantNoSize(t, n)
	}
}

// P6.1: each number from 0 to far beyond all tags; it is a tag just if some
// size has it.
func TestUnpackOfEveryNumber(t *testing.T) {
	all := tags()
	if len(all) != 2046 {
		t.Fatalf("%d tags, want 2046", len(all))
	}
	found := 0
	for w := range uint64(140000) {
		x, ok := all[w]
		if !ok {
			wantNoTag(t, w)
			continue
		}
		found++
		wantUnpack(t, w, x.size, x.used)
	}
	if found != len(all) {
		t.Errorf("%d of %d tags were asked", found, len(all))
	}
}

// P6.1, R3: numbers at the edges that are no tag.
func TestUnpackOfNoTag(t *testing.T) {
	for _, w := range []uint64{0, 1, 2, 3, 15, 16, 17, 18, 30, 31, 34, 35, 40, 41, 46, 47, 50, 51, 16382, 16383} {
		wantNoTag(t, w)
	}
	for _, w := range noTags() {
		wantNoTag(t, w)
	}
}

// P6.1, P1: numbers about the ends of 64 bits and of 63, where an int would
// turn negative.
func TestUnpackFarFromTags(t *testing.T) {
	for _, w := range []uint64{
		1<<63 - 33, 1<<63 - 32, 1<<63 - 16, 1<<63 - 2, 1<<63 - 1,
		1 << 63, 1<<63 + 1, 1<<63 + 2, 1<<63 + 32, 1<<63 + 33, 1<<63 + 48, 1<<63 + 49, 1<<63 + 16384, 1<<63 + 16385,
		1<<64 - 1, 1<<64 - 2, 1<<64 - 16, 1<<64 - 31, 1<<64 - 32, 1<<64 - 33, 1<<64 - 16384, 1<<64 - 16383,
		1<<32 + 32, 1<<32 + 33, 1<<32 + 16384, 1<<32 + 16385, 1<<31 + 32, 1<<31 + 33,
	} {
		wantNoTag(t, w)
	}
}

// P6.2: what was packed is unpacked.
func TestPackedIsUnpacked(t *testing.T) {
	for _, n := range sizes() {
		for _, used := range []bool{false, true} {
			wantUnpack(t, Pack(n, used), n, used)
		}
	}
}

// P6.2: what was unpacked is packed to that number again, and what is no tag
// tells what packs to 0.
func TestUnpackedIsPacked(t *testing.T) {
	for w := range uint64(20500) {
		size, used, ok := Unpack(w)
		want := uint64(0)
		if ok {
			want = w
		}
		wantPack(t, size, used, want)
	}
	for _, w := range noTags() {
		size, used, _ := Unpack(w)
		wantPack(t, size, used, 0)
	}
}

// P6.1, P6.2: no two tags are the same, and what is no size packs to no tag.
func TestTagsAreApart(t *testing.T) {
	seen := map[uint64]told{}
	for n := -100; n <= 17000; n++ {
		for _, used := range []bool{false, true} {
			w := Pack(n, used)
			if w == 0 {
				continue
			}
			if x, ok := seen[w]; ok {
				t.Errorf("Pack(%d, %v) and Pack(%d, %v) are both %d", n, used, x.size, x.used, w)
			}
			seen[w] = told{n, used}
		}
	}
	if len(seen) != 2046 {
		t.Errorf("%d tags, want 2046", len(seen))
	}
	wantNoTag(t, Pack(0, false))
	wantNoTag(t, Pack(40, true))
}

// R2, rule 5: an answer hangs on what was handed in, not on calls ahead of it.
func TestNothingIsKept(t *testing.T) {
	for range 3 {
		wantPack(t, 48, true, 49)
		wantNoSize(t, 40)
		wantUnpack(t, 32, 32, false)
		wantNoTag(t, 34)
		wantPack(t, 16384, false, 16384)
		wantUnpack(t, 16385, 16384, true)
		wantNoTag(t, 1<<64-1)
	}
}
