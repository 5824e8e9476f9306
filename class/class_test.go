package class

import (
	"cantle/api"
	"math"
	"slices"
	"testing"
)

// span is a class: the least and the greatest size in it.
type span struct{ least, greatest int }

// spans tells every class there is, in order, as the chapter lists them.
func spans() []span {
	return []span{
		{32, 32}, {48, 48}, {64, 64}, {80, 80}, {96, 96}, {112, 112}, {128, 128}, {144, 144},
		{160, 160}, {176, 176}, {192, 192}, {208, 208}, {224, 224}, {240, 240}, {256, 256},
		{272, 496}, {512, 1008}, {1024, 2032}, {2048, 4080}, {4096, 8176}, {8192, 16368}, {16384, 16384},
	}
}

// sizes tells all sizes there are, by counting them up.
func sizes() []int {
	l := []int{}
	for n := 32; n <= 16384; n += 16 {
		l = append(l, n)
	}
	return l
}

// needed tells the least size that has n bytes beside its two tags, by trying
// them all. It takes the tags from the size, so that nothing wraps round.
func needed(n uint64) (int, bool) {
	for _, s := range sizes() {
		if uint64(s-16) >= n {
			return s, true
		}
	}
	return 0, false
}

// classOf tells in which class a number is, by looking for it in all of them.
func classOf(size int) int {
	if !slices.Contains(sizes(), size) {
		return -1
	}
	return slices.IndexFunc(spans(), func(x span) bool { return x.least <= size && size <= x.greatest })
}

// tooMany are numbers beyond what any block holds: about the ends of 63 and 64
// bits, where a sum wraps round or an int turns negative, and those whose lower
// bits are a small number.
func tooMany() []uint64 {
	l := []uint64{16369, 16370, 16383, 16384, 16385, 16399, 16400, 16401, 32768, 65536}
	for shift := 15; shift < 64; shift++ {
		p := uint64(1) << shift
		for d := range uint64(50) {
			l = append(l, p-d, p+d)
		}
		l = append(l, p+16368, p+16369, p+16384)
	}
	for d := range uint64(20000) {
		l = append(l, math.MaxUint64-d, 1<<63-10000+d)
	}
	return l
}

func wantNeed(t *testing.T, n uint64, size int) {
	t.Helper()
	if s, ok := Need(n); s != size || !ok {
		t.Errorf("Need(%d) = %d, %v, want %d, true", n, s, ok, size)
	}
}

// wantNoNeed wants nothing to be told beside the false (R3).
func wantNoNeed(t *testing.T, n uint64) {
	t.Helper()
	if s, ok := Need(n); s != 0 || ok {
		t.Errorf("Need(%d) = %d, %v, want 0, false", n, s, ok)
	}
}

func wantClass(t *testing.T, size, want int) {
	t.Helper()
	if c := Class(size); c != want {
		t.Errorf("Class(%d) = %d, want %d", size, c, want)
	}
}

// The chapter's example.
func TestTheExample(t *testing.T) {
	wantNeed(t, 0, 32)
	wantNeed(t, 17, 48)
}

// P8.1: both sides of the first multiples of 16, and of the last ones.
func TestKnownNeeds(t *testing.T) {
	for _, c := range []struct {
		n    uint64
		size int
	}{
		{0, 32}, {1, 32}, {15, 32}, {16, 32},
		{17, 48}, {31, 48}, {32, 48},
		{33, 64}, {47, 64}, {48, 64},
		{49, 80}, {64, 80}, {65, 96},
		{239, 256}, {240, 256}, {241, 272}, {256, 272}, {257, 288},
		{1000, 1024}, {1008, 1024}, {1009, 1040},
		{16335, 16352}, {16336, 16352}, {16337, 16368}, {16351, 16368}, {16352, 16368},
		{16353, 16384}, {16367, 16384}, {16368, 16384},
	} {
		wantNeed(t, c.n, c.size)
	}
	wantNoNeed(t, 16369)
	wantNoNeed(t, 16370)
}

// P8.1: every n from 0 to beyond MaxCap.
func TestNeedOfEveryNumber(t *testing.T) {
	for n := range uint64(17000) {
		if size, ok := needed(n); ok {
			wantNeed(t, n, size)
			continue
		}
		wantNoNeed(t, n)
	}
}

// P8.1: what is needed goes up by 16 just behind each multiple of 16.
func TestNeedBesideEveryMultiple(t *testing.T) {
	for m := 16; m <= 16368; m += 16 {
		wantNeed(t, uint64(m)-1, m+16)
		wantNeed(t, uint64(m), m+16)
		if m < 16368 {
			wantNeed(t, uint64(m)+1, m+32)
		}
	}
	for m := uint64(16384); m <= 40000; m += 16 {
		wantNoNeed(t, m-1)
		wantNoNeed(t, m)
		wantNoNeed(t, m+1)
	}
}

// P8.1, R3, P1: numbers beyond what any block holds, and those to which nothing
// can be added.
func TestNeedOfTooMany(t *testing.T) {
	for _, n := range []uint64{
		1<<31 - 1, 1 << 31, 1<<31 + 1, 1<<32 - 16, 1<<32 - 1, 1 << 32, 1<<32 + 1, 1<<32 + 16,
		1<<63 - 32, 1<<63 - 17, 1<<63 - 16, 1<<63 - 1, 1 << 63, 1<<63 + 1, 1<<63 + 16,
		1<<64 - 33, 1<<64 - 32, 1<<64 - 31, 1<<64 - 17, 1<<64 - 16, 1<<64 - 15, 1<<64 - 2, 1<<64 - 1,
	} {
		wantNoNeed(t, n)
	}
	for _, n := range tooMany() {
		wantNoNeed(t, n)
	}
}

// P8.2: both ends of every class.
func TestEndsOfEveryClass(t *testing.T) {
	if len(spans()) != api.Bins {
		t.Fatalf("%d classes, want %d", len(spans()), api.Bins)
	}
	for c, x := range spans() {
		wantClass(t, x.least, c)
		wantClass(t, x.greatest, c)
	}
}

// P8.2: both sides of each doubling, numbers that are no size among them.
func TestClassBesideEveryDoubling(t *testing.T) {
	for i, d := range []int{512, 1024, 2048, 4096, 8192, 16384} {
		wantClass(t, d-16, 15+i)
		wantClass(t, d-1, -1)
		wantClass(t, d, 16+i)
		wantClass(t, d+1, -1)
		if d < 16384 {
			wantClass(t, d+16, 16+i)
		}
	}
	wantClass(t, 240, 13)
	wantClass(t, 256, 14)
	wantClass(t, 272, 15)
}

// P8.2: numbers at the edges that are no size.
func TestClassOfNoSize(t *testing.T) {
	for _, n := range []int{0, 1, 8, 15, 16, 17, 24, 30, 31, 33, 40, 47, 49, 255, 257, 264, 511, 513, 16376, 16383, 16385, 16392, 16399, 16400, 16401, 16416, 32768, 65536} {
		wantClass(t, n, -1)
	}
	for _, n := range []int{-1, -8, -15, -16, -17, -31, -32, -33, -48, -256, -272, -512, -16368, -16384, -16400} {
		wantClass(t, n, -1)
	}
}

// P8.2: each number about all sizes.
func TestClassOfEveryNumber(t *testing.T) {
	found := 0
	for n := -17000; n <= 34000; n++ {
		c := classOf(n)
		if c >= 0 {
			found++
		}
		wantClass(t, n, c)
	}
	if found != len(sizes()) {
		t.Errorf("%d of %d sizes were asked", found, len(sizes()))
	}
}

// P8.2, P1: the ends of int, and numbers whose lower bits are those of a size.
func TestClassFarFromSizes(t *testing.T) {
	wantClass(t, math.MaxInt, -1)
	wantClass(t, math.MinInt, -1)
	for d := range 20000 {
		wantClass(t, math.MaxInt-d, -1)
		wantClass(t, math.MinInt+d, -1)
	}
	for shift := 15; shift < 63; shift++ {
		p := int64(1) << shift
		for _, n := range []int64{p - 16, p, p + 16, p + 32, p + 48, p + 256, p + 16384, -p - 32, -p, -p + 32, -p + 48, -p + 16384} {
			if int64(int(n)) == n {
				wantClass(t, int(n), -1)
			}
		}
	}
}

// P8.2: there is no class beside those of api.Bins, and none is empty.
func TestClassesAreAllThereAre(t *testing.T) {
	seen := map[int]int{}
	for _, s := range sizes() {
		seen[Class(s)]++
	}
	for c := range api.Bins {
		if seen[c] == 0 {
			t.Errorf("no size is of class %d", c)
		}
	}
	if len(seen) != api.Bins {
		t.Errorf("%d classes, want %d", len(seen), api.Bins)
	}
}

// P8.3: what is needed is a size, which holds n beside both tags, and has less
// than 32 bytes over.
func TestWhatIsNeededHolds(t *testing.T) {
	for n := range uint64(16369) {
		s, ok := Need(n)
		if !ok || !slices.Contains(sizes(), s) {
			t.Fatalf("Need(%d) = %d, %v, want a size", n, s, ok)
		}
		if over := s - 16 - int(n); over < 0 || over >= 32 {
			t.Errorf("Need(%d) = %d, which leaves %d bytes", n, s, over)
		}
	}
}

// P8.3: every size is needed by some n, the most that it holds by it, too.
func TestEverySizeIsNeeded(t *testing.T) {
	for _, s := range sizes() {
		wantNeed(t, uint64(s)-16, s)
	}
}

// P8.3: more bytes need no lesser size.
func TestMoreNeedsNoLess(t *testing.T) {
	last := 0
	for n := range uint64(16369) {
		s, _ := Need(n)
		if s < last {
			t.Errorf("Need(%d) = %d, want no less than %d", n, s, last)
		}
		last = s
	}
}

// P8.3: of any two sizes the greater has no lesser class, and the one of the
// greater class is greater.
func TestClassesRiseWithSizes(t *testing.T) {
	l := sizes()
	classes := make([]int, len(l))
	for i, s := range l {
		classes[i] = Class(s)
	}
	for i, s := range l {
		for j, other := range l {
			if other > s && classes[j] < classes[i] {
				t.Errorf("Class(%d) = %d, less than Class(%d) = %d", other, classes[j], s, classes[i])
			}
			if classes[j] > classes[i] && other <= s {
				t.Errorf("Class(%d) = %d, greater than Class(%d) = %d", other, classes[j], s, classes[i])
			}
		}
	}
}

// P8.1, P8.2: what is needed has a class, what isn't told has none.
func TestWhatIsNeededHasAClass(t *testing.T) {
	for n := range uint64(17000) {
		s, ok := Need(n)
		if c := Class(s); ok != (c >= 0) {
			t.Errorf("Need(%d) = %d, %v, of class %d", n, s, ok, c)
		}
	}
}

// R2, rule 5: an answer hangs on what was handed in, not on calls ahead of it.
func TestNothingIsKept(t *testing.T) {
	for range 3 {
		wantNeed(t, 17, 48)
		wantNoNeed(t, 16369)
		wantNeed(t, 0, 32)
		wantNoNeed(t, 1<<64-16)
		wantNeed(t, 16368, 16384)
		wantClass(t, 16384, 21)
		wantClass(t, 16400, -1)
		wantClass(t, 32, 0)
		wantClass(t, 40, -1)
		wantClass(t, 272, 15)
	}
}
