package restore

import (
	"bytes"
	"cantle/api"
	"cantle/arena"
	"cantle/block"
	"cantle/check"
	"cantle/heap"
	"cantle/image"
	"cantle/list"
	"fmt"
	"math"
	"slices"
	"testing"
)

// bases are those at which an address is near 0, near the greatest, or neither.
func bases() []uint64 {
	return []uint64{0, 16, 160, 192, 1 << 32, 1<<62 - 16, 1 << 62}
}

// baseOf tells the base of the i-th try.
func baseOf(i int) uint64 { return bases()[i%len(bases())] }

// wrongBases are those of which there is no arena.
func wrongBases() []uint64 {
	return []uint64{
		1, 2, 4, 8, 15, 17, 24, 184, 1<<32 + 8, 1<<62 - 8, 1<<62 - 1, 1<<62 + 1, 1<<62 + 8, 1<<62 + 16, 1<<62 + 160,
		1<<63 - 16, 1<<63 - 1, 1 << 63, 1<<63 + 16, 1<<63 + 1<<62, 1<<64 - 16384, 1<<64 - 1024, 1<<64 - 192, 1<<64 - 184, 1<<64 - 16, 1<<64 - 8, 1<<64 - 1,
	}
}

// capacities are the least ones, the greatest ones, and some between, be they a
// multiple of 16 or not.
func capacities() []int {
	return []int{1024, 1025, 1039, 1040, 1400, 5000, 8192, 16375, 16376, 16383, 16384}
}

// wrongCapacities are those of which there is no arena.
func wrongCapacities() []int {
	return []int{
		math.MinInt, math.MinInt + 1, math.MinInt + 1024, math.MinInt + 16384, math.MinInt / 2, math.MinInt32, -16384, -5000, -1024, -184, -16, -1, 0, 1, 16, 183, 184, 200, 1008, 1016, 1023,
		16385, 16392, 16400, 20000, 32768, 1<<16 + 1024, math.MaxInt32, 1<<32 + 1024, 1<<32 + 16384, math.MaxInt / 2, math.MaxInt - 16383, math.MaxInt - 1, math.MaxInt,
	}
}

// made tells an arena of these bytes.
func made(t *testing.T, base uint64, capacity int, b []byte) *arena.Arena {
	t.Helper()
	a := arena.New(base, capacity)
	if a == nil {
		t.Fatalf("New(%#x, %d) is nil", base, capacity)
	}
	wantError(t, "Grow", a.Grow(len(b)), nil)
	wantError(t, "Store", a.Store(base, b), nil)
	return a
}

// state is all that an arena tells of itself.
type state struct {
	base             uint64
	length, capacity int
	all              string
}

func stateOf(t *testing.T, h *heap.Heap) state {
	t.Helper()
	if h == nil {
		t.Fatal("the heap is nil")
	}
	a := h.Arena()
	b, err := a.Load(a.Base(), uint64(a.Len()))
	if err != nil || len(b) != a.Len() {
		t.Fatalf("Load of all %d bytes: %d bytes, %v", a.Len(), len(b), err)
	}
	return state{a.Base(), a.Len(), a.Cap(), string(b)}
}

// wantError wants the Code itself, so nothing that wraps it.
func wantError(t *testing.T, what string, err, want error) {
	t.Helper()
	if err == nil || want == nil {
		if err != nil || want != nil {
			t.Fatalf("%s: error %v, want %v", what, err, want)
		}
		return
	}
	if err != want {
		t.Fatalf("%s: error %v, want %v", what, err, want)
	}
}

// differ tells from where on two texts differ.
func differ(a, b string) int {
	i := 0
	for i < len(a) && i < len(b) && a[i] == b[i] {
		i++
	}
	return i
}

// bytesFrom tells n bytes that rise from c on.
func bytesFrom(c, n int) []byte {
	b := make([]byte, n)
	for i := range b {
		b[i] = byte(c + i)
	}
	return b
}

// fills tells n bytes that are Fill.
func fills(n int) []byte { return bytes.Repeat([]byte{165}, n) }

// imageFrom tells an image of these blocks; that of a size below 0 is used, and what
// it holds rises from a number of its own on.
func imageFrom(sizes ...int) image.Image { return imageOf(row(sizes...)) }

// imageOf tells an image of these blocks.
func imageOf(l []api.Block) image.Image {
	m := image.Image{Len: endOf(l), Blocks: l}
	for i, x := range l {
		if x.Used {
			m.Data = append(m.Data, bytesFrom(40*i+1, x.Size-16))
		}
	}
	return m
}

// some is the image that most tests have: used and free ones, used ones side by
// side, and each end of another kind.
func some() image.Image { return imageFrom(-32, 64, -48, -64, 32, -32, 272) }

// manyOf tells as many of a size as there is room for, some of them free.
func manyOf(size int, isFree func(i int) bool) image.Image {
	var sizes []int
	for n := 184; n+size <= 16384; n += size {
		if isFree(len(sizes)) {
			sizes = append(sizes, size)
		} else {
			sizes = append(sizes, -size)
		}
	}
	return imageFrom(sizes...)
}

func never(int) bool   { return false }
func odd(i int) bool   { return i%2 == 1 }
func even(i int) bool  { return i%2 == 0 }
func third(i int) bool { return i%3 == 2 }

// manyClasses tells a free block of each of these sizes, a used one behind each.
func manyClasses(sizes ...int) image.Image {
	var l []int
	for i, size := range sizes {
		l = append(l, size, -32-16*(i%3))
	}
	return imageFrom(l...)
}

// copyOf tells an image that has no memory in common with m.
func copyOf(m image.Image) image.Image {
	c := image.Image{Len: m.Len, Blocks: slices.Clone(m.Blocks)}
	for _, b := range m.Data {
		c.Data = append(c.Data, bytes.Clone(b))
	}
	return c
}

// same tells whether two images are alike.
func same(m, n image.Image) bool {
	return m.Len == n.Len && slices.Equal(m.Blocks, n.Blocks) && slices.EqualFunc(m.Data, n.Data, bytes.Equal)
}

// brief tells an image in a line.
func brief(m image.Image) string {
	var lengths []int
	for _, b := range m.Data[:min(9, len(m.Data))] {
		lengths = append(lengths, len(b))
	}
	return fmt.Sprintf("Len %d, %d blocks %v, %d Data of %v", m.Len, len(m.Blocks), m.Blocks[:min(9, len(m.Blocks))], len(m.Data), lengths)
}

// wantRestore wants Restore to tell what the model does, and tells that; the heap is
// held against all that the image says. The image is to stay as it was.
func wantRestore(t *testing.T, m image.Image, base uint64, capacity int) (*heap.Heap, error) {
	t.Helper()
	was, want := copyOf(m), errorOf(m, base, capacity)
	h, err := Restore(m, base, capacity)
	wantError(t, fmt.Sprintf("base %#x, capacity %d: Restore of %s", base, capacity, brief(m)), err, want)
	if !same(m, was) {
		t.Fatalf("Restore changed %s", brief(was))
	}
	if want != nil {
		if h != nil {
			t.Fatalf("base %#x, capacity %d: a heap beside an error", base, capacity)
		}
		return nil, want
	}
	wantState(t, h, state{base, m.Len, capacity, string(bytesOf(m))})
	wantLayers(t, h, m)
	return h, nil
}

// wantState wants a heap's arena to stand so.
func wantState(t *testing.T, h *heap.Heap, want state) {
	t.Helper()
	if got := stateOf(t, h); got != want {
		t.Fatalf("base %#x, %d bytes of %d, want %#x, %d of %d; bytes differ from %d on",
			got.base, got.length, got.capacity, want.base, want.length, want.capacity, differ(got.all, want.all))
	}
}

// wantLayers wants each layer to tell of a heap what the image says.
func wantLayers(t *testing.T, h *heap.Heap, m image.Image) {
	t.Helper()
	a := h.Arena()
	l, err := block.Walk(a)
	wantError(t, "Walk", err, nil)
	if !slices.Equal(l, m.Blocks) {
		t.Fatalf("Walk tells %v, want %v", l, m.Blocks)
	}
	for c := range api.Bins {
		places, err := list.All(a, c)
		wantError(t, "All", err, nil)
		if !slices.Equal(places, falling(m.Blocks, c)) {
			t.Fatalf("the list of class %d has %v, want %v", c, places, falling(m.Blocks, c))
		}
	}
	if check.Check(a) != nil || !rightOf([]byte(stateOf(t, h).all)) {
		t.Fatal("the arena isn't right")
	}
	if s := h.Stats(); s != statsOf(m, a.Cap()) {
		t.Fatalf("stats %+v, want %+v", s, statsOf(m, a.Cap()))
	}
	wantImage(t, h, m)
	wantHandles(t, h, m)
}

// wantImage wants the image of a heap to be m.
func wantImage(t *testing.T, h *heap.Heap, m image.Image) {
	t.Helper()
	got, err := image.Of(h.Arena())
	wantError(t, "Of", err, nil)
	if !same(got, m) {
		t.Fatalf("its image is %s, want %s", brief(got), brief(m))
	}
}

// wantHandles wants the used blocks to be handles that hold their Data.
func wantHandles(t *testing.T, h *heap.Heap, m image.Image) {
	t.Helper()
	i := 0
	for _, x := range m.Blocks {
		p := uint64(x.Off) + 8
		n, err := h.Usable(p)
		if !x.Used {
			wantError(t, "Usable of a free one", err, api.ErrHandle)
			continue
		}
		wantError(t, "Usable", err, nil)
		b, err := h.Read(p, 0, n)
		wantError(t, "Read", err, nil)
		if !bytes.Equal(b, m.Data[i]) {
			t.Fatalf("%d holds %v, want %v", p, b, m.Data[i])
		}
		i++
	}
}

// restored wants a heap.
func restored(t *testing.T, m image.Image, base uint64, capacity int) *heap.Heap {
	t.Helper()
	h, err := wantRestore(t, m, base, capacity)
	if h == nil {
		t.Fatalf("no heap, but %v, of %s", err, brief(m))
	}
	return h
}

// wantNone wants this error, and no heap.
func wantNone(t *testing.T, m image.Image, base uint64, capacity int, want error) {
	t.Helper()
	_, err := wantRestore(t, m, base, capacity)
	wantError(t, fmt.Sprintf("base %#x, capacity %d: the model's answer for %s", base, capacity, brief(m)), err, want)
}

// The chapter's example: a heap as New makes it, at any base, of any capacity; what
// each makes of the same calls is the same, too.
func TestTheExample(t *testing.T) {
	for _, base := range bases() {
		for _, capacity := range capacities() {
			for _, m := range []image.Image{{Len: 184}, {Len: 184, Blocks: []api.Block{}, Data: [][]byte{}}} {
				h := restored(t, m, base, capacity)
				g, err := heap.New(base, capacity)
				wantError(t, "New", err, nil)
				wantState(t, h, stateOf(t, g))
				wantState(t, h, state{base, 184, capacity, string(make([]byte, 184))})
				d := draw(capacity)
				d.wantAlike(t, h, g, 20)
			}
		}
	}
}

// P16.1: an arena's bytes, each number of which is written out here: the first number,
// the heads of two lists, three tags at both ends, Data, and two numbers of each free
// block; all else is 0.
func TestEachByte(t *testing.T) {
	m := imageFrom(64, -48, 64, -32, 32)
	h := restored(t, m, 4096, 2000)
	want := make([]byte, 424)
	for o, v := range map[int]uint64{
		0: 1 | 1<<2, 8: 392, 8 + 8*2: 296,
		184: 64, 240: 64, 192: 0, 200: 296, // the first of 64 bytes is the list's last
		248: 49, 288: 49,
		296: 64, 352: 64, 304: 184, 312: 0,
		360: 33, 384: 33,
		392: 32, 416: 32, 400: 0, 408: 0,
	} {
		put(want, o, v)
	}
	copy(want[256:288], bytesFrom(41, 32))
	copy(want[368:384], bytesFrom(121, 16))
	wantState(t, h, state{4096, 424, 2000, string(want)})
}

// P16.1: with no blocks, one, many, used and free ones of all kinds, at each base, of
// each capacity that isn't less than Len, and of the others.
func TestRestore(t *testing.T) {
	for i, m := range kinds() {
		for k, capacity := range capacities() {
			h, err := wantRestore(t, m, baseOf(i+k), capacity)
			if (h != nil) != (m.Len <= capacity) || (err == api.ErrLarge) != (m.Len > capacity) {
				t.Fatalf("capacity %d: %v of %s", capacity, err, brief(m))
			}
		}
		for _, base := range bases() {
			restored(t, m, base, max(1024, m.Len))
		}
	}
}

// kinds are images that may be, of each kind.
func kinds() []image.Image {
	l := []image.Image{some(), {Len: 184}}
	for _, sizes := range [][]int{
		{32}, {-32}, {48}, {-48}, {832}, {-832}, {848}, {-848}, {16192}, {-16192}, {-32, 16160}, {16160, -32}, {-8096, -8096}, {8096, -8096},
		{-32, -32}, {32, -32}, {-32, 32}, {32, -32, 32}, {-32, 32, -32}, {-32, -32, -32, 16096}, {400, -512, -32, 272, -32, 496},
		{272, -32, 496, -32, 288, -32, 272}, {1024, -32, 512, -32, 1008, -32, 2032},
	} {
		l = append(l, imageFrom(sizes...))
	}
	for _, size := range []int{32, 48, 272, 1024, 8096} {
		l = append(l, manyOf(size, never), manyOf(size, odd), manyOf(size, even), manyOf(size, third))
	}
	least := leasts()
	up := slices.Clone(least[:15])
	down := slices.Clone(up)
	slices.Reverse(down)
	return append(l, manyClasses(least[:20]...), manyClasses(least[20]), manyClasses(16000), manyClasses(4096, 8192), manyClasses(8176, 4080, 2032, 1008, 496),
		manyClasses(up...), manyClasses(down...), manyClasses(append(up, down...)...), manyClasses(slices.Concat(up, up, up)...))
}

// P16.1: the kinds have a free block of each class that there may be, and the least
// and the greatest Len.
func TestKindsHaveEachClass(t *testing.T) {
	has := map[int]bool{}
	least, greatest := 16384, 0
	for _, m := range kinds() {
		for _, x := range m.Blocks {
			if !x.Used {
				has[classOf(x.Size)] = true
			}
		}
		least, greatest = min(least, m.Len), max(greatest, m.Len)
	}
	if len(has) != 21 || has[21] || least != 184 || greatest != 16376 {
		t.Errorf("classes %v, Len %d to %d", has, least, greatest)
	}
}

// layouts tells each row of blocks that has all bytes from an offset up to n, used
// and free in every way, be free ones side by side or not.
func layouts(off, n int) [][]api.Block {
	if off == n {
		return [][]api.Block{nil}
	}
	var all [][]api.Block
	for size := 32; size <= n-off; size += 16 {
		for _, rest := range layouts(off+size, n) {
			for _, used := range []bool{true, false} {
				all = append(all, append([]api.Block{{Off: off, Size: size, Used: used}}, rest...))
			}
		}
	}
	return all
}

// P16.1: every layout of some lengths: there is a heap just if no two free ones stand
// side by side.
func TestEveryLayout(t *testing.T) {
	told := map[bool]int{}
	for n := 184; n <= 184+176; n += 16 {
		for _, l := range layouts(184, n) {
			h, _ := wantRestore(t, imageOf(l), baseOf(told[true]), 1024)
			told[h != nil]++
			if (h != nil) == freeSideBySide(l) {
				t.Fatalf("a heap %v, of %v", h != nil, l)
			}
		}
	}
	if told[true] < 500 || told[false] < 500 {
		t.Errorf("told %v", told)
	}
}

// P16.1: each Len, of one block, and the capacities about it: ErrLarge just if it is
// above the capacity.
func TestEachLen(t *testing.T) {
	for n := 216; n <= 16376; n += 16 {
		sizes := []int{n - 184, 184 - n}
		m := imageFrom(sizes[n/16%2])
		for _, capacity := range []int{n - 16, n - 8, n - 1, n, n + 1, n + 8} {
			switch {
			case capacity < 1024:
			case capacity < n:
				wantNone(t, m, baseOf(n), capacity, api.ErrLarge)
			default:
				restored(t, m, baseOf(n), capacity)
			}
		}
		wantNone(t, m, baseOf(n), 1023, api.ErrArg)
		restored(t, m, baseOf(n), 16384)
	}
}

// P16.1: each capacity, of an image whose Len is the greatest that isn't above it, and
// of one whose Len is the least that is.
func TestEachCapacity(t *testing.T) {
	for capacity := 1000; capacity < 16400; capacity++ {
		n := (capacity-8)/16*16 + 8
		m, more := imageFrom(184-n), imageFrom(184-n-16)
		fits, err := Restore(m, 160, capacity)
		none, larger := Restore(more, 160, capacity)
		switch {
		case capacity < 1024 || capacity > 16384:
			wantError(t, "Restore", err, api.ErrArg)
			wantError(t, "Restore", larger, api.ErrArg)
		case n+16 > 16376: // there is no greater image
			wantError(t, "Restore", err, nil)
			wantError(t, "Restore", larger, api.ErrArg)
		default:
			wantError(t, "Restore", err, nil)
			wantError(t, "Restore", larger, api.ErrLarge)
		}
		if none != nil || (fits == nil) != (err != nil) {
			t.Fatalf("capacity %d: a heap beside an error, or none without", capacity)
		}
		if fits != nil && (fits.Stats() != statsOf(m, capacity)) {
			t.Fatalf("capacity %d: %+v", capacity, fits.Stats())
		}
	}
}

// P16.1: bases and capacities of which there is no arena: ErrArg, whatever the image
// is, so ahead of ErrLarge.
func TestNoSuchArena(t *testing.T) {
	bad := some()
	bad.Len += 16
	images := []image.Image{{Len: 184}, some(), imageFrom(-16192), imageFrom(16192), manyOf(32, odd), bad, {}}
	for _, m := range images {
		for _, base := range wrongBases() {
			for _, capacity := range append(capacities(), wrongCapacities()...) {
				wantNone(t, m, base, capacity, api.ErrArg)
			}
		}
		for _, base := range bases() {
			for _, capacity := range wrongCapacities() {
				wantNone(t, m, base, capacity, api.ErrArg)
			}
		}
	}
}

// P16.1: each base near those that may be.
func TestBases(t *testing.T) {
	m := some()
	for i := range uint64(200) {
		for _, from := range []uint64{0, 1 << 20, 1<<62 - 100, 1<<63 - 100, 1<<64 - 200} {
			h, _ := wantRestore(t, m, from+i, 1024)
			if (h != nil) != ((from+i)%16 == 0 && from+i <= 1<<62) {
				t.Fatalf("base %#x: a heap %v", from+i, h != nil)
			}
		}
	}
}

// changes tell in each way of the chapter of layer 15 how an image may not be.
func changes() map[string]func(m *image.Image) {
	return map[string]func(m *image.Image){
		"Len 0":                         func(m *image.Image) { m.Len = 0 },
		"Len below Start":               func(m *image.Image) { m.Len = 168 },
		"Len Start":                     func(m *image.Image) { m.Len = 184 },
		"Len below 0":                   func(m *image.Image) { m.Len = -m.Len },
		"Len one more":                  func(m *image.Image) { m.Len++ },
		"Len one less":                  func(m *image.Image) { m.Len-- },
		"Len eight more":                func(m *image.Image) { m.Len += 8 },
		"Len 16 more":                   func(m *image.Image) { m.Len += 16 },
		"Len 16 less":                   func(m *image.Image) { m.Len -= 16 },
		"Len the greatest":              func(m *image.Image) { m.Len = 16376 },
		"Len beyond":                    func(m *image.Image) { m.Len = 16392 },
		"the first further on":          func(m *image.Image) { m.Blocks[0].Off = 200 },
		"the first ahead of Start":      func(m *image.Image) { m.Blocks[0].Off = 168 },
		"the first at 0":                func(m *image.Image) { m.Blocks[0].Off = 0 },
		"all further on":                func(m *image.Image) { shift(m, 0, 16) },
		"all further back":              func(m *image.Image) { shift(m, 0, -16) },
		"a gap":                         func(m *image.Image) { shift(m, 3, 16) },
		"a gap of 8":                    func(m *image.Image) { shift(m, 3, 8) },
		"a gap ahead of the last":       func(m *image.Image) { shift(m, 6, 32) },
		"one over another":              func(m *image.Image) { shift(m, 3, -16) },
		"two at one place":              func(m *image.Image) { m.Blocks[2].Off = m.Blocks[1].Off },
		"one Off alone":                 func(m *image.Image) { m.Blocks[4].Off += 16 },
		"one Off alone, less":           func(m *image.Image) { m.Blocks[4].Off -= 16 },
		"one Off below 0":               func(m *image.Image) { m.Blocks[4].Off *= -1 },
		"a size more":                   func(m *image.Image) { m.Blocks[1].Size += 16 },
		"a size less":                   func(m *image.Image) { m.Blocks[1].Size -= 16 },
		"a size that is none":           func(m *image.Image) { m.Blocks[1].Size += 8 },
		"sizes that are none":           func(m *image.Image) { m.Blocks[1].Size, m.Blocks[2].Off, m.Blocks[2].Size = 56, 272, 56 },
		"a size of 16":                  func(m *image.Image) { m.Blocks[1].Size, m.Blocks[2].Off, m.Blocks[2].Size = 16, 232, 96 },
		"a size of 0":                   func(m *image.Image) { m.Blocks = slices.Insert(m.Blocks, 2, api.Block{Off: 280}) },
		"a size below 0":                func(m *image.Image) { m.Blocks[1].Size *= -1 },
		"the last one more":             func(m *image.Image) { m.Blocks[6].Size += 16 },
		"the last one less":             func(m *image.Image) { m.Blocks[6].Size -= 16 },
		"no last one":                   func(m *image.Image) { m.Blocks = m.Blocks[:6] },
		"no first one":                  func(m *image.Image) { m.Blocks, m.Data = m.Blocks[1:], m.Data[1:] },
		"no blocks":                     func(m *image.Image) { m.Blocks = nil },
		"no blocks, no Data":            func(m *image.Image) { m.Blocks, m.Data = nil, nil },
		"one block more":                func(m *image.Image) { m.Blocks = append(m.Blocks, api.Block{Off: m.Len, Size: 32}) },
		"two by turns":                  func(m *image.Image) { m.Blocks[1], m.Blocks[2] = m.Blocks[2], m.Blocks[1] },
		"the last ahead of the others":  func(m *image.Image) { m.Blocks = slices.Insert(m.Blocks[:6], 0, m.Blocks[6]) },
		"a block twice":                 func(m *image.Image) { m.Blocks = slices.Insert(m.Blocks, 1, m.Blocks[1]) },
		"two free ones":                 func(m *image.Image) { m.Blocks[2].Used, m.Data = false, slices.Delete(m.Data, 1, 2) },
		"two free ones at the end":      func(m *image.Image) { m.Blocks[5].Used, m.Data = false, m.Data[:3] },
		"two free ones at the start":    func(m *image.Image) { m.Blocks[0].Used, m.Data = false, m.Data[1:] },
		"all free":                      func(m *image.Image) { freeAll(m) },
		"a free one used":               func(m *image.Image) { m.Blocks[1].Used = true },
		"a used one free":               func(m *image.Image) { m.Blocks[3].Used = false },
		"no Data":                       func(m *image.Image) { m.Data = nil },
		"empty Data":                    func(m *image.Image) { m.Data = [][]byte{} },
		"Data too few":                  func(m *image.Image) { m.Data = m.Data[:3] },
		"Data too many":                 func(m *image.Image) { m.Data = append(m.Data, bytesFrom(1, 256)) },
		"Data too many, nil":            func(m *image.Image) { m.Data = append(m.Data, nil) },
		"Data of free ones, too":        func(m *image.Image) { m.Data = slices.Insert(m.Data, 1, bytesFrom(1, 48)) },
		"Data too short":                func(m *image.Image) { m.Data[1] = m.Data[1][1:] },
		"Data too long":                 func(m *image.Image) { m.Data[1] = append(m.Data[1], 1) },
		"Data 16 more":                  func(m *image.Image) { m.Data[1] = append(m.Data[1], bytesFrom(1, 16)...) },
		"Data 8 more":                   func(m *image.Image) { m.Data[0] = append(m.Data[0], bytesFrom(1, 8)...) },
		"Data nil":                      func(m *image.Image) { m.Data[3] = nil },
		"the first Data empty":          func(m *image.Image) { m.Data[0] = []byte{} },
		"the last Data too short":       func(m *image.Image) { m.Data[3] = m.Data[3][1:] },
		"Data by turns":                 func(m *image.Image) { m.Data[1], m.Data[2] = m.Data[2], m.Data[1] },
		"Data that have a byte of next": func(m *image.Image) { m.Data[0], m.Data[1] = append(m.Data[0], 1), m.Data[1][1:] },
	}
}

// shift lets the blocks from the i-th on stand n further on.
func shift(m *image.Image, i, n int) {
	for k := range m.Blocks[i:] {
		m.Blocks[i+k].Off += n
	}
	m.Len += n
}

// freeAll lets all blocks be free.
func freeAll(m *image.Image) {
	for i := range m.Blocks {
		m.Blocks[i].Used = false
	}
	m.Data = nil
}

// P16.1: what may not be: ErrArg, ahead of ErrLarge, whatever the arena's base and
// capacity are.
func TestWhatMayNotBe(t *testing.T) {
	for what, change := range changes() {
		t.Run(what, func(t *testing.T) {
			for i, base := range append(bases(), wrongBases()...) {
				for _, capacity := range []int{math.MinInt, 0, 184, 1023, 1024, 2000, 16384, 16385, math.MaxInt} {
					m := copyOf(some())
					change(&m)
					if mayOf(m) {
						t.Fatalf("the %d-th may be: %s", i, brief(m))
					}
					wantNone(t, m, base, capacity, api.ErrArg)
				}
			}
		})
	}
}

// P16.1: an image that may not be, and would be too large if it could: ErrArg.
func TestLargeOnesThatMayNotBe(t *testing.T) {
	tooLong := imageFrom(-2000 + 16)
	tooLong.Data[0] = append(tooLong.Data[0], 1)
	noMultiple := imageFrom(-2000 + 16)
	noMultiple.Len -= 8
	sideBySide := imageFrom(1008, 1024)
	noBlocks := image.Image{Len: 2184}
	beyond := imageFrom(-16208)
	for _, m := range []image.Image{tooLong, noMultiple, sideBySide, noBlocks, beyond, {Len: 16384}, {Len: math.MaxInt}} {
		for _, capacity := range []int{1024, 1500, 16384} {
			wantNone(t, m, 160, capacity, api.ErrArg)
		}
	}
}

// ends are numbers near the ends of an int, and such as wrap round beside others.
func ends() []int {
	return []int{
		math.MinInt, math.MinInt + 1, math.MinInt + 8, math.MinInt + 16, math.MinInt + 32, math.MinInt + 184, math.MinInt + 216, math.MinInt / 2,
		math.MaxInt, math.MaxInt - 1, math.MaxInt - 7, math.MaxInt - 15, math.MaxInt - 31, math.MaxInt - 183, math.MaxInt - 215, math.MaxInt / 2,
		math.MaxInt32, math.MaxInt32 - 7, math.MinInt32, math.MinInt32 + 184, -1, -8, -16, -32, -184, 0, 1,
	}
}

// P1, P16.1: numbers of each field near the ends of an int, alone and by twos, so that
// where a block ends wraps round to where the next one begins.
func TestEnds(t *testing.T) {
	none := func(m image.Image) {
		t.Helper()
		wantNone(t, m, 160, 1024, api.ErrArg)
	}
	for _, n := range ends() {
		none(image.Image{Len: n})
		for i := range 7 {
			for _, change := range []func(m *image.Image){
				func(m *image.Image) { m.Len = n }, func(m *image.Image) { m.Blocks[i].Off = n }, func(m *image.Image) { m.Blocks[i].Size = n },
			} {
				m := some()
				change(&m)
				none(m)
			}
		}
		for _, k := range ends() {
			none(image.Image{Len: n, Blocks: []api.Block{{Off: k, Size: n - k}}})
			none(image.Image{Len: k, Blocks: []api.Block{{Off: 184, Size: n}, {Off: 184 + n, Size: k - n - 184}}})
			none(image.Image{Len: 216, Blocks: []api.Block{{Off: 184, Size: n}, {Off: 184 + n, Size: 32 - n, Used: true}}, Data: [][]byte{make([]byte, 16)}})
			none(image.Image{Len: 248, Blocks: []api.Block{{Off: 184, Size: 32, Used: true}, {Off: n, Size: k}}, Data: [][]byte{make([]byte, 16)}})
		}
		for _, k := range wrongCapacities() {
			wantNone(t, image.Image{Len: n}, 0, k, api.ErrArg)
			wantNone(t, some(), uint64(n), k, api.ErrArg)
		}
	}
}

// P1: the zero image, and lists of more than there may be.
func TestOddImages(t *testing.T) {
	for _, m := range []image.Image{
		{}, {Len: 184, Data: make([][]byte, 1)}, {Len: 184, Data: make([][]byte, 2000)},
		{Len: 16376, Blocks: make([]api.Block, 2000), Data: make([][]byte, 2000)}, {Len: 16376, Blocks: make([]api.Block, 506)},
		{Len: 184, Blocks: make([]api.Block, 1)}, {Len: 184, Blocks: []api.Block{{Off: 184}}}, {Len: 184, Blocks: make([]api.Block, 1<<16)},
		{Len: 184, Blocks: []api.Block{{Off: 184, Used: true}}, Data: [][]byte{nil}},
		{Len: 200, Blocks: []api.Block{{Off: 184, Size: 16, Used: true}}, Data: [][]byte{nil}},
		{Len: 200, Blocks: []api.Block{{Off: 184, Size: 16, Used: true}}, Data: [][]byte{{}}},
		{Len: 216, Blocks: row(-32), Data: [][]byte{nil}}, {Len: 16392, Blocks: row(16208)}, {Len: 16568, Blocks: row(16384)},
	} {
		wantNone(t, m, 0, 1024, api.ErrArg)
		wantNone(t, m, 160, 16384, api.ErrArg)
	}
}

// P16.1: the Data are bytes of any kind, also such as look like tags, lists' numbers,
// or an image's own bytes.
func TestDataOfAnyKind(t *testing.T) {
	b, err := image.Put(some())
	wantError(t, "Put", err, nil)
	alike := [][]byte{make([]byte, 256), bytes.Repeat([]byte{255}, 256), bytes.Repeat([]byte{165}, 256), b, bytes.Repeat([]byte("CNTL\x01\x00\x00\x00"), 40)}
	for _, w := range []byte{32, 33, 48, 49, 64, 184, 200} {
		alike = append(alike, bytes.Repeat([]byte{w, 0, 0, 0, 0, 0, 0, 0}, 32))
	}
	for i, c := range alike {
		m := imageFrom(-272, 32, -32, -64, 96, -96)
		for k, x := range m.Data {
			m.Data[k] = bytes.Clone(c[:len(x)])
		}
		h := restored(t, m, baseOf(i), 1024)
		for p := range uint64(m.Len + 20) {
			isOne := slices.Contains([]uint64{192, 496, 528, 688}, p)
			if _, err := h.Usable(p); (err == nil) != isOne {
				t.Fatalf("Usable of %d: %v", p, err)
			}
		}
		wantError(t, "Free", h.Free(496), nil)
		if l, err := block.Walk(h.Arena()); err != nil || !slices.Equal(l, row(-272, 64, -64, 96, -96)) {
			t.Fatalf("blocks %v, %v", l, err)
		}
	}
}

// P16.1: what is beyond a list's end isn't asked, nor laid anywhere.
func TestWhatIsNotAsked(t *testing.T) {
	m := some()
	m.Blocks = append(m.Blocks, api.Block{Off: m.Len, Size: 32})[:7]
	m.Data = append(m.Data, bytesFrom(1, 16), []byte{1})[:4]
	for i, b := range m.Data {
		m.Data[i] = append(b, 1, 2, 3, 4, 5, 6, 7, 8, 9)[:len(b)]
	}
	restored(t, m, 160, 1024)
}

// spoil turns all bytes, as far as the memory of b goes.
func spoil(b []byte) {
	b = b[:cap(b)]
	for i := range b {
		b[i] ^= 255
	}
}

// spoilImage turns all that an image has, as far as its memory goes, but for its own
// lists' lengths.
func spoilImage(m image.Image) {
	for _, b := range m.Data[:cap(m.Data)] {
		spoil(b)
	}
	for i := range m.Blocks[:cap(m.Blocks)] {
		m.Blocks[:cap(m.Blocks)][i] = api.Block{Off: -1, Size: -1, Used: true}
	}
	clear(m.Data[:cap(m.Data)])
}

// P16.2: an image that is changed behind the call changes nothing of the heap.
func TestTheImageIsNotKept(t *testing.T) {
	for i, want := range kinds() {
		m := copyOf(want)
		h := restored(t, m, baseOf(i), 16384)
		was := stateOf(t, h)
		spoilImage(m)
		wantState(t, h, was)
		wantLayers(t, h, want)
	}
}

// P16.2: what the heap does changes nothing of the image, not even beyond the ends of
// its lists, and nothing of another heap that was restored out of it.
func TestTheImageIsNotChanged(t *testing.T) {
	for i, m := range kinds() {
		for k, b := range m.Data {
			m.Data[k] = append(b, 7, 7, 7, 7, 7, 7, 7, 7)[:len(b)]
		}
		m.Blocks = append(m.Blocks, api.Block{Off: 7, Size: 7})[:len(m.Blocks)]
		m.Data = append(m.Data, []byte{7})[:len(m.Data)]
		was := copyOf(m)
		g, h := restored(t, m, baseOf(i), 16384), restored(t, m, baseOf(i), 16384)
		before := stateOf(t, h)
		n := uint64(0)
		for k, x := range m.Blocks {
			if !x.Used {
				continue
			}
			p := uint64(x.Off) + 8
			wantError(t, "Write", g.Write(p, 0, bytes.Repeat([]byte{byte(k)}, x.Size-16)), nil)
			if n++; n%3 == 0 {
				wantError(t, "Free", g.Free(p), nil)
			}
		}
		for range 9 {
			_, _ = g.Malloc(40)
		}
		g.Rebuild()
		_ = g.Arena().Fill(baseOf(i), 184, 9)
		if !same(m, was) || !same(image.Image{Blocks: m.Blocks[:len(m.Blocks)+1][len(m.Blocks):]}, image.Image{Blocks: []api.Block{{Off: 7, Size: 7}}}) {
			t.Fatalf("the heap's calls changed the image %s", brief(was))
		}
		for _, b := range m.Data {
			if !bytes.Equal(b[:len(b)+8][len(b):], bytes.Repeat([]byte{7}, 8)) {
				t.Fatal("the heap's calls changed what is behind the Data")
			}
		}
		wantState(t, h, before)
	}
}

// P16.2: where several Data are one and the same memory, their blocks hold memory of
// their own.
func TestDataThatAreOne(t *testing.T) {
	b := bytesFrom(9, 32)
	m := image.Image{Len: 184 + 3*48, Blocks: row(-48, -48, -48), Data: [][]byte{b, b, b}}
	h := restored(t, m, 160, 1024)
	wantError(t, "Write", h.Write(240, 3, []byte{200, 201}), nil)
	wantError(t, "Free", h.Free(192), nil)
	for p, want := range map[uint64][]byte{240: slices.Concat(b[:3], []byte{200, 201}, b[5:]), 288: bytesFrom(9, 32)} {
		if got, err := h.Read(p, 0, 32); err != nil || !bytes.Equal(got, want) {
			t.Fatalf("%d holds %v, %v", p, got, err)
		}
	}
	if !bytes.Equal(b, bytesFrom(9, 32)) {
		t.Fatal("the heap's calls changed the Data")
	}
}

// P16.3: the image of what was restored is the image, with the same capacity and with
// each greater one; so is that of what is restored out of its bytes.
func TestItsImage(t *testing.T) {
	for i, m := range kinds() {
		for k, capacity := range append(capacities(), m.Len) {
			if capacity < max(1024, m.Len) {
				continue
			}
			h := restored(t, m, baseOf(i+k), capacity)
			got, err := image.Of(h.Arena())
			wantError(t, "Of", err, nil)
			b, err := image.Put(got)
			wantError(t, "Put", err, nil)
			want, err := image.Put(m)
			wantError(t, "Put", err, nil)
			if !same(got, m) || !bytes.Equal(b, want) {
				t.Fatalf("its image is %s, want %s", brief(got), brief(m))
			}
			again, err := image.Get(b)
			wantError(t, "Get", err, nil)
			wantState(t, restored(t, again, baseOf(i), capacity), state{baseOf(i), m.Len, capacity, stateOf(t, h).all})
		}
	}
}

// P16.1: the base isn't asked by what stands there: all bytes are the same at each.
func TestTheBaseIsNotAsked(t *testing.T) {
	for _, m := range kinds() {
		first := stateOf(t, restored(t, m, 0, 16384))
		for _, base := range bases() {
			first.base = base
			wantState(t, restored(t, m, base, 16384), first)
		}
	}
}

// draw is a row of numbers that a rule tells, each from the one ahead of it.
type draw uint32

// next tells a number from 0 to n - 1.
func (d *draw) next(n int) int {
	*d = *d*1664525 + 1013904223
	return int(*d>>8) % n
}

// pick tells one of these.
func (d *draw) pick(l ...int) int { return l[d.next(len(l))] }

// handle tells a handle of a heap with these blocks, or what is none.
func (d *draw) handle(l []api.Block) uint64 {
	if len(l) == 0 || d.next(10) == 0 {
		return uint64(d.next(1200))
	}
	return uint64(l[d.next(len(l))].Off) + 8
}

// call tells a call of a heap with these blocks.
func (d *draw) call(l []api.Block) api.Call {
	x := api.Call{Op: d.next(10), H: d.handle(l), N: uint64(d.next(d.pick(40, 40, 200, 200, 900, 17000))), M: uint64(d.next(3))}
	switch x.Op {
	case api.Read:
		x.N, x.At = uint64(d.next(40)), uint64(d.next(d.pick(8, 60)))
	case api.Write:
		x.B, x.At = bytesFrom(d.next(256), d.next(40)), uint64(d.next(d.pick(8, 60)))
	}
	return x
}

// alike tells whether two replies are the same.
func alike(a, b api.Reply) bool {
	return a.Code == b.Code && a.H == b.H && a.N == b.N && a.S == b.S && bytes.Equal(a.B, b.B)
}

// wantAlike wants two heaps to answer drawn calls alike, and their images to be alike
// behind each; what is in free blocks may differ, but for lists. It tells how often a
// call told no error.
func (d *draw) wantAlike(t *testing.T, g, h *heap.Heap, times int) int {
	t.Helper()
	done := 0
	for range times {
		l, err := block.Walk(g.Arena())
		wantError(t, "Walk", err, nil)
		if d.next(25) == 0 {
			n := g.Arena().Cap() + d.next(200) - 20
			wantError(t, "Widen", h.Widen(n), g.Widen(n))
			g.Rebuild()
			h.Rebuild()
		}
		x := d.call(l)
		r, s := g.Do(x), h.Do(x)
		if !alike(r, s) {
			t.Fatalf("%+v: one heap tells %+v, the other one %+v", x, r, s)
		}
		if r.Code == 0 {
			done++
		}
		wantTwins(t, g, h)
	}
	return done
}

// wantTwins wants two heaps to have one image, and the same lists.
func wantTwins(t *testing.T, g, h *heap.Heap) {
	t.Helper()
	m, err := image.Of(g.Arena())
	wantError(t, "Of", err, nil)
	wantImage(t, h, m)
	if g.Stats() != h.Stats() {
		t.Fatalf("stats %+v, and %+v", g.Stats(), h.Stats())
	}
	for c := range api.Bins {
		k, err := list.All(g.Arena(), c)
		wantError(t, "All", err, nil)
		l, err := list.All(h.Arena(), c)
		wantError(t, "All", err, nil)
		if !slices.Equal(k, l) {
			t.Fatalf("the lists of class %d have %v, and %v", c, k, l)
		}
	}
}

// P16.1: the heap's calls answer as those of a heap that is made by heap.Of, out of an
// arena of the model's bytes.
func TestCallsAsOfAnyHeap(t *testing.T) {
	d, done := draw(16), 0
	for i, m := range kinds() {
		for k, capacity := range []int{max(1024, m.Len), max(1024, m.Len+72), 16384} {
			capacity = min(capacity, 16384)
			h := restored(t, m, baseOf(i), capacity)
			g, err := heap.Of(made(t, baseOf(i+k), capacity, bytesOf(m)))
			wantError(t, "Of", err, nil)
			done += d.wantAlike(t, g, h, 40)
		}
	}
	if done < 2500 {
		t.Errorf("%d calls told no error", done)
	}
}

// P16.1: the same, of a heap on which calls were done, and of one that is restored out
// of its image at another base, with no less capacity: behind Widen and Rebuild the
// first one answers as the second one does.
func TestCallsAsOfTheHeapItself(t *testing.T) {
	d, done := draw(2), 0
	for i := range 50 {
		g, err := heap.New(baseOf(i), d.pick(capacities()...))
		wantError(t, "New", err, nil)
		for range 60 {
			l, _ := block.Walk(g.Arena())
			g.Do(d.call(l))
		}
		m, err := image.Of(g.Arena())
		wantError(t, "Of", err, nil)
		capacity := min(16384, g.Arena().Cap()+d.pick(0, 1, 16, 500, 16384))
		h := restored(t, m, baseOf(i+1+i/7), capacity)
		wantError(t, "Widen", g.Widen(capacity), nil)
		g.Rebuild()
		wantTwins(t, g, h)
		done += d.wantAlike(t, g, h, 60)
	}
	if done < 1200 {
		t.Errorf("%d calls told no error", done)
	}
}

// P16.1: behind Restore there is as much room as the capacity has, and not more: calls
// by the chapter of layer 14, with their answers written out.
func TestCallsWrittenOut(t *testing.T) {
	m := imageFrom(-32, 64, -48, 32, -64, 272, -32)
	h := restored(t, m, 1<<62, 1024)
	rows := []struct {
		x    api.Call
		want api.Reply
	}{
		{api.Call{Op: api.Count}, api.Reply{S: api.Stats{Used: 4, Free: 3, Bytes: 112, Len: 728, Cap: 1024}}},
		{api.Call{Op: api.Read, H: 288, At: 30, N: 2}, api.Reply{B: []byte{111, 112}}},
		{api.Call{Op: api.Read, H: 288, At: 31, N: 2}, api.Reply{Code: 2}},
		{api.Call{Op: api.Free, H: 224}, api.Reply{Code: 4}},
		{api.Call{Op: api.Malloc, N: 16}, api.Reply{H: 336}},  // the free one of 32 bytes
		{api.Call{Op: api.Malloc, N: 33}, api.Reply{H: 224}},  // that of 64
		{api.Call{Op: api.Malloc, N: 240}, api.Reply{H: 432}}, // that of 272, of which 16 stay with it
		{api.Call{Op: api.Usable, H: 432}, api.Reply{N: 256}},
		{api.Call{Op: api.Malloc, N: 280}, api.Reply{Code: 5}}, // there are 296 bytes up to the capacity
		{api.Call{Op: api.Calloc, N: 34, M: 8}, api.Reply{H: 736}},
		{api.Call{Op: api.Count}, api.Reply{S: api.Stats{Used: 8, Bytes: 16 + 48 + 32 + 16 + 48 + 256 + 16 + 272, Len: 1016, Cap: 1024}}},
		{api.Call{Op: api.Malloc}, api.Reply{Code: 5}},
		{api.Call{Op: api.Realloc, H: 192, N: 40}, api.Reply{Code: 5}},
		{api.Call{Op: api.Write, H: 288, At: 31, B: []byte{9}}, api.Reply{}},
		{api.Call{Op: api.Free, H: 224}, api.Reply{}},
		{api.Call{Op: api.Realloc, H: 192, N: 40}, api.Reply{H: 192}},
		{api.Call{Op: api.Read, H: 192, At: 14, N: 4}, api.Reply{B: []byte{15, 16, 165, 165}}},
		{api.Call{Op: api.Read, H: 288, At: 30, N: 2}, api.Reply{B: []byte{111, 9}}},
		{api.Call{Op: api.Count}, api.Reply{S: api.Stats{Used: 7, Free: 1, Bytes: 16 + 32 + 32 + 16 + 48 + 256 + 16 + 272 + 16 - 32 + 16, Len: 1016, Cap: 1024}}},
	}
	for i, r := range rows {
		if got := h.Do(r.x); !alike(got, r.want) {
			t.Fatalf("the %d-th call tells %+v, want %+v", i, got, r.want)
		}
	}
}

// P16.1: what is held stays so, whatever is done beside it: of a map of handles to
// what they hold, which begins with the Data.
func TestAMapOfHandles(t *testing.T) {
	d := draw(33)
	for i, m := range kinds() {
		h := restored(t, m, baseOf(i), min(16384, max(1024, m.Len+d.next(3000))))
		held := map[uint64][]byte{}
		k := 0
		for _, x := range m.Blocks {
			if x.Used {
				held[uint64(x.Off)+8] = bytes.Clone(m.Data[k])
				k++
			}
		}
		for range 40 {
			l, _ := block.Walk(h.Arena())
			d.asMap(t, h, held, d.call(l))
			for p, want := range held {
				if b, err := h.Read(p, 0, uint64(len(want))); err != nil || !bytes.Equal(b, want) {
					t.Fatalf("%d holds %v, %v, want %v", p, b, err, want)
				}
			}
			if s := h.Stats(); s.Used != len(held) {
				t.Fatalf("stats %+v, want %d used", s, len(held))
			}
		}
	}
}

// asMap does a call on a heap, and on a map of what its handles hold.
func (d *draw) asMap(t *testing.T, h *heap.Heap, held map[uint64][]byte, x api.Call) {
	t.Helper()
	what, ok := held[x.H]
	r := h.Do(x)
	if asks := x.Op >= api.Free && x.Op <= api.Write; asks && (r.Code == 4) == ok {
		t.Fatalf("%+v tells %+v; a handle: %v", x, r, ok)
	}
	if r.Code != 0 {
		return
	}
	n, _ := h.Usable(r.H)
	switch x.Op {
	case api.Malloc:
		held[r.H] = fills(int(n))
	case api.Calloc:
		held[r.H] = make([]byte, n)
	case api.Free:
		delete(held, x.H)
	case api.Realloc:
		delete(held, x.H)
		held[r.H] = append(bytes.Clone(what), fills(17000)...)[:n]
	case api.Write:
		copy(what[x.At:], x.B)
	}
}

// image tells a drawn image, which may be.
func (d *draw) image() image.Image {
	var sizes []int
	n, wasFree := 184, false
	for range d.next(d.pick(4, 12, 40)) {
		size := d.pick(32, 32, 48, 64, 80, 112, 272, 16*(2+d.next(60)), 16*(2+d.next(200)))
		if n+size > 16376 {
			break
		}
		n += size
		if wasFree = !wasFree && d.next(3) > 0; !wasFree {
			size = -size
		}
		sizes = append(sizes, size)
	}
	m := imageFrom(sizes...)
	for _, b := range m.Data {
		for i := range b {
			b[i] = byte(d.next(256))
		}
	}
	return m
}

// spoil changes one thing of an image, of which there may be nothing left to change.
func (d *draw) spoil(m *image.Image) {
	nb, nd := len(m.Blocks), len(m.Data)
	amount := d.pick(-16, 16, -8, 8, 1, -1, -32, 32, 1024, ends()[d.next(len(ends()))])
	switch k := d.next(9); {
	case k == 0:
		m.Len += amount
	case k == 1 && nb > 0:
		m.Blocks[d.next(nb)].Off += amount
	case k == 2 && nb > 0:
		m.Blocks[d.next(nb)].Size += amount
	case k == 3 && nb > 0:
		x := &m.Blocks[d.next(nb)]
		x.Used = !x.Used
	case k == 4 && nb > 0:
		i := d.next(nb)
		m.Blocks = slices.Delete(m.Blocks, i, i+1)
	case k == 5 && nb > 1: // where one ends, and the next one begins, moves
		i := 1 + d.next(nb-1)
		m.Blocks[i-1].Size += amount
		m.Blocks[i].Off += amount
		m.Blocks[i].Size -= amount
	case k == 6 && nd > 0:
		i := d.next(nd)
		m.Data = slices.Delete(m.Data, i, i+1)
	case k == 7 && nd > 0:
		i := d.next(nd)
		m.Data[i] = append(m.Data[i], make([]byte, 20)...)[:max(0, len(m.Data[i])+d.pick(-16, -1, 1, 16))]
	default:
		m.Data = slices.Insert(m.Data, d.next(nd+1), make([]byte, d.pick(0, 16, 32, 48)))
	}
}

// base tells a drawn base, mostly one of which there is an arena.
func (d *draw) base() uint64 {
	switch d.next(12) {
	case 0:
		return wrongBases()[d.next(len(wrongBases()))]
	case 1:
		return uint64(d.next(1000))
	case 2:
		return bases()[d.next(len(bases()))]
	}
	return uint64(d.next(1<<22)) << (4 + d.next(35))
}

// capacity tells a drawn capacity, mostly one of which there is an arena, and near n.
func (d *draw) capacity(n int) int {
	switch d.next(12) {
	case 0:
		return wrongCapacities()[d.next(len(wrongCapacities()))]
	case 1, 2:
		return d.pick(capacities()...)
	case 3, 4, 5:
		return 1024 + d.next(16384-1023)
	}
	return n + d.pick(-500, -16, -8, -1, 0, 0, 0, 1, 8, 16, 100, 900)
}

// P16.1 to P16.3: drawn images, as they are, and with one to three things changed, at
// drawn bases, with drawn capacities.
func TestDrawnImages(t *testing.T) {
	d := draw(161)
	told := map[error]int{}
	for range 3000 {
		m := d.image()
		for try := range 3 {
			c := copyOf(m)
			for range try {
				d.spoil(&c)
			}
			n := max(c.Len, -c.Len, 0) % 20000
			h, err := wantRestore(t, c, d.base(), d.capacity(max(n, d.pick(0, 1024))))
			told[err]++
			if want := copyOf(c); h != nil && d.next(4) == 0 {
				spoilImage(c)
				wantLayers(t, h, want)
			}
		}
	}
	if told[nil] < 1000 || told[api.ErrArg] < 3000 || told[api.ErrLarge] < 300 {
		t.Errorf("told %v", told)
	}
}

// P1: images, bases and capacities that no rule made: Restore tells what the model
// does.
func FuzzRestore(f *testing.F) {
	f.Add([]byte(nil), 0, uint64(0), 1024)
	f.Add([]byte{1, 2, 3}, 0, uint64(160), 1024)
	f.Add([]byte{129, 2, 130}, 16, uint64(8), 1024)
	f.Add([]byte{255, 127, 255, 127, 255, 127}, 0, uint64(1<<62), 4000)
	f.Add([]byte{64, 128, 1}, -8, uint64(1<<64-16), -1)
	f.Fuzz(func(t *testing.T, sizes []byte, more int, base uint64, capacity int) {
		var l []int
		for _, b := range sizes {
			size := 16 * int(b&127)
			if b > 127 {
				size = -size
			}
			l = append(l, size)
		}
		m := image.Image{Blocks: row(l...)}
		m.Len = endOf(m.Blocks) + more
		for i, x := range m.Blocks {
			if x.Used {
				m.Data = append(m.Data, bytesFrom(i, max(0, x.Size-16)))
			}
		}
		_, _ = wantRestore(t, m, base, capacity)
	})
}
