package snap

import (
	"bytes"
	"cantle/api"
	"cantle/arena"
	"cantle/block"
	"cantle/check"
	"cantle/disk"
	"cantle/heap"
	"cantle/image"
	"cantle/list"
	"fmt"
	"hash/crc32"
	"math"
	"slices"
	"testing"
)

// greatest is the greatest Gen, written out.
const greatest = 4611686018427387904

// bases are those at which an address is near 0, near the greatest, or neither.
func bases() []uint64 {
	return []uint64{0, 16, 160, 192, 1 << 32, 1<<62 - 16, 1 << 62}
}

// baseOf tells the base of the i-th try.
func baseOf(i int) uint64 { return bases()[i%len(bases())] }

// wrongBases are those of which there is no arena.
func wrongBases() []uint64 {
	return []uint64{1, 8, 15, 17, 184, 1<<32 + 8, 1<<62 - 8, 1<<62 + 1, 1<<62 + 16, 1<<63 - 16, 1 << 63, 1<<64 - 1024, 1<<64 - 16, 1<<64 - 1}
}

// capacities are the least ones, the greatest ones, and some between.
func capacities() []int {
	return []int{1024, 1025, 1040, 1400, 5000, 8192, 16375, 16376, 16383, 16384}
}

// wrongCapacities are those of which there is no arena.
func wrongCapacities() []int {
	return []int{math.MinInt, math.MinInt + 1024, -16384, -1024, -1, 0, 1, 184, 216, 1008, 1023, 16385, 16400, 32768, 1<<32 + 1024, math.MaxInt - 1, math.MaxInt}
}

// wantError wants the Code itself, so nothing that wraps it.
func wantError(t *testing.T, what string, err, want error) {
	t.Helper()
	if err == nil || want == nil {
		if err != nil || want != nil {
			t.Fatalf("%s: error %v, want %v", what, err, want)
		}
		return
	}
	if err != want {
		t.Fatalf("%s: error %v, want %v", what, err, want)
	}
}

// differ tells from where on two rows of bytes differ.
func differ(a, b []byte) int {
	i := 0
	for i < len(a) && i < len(b) && a[i] == b[i] {
		i++
	}
	return i
}

// wantBytes wants two rows of bytes to be alike.
func wantBytes(t *testing.T, what string, got, want []byte) {
	t.Helper()
	if !bytes.Equal(got, want) {
		t.Fatalf("%s: %d bytes, want %d; they differ from %d on", what, len(got), len(want), differ(got, want))
	}
}

// bytesFrom tells n bytes that rise from c on.
func bytesFrom(c, n int) []byte {
	b := make([]byte, n)
	for i := range b {
		b[i] = byte(c + i)
	}
	return b
}

// fills tells n bytes that are Fill.
func fills(n int) []byte { return bytes.Repeat([]byte{165}, n) }

// imageFrom tells an image of these blocks; that of a size below 0 is used, and what
// it holds rises from a number of its own on.
func imageFrom(sizes ...int) image.Image {
	m := image.Image{Len: 184, Blocks: row(sizes...)}
	for i, x := range m.Blocks {
		m.Len = x.Off + x.Size
		if x.Used {
			m.Data = append(m.Data, bytesFrom(40*i+1, x.Size-16))
		}
	}
	return m
}

// some is the image that most tests have: used and free ones, used ones side by side.
func some() image.Image { return imageFrom(-32, 64, -48, -64, 32, -32, 272) }

// other is another one, which has as many bytes.
func other() image.Image { return imageFrom(-48, 272, -32, -64, 48, -32, 32) }

// heapOf tells a heap of an image's blocks.
func heapOf(t *testing.T, m image.Image) *heap.Heap {
	t.Helper()
	a := arena.New(4096, 16384)
	wantError(t, "Grow", a.Grow(m.Len), nil)
	wantError(t, "Store", a.Store(4096, arenaOf(m)), nil)
	h, err := heap.Of(a)
	wantError(t, "Of", err, nil)
	return h
}

// state is all that an arena tells of itself.
type state struct {
	base             uint64
	length, capacity int
	all              string
}

func stateOf(t *testing.T, h *heap.Heap) state {
	t.Helper()
	if h == nil {
		t.Fatal("the heap is nil")
	}
	a := h.Arena()
	b, err := a.Load(a.Base(), uint64(a.Len()))
	wantError(t, "Load of all bytes", err, nil)
	return state{a.Base(), a.Len(), a.Cap(), string(b)}
}

// wantState wants a heap's arena to stand so.
func wantState(t *testing.T, h *heap.Heap, want state) {
	t.Helper()
	if got := stateOf(t, h); got != want {
		t.Fatalf("base %#x, %d bytes of %d, want %#x, %d of %d; bytes differ from %d on",
			got.base, got.length, got.capacity, want.base, want.length, want.capacity, differ([]byte(got.all), []byte(want.all)))
	}
}

// bytesOf tells the bytes of a heap's image.
func bytesOf(t *testing.T, h *heap.Heap) []byte {
	t.Helper()
	return imageBytes(imageIn([]byte(stateOf(t, h).all)))
}

// pair is a disk, and what it is held against.
type pair struct {
	t *testing.T
	d *disk.Disk
	p *plate
}

// pairOf tells a disk on which b stands.
func pairOf(t *testing.T, b []byte) *pair {
	t.Helper()
	x := &pair{t, disk.Of(b), plateOf(b)}
	if x.d == nil {
		t.Fatalf("there is no disk of %d bytes", len(b))
	}
	x.wantSame()
	return x
}

// newPair tells a new disk.
func newPair(t *testing.T, sectors int) *pair {
	t.Helper()
	return pairOf(t, make([]byte, 512*sectors))
}

// wantSame wants the disk to stand as the plate.
func (x *pair) wantSame() {
	x.t.Helper()
	wantBytes(x.t, "what stands", x.d.Bytes(), x.p.stands)
	if n := x.d.Waiting(); n != len(x.p.waits) {
		x.t.Fatalf("%d writes wait, want %d", n, len(x.p.waits))
	}
	if x.p.off {
		_, err := x.d.Read(0)
		wantError(x.t, "Read while the power is off", err, api.ErrDown)
		return
	}
	var seen []byte
	for i := range x.d.Sectors() {
		b, err := x.d.Read(i)
		wantError(x.t, "Read", err, nil)
		seen = append(seen, b...)
	}
	wantBytes(x.t, "what is read", seen, x.p.seen())
}

// save wants Save to tell and do what the model does, and not to change the heap; and
// tells that.
func (x *pair) save(h *heap.Heap) error {
	x.t.Helper()
	was := stateOf(x.t, h)
	want := x.p.save(bytesOf(x.t, h))
	wantError(x.t, "Save", Save(x.d, h), want)
	x.wantSame()
	wantState(x.t, h, was)
	return want
}

// load wants Load to tell what the model does, and not to change the disk; and tells
// that.
func (x *pair) load(base uint64, capacity int) (*heap.Heap, error) {
	x.t.Helper()
	m, want := x.p.load(base, capacity)
	h, err := Load(x.d, base, capacity)
	wantError(x.t, fmt.Sprintf("Load at base %#x, with capacity %d", base, capacity), err, want)
	x.wantSame()
	if want != nil {
		if h != nil {
			x.t.Fatal("a heap beside an error")
		}
		return nil, want
	}
	wantState(x.t, h, state{base, m.Len, capacity, string(arenaOf(m))})
	wantError(x.t, "Check", check.Check(h.Arena()), nil)
	if s := h.Stats(); s != statsOf(m, capacity) {
		x.t.Fatalf("stats %+v, want %+v", s, statsOf(m, capacity))
	}
	return h, nil
}

// cut is Cut of both.
func (x *pair) cut(n int) {
	x.d.Cut(n)
	x.p.left = max(n, -1)
}

// boot is Boot of both.
func (x *pair) boot(keep ...bool) {
	x.t.Helper()
	x.d.Boot(keep)
	x.p.boot(keep)
	x.wantSame()
}

// write is Write of both.
func (x *pair) write(i int, b []byte) error {
	x.t.Helper()
	var want error
	if !x.p.write(i, b) {
		want = api.ErrDown
	}
	wantError(x.t, "Write", x.d.Write(i, b), want)
	x.wantSame()
	return want
}

// flush is Flush of both, while the power is on.
func (x *pair) flush() {
	x.t.Helper()
	wantError(x.t, "Flush", x.d.Flush(), nil)
	x.p.flush()
	x.wantSame()
}

// turnOff lets the power go, at a write that does nothing.
func (x *pair) turnOff() {
	x.t.Helper()
	x.cut(0)
	wantError(x.t, "the write at which the power goes", x.write(0, make([]byte, 512)), api.ErrDown)
}

// wantSave wants Save to tell this error, or none.
func (x *pair) wantSave(h *heap.Heap, want error) {
	x.t.Helper()
	wantError(x.t, "the model's answer to Save", x.save(h), want)
}

// wantNone wants Load to tell this error.
func (x *pair) wantNone(base uint64, capacity int, want error) {
	x.t.Helper()
	_, err := x.load(base, capacity)
	wantError(x.t, "the model's answer to Load", err, want)
}

// wantImage wants Load to tell a heap of this image.
func (x *pair) wantImage(m image.Image) {
	x.t.Helper()
	h, err := x.load(160, 16384)
	wantError(x.t, "Load", err, nil)
	wantState(x.t, h, state{160, m.Len, 16384, string(arenaOf(m))})
}

// wantGens wants both slots to have records of these Gens; none, where it is 0.
func (x *pair) wantGens(first, second uint64) {
	x.t.Helper()
	l := sidesOf(x.d.Bytes())
	if l[0].r.gen != first || l[1].r.gen != second {
		x.t.Fatalf("the Gens are %d and %d, want %d and %d", l[0].r.gen, l[1].r.gen, first, second)
	}
}

// slotOf tells the bytes of a slot of n sectors.
func slotOf(n int, r record, what []byte) []byte {
	b := append(recordBytes(r), what...)
	return append(b, make([]byte, 512*n)...)[:512*n]
}

// goodSlot tells those of a good one.
func goodSlot(n int, gen uint64, m image.Image) []byte {
	b := imageBytes(m)
	return slotOf(n, record{gen, uint64(len(b)), sumOf(b)}, b)
}

// turned tells the same bytes, but one, one bit of which is turned.
func turned(b []byte, i int) []byte {
	b = bytes.Clone(b)
	b[i] ^= 1
	return b
}

// way is a way in which a slot may stand.
type way struct {
	name      string
	has, good bool
	make      func(n int, gen uint64, m image.Image) []byte
}

// summed tells a slot whose record has the sum of what stands behind it.
func summed(change func(b []byte) []byte) func(n int, gen uint64, m image.Image) []byte {
	return func(n int, gen uint64, m image.Image) []byte {
		b := change(imageBytes(m))
		return slotOf(n, record{gen, uint64(len(b)), sumOf(b)}, b)
	}
}

// spoilt tells a good slot, in which one bit is turned.
func spoilt(i int) func(n int, gen uint64, m image.Image) []byte {
	return func(n int, gen uint64, m image.Image) []byte { return turned(goodSlot(n, gen, m), i) }
}

// recorded tells a slot with what a good one has, but another record.
func recorded(change func(r *record)) func(n int, gen uint64, m image.Image) []byte {
	return func(n int, gen uint64, m image.Image) []byte {
		b := imageBytes(m)
		r := record{gen, uint64(len(b)), sumOf(b)}
		change(&r)
		return slotOf(n, r, b)
	}
}

// ways are those ways.
func ways() []way {
	same := func(b []byte) []byte { return b }
	return []way{
		{"good", true, true, summed(same)},
		{"all 0", false, false, func(n int, _ uint64, _ image.Image) []byte { return make([]byte, 512*n) }},
		{"no record, but an image", false, false, func(n int, gen uint64, m image.Image) []byte {
			return append(make([]byte, 512), goodSlot(n, gen, m)[512:]...)
		}},
		{"no record, but an image at its place", false, false, func(n int, _ uint64, m image.Image) []byte {
			return append(imageBytes(m), make([]byte, 512*n)...)[:512*n]
		}},
		{"another mark", false, false, spoilt(3)},
		{"a Gen turned", false, false, spoilt(15)},
		{"a Sum turned", false, false, spoilt(24)},
		{"a record's sum turned", false, false, spoilt(28)},
		{"a byte behind the record", false, false, spoilt(511)},
		{"no Gen", false, false, recorded(func(r *record) { r.gen = 0 })},
		{"a Gen beyond", false, false, recorded(func(r *record) { r.gen = greatest + 1 })},
		{"a Len beyond", false, false, recorded(func(r *record) { r.length = 65537 })},
		{"the image's first byte turned", true, false, spoilt(512)},
		{"a byte of the image turned", true, false, spoilt(552)},
		{"the image's last byte turned", true, false, func(n int, gen uint64, m image.Image) []byte {
			return turned(goodSlot(n, gen, m), 512+len(imageBytes(m))-1)
		}},
		{"another's Sum", true, false, recorded(func(r *record) { r.sum++ })},
		{"Sum 0", true, false, recorded(func(r *record) { r.sum = 0 })},
		{"Sum of less", true, false, func(n int, gen uint64, m image.Image) []byte {
			b := imageBytes(m)
			return slotOf(n, record{gen, uint64(len(b)), sumOf(b[:len(b)-1])}, b)
		}},
		{"Len one less", true, false, recorded(func(r *record) { r.length-- })},
		{"Len one more", true, false, recorded(func(r *record) { r.length++ })},
		{"Len 0", true, false, recorded(func(r *record) { r.length = 0 })},
		{"the greatest Len", true, false, recorded(func(r *record) { r.length = 65536 })},
		{"Len one more than there is room for", true, false, func(n int, gen uint64, m image.Image) []byte {
			return slotOf(n, record{gen, uint64(512*(n-1) + 1), sumOf(imageBytes(m))}, imageBytes(m))
		}},
		{"all there is room for", true, false, func(n int, gen uint64, m image.Image) []byte {
			b := goodSlot(n, gen, m)[512:]
			return slotOf(n, record{gen, uint64(len(b)), sumOf(b)}, b)
		}},
		{"no bytes", true, false, summed(func(b []byte) []byte { return nil })},
		{"no image: a byte less", true, false, summed(func(b []byte) []byte { return b[:len(b)-1] })},
		{"no image: its head alone", true, false, summed(func(b []byte) []byte { return b[:28] })},
		{"no image: a byte more", true, false, summed(func(b []byte) []byte { return append(b, 0) })},
		{"no image: another mark", true, false, summed(func(b []byte) []byte { return turned(b, 4) })},
		{"no image: another Len", true, false, summed(func(b []byte) []byte { return turned(b, 8) })},
		{"no image: another tag", true, false, summed(func(b []byte) []byte { return turned(b, 28) })},
		{"no image: its last byte turned", true, false, summed(func(b []byte) []byte { return turned(b, len(b)-1) })},
		{"no image: bytes", true, false, summed(func(b []byte) []byte { return bytesFrom(1, len(b)) })},
		{"no image: a record", true, false, summed(func(b []byte) []byte { return recordBytes(record{gen: 1})[:40] })},
		{"no image: two free ones side by side", true, false, summed(func(b []byte) []byte { return imageBytes(imageFrom(-32, 48, 32)) })},
		{"no image: a Len that may not be", true, false, summed(func(b []byte) []byte { return imageBytes(image.Image{Len: 200}) })},
		{"no image: too great a Len", true, false, summed(func(b []byte) []byte { return imageBytes(imageFrom(8192, -32, 8192)) })},
	}
}

// twoSlots tells the bytes of a disk of both slots, and behind them as many sectors
// as are beyond.
func twoSlots(first, second []byte, beyond int) []byte {
	return slices.Concat(first, second, bytes.Repeat([]byte{77}, 512*beyond))
}

// The chapter's example: of new disks, at any base, with any capacity.
func TestTheExample(t *testing.T) {
	for sectors := 2; sectors <= 128; sectors++ {
		h, err := Load(disk.New(sectors), baseOf(sectors), 1024+sectors)
		wantError(t, "Load", err, api.ErrNoImage)
		if h != nil {
			t.Fatal("a heap beside an error")
		}
		newPair(t, sectors).wantNone(baseOf(sectors), 16384, api.ErrNoImage)
	}
}

// The README's example.
func TestTheReadme(t *testing.T) {
	d := disk.New(8)
	h, err := Load(d, 4096, 1024)
	wantError(t, "Load", err, api.ErrNoImage)
	if h != nil {
		t.Fatal("a heap beside an error")
	}
	h, err = heap.New(160, 1024)
	wantError(t, "New", err, nil)
	p, err := h.Malloc(20)
	wantError(t, "Malloc", err, nil)
	wantError(t, "Save", Save(d, h), nil)
	wantError(t, "Write", h.Write(p, 0, []byte{1, 2}), nil)
	wantError(t, "Save", Save(d, h), nil)
	d.Cut(2)
	wantError(t, "Free", h.Free(p), nil)
	wantError(t, "Save", Save(d, h), api.ErrDown)
	_, err = Load(d, 4096, 1024)
	wantError(t, "Load", err, api.ErrDown)
	d.Boot([]bool{true})
	h, err = Load(d, 4096, 1024)
	wantError(t, "Load", err, nil)
	b, err := h.Read(p, 0, 3)
	wantError(t, "Read", err, nil)
	wantBytes(t, "what is read", b, []byte{1, 2, 165})
	_, err = Load(d, 4100, 1024)
	wantError(t, "Load", err, api.ErrArg)
	wantError(t, "Save", Save(disk.New(2), h), api.ErrFull)
}

// P18.1: all bytes of a disk written out, behind each of three Saves, so that the model
// is held, too; what is behind both slots stays.
func TestSaveWrittenOut(t *testing.T) {
	h, err := heap.New(160, 1024)
	wantError(t, "New", err, nil)
	p, err := h.Calloc(16, 1)
	wantError(t, "Calloc", err, nil)
	sum := func(b []byte) []byte {
		s := crc32.ChecksumIEEE(b)
		return []byte{byte(s), byte(s >> 8), byte(s >> 16), byte(s >> 24)}
	}
	imageWith := func(x byte) []byte {
		head := []byte{67, 78, 84, 76, 1, 0, 0, 0, 216, 0, 0, 0, 0, 0, 0, 0, 1, 0, 0, 0, 0, 0, 0, 0}
		tag := []byte{33, 0, 0, 0, 0, 0, 0, 0}
		held := append([]byte{x}, make([]byte, 15)...)
		b := slices.Concat(head, sum(head), tag, sum(tag), held, sum(held))
		return append(b, sum(b)...)
	}
	recordWith := func(gen, x byte) []byte {
		b := slices.Concat([]byte{83, 76, 79, 84, 0, 0, 0, 0, gen, 0, 0, 0, 0, 0, 0, 0, 64, 0, 0, 0, 0, 0, 0, 0}, sum(imageWith(x)))
		return slices.Concat(b, sum(b), make([]byte, 480))
	}
	want := bytes.Repeat([]byte{77}, 7*512)
	d := disk.Of(want)
	for i, from := range []int{0, 3 * 512, 0, 3 * 512} {
		x := byte(10 + i)
		wantError(t, "Write", h.Write(p, 0, []byte{x}), nil)
		wantError(t, "Save", Save(d, h), nil)
		copy(want[from:], recordWith(byte(i+1), x))
		copy(want[from+512:], append(imageWith(x), make([]byte, 448)...))
		wantBytes(t, "the disk", d.Bytes(), want)
		if d.Waiting() != 0 {
			t.Fatalf("%d writes wait", d.Waiting())
		}
		g, err := Load(d, 1<<62, 2000)
		wantError(t, "Load", err, nil)
		held, err := g.Read(p, 0, 2)
		wantError(t, "Read", err, nil)
		wantBytes(t, "what is held", held, []byte{x, 0})
	}
}

// P18.1, P18.2: of each number of sectors: a slot has half of them, rounded down; of
// fewer than four a slot has no room but its record's.
func TestEachNumberOfSectors(t *testing.T) {
	for _, sectors := range []int{math.MinInt, -1, 0, 1, 129, math.MaxInt} {
		if disk.New(sectors) != nil {
			t.Fatalf("there is a disk of %d sectors", sectors)
		}
	}
	for sectors := 2; sectors <= 128; sectors++ {
		x := pairOf(t, bytes.Repeat([]byte{byte(sectors)}, 512*sectors))
		n := sectors / 2
		if n == 1 {
			x.wantSave(heapOf(t, imageFrom()), api.ErrFull)
			x.wantNone(0, 1024, api.ErrNoImage)
			continue
		}
		for i, m := range []image.Image{imageFrom(), imageFrom(-32), imageFrom(-64, 32), imageFrom(-400)} {
			x.wantSave(heapOf(t, m), nil)
			x.wantImage(m)
			from := i % 2 * n * 512
			wantBytes(t, "a slot", x.d.Bytes()[from:from+1024], goodSlot(2, uint64(i+1), m))
		}
		if sectors%2 == 1 {
			wantBytes(t, "the last sector", x.d.Bytes()[2*n*512:], bytes.Repeat([]byte{byte(sectors)}, 512))
		}
		if n > 2 {
			wantBytes(t, "what is behind the image", x.d.Bytes()[1024:n*512], bytes.Repeat([]byte{byte(sectors)}, (n-2)*512))
		}
	}
}

// P18.3: a slot of one sector has no bytes but its record's, so it is never good.
func TestSlotsOfOneSector(t *testing.T) {
	for _, gens := range [][2]uint64{{0, 0}, {1, 0}, {0, 1}, {1, 2}, {2, 1}, {3, 3}, {greatest - 1, 1}, {greatest, 1}, {greatest, greatest}} {
		for _, length := range []uint64{0, 1, 40, 512, 65536} {
			for beyond := range 2 {
				var l [2][]byte
				for i, gen := range gens {
					l[i] = make([]byte, 512)
					if gen > 0 {
						l[i] = recordBytes(record{gen, length, 0})
					}
				}
				x := pairOf(t, twoSlots(l[0], l[1], beyond))
				x.wantSave(heapOf(t, imageFrom()), api.ErrFull)
				x.wantNone(0, 1024, api.ErrNoImage)
			}
		}
	}
}

// long tells an image of just n bytes, a multiple of 8 from 48 + 16 on.
func long(n int) image.Image {
	if n%16 == 0 {
		return imageFrom(-(n - 32)) // 48 bytes, and 16 less than the size
	}
	return imageFrom(-32, -(n - 56)) // 56 bytes, 16, and 16 less than the size
}

// P18.1: images of just as many bytes as a slot has behind its first sector, of some
// fewer, of eight more, and of a sector more.
func TestRoom(t *testing.T) {
	for n := 2; n <= 34; n++ {
		room := 512 * (n - 1)
		for _, k := range []int{room - 512, room - 504, room - 16, room - 8, room, room + 8, room + 16, room + 504, room + 512} {
			if k < 96 || k > 16200 {
				continue
			}
			m := long(k)
			if len(imageBytes(m)) != k {
				t.Fatalf("an image of %d bytes, want %d", len(imageBytes(m)), k)
			}
			for beyond := range 2 {
				x := newPair(t, 2*n+beyond)
				if k > room {
					x.wantSave(heapOf(t, m), api.ErrFull)
					x.wantNone(0, 16384, api.ErrNoImage)
					continue
				}
				for i := range 3 {
					x.wantSave(heapOf(t, m), nil)
					x.wantImage(m)
					wantBytes(t, "a slot", x.d.Bytes()[i%2*n*512:i%2*n*512+n*512], goodSlot(n, uint64(i+1), m))
				}
			}
		}
	}
}

// P18.1: the longest images that there are: of the most blocks, and of the most bytes.
func TestTheLongest(t *testing.T) {
	most := make([]int, 506)
	for i := range most {
		most[i] = -32
	}
	for _, m := range []image.Image{imageFrom(most...), imageFrom(-16192), imageFrom(16192), imageFrom(-8096, -8096)} {
		b := imageBytes(m)
		n := 1 + (len(b)+511)/512
		x := newPair(t, 2*n)
		x.wantSave(heapOf(t, m), nil)
		x.wantSave(heapOf(t, m), nil)
		x.wantImage(m)
		newPair(t, 2*n-1).wantSave(heapOf(t, m), api.ErrFull)
		newPair(t, 128).wantSave(heapOf(t, m), nil)
	}
}

// P18.1: whether there is room is asked of the image alone, not of the heap's bytes.
func TestRoomIsForTheImage(t *testing.T) {
	x := newPair(t, 4)
	x.wantSave(heapOf(t, imageFrom(16192)), nil)
	x.wantImage(imageFrom(16192))
	x.wantSave(heapOf(t, imageFrom(-480)), nil)
	x.wantSave(heapOf(t, imageFrom(-496)), api.ErrFull)
	x.wantSave(heapOf(t, imageFrom(-480, 32)), api.ErrFull)
	x.wantImage(imageFrom(-480))
}

// P18.1, P18.2: while the power is off, ErrDown, ahead of all else, whatever stands and
// waits; of what waits nothing comes to stand.
func TestThePowerIsOff(t *testing.T) {
	for _, w := range ways() {
		for _, gen := range []uint64{1, 5, greatest - 1, greatest} {
			for _, waits := range []bool{true, false} {
				x := pairOf(t, twoSlots(w.make(4, gen, some()), w.make(4, gen, other()), 1))
				if waits {
					wantError(t, "Write", x.write(1, bytesFrom(1, 512)), nil)
					wantError(t, "Write", x.write(7, bytesFrom(1, 512)), nil)
				}
				x.turnOff()
				for _, m := range []image.Image{imageFrom(), some(), imageFrom(-16192)} {
					x.wantSave(heapOf(t, m), api.ErrDown)
				}
				for _, base := range []uint64{160, 8, 1 << 63} {
					for _, capacity := range []int{16384, 1024, 0, -1, math.MaxInt} {
						x.wantNone(base, capacity, api.ErrDown)
					}
				}
				x.boot()
				if w.good {
					x.wantImage(some())
				} else {
					x.wantNone(160, 1024, api.ErrNoImage)
				}
			}
		}
	}
	for sectors := 2; sectors < 6; sectors++ {
		x := newPair(t, sectors)
		x.turnOff()
		x.wantSave(heapOf(t, imageFrom()), api.ErrDown)
		x.wantSave(heapOf(t, imageFrom(-1024)), api.ErrDown)
		x.wantNone(0, 1024, api.ErrDown)
		x.wantNone(1, 1, api.ErrDown)
	}
}

// P18.1: as long as the power is to go only at the next write it is on: so ErrFull is
// told, and it doesn't go; with room it goes.
func TestThePowerIsToGo(t *testing.T) {
	x := newPair(t, 8)
	x.wantSave(heapOf(t, some()), nil)
	x.cut(0)
	x.wantSave(heapOf(t, imageFrom(-2048)), api.ErrFull)
	x.wantImage(some())
	x.wantSave(heapOf(t, other()), api.ErrDown)
	x.wantSave(heapOf(t, imageFrom(-2048)), api.ErrDown)
	x.wantNone(160, 1024, api.ErrDown)
	x.boot()
	x.wantImage(some())
}

// P18.1: a record of the greatest Gen in either slot, good or not: ErrFull, and nothing
// is written; what is good is still loaded. Of one less there is one more Save.
func TestTheGreatestGen(t *testing.T) {
	for _, w := range ways() {
		for _, v := range ways() {
			for which := range 2 {
				for _, gen := range []uint64{1, greatest - 1, greatest} {
					l := [2][]byte{v.make(4, gen, other()), v.make(4, gen, other())}
					l[which] = w.make(4, greatest, some())
					x := pairOf(t, twoSlots(l[0], l[1], 1))
					full := w.has || v.has && gen == greatest
					switch err := x.save(heapOf(t, imageFrom(-32))); {
					case full != (err == api.ErrFull):
						t.Fatalf("%s, %s: %v", w.name, v.name, err)
					case full:
						wantBytes(t, "the disk", x.d.Bytes(), twoSlots(l[0], l[1], 1))
					case gen == greatest-1 && v.has:
						x.wantSave(heapOf(t, imageFrom(-32)), api.ErrFull)
					default:
						x.wantSave(heapOf(t, imageFrom(-32)), nil)
					}
					_, _ = x.load(160, 1024)
				}
			}
		}
	}
	x := pairOf(t, twoSlots(goodSlot(4, greatest-2, some()), goodSlot(4, greatest-1, other()), 0))
	x.wantSave(heapOf(t, imageFrom(-32)), nil)
	x.wantGens(greatest, greatest-1)
	x.wantSave(heapOf(t, imageFrom(-48)), api.ErrFull)
	x.wantImage(imageFrom(-32))
}

// P18.1, P18.2: each way in which the first slot may stand, beside each of the second,
// with lesser, greater and alike Gens: which one is loaded, which one is written, and
// with which Gen.
func TestWhichSlot(t *testing.T) {
	written, loaded := [2]int{}, [3]int{}
	for _, w := range ways() {
		for _, v := range ways() {
			for _, gens := range [][2]uint64{{1, 1}, {1, 2}, {2, 1}, {7, 5}, {5, 1 << 40}, {1 << 40, 1 << 40}, {greatest - 1, 3}, {1<<32 + 1, 2}} {
				x := pairOf(t, twoSlots(w.make(4, gens[0], some()), v.make(4, gens[1], other()), 1))
				to, next := 0, uint64(1)
				if w.good && (!v.good || gens[0] >= gens[1]) {
					to = 1
				}
				if w.has {
					next = gens[0] + 1
				}
				if v.has {
					next = max(next, gens[1]+1)
				}
				loaded[x.wantNewest(w.good, v.good, 1-to)]++
				x.wantSave(heapOf(t, imageFrom(-32, 48)), nil)
				want := [2][]byte{w.make(4, gens[0], some()), v.make(4, gens[1], other())}
				copy(want[to], goodSlot(2, next, imageFrom(-32, 48)))
				wantBytes(t, w.name+", "+v.name, x.d.Bytes(), twoSlots(want[0], want[1], 1))
				x.wantImage(imageFrom(-32, 48))
				written[to]++
			}
		}
	}
	if written[0] < 500 || written[1] < 200 || loaded[0] < 200 || loaded[1] < 200 || loaded[2] < 500 {
		t.Errorf("written %v, loaded %v", written, loaded)
	}
}

// wantNewest wants Load to tell the heap of some(), in the first slot, or of other(),
// in the second; none, if neither is good. It tells which; 2, if there is none.
func (x *pair) wantNewest(first, second bool, newest int) int {
	x.t.Helper()
	switch {
	case !first && !second:
		x.wantNone(160, 1024, api.ErrNoImage)
		return 2
	case newest == 0:
		x.wantImage(some())
	default:
		x.wantImage(other())
	}
	return newest
}

// P18.1: a row of Saves goes by turns, each with the next Gen; so it does where one that
// was saved is spoilt meanwhile.
func TestSavesByTurns(t *testing.T) {
	x := newPair(t, 9)
	for i := range uint64(40) {
		m := imageFrom(-32-16*(int(i)%20), 32)
		x.wantSave(heapOf(t, m), nil)
		x.wantImage(m)
		if i%2 == 0 {
			x.wantGens(i+1, i)
		} else {
			x.wantGens(i, i+1)
		}
	}
	x = pairOf(t, turned(x.p.stands, 4*512+600)) // the newest one, Gen 40, is no longer good
	x.wantImage(imageFrom(-32-16*18, 32))
	x.wantSave(heapOf(t, some()), nil) // so its slot is written once more
	x.wantGens(39, 41)
	x = pairOf(t, turned(x.p.stands, 4*512)) // it has no record
	x.wantGens(39, 0)
	x.wantSave(heapOf(t, some()), nil)
	x.wantGens(39, 40)
	x = pairOf(t, turned(turned(x.p.stands, 520), 4*512+600)) // no record in the first, the second isn't good
	x.wantNone(160, 1024, api.ErrNoImage)
	x.wantSave(heapOf(t, some()), nil)
	x.wantGens(41, 40)
}

// P18.2: a Len of more than the slot's other sectors have: not good, though what is from
// there on, in the other slot, or behind both, would be an image with this sum.
func TestLenBeyondTheSlot(t *testing.T) {
	for n := 2; n <= 6; n++ {
		room := 512 * (n - 1)
		for _, k := range []int{room - 8, room, room + 8, room + 512, room + 1024} {
			if k < 96 {
				continue
			}
			b := imageBytes(long(k))
			s := append(recordBytes(record{3, uint64(k), sumOf(b)}), b...)
			first := append(bytes.Clone(s), make([]byte, 1024*n+512)...)[:1024*n+512]
			x := pairOf(t, first)
			second := append(make([]byte, 512*n), append(bytes.Clone(s), make([]byte, 512*n+512)...)...)[:1024*n+512]
			y := pairOf(t, second)
			if k <= room {
				x.wantImage(long(k))
				y.wantImage(long(k))
				continue
			}
			x.wantNone(160, 16384, api.ErrNoImage)
			y.wantNone(160, 16384, api.ErrNoImage)
			x.wantSave(heapOf(t, imageFrom()), nil)
			x.wantGens(4, 0)
			y.wantSave(heapOf(t, imageFrom()), nil)
			y.wantGens(4, 3)
		}
	}
}

// P18.2: a slot begins where the first one's half ends, so a good one a sector off is
// none.
func TestSlotsAtOtherSectors(t *testing.T) {
	for sectors := 6; sectors <= 13; sectors++ {
		for i := range sectors - 1 {
			b := make([]byte, 512*sectors)
			copy(b[512*i:], goodSlot(2, 9, imageFrom(-32)))
			x := pairOf(t, b)
			if i == 0 || i == sectors/2 {
				x.wantImage(imageFrom(-32))
			} else {
				x.wantNone(0, 1024, api.ErrNoImage)
			}
		}
	}
}

// P18.2: each of layer 16's errors, and ErrNoImage ahead of them; at other bases, and
// with greater capacities, there is the heap.
func TestBasesAndCapacities(t *testing.T) {
	for _, m := range []image.Image{imageFrom(), some(), imageFrom(-1024), imageFrom(-832), imageFrom(-848), imageFrom(-2000, 48, -32), imageFrom(-8000), imageFrom(16192)} {
		x := newPair(t, 80)
		x.wantSave(heapOf(t, m), nil)
		empty := newPair(t, 80)
		for _, base := range append(bases(), wrongBases()...) {
			for _, capacity := range append(append(capacities(), wrongCapacities()...), m.Len-16, m.Len-1, m.Len, m.Len+1) {
				_, err := x.load(base, capacity)
				switch {
				case slices.Contains(wrongBases(), base) || capacity < 1024 || capacity > 16384:
					wantError(t, "Load", err, api.ErrArg)
				case capacity < m.Len:
					wantError(t, "Load", err, api.ErrLarge)
				default:
					wantError(t, "Load", err, nil)
				}
				empty.wantNone(base, capacity, api.ErrNoImage)
			}
		}
	}
}

// P18.2: the newest good one is it, also where its heap is too large, and the other
// slot's isn't.
func TestTheNewestIsTooLarge(t *testing.T) {
	x := newPair(t, 80)
	x.wantSave(heapOf(t, some()), nil)
	x.wantSave(heapOf(t, imageFrom(-2000)), nil)
	x.wantNone(160, 1024, api.ErrLarge)
	x.wantNone(161, 16384, api.ErrArg)
	x.wantImage(imageFrom(-2000))
	x.wantSave(heapOf(t, other()), nil)
	x.wantImage(other())
	if _, err := x.load(160, 1024); err != nil {
		t.Error(err)
	}
}

// P18.1, P18.2: what waits is what is read; Save's first flush lets it stand.
func TestWhatWaits(t *testing.T) {
	good := goodSlot(3, 6, some())
	for flushed := range 2 {
		x := newPair(t, 6)
		for i, s := range sectorsOf(good) {
			wantError(t, "Write", x.write(3+i, s), nil)
		}
		if flushed == 1 {
			x.flush()
		}
		x.wantImage(some())
		x.wantSave(heapOf(t, other()), nil)
		x.wantGens(7, 6)
		x.wantImage(other())
		wantError(t, "Write", x.write(0, bytesFrom(1, 512)), nil)
		x.wantImage(some())
		x.boot()
		x.wantImage(other())
		wantError(t, "Write", x.write(0, recordBytes(record{gen: greatest})), nil)
		x.wantSave(heapOf(t, other()), api.ErrFull)
	}
}

// keeps tells each way to keep some of n writes, and all of more.
func keeps(n int) [][]bool {
	l := [][]bool{nil}
	for range n {
		var next [][]bool
		for _, keep := range l {
			next = append(next, append(slices.Clone(keep), true), append(slices.Clone(keep), false))
		}
		l = next
	}
	return append(l, slices.Repeat([]bool{true}, n+3), nil)
}

// starts tell disks of 12 sectors, ahead of a Save, and what Load tells of each; an
// image of Len 0, if ErrNoImage.
func starts() map[string]struct {
	b []byte
	m image.Image
} {
	type start = struct {
		b []byte
		m image.Image
	}
	none, long := make([]byte, 6*512), long(2000)
	return map[string]start{
		"new":                      {twoSlots(none, none, 0), image.Image{}},
		"the first":                {twoSlots(goodSlot(6, 1, some()), none, 0), some()},
		"the second":               {twoSlots(none, goodSlot(6, 1, other()), 0), other()},
		"both, the first newer":    {twoSlots(goodSlot(6, 9, long), goodSlot(6, 8, other()), 0), long},
		"both, the second newer":   {twoSlots(goodSlot(6, 9, some()), goodSlot(6, 10, long), 0), long},
		"both alike":               {twoSlots(goodSlot(6, 9, some()), goodSlot(6, 9, other()), 0), some()},
		"none good":                {twoSlots(turned(goodSlot(6, 9, some()), 600), turned(goodSlot(6, 10, other()), 600), 0), image.Image{}},
		"the older spoilt":         {twoSlots(turned(goodSlot(6, 9, long), 600), goodSlot(6, 10, other()), 0), other()},
		"the newer spoilt":         {twoSlots(goodSlot(6, 9, some()), turned(goodSlot(6, 10, long), 600), 0), some()},
		"the same, but its record": {twoSlots(turned(goodSlot(6, 3, imageFrom(-1008, -400)), 0), goodSlot(6, 2, other()), 0), other()},
	}
}

// P18.1, T4: the power goes ahead of each write of a Save, and each of the writes that
// wait then is kept or not: behind Boot Load tells what it told ahead of the Save, but
// what was saved, if Save told no error.
func TestEachCut(t *testing.T) {
	for name, start := range starts() {
		for _, m := range []image.Image{imageFrom(), long(512), long(520), imageFrom(-1008, -400), long(2048), long(2560)} {
			writes := 2 + len(sectorsOf(imageBytes(m)))
			for cut := range writes + 2 {
				waits := 0
				if cut > 0 && cut < writes {
					waits = cut - 1
				}
				if cut == writes-1 {
					waits = 0
				}
				for _, keep := range keeps(waits) {
					x := pairOf(t, start.b)
					x.cut(cut)
					done := x.save(heapOf(t, m))
					if (done == nil) != (cut >= writes) || done != nil && done != api.ErrDown || x.d.Waiting() != waits {
						t.Fatalf("%s, cut %d of %d: %v, %d wait, want %d", name, cut, writes, done, x.d.Waiting(), waits)
					}
					if done != nil {
						x.wantNone(160, 16384, api.ErrDown)
						x.wantSave(heapOf(t, m), api.ErrDown)
					}
					x.boot(keep...)
					switch {
					case done == nil:
						x.wantImage(m)
					case start.m.Len == 0:
						x.wantNone(160, 16384, api.ErrNoImage)
					default:
						x.wantImage(start.m)
					}
					x.wantSave(heapOf(t, other()), nil)
					x.wantImage(other())
				}
			}
		}
	}
}

// P18.1: what stands, and what waits, wherever the power goes, written out: the record
// is overwritten and flushed first, then come the image's sectors, by rising numbers,
// then the record.
func TestWhereThePowerGoes(t *testing.T) {
	m := long(1536)
	l := sectorsOf(goodSlot(4, 2, m))
	was := twoSlots(goodSlot(4, 1, some()), goodSlot(4, 1, other()), 0)
	none := laid(was, []wait{{4, make([]byte, 512)}})
	for cut, want := range []struct {
		stands []byte
		waits  []wait
	}{
		{was, nil},
		{none, nil},
		{none, []wait{{5, l[1]}}},
		{none, []wait{{5, l[1]}, {6, l[2]}}},
		{laid(none, []wait{{5, l[1]}, {6, l[2]}, {7, l[3]}}), nil},
	} {
		for all := range 2 {
			d := disk.Of(was)
			d.Cut(cut)
			wantError(t, "Save", Save(d, heapOf(t, m)), api.ErrDown)
			wantBytes(t, "what stands", d.Bytes(), want.stands)
			if d.Waiting() != len(want.waits) {
				t.Fatalf("%d wait, want %d", d.Waiting(), len(want.waits))
			}
			d.Boot(slices.Repeat([]bool{all == 1}, 9))
			wantBytes(t, "what stands behind Boot", d.Bytes(), laid(want.stands, want.waits[:len(want.waits)*all]))
		}
		for i := range want.waits {
			d := disk.Of(was)
			d.Cut(cut)
			wantError(t, "Save", Save(d, heapOf(t, m)), api.ErrDown)
			keep := make([]bool, i+1)
			keep[i] = true
			d.Boot(keep)
			wantBytes(t, "what stands behind Boot", d.Bytes(), laid(want.stands, want.waits[i:i+1]))
		}
	}
	d := disk.Of(was)
	d.Cut(5)
	wantError(t, "Save", Save(d, heapOf(t, m)), nil)
	wantBytes(t, "what stands", d.Bytes(), twoSlots(goodSlot(4, 1, some()), goodSlot(4, 2, m), 0))
}

// P18.3: what was saved stays, whatever is done with the heap; so does what waits of a
// Save in which the power went. What is told is the same at each base, and of each
// capacity.
func TestTheHeapIsNotKept(t *testing.T) {
	for cut := -1; cut < 8; cut++ {
		h := heapOf(t, long(2000))
		x := newPair(t, 12)
		x.cut(cut)
		_ = x.save(h)
		wantError(t, "Write", h.Write(192, 0, bytes.Repeat([]byte{99}, 16)), nil)
		wantError(t, "Free", h.Free(192), nil)
		_, _ = h.Malloc(9000)
		x.wantSame()
		x.boot(true, true, true, true, true, true, true)
		_, _ = x.load(160, 16384)
	}
	var first []byte
	for i, base := range bases() {
		h, err := heap.New(base, capacities()[i])
		wantError(t, "New", err, nil)
		d := disk.New(6)
		p, err := h.Malloc(40)
		wantError(t, "Malloc", err, nil)
		wantError(t, "Write", h.Write(p, 3, []byte{1, 2, 3}), nil)
		wantError(t, "Save", Save(d, h), nil)
		if first == nil {
			first = d.Bytes()
		}
		wantBytes(t, "the disk", d.Bytes(), first)
	}
}

// P18.3: a heap that was loaded keeps nothing of the disk, nor of another one; and what
// it does changes nothing of the disk.
func TestTheDiskIsNotKept(t *testing.T) {
	for i, m := range []image.Image{imageFrom(), some(), long(1000), imageFrom(-32, 1008, -64)} {
		x := newPair(t, 12)
		x.wantSave(heapOf(t, other()), nil)
		x.wantSave(heapOf(t, m), nil)
		g, err := x.load(baseOf(i), 4096)
		wantError(t, "Load", err, nil)
		h, err := x.load(baseOf(i), 4096)
		wantError(t, "Load", err, nil)
		was := stateOf(t, g)
		for _, y := range m.Blocks {
			if y.Used {
				wantError(t, "Write", h.Write(uint64(y.Off)+8, 0, bytes.Repeat([]byte{9}, y.Size-16)), nil)
			}
		}
		_, err = h.Malloc(700)
		wantError(t, "Malloc", err, nil)
		wantError(t, "Widen", h.Widen(8192), nil)
		h.Rebuild()
		x.wantSame()
		wantState(t, g, was)
		for s := range 12 {
			wantError(t, "Write", x.write(s, bytes.Repeat([]byte{byte(s)}, 512)), nil)
		}
		x.flush()
		x.turnOff()
		wantState(t, g, was)
		x.boot()
		wantState(t, g, was)
	}
}

// Nothing is kept from call to call: calls on one disk change nothing of another one,
// and of the same bytes the same is told.
func TestNothingIsKept(t *testing.T) {
	x, y := newPair(t, 8), newPair(t, 11)
	for i := range 12 {
		x.wantSave(heapOf(t, imageFrom(-32-16*i)), nil)
		y.wantSame()
		y.wantSave(heapOf(t, imageFrom(-48-16*i, 64)), nil)
		y.wantSave(heapOf(t, imageFrom(-64-16*i, 64)), nil)
		x.wantImage(imageFrom(-32 - 16*i))
		y.wantImage(imageFrom(-64-16*i, 64))
		z := pairOf(t, x.p.stands)
		z.wantImage(imageFrom(-32 - 16*i))
		z.wantSave(heapOf(t, some()), nil)
		x.wantImage(imageFrom(-32 - 16*i))
	}
}

// What is saved, loaded, and saved once more, has the same bytes.
func TestSavedOnceMore(t *testing.T) {
	d, e := disk.New(70), disk.New(70)
	for i, m := range []image.Image{imageFrom(), some(), other(), long(512), long(520), imageFrom(16192), imageFrom(-16192), imageFrom(32, -32, 32, -32, 32)} {
		wantError(t, "Save", Save(d, heapOf(t, m)), nil)
		h, err := Load(d, baseOf(i), 16384)
		wantError(t, "Load", err, nil)
		wantError(t, "Save", Save(e, h), nil)
		wantBytes(t, "the other disk", e.Bytes(), d.Bytes())
	}
}

// draw is a row of numbers that a rule tells, each from the one ahead of it.
type draw uint32

// next tells a number from 0 to n - 1.
func (d *draw) next(n int) int {
	*d = *d*1664525 + 1013904223
	return int(*d>>8) % n
}

// pick tells one of these.
func (d *draw) pick(l ...int) int { return l[d.next(len(l))] }

// flags tells n of them.
func (d *draw) flags(n int) []bool {
	l := make([]bool, n)
	for i := range l {
		l[i] = d.next(2) == 0
	}
	return l
}

// handle tells a handle of a heap with these blocks, or what is none.
func (d *draw) handle(l []api.Block) uint64 {
	if len(l) == 0 || d.next(10) == 0 {
		return uint64(d.next(1200))
	}
	return uint64(l[d.next(len(l))].Off) + 8
}

// call tells a call of a heap.
func (d *draw) call(h *heap.Heap) api.Call {
	l, _ := block.Walk(h.Arena())
	x := api.Call{Op: d.next(10), H: d.handle(l), N: uint64(d.next(d.pick(40, 40, 200, 200, 900, 17000))), M: uint64(d.next(3))}
	switch x.Op {
	case api.Read:
		x.N, x.At = uint64(d.next(40)), uint64(d.next(d.pick(8, 60)))
	case api.Write:
		x.B, x.At = bytesFrom(d.next(256), d.next(40)), uint64(d.next(d.pick(8, 60)))
	}
	return x
}

// heap tells a heap on which calls were done, so that its lists, and what is in its
// free blocks, have a past.
func (d *draw) heap(t *testing.T) *heap.Heap {
	t.Helper()
	h, err := heap.New(baseOf(d.next(99)), d.pick(capacities()...))
	wantError(t, "New", err, nil)
	for range d.next(d.pick(2, 10, 60)) {
		h.Do(d.call(h))
	}
	return h
}

// alike tells whether two replies are the same.
func alike(a, b api.Reply) bool {
	return a.Code == b.Code && a.H == b.H && a.N == b.N && a.S == b.S && bytes.Equal(a.B, b.B)
}

// wantAlike wants two heaps to answer drawn calls alike, and to have the same image and
// the same lists behind each. It tells how often a call told no error.
func (d *draw) wantAlike(t *testing.T, g, h *heap.Heap, times int) int {
	t.Helper()
	done := 0
	for range times {
		x := d.call(g)
		r, s := g.Do(x), h.Do(x)
		if !alike(r, s) {
			t.Fatalf("%+v: the heap itself tells %+v, the loaded one %+v", x, r, s)
		}
		if r.Code == 0 {
			done++
		}
		wantBytes(t, "the image", bytesOf(t, h), bytesOf(t, g))
		for c := range api.Bins {
			k, _ := list.All(g.Arena(), c)
			l, _ := list.All(h.Arena(), c)
			if !slices.Equal(k, l) {
				t.Fatalf("the lists of class %d have %v, and %v", c, k, l)
			}
		}
	}
	return done
}

// T2: a heap that was saved, and loaded, answers each further call as the heap itself
// does, behind Widen and Rebuild.
func TestCallsAsOfTheHeapItself(t *testing.T) {
	d, done := draw(2), 0
	for i := range 120 {
		g := d.heap(t)
		x := newPair(t, d.pick(70, 100, 128))
		for range d.next(4) {
			x.wantSave(d.heap(t), nil)
		}
		x.wantSave(g, nil)
		capacity := min(16384, g.Arena().Cap()+d.pick(0, 1, 16, 500, 16384))
		h, err := x.load(baseOf(i), capacity)
		wantError(t, "Load", err, nil)
		wantError(t, "Widen", g.Widen(capacity), nil)
		g.Rebuild()
		done += d.wantAlike(t, g, h, 30)
	}
	if done < 1200 {
		t.Errorf("%d calls told no error", done)
	}
}

// asMap does a call on a heap, and on a map of what its handles hold.
func (d *draw) asMap(t *testing.T, h *heap.Heap, held map[uint64][]byte, x api.Call) {
	t.Helper()
	what, ok := held[x.H]
	r := h.Do(x)
	if asks := x.Op >= api.Free && x.Op <= api.Write; asks && (r.Code == 4) == ok {
		t.Fatalf("%+v tells %+v; a handle: %v", x, r, ok)
	}
	if r.Code != 0 {
		return
	}
	n, _ := h.Usable(r.H)
	switch x.Op {
	case api.Malloc:
		held[r.H] = fills(int(n))
	case api.Calloc:
		held[r.H] = make([]byte, n)
	case api.Free:
		delete(held, x.H)
	case api.Realloc:
		delete(held, x.H)
		held[r.H] = append(bytes.Clone(what), fills(17000)...)[:n]
	case api.Write:
		copy(what[x.At:], x.B)
	}
}

// wantMap wants a heap that was loaded to hold what an image has, and drawn calls to
// answer as a map of handles does.
func (d *draw) wantMap(t *testing.T, h *heap.Heap, m image.Image) {
	t.Helper()
	held := map[uint64][]byte{}
	k := 0
	for _, x := range m.Blocks {
		if x.Used {
			held[uint64(x.Off)+8] = bytes.Clone(m.Data[k])
			k++
		}
	}
	for range 15 {
		d.asMap(t, h, held, d.call(h))
		for p, want := range held {
			b, err := h.Read(p, 0, uint64(len(want)))
			wantError(t, "Read", err, nil)
			wantBytes(t, "what is held", b, want)
		}
		if s := h.Stats(); s.Used != len(held) {
			t.Fatalf("stats %+v, want %d used", s, len(held))
		}
		wantError(t, "Check", check.Check(h.Arena()), nil)
	}
}

// image tells an image that may be.
func (d *draw) image() image.Image {
	var sizes []int
	n, wasFree := 184, false
	for range d.next(d.pick(3, 6, 20)) {
		size := d.pick(32, 32, 48, 64, 80, 112, 272, 16*(2+d.next(60)), 16*(2+d.next(200)))
		if n+size > 16376 {
			break
		}
		n += size
		if wasFree = !wasFree && d.next(3) > 0; !wasFree {
			size = -size
		}
		sizes = append(sizes, size)
	}
	return imageFrom(sizes...)
}

// gen tells a Gen, mostly a small one.
func (d *draw) gen() uint64 {
	switch d.next(20) {
	case 0:
		return greatest
	case 1:
		return greatest - uint64(d.next(3))
	case 2:
		return 1 << d.next(62)
	}
	return uint64(1 + d.next(4))
}

// slot tells the bytes of a slot of n sectors, in one of the ways.
func (d *draw) slot(n int) []byte {
	w := ways()[d.pick(0, 0, 1, d.next(len(ways())), d.next(len(ways())))]
	for {
		m := d.image()
		if len(imageBytes(m)) <= 512*max(1, n-1) {
			return w.make(max(2, n), d.gen(), m)[:512*n]
		}
	}
}

// disk tells the bytes of a disk.
func (d *draw) disk() []byte {
	n := d.pick(1, 2, 2, 3, 3, 4, 5, 8, 16, 33, 64)
	b := make([]byte, 512*n)
	for i := range b {
		b[i] = byte(d.next(256))
	}
	b = twoSlots(d.slot(n), d.slot(n), d.next(2))
	b = b[:min(len(b), 128*512)]
	for range d.pick(0, 0, 0, 1, 3) {
		b[d.next(len(b))] ^= byte(d.next(256))
	}
	return b
}

// base tells a base, mostly one of which there is an arena.
func (d *draw) base() uint64 {
	if d.next(12) == 0 {
		return wrongBases()[d.next(len(wrongBases()))]
	}
	return uint64(d.next(1<<22)) << (4 + d.next(35))
}

// capacity tells a capacity, mostly one of which there is an arena.
func (d *draw) capacity() int {
	switch d.next(12) {
	case 0:
		return wrongCapacities()[d.next(len(wrongCapacities()))]
	case 1, 2, 3, 4:
		return d.pick(1024, 1025, 1100, 1200)
	}
	return d.pick(capacities()...)
}

// T3: of any disk Load tells an error, and no heap, or one that is right, and answers
// as a map of handles does.
func TestDrawnDisks(t *testing.T) {
	d := draw(183)
	told := map[error]int{}
	for range 3000 {
		x := pairOf(t, d.disk())
		if d.next(8) == 0 {
			x.turnOff()
		}
		base, capacity := d.base(), d.capacity()
		m, _ := x.p.load(base, capacity)
		h, err := x.load(base, capacity)
		told[err]++
		if err == nil && told[err]%4 == 0 {
			d.wantMap(t, h, m)
		}
	}
	for _, err := range []error{nil, api.ErrArg, api.ErrNoImage, api.ErrLarge, api.ErrDown} {
		if told[err] < 100 {
			t.Errorf("told %v: %d times", err, told[err])
		}
	}
	if len(told) != 5 {
		t.Errorf("told %v", told)
	}
}

// P18.1, P18.2: drawn rows of Saves, Loads, writes, cuts and boots, on drawn disks, held
// against the model of all bytes.
func TestDrawnRows(t *testing.T) {
	d := draw(184)
	saved, loaded := map[error]int{}, map[error]int{}
	for range 400 {
		x := pairOf(t, d.disk())
		h := d.heap(t)
		for range 15 {
			switch d.next(12) {
			case 0, 1, 2, 3:
				saved[x.save(h)]++
			case 4, 5, 6:
				_, err := x.load(d.base(), d.capacity())
				loaded[err]++
			case 7:
				if g, err := x.load(d.base(), 16384); err == nil {
					h = g
				}
			case 8:
				x.cut(d.pick(-1, 0, 1, 2, 3, 5, 9))
			case 9:
				x.boot(d.flags(d.next(12))...)
			case 10:
				d.write(x)
			default:
				h.Do(d.call(h))
			}
		}
	}
	for _, err := range []error{nil, api.ErrDown, api.ErrFull} {
		if saved[err] < 100 {
			t.Errorf("Save told %v: %d times", err, saved[err])
		}
	}
	for _, err := range []error{nil, api.ErrArg, api.ErrNoImage, api.ErrLarge, api.ErrDown} {
		if loaded[err] < 40 {
			t.Errorf("Load told %v: %d times", err, loaded[err])
		}
	}
	if len(saved) != 3 || len(loaded) != 5 {
		t.Errorf("Save told %v, Load %v", saved, loaded)
	}
}

// write writes a sector, mostly the first one of a slot.
func (d *draw) write(x *pair) {
	n := x.d.Sectors() / 2
	b := slices.Concat(make([]byte, 512), recordBytes(record{d.gen(), uint64(d.next(70)), 0}), bytesFrom(d.next(256), 512))
	from := 512 * d.next(3)
	_ = x.write(d.pick(0, n, d.next(2*n)), b[from:from+512])
}

// T4: rows of Saves, with the power going anywhere, and drawn writes kept: behind Boot
// Load tells what the last Save that told no error saved, or, only if the power went
// within one, what that one was to save; ErrNoImage, if there is neither. The model isn't
// asked.
func TestThePowerGoesAnywhere(t *testing.T) {
	d := draw(185)
	old, fresh, none := 0, 0, 0
	for range 300 {
		x := disk.New(d.pick(12, 13, 20, 70))
		var last []byte
		for range 12 {
			h := d.heap(t)
			b := bytesOf(t, h)
			x.Cut(d.pick(-1, 0, 1, 2, 3, 4, 5, 6, 8, 20, 30))
			err := Save(x, h)
			switch {
			case err == nil:
				last = b
				fresh++
			case err != api.ErrDown && err != api.ErrFull:
				t.Fatal(err)
			}
			x.Boot(d.flags(d.next(40)))
			g, loadErr := Load(x, baseOf(d.next(99)), 16384)
			if loadErr != nil {
				wantError(t, "Load", loadErr, api.ErrNoImage)
				if last != nil {
					t.Fatal("what was saved is gone")
				}
				none++
				continue
			}
			got := bytesOf(t, g)
			if err == api.ErrDown && bytes.Equal(got, b) {
				last = b
			}
			wantBytes(t, "the image", got, last)
			old++
		}
	}
	if old < 500 || fresh < 300 || none < 100 {
		t.Errorf("loaded %d, saved %d, none %d", old, fresh, none)
	}
}

// P1: disks, bases and capacities that no rule made: Load, and Save with the power going
// somewhere, tell what the model does.
func FuzzDisk(f *testing.F) {
	d := draw(186)
	f.Add([]byte(nil), uint64(0), 1024, -1)
	f.Add(make([]byte, 1024), uint64(160), 1024, 0)
	for i := range 12 {
		f.Add(d.disk(), d.base(), d.capacity(), i-1)
	}
	f.Fuzz(func(t *testing.T, b []byte, base uint64, capacity, cut int) {
		b = append(b, make([]byte, 1024)...)
		x := pairOf(t, b[:min(len(b)/512*512, 128*512)])
		_, _ = x.load(base, capacity)
		x.cut(cut)
		_ = x.save(heapOf(t, some()))
		_, _ = x.load(base, capacity)
		x.boot(true, false, true)
		_, _ = x.load(base, capacity)
	})
}
