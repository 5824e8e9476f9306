package block

import (
	"bytes"
	"cantle/api"
	"cantle/arena"
	"encoding/binary"
	"math"
	"slices"
	"testing"
)

// bases are those at which an address is near 0, near the greatest, or neither.
func bases() []uint64 {
	return []uint64{0, 16, 160, 192, 1 << 32, 1<<62 - 16, 1 << 62}
}

// made tells an arena of these bytes.
func made(t *testing.T, base uint64, b []byte) *arena.Arena {
	t.Helper()
	a := arena.New(base, api.MaxCap)
	if a == nil {
		t.Fatalf("New(%#x, %d) is nil", base, api.MaxCap)
	}
	wantError(t, "Grow", a.Grow(len(b)), nil)
	wantError(t, "Store", a.Store(base, b), nil)
	return a
}

// counted tells n bytes, no two neighbours alike, whose numbers are no tag.
func counted(n int) []byte {
	b := make([]byte, n)
	for i := range b {
		b[i] = byte(i*37%251) + 1
	}
	return b
}

// put lays a number's eight bytes at o.
func put(b []byte, o int, w uint64) { binary.LittleEndian.PutUint64(b[o:], w) }

// number tells the tag that a block has, as the chapter of layer 6 says.
func number(x api.Block) uint64 {
	if x.Used {
		return uint64(x.Size) + 1
	}
	return uint64(x.Size)
}

// tagged lays the tags of blocks into bytes.
func tagged(b []byte, l ...api.Block) []byte {
	b = slices.Clone(b)
	for _, x := range l {
		put(b, x.Off, number(x))
		put(b, x.Off+x.Size-8, number(x))
	}
	return b
}

// standing tells which block stands at o in these bytes. It tries every block
// that might end within them, and holds the bytes at both ends against its tag.
func standing(b []byte, o int) (api.Block, bool) {
	if o < 184 || o > len(b)-32 || (o-184)%16 != 0 {
		return api.Block{}, false
	}
	for size := 32; size <= 16384 && size <= len(b)-o; size += 16 {
		for _, used := range []bool{false, true} {
			x := api.Block{Off: o, Size: size, Used: used}
			want := binary.LittleEndian.AppendUint64(nil, number(x))
			if bytes.Equal(b[o:o+8], want) && bytes.Equal(b[o+size-8:o+size], want) {
				return x, true
			}
		}
	}
	return api.Block{}, false
}

// ending tells which block ends at o, by looking for it at every offset. No two
// do: both would have the tag ahead of o, and so begin at the same offset.
func ending(b []byte, o int) (api.Block, bool) {
	for at := 184; at < o && at < len(b); at++ {
		if x, ok := standing(b, at); ok && x.Off+x.Size == o {
			return x, true
		}
	}
	return api.Block{}, false
}

// state is all that an arena tells of itself.
type state struct {
	base             uint64
	length, capacity int
	all              string
}

func stateOf(t *testing.T, a *arena.Arena) state {
	t.Helper()
	b, err := a.Load(a.Base(), uint64(a.Len()))
	if err != nil || len(b) != a.Len() {
		t.Fatalf("Load of all %d bytes: %d bytes, %v", a.Len(), len(b), err)
	}
	return state{a.Base(), a.Len(), a.Cap(), string(b)}
}

func wantState(t *testing.T, what string, a *arena.Arena, want state) {
	t.Helper()
	got := stateOf(t, a)
	if got.all != want.all {
		t.Errorf("%s: bytes %v, want %v", what, []byte(got.all), []byte(want.all))
	}
	got.all, want.all = "", ""
	if got != want {
		t.Errorf("%s: %v, want %v", what, got, want)
	}
}

// wantError wants the Code itself, so nothing that wraps it.
func wantError(t *testing.T, what string, err, want error) {
	t.Helper()
	if err == nil || want == nil {
		if err != nil || want != nil {
			t.Errorf("%s: error %v, want %v", what, err, want)
		}
		return
	}
	if err != want {
		t.Errorf("%s: error %v, want %v", what, err, want)
	}
}

func wantGet(t *testing.T, a *arena.Arena, o int, want api.Block) {
	t.Helper()
	if x, err := Get(a, o); err != nil || x != want {
		t.Errorf("base %#x: Get(%d) = %v, %v, want %v", a.Base(), o, x, err, want)
	}
}

func wantAhead(t *testing.T, a *arena.Arena, o int, want api.Block) {
	t.Helper()
	if x, err := Ahead(a, o); err != nil || x != want {
		t.Errorf("base %#x: Ahead(%d) = %v, %v, want %v", a.Base(), o, x, err, want)
	}
}

// wantNone wants ErrForm of Get, nothing beside it (R3), and no change (P7.3).
func wantNone(t *testing.T, a *arena.Arena, o int) {
	t.Helper()
	was := stateOf(t, a)
	x, err := Get(a, o)
	wantError(t, "Get", err, api.ErrForm)
	if x != (api.Block{}) || t.Failed() {
		t.Fatalf("base %#x: Get(%d) of %d bytes = %v, %v, want none", a.Base(), o, a.Len(), x, err)
	}
	wantState(t, "Get", a, was)
}

// wantNoneAhead wants the same of Ahead.
func wantNoneAhead(t *testing.T, a *arena.Arena, o int) {
	t.Helper()
	was := stateOf(t, a)
	x, err := Ahead(a, o)
	wantError(t, "Ahead", err, api.ErrForm)
	if x != (api.Block{}) || t.Failed() {
		t.Fatalf("base %#x: Ahead(%d) of %d bytes = %v, %v, want none", a.Base(), o, a.Len(), x, err)
	}
	wantState(t, "Ahead", a, was)
}

func wantWalk(t *testing.T, a *arena.Arena, want ...api.Block) {
	t.Helper()
	was := stateOf(t, a)
	if l, err := Walk(a); err != nil || !slices.Equal(l, want) {
		t.Errorf("base %#x: Walk of %d bytes = %v, %v, want %v", a.Base(), a.Len(), l, err, want)
	}
	wantState(t, "Walk", a, was)
}

// wantNoWalk wants ErrForm of Walk, no block beside it, and no change.
func wantNoWalk(t *testing.T, a *arena.Arena) {
	t.Helper()
	was := stateOf(t, a)
	l, err := Walk(a)
	wantError(t, "Walk", err, api.ErrForm)
	if len(l) != 0 {
		t.Errorf("base %#x: Walk of %d bytes = %v beside %v", a.Base(), a.Len(), l, err)
	}
	wantState(t, "Walk", a, was)
}

// wantSet wants both tags of the block to be laid, and all other bytes to stay.
func wantSet(t *testing.T, a *arena.Arena, x api.Block) {
	t.Helper()
	want := stateOf(t, a)
	want.all = string(tagged([]byte(want.all), x))
	wantError(t, "Set", Set(a, x), nil)
	wantState(t, "Set", a, want)
}

// wantNoSet wants ErrArg of Set, used or not, and no change.
func wantNoSet(t *testing.T, a *arena.Arena, off, size int) {
	t.Helper()
	was := stateOf(t, a)
	for _, used := range []bool{false, true} {
		x := api.Block{Off: off, Size: size, Used: used}
		wantError(t, "Set", Set(a, x), api.ErrArg)
		wantState(t, "Set", a, was)
		if t.Failed() {
			t.Fatalf("base %#x: Set(%v) of %d bytes", a.Base(), x, a.Len())
		}
	}
}

// wantAll holds Get and Ahead of each offset about the arena's bytes against
// the model.
func wantAll(t *testing.T, a *arena.Arena, b []byte) {
	t.Helper()
	for o := -64; o <= len(b)+64; o++ {
		if x, ok := standing(b, o); ok {
			wantGet(t, a, o, x)
		} else {
			wantNone(t, a, o)
		}
		if x, ok := ending(b, o); ok {
			wantAhead(t, a, o, x)
		} else {
			wantNoneAhead(t, a, o)
		}
	}
}

// wantNoneFar wants no block at, or ahead of, offsets far from all bytes.
func wantNoneFar(t *testing.T, a *arena.Arena) {
	t.Helper()
	for _, o := range far(a.Base()) {
		wantNone(t, a, o)
		wantNoneAhead(t, a, o)
	}
}

// far tells offsets at which no byte is: at the ends of int, at those of 32
// bits, and where the address is about 0, 2^62, 2^63, and 2^64.
func far(base uint64) []int {
	l := []int{}
	for d := range 80 {
		l = append(l, math.MinInt+d, math.MaxInt-d, math.MinInt+184+d, math.MaxInt-184-d, math.MaxInt-16384-d, math.MinInt+16384+d)
		for _, p := range []int{1 << 31, 1 << 32, 1 << 61, 1 << 62, 3 << 61} {
			l = append(l, p+d, p-d, -p+d, -p-d, p+184+d, -p+184+d)
		}
		for _, addr := range []uint64{0, 1 << 62, 1 << 63} {
			l = append(l, int(addr-base)+d, int(addr-base)-d, int(addr-base)+184+d)
		}
	}
	return slices.DeleteFunc(l, func(o int) bool { return o > -200 && o < 20000 })
}

// three are the blocks that most tests have: from Start on, up to 328.
func three() []api.Block {
	return []api.Block{{Off: 184, Size: 32, Used: true}, {Off: 216, Size: 64}, {Off: 280, Size: 48, Used: true}}
}

// The chapter's example.
func TestTheExample(t *testing.T) {
	for _, base := range bases() {
		wantWalk(t, made(t, base, make([]byte, 184)))
		wantWalk(t, made(t, base, counted(184)))
	}
}

// P7.1, P7.4: what was set is got, from both ends.
func TestSetIsGot(t *testing.T) {
	for _, base := range bases() {
		a := made(t, base, counted(328))
		for _, x := range three() {
			wantSet(t, a, x)
		}
		for _, x := range three() {
			wantGet(t, a, x.Off, x)
			wantAhead(t, a, x.Off+x.Size, x)
		}
		wantWalk(t, a, three()...)
		wantAll(t, a, tagged(counted(328), three()...))
	}
}

// P7.1: the numbers that stand at both ends, of a block of some bytes, and of
// the least and the greatest that an arena may have.
func TestWhatIsLaid(t *testing.T) {
	for _, base := range bases() {
		for _, c := range []struct {
			x api.Block
			w uint64
		}{
			{api.Block{Off: 184, Size: 32}, 32},
			{api.Block{Off: 184, Size: 32, Used: true}, 33},
			{api.Block{Off: 200, Size: 48, Used: true}, 49},
			{api.Block{Off: 216, Size: 256}, 256},
			{api.Block{Off: 184, Size: 16192}, 16192},
			{api.Block{Off: 184, Size: 16192, Used: true}, 16193},
			{api.Block{Off: 16344, Size: 32, Used: true}, 33},
		} {
			a := made(t, base, counted(16384))
			wantSet(t, a, c.x)
			for _, o := range []int{c.x.Off, c.x.Off + c.x.Size - 8} {
				if v, err := a.Word(base + uint64(o)); err != nil || v != c.w {
					t.Errorf("Set(%v): %d at %d, %v, want %d", c.x, v, o, err, c.w)
				}
			}
			wantGet(t, a, c.x.Off, c.x)
			wantAhead(t, a, c.x.Off+c.x.Size, c.x)
		}
	}
}

// P7.1, P7.4: every block that can stand in an arena of some lengths is set,
// and got; every other is refused, and nothing changes.
func TestSetOfEveryBlock(t *testing.T) {
	for _, n := range []int{0, 8, 183, 184, 200, 215, 216, 217, 223, 224, 231, 232, 233, 247, 248, 256} {
		for off := -40; off <= n+40; off++ {
			for size := -40; size <= n+40; size++ {
				can := off >= 184 && off%16 == 8 && size >= 32 && size%16 == 0 && off+size <= n
				if !can {
					if size%8 == 0 || off%8 == 0 {
						wantNoSet(t, made(t, 160, counted(n)), off, size)
					}
					continue
				}
				for _, used := range []bool{false, true} {
					a := made(t, 160, counted(n))
					x := api.Block{Off: off, Size: size, Used: used}
					wantSet(t, a, x)
					wantGet(t, a, off, x)
					wantAhead(t, a, off+size, x)
				}
			}
		}
	}
}

// P7.1: a block that ends just at the end, one byte, and 16, beyond it.
func TestSetAtTheEnd(t *testing.T) {
	for _, base := range bases() {
		for _, off := range []int{184, 200, 216, 1000, 8184} {
			for _, size := range []int{32, 48, 64, 4096} {
				end := off + size
				wantSet(t, made(t, base, counted(end)), api.Block{Off: off, Size: size, Used: true})
				wantSet(t, made(t, base, counted(end+1)), api.Block{Off: off, Size: size})
				for _, less := range []int{1, 7, 8, 9, 15, 16, 24, 32} {
					wantNoSet(t, made(t, base, counted(end-less)), off, size)
				}
				wantNoSet(t, made(t, base, counted(end)), off, size+16)
				wantNoSet(t, made(t, base, counted(end)), off+16, size)
			}
		}
	}
}

// P7.1: an arena of as many bytes as any may have, where no block of the
// greatest size has room.
func TestSetInTheLongestArena(t *testing.T) {
	a := made(t, 1<<62, counted(16384))
	for _, size := range []int{16200, 16208, 16384, 16400, 16192 + 1, 16192 + 8} {
		wantNoSet(t, a, 184, size)
	}
	for _, off := range []int{200, 8, 0, 16376, 16384} {
		wantNoSet(t, a, off, 16192)
	}
	wantNoSet(t, a, 16360, 32)
	wantNoSet(t, a, 16376, 32)
	wantSet(t, a, api.Block{Off: 16344, Size: 32})
	wantSet(t, a, api.Block{Off: 184, Size: 16192})
}

// P7.1, P1: an Off or a Size far from all that may be, alone and together; a
// sum of both may wrap round.
func TestSetFarFromBlocks(t *testing.T) {
	for _, base := range []uint64{0, 160, 1 << 62} {
		a := made(t, base, counted(328))
		sizes := []int{math.MinInt, math.MinInt + 32, math.MinInt + 48, math.MaxInt, math.MaxInt - 15, math.MaxInt - 31, 1<<32 + 32, 1<<62 + 32, -32, -48, 0, 16, 24, 33, 40, 16400}
		for _, off := range append([]int{184, 216, 296, 328, 0, 8, -8}, far(base)...) {
			wantNoSet(t, a, off, sizes[0])
			wantNoSet(t, a, off, sizes[3])
			if off < 0 || off > 16384 {
				wantNoSet(t, a, off, 32)
				wantNoSet(t, a, off, 48)
				wantNoSet(t, a, off, 16384)
			}
		}
		for _, off := range []int{184, 200, 328, 0, -8, math.MaxInt, math.MaxInt - 7, math.MaxInt - 23, math.MinInt, math.MinInt + 8} {
			for _, size := range sizes {
				wantNoSet(t, a, off, size)
			}
		}
	}
}

// P7.1: Off between Start and what is more by a multiple of 16, and below Start
// by one, though all bytes are there.
func TestSetOfNoPlace(t *testing.T) {
	a := made(t, 16, counted(1000))
	for off := 185; off < 200; off++ {
		wantNoSet(t, a, off, 32)
		wantNoSet(t, a, off+160, 64)
	}
	for _, off := range []int{168, 152, 176, 160, 136, 8, 0, -8, -24, -184, -168} {
		for _, size := range []int{32, 48, 64, 256} {
			wantNoSet(t, a, off, size)
		}
	}
}

// P7.1: Set doesn't ask what stood there, nor whether what it lays is behind
// another; what both have in common is the later one's.
func TestSetOverOthers(t *testing.T) {
	a := made(t, 160, tagged(counted(328), three()...))
	wantSet(t, a, api.Block{Off: 184, Size: 96, Used: true})
	wantGet(t, a, 184, api.Block{Off: 184, Size: 96, Used: true})
	wantNone(t, a, 216)
	wantSet(t, a, api.Block{Off: 184, Size: 96})
	wantGet(t, a, 184, api.Block{Off: 184, Size: 96})
	wantWalk(t, a, api.Block{Off: 184, Size: 96}, three()[2])
	wantSet(t, a, api.Block{Off: 200, Size: 32})
	wantGet(t, a, 200, api.Block{Off: 200, Size: 32})
	wantWalk(t, a, api.Block{Off: 184, Size: 96}, three()[2])
	wantSet(t, a, api.Block{Off: 248, Size: 32, Used: true})
	wantNone(t, a, 184)
	wantNoWalk(t, a)
}

// P7.1: tags at both ends of what begins at no offset of a block: below Start,
// and between two that are.
func TestGetOfNoPlace(t *testing.T) {
	for _, base := range bases() {
		for _, o := range []int{0, 8, 104, 152, 160, 168, 175, 176, 177, 183, 185, 186, 188, 191, 192, 193, 199, 201, 208, 224} {
			for _, size := range []int{32, 48, 96} {
				b := tagged(make([]byte, 400), api.Block{Off: o, Size: size, Used: true})
				a := made(t, base, b)
				wantNone(t, a, o)
				wantNoneAhead(t, a, o+size)
			}
		}
	}
}

// P7.1: numbers that are no tag, alike at all places, and at both ends of the
// block that their lower bits would tell.
func TestGetOfNoTag(t *testing.T) {
	for _, w := range []uint64{0, 1, 2, 8, 16, 17, 24, 30, 31, 34, 35, 40, 41, 46, 47, 50, 1<<16 + 32, 1<<31 + 32, 1<<32 + 32, 1<<32 + 33, 1<<62 + 48, 1<<63 + 32, 1<<63 + 33, 16400, 16401, 1<<64 - 1, 1<<64 - 16, 1<<64 - 32, 1<<64 - 31} {
		b := make([]byte, 328)
		for o := 0; o < len(b); o += 8 {
			put(b, o, w)
		}
		for _, base := range []uint64{0, 1 << 62} {
			a := made(t, base, b)
			for o := 0; o <= len(b); o += 8 {
				wantNone(t, a, o)
				wantNoneAhead(t, a, o)
			}
			wantNoWalk(t, a)
		}
	}
}

// P7.1: a tag whose bytes aren't all there, or that isn't there itself, for
// each end of the arena ahead of the block's.
func TestGetBeyondTheEnd(t *testing.T) {
	for _, x := range []api.Block{{Off: 184, Size: 32}, {Off: 200, Size: 48, Used: true}, {Off: 184, Size: 64, Used: true}} {
		all := tagged(counted(400), x)
		for n := range x.Off + x.Size {
			a := made(t, 160, all[:n])
			wantNone(t, a, x.Off)
			wantNoneAhead(t, a, x.Off+x.Size)
		}
		for n := x.Off + x.Size; n <= len(all); n++ {
			a := made(t, 160, all[:n])
			wantGet(t, a, x.Off, x)
			wantAhead(t, a, x.Off+x.Size, x)
		}
	}
}

// P7.1: the same number at every place of an arena: it tells of blocks that
// overlap, each of which stands, while its bytes are there.
func TestGetOfManyTags(t *testing.T) {
	for _, w := range []uint64{32, 33, 48, 49, 64, 112, 129, 176, 16384, 16385} {
		for _, n := range []int{184, 192, 208, 216, 224, 232, 240, 248, 320, 324, 328} {
			b := make([]byte, n)
			for o := 0; o+8 <= n; o += 8 {
				put(b, o, w)
			}
			wantAll(t, made(t, 1<<62, b), b)
			wantAll(t, made(t, 0, b), b)
		}
	}
}

// P7.1: two tags that are unlike: another size, used or not, and more in the
// upper bits, at either end.
func TestTagsThatAreUnlike(t *testing.T) {
	x := api.Block{Off: 216, Size: 64}
	for _, w := range []uint64{0, 65, 48, 49, 80, 32, 63, 66, 1<<8 + 64, 1<<16 + 64, 1<<32 + 64, 1<<56 + 64, 1<<63 + 64, 1<<63 + 65, 1<<64 - 64} {
		for _, o := range []int{216, 272} {
			b := tagged(counted(328), three()...)
			put(b, o, w)
			a := made(t, 160, b)
			wantNone(t, a, x.Off)
			wantNoneAhead(t, a, x.Off+x.Size)
			wantNoWalk(t, a)
			wantGet(t, a, 184, three()[0])
			wantAhead(t, a, 216, three()[0])
			wantGet(t, a, 280, three()[2])
			wantAhead(t, a, 328, three()[2])
		}
	}
}

// P7.1: each byte of both tags is held against the other's.
func TestEachByteOfATag(t *testing.T) {
	for i := range 8 {
		for _, o := range []int{216, 272} {
			for bit := range 8 {
				b := tagged(counted(328), three()...)
				b[o+i] ^= 1 << bit
				a := made(t, 160, b)
				wantNone(t, a, 216)
				wantNoneAhead(t, a, 280)
				wantNoWalk(t, a)
			}
		}
	}
}

// P7.1: the tag ahead of an offset tells of a place at which a block stands,
// but one of another size, so that it ends elsewhere.
func TestAheadOfABlockThatEndsElsewhere(t *testing.T) {
	long := api.Block{Off: 184, Size: 96, Used: true}
	for _, w := range []uint64{32, 33, 48, 49, 64, 65} {
		b := tagged(counted(328), long)
		o := 184 + int(w&^1)
		put(b, o-8, w)
		a := made(t, 160, b)
		wantGet(t, a, 184, long)
		wantAhead(t, a, 280, long)
		wantNoneAhead(t, a, o)
	}
	short := api.Block{Off: 184, Size: 32}
	b := tagged(counted(328), short)
	put(b, 272, 96)
	a := made(t, 160, b)
	wantAhead(t, a, 216, short)
	wantNoneAhead(t, a, 280)
}

// P7.1: a tag ahead that tells more bytes than there are, or of a block that
// begins below Start, though tags stand at both its ends.
func TestAheadBelowStart(t *testing.T) {
	for _, base := range bases() {
		for _, o := range []int{8, 40, 168, 184, 200, 216, 232, 328} {
			for size := 32; size <= 16384; size += 16 {
				if o-size >= 184 {
					continue
				}
				b := counted(328)
				put(b, o-8, uint64(size)+1)
				if o-size >= 0 {
					put(b, o-size, uint64(size)+1)
				}
				wantNoneAhead(t, made(t, base, b), o)
			}
		}
	}
}

// P7.1: Start has no block ahead of it, and the end of the arena has one, if it
// is the end of a block.
func TestAheadAtBothEnds(t *testing.T) {
	for _, base := range bases() {
		a := made(t, base, tagged(counted(328), three()...))
		wantNoneAhead(t, a, 184)
		wantAhead(t, a, 328, three()[2])
		wantNoneAhead(t, a, 336)
		a = made(t, base, tagged(counted(340), three()...))
		wantAhead(t, a, 328, three()[2])
		for o := 329; o <= 360; o++ {
			wantNoneAhead(t, a, o)
		}
		wantNoneAhead(t, made(t, base, nil), 0)
		wantNoneAhead(t, made(t, base, nil), 8)
	}
}

// P7.1, P1: offsets far from all bytes, of arenas with blocks, with the same tag
// at every place, and with no bytes at all.
func TestFarOffsets(t *testing.T) {
	same := make([]byte, 328)
	for o := 0; o < len(same); o += 8 {
		put(same, o, 32)
	}
	for _, base := range bases() {
		wantNoneFar(t, made(t, base, tagged(counted(328), three()...)))
		wantNoneFar(t, made(t, base, same))
		wantNoneFar(t, made(t, base, nil))
	}
}

// P7.1: every offset of arenas with few bytes, or none.
func TestShortArenas(t *testing.T) {
	for _, base := range []uint64{0, 16, 1 << 62} {
		for _, n := range []int{0, 1, 7, 8, 9, 16, 176, 183, 184, 185, 191, 192, 193, 200, 215} {
			wantAll(t, made(t, base, counted(n)), counted(n))
			wantAll(t, made(t, base, make([]byte, n)), make([]byte, n))
		}
	}
}

// P7.1: a block whose bytes hold what looks like another: both stand, but Walk
// tells the outer one alone.
func TestBlocksWithinABlock(t *testing.T) {
	outer := api.Block{Off: 184, Size: 112, Used: true}
	inner := []api.Block{{Off: 200, Size: 32}, {Off: 232, Size: 48, Used: true}}
	b := tagged(counted(296), append(inner, outer)...)
	a := made(t, 160, b)
	for _, x := range append(inner, outer) {
		wantGet(t, a, x.Off, x)
		wantAhead(t, a, x.Off+x.Size, x)
	}
	wantWalk(t, a, outer)
	wantAll(t, a, b)
}

// P7.2: fewer bytes than Start, none of which is asked.
func TestWalkOfFewBytes(t *testing.T) {
	for _, base := range bases() {
		for n := range 184 {
			wantNoWalk(t, made(t, base, counted(n)))
		}
		wantWalk(t, made(t, base, counted(184)))
	}
}

// P7.2: some bytes behind the last block, or behind Start, up to as many as a
// block has.
func TestWalkOfBytesLeft(t *testing.T) {
	for _, base := range bases() {
		for more := 1; more <= 48; more++ {
			wantNoWalk(t, made(t, base, counted(184+more)))
			wantNoWalk(t, made(t, base, tagged(counted(328+more), three()...)))
			wantNoWalk(t, made(t, base, tagged(make([]byte, 328+more), three()...)))
		}
	}
}

// P7.2: a tag behind the last block, whose bytes aren't all there.
func TestWalkOfABlockCutOff(t *testing.T) {
	last := api.Block{Off: 328, Size: 48}
	all := tagged(counted(376), append(three(), last)...)
	for n := 329; n < 376; n++ {
		wantNoWalk(t, made(t, 160, all[:n]))
	}
	wantWalk(t, made(t, 160, all[:328]), three()...)
	wantWalk(t, made(t, 160, all), append(three(), last)...)
}

// P7.2: a block that is broken, at either end: the first, one between, the last.
func TestWalkOfABrokenBlock(t *testing.T) {
	for _, x := range three() {
		for _, o := range []int{x.Off, x.Off + x.Size - 8} {
			for _, w := range []uint64{0, 16, 31, number(x) ^ 1, number(x) + 16, 16384, 1<<64 - 1} {
				b := tagged(counted(328), three()...)
				put(b, o, w)
				wantNoWalk(t, made(t, 160, b))
			}
		}
	}
}

// P7.2: a gap between two blocks, or two that have bytes in common.
func TestWalkOfBlocksThatDontMeet(t *testing.T) {
	x, y := api.Block{Off: 184, Size: 48}, api.Block{Off: 248, Size: 32, Used: true}
	wantNoWalk(t, made(t, 160, tagged(counted(280), x, y)))
	y.Off = 216
	wantNoWalk(t, made(t, 160, tagged(counted(248), x, y)))
	wantNoWalk(t, made(t, 160, tagged(counted(280), api.Block{Off: 200, Size: 80})))
}

// layouts tells each list of blocks that has all bytes from an offset up to n,
// used and free in every way.
func layouts(off, n int) [][]api.Block {
	if off == n {
		return [][]api.Block{nil}
	}
	var all [][]api.Block
	for size := 32; off+size <= n; size += 16 {
		for _, used := range []bool{false, true} {
			x := api.Block{Off: off, Size: size, Used: used}
			for _, rest := range layouts(off+size, n) {
				all = append(all, append([]api.Block{x}, rest...))
			}
		}
	}
	return all
}

// P7.2, P7.4: whatever blocks have all bytes from Start on: a Walk tells them,
// and each is got from both ends.
func TestWalkOfEveryLayout(t *testing.T) {
	count := 0
	for n := 184; n <= 184+9*16; n += 16 {
		for i, l := range layouts(184, n) {
			count++
			base := bases()[i%len(bases())]
			a := made(t, base, counted(n))
			for _, x := range l {
				wantSet(t, a, x)
			}
			wantWalk(t, a, l...)
			for _, x := range l {
				wantGet(t, a, x.Off, x)
				wantAhead(t, a, x.Off+x.Size, x)
			}
		}
	}
	if count < 300 {
		t.Errorf("%d layouts were asked", count)
	}
}

// P7.4: each byte from Start on is in just one block of a Walk, and none other.
func TestWalkHasAllBytesOnce(t *testing.T) {
	for _, sizes := range [][]int{{32}, {16192}, {32, 48, 64, 16000, 48}, {4096, 32, 4096, 4096, 3872}, {1024, 64, 32, 32, 512, 160}} {
		end := 184
		var l []api.Block
		for i, size := range sizes {
			l = append(l, api.Block{Off: end, Size: size, Used: i%3 == 0})
			end += size
		}
		a := made(t, 1<<62, tagged(counted(end), l...))
		told, err := Walk(a)
		wantError(t, "Walk", err, nil)
		times := make([]int, end)
		for _, x := range told {
			for o := x.Off; o < x.Off+x.Size; o++ {
				times[o]++
			}
		}
		for o, n := range times {
			if (o < 184 && n != 0) || (o >= 184 && n != 1) {
				t.Fatalf("sizes %v: byte %d is in %d blocks", sizes, o, n)
			}
		}
		wantWalk(t, a, l...)
	}
}

// P7.2: as many blocks as an arena may have, and as many bytes: 8 of 16384 are
// always left behind the last.
func TestWalkOfTheLongestArena(t *testing.T) {
	var l []api.Block
	for o := 184; o+32 <= 16376; o += 32 {
		l = append(l, api.Block{Off: o, Size: 32, Used: o%3 == 0})
	}
	all := tagged(counted(16384), l...)
	wantWalk(t, made(t, 1<<62, all[:16376]), l...)
	for _, n := range []int{16377, 16383, 16384, 16375, 16368, 16360} {
		wantNoWalk(t, made(t, 1<<62, all[:n]))
	}
	one := api.Block{Off: 184, Size: 16192, Used: true}
	wantWalk(t, made(t, 0, tagged(counted(16376), one)), one)
	wantNoWalk(t, made(t, 0, tagged(counted(16384), one)))
}

// What is asked hangs on the bytes that are there alone, not on the capacity,
// nor on what stood there ahead of it.
func TestTheCapacityIsNotAsked(t *testing.T) {
	a := arena.New(160, 1024)
	wantError(t, "Grow", a.Grow(216), nil)
	wantNoSet(t, a, 184, 48)
	wantSet(t, a, api.Block{Off: 184, Size: 32})
	wantNoSet(t, a, 216, 32)
	wantError(t, "Grow", a.Grow(32), nil)
	wantNoWalk(t, a)
	wantSet(t, a, api.Block{Off: 216, Size: 32, Used: true})
	l := []api.Block{{Off: 184, Size: 32}, {Off: 216, Size: 32, Used: true}}
	wantWalk(t, a, l...)
	wantError(t, "Widen", a.Widen(2048), nil)
	wantWalk(t, a, l...)
	wantWalk(t, a.Clone(), l...)
}

// R2: what is told is new memory: to change it changes neither the arena nor
// what is told next.
func TestWalkTellsNewMemory(t *testing.T) {
	a := made(t, 160, tagged(counted(328), three()...))
	l, err := Walk(a)
	wantError(t, "Walk", err, nil)
	for i := range l {
		l[i] = api.Block{Off: -1, Size: -1}
	}
	wantWalk(t, a, three()...)
}

// Rule 8: nothing is kept: what one arena holds is not told of another.
func TestArenasAreApart(t *testing.T) {
	a := made(t, 160, tagged(counted(328), three()...))
	b := made(t, 160, counted(328))
	was := stateOf(t, b)
	for range 3 {
		wantGet(t, a, 216, three()[1])
		wantNone(t, b, 216)
		wantWalk(t, a, three()...)
		wantNoWalk(t, b)
		wantSet(t, a, three()[0])
		wantState(t, "Set of another arena", b, was)
	}
	c := a.Clone()
	wantSet(t, c, api.Block{Off: 184, Size: 144})
	wantWalk(t, c, api.Block{Off: 184, Size: 144})
	wantWalk(t, a, three()...)
}
