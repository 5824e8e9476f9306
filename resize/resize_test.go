package resize

import (
	"bytes"
	"cantle/alloc"
	"cantle/api"
	"cantle/arena"
	"cantle/block"
	"cantle/check"
	"cantle/list"
	"math"
	"slices"
	"testing"
)

// bases are those at which an address is near 0, near the greatest, or neither.
func bases() []uint64 {
	return []uint64{0, 16, 160, 192, 1 << 32, 1<<62 - 16, 1 << 62}
}

// baseOf tells the base of the i-th try.
func baseOf(i int) uint64 { return bases()[i%len(bases())] }

// capacities are the least ones, the greatest ones, and some between, be they a
// multiple of 16 or not.
func capacities() []int {
	return []int{1024, 1025, 1039, 1040, 1400, 5000, 8192, 16376, 16383, 16384}
}

// made tells an arena of these bytes.
func made(t *testing.T, base uint64, capacity int, b []byte) *arena.Arena {
	t.Helper()
	a := arena.New(base, capacity)
	if a == nil {
		t.Fatalf("New(%#x, %d) is nil", base, capacity)
	}
	wantError(t, "Grow", a.Grow(len(b)), nil)
	wantError(t, "Store", a.Store(base, b), nil)
	return a
}

// of tells an arena of these blocks, the free ones in lists by falling offsets.
func of(t *testing.T, base uint64, capacity int, sizes ...int) *arena.Arena {
	t.Helper()
	return made(t, base, capacity, listed(row(sizes...)))
}

// state is all that an arena tells of itself.
type state struct {
	base             uint64
	length, capacity int
	all              string
}

func stateOf(t *testing.T, a *arena.Arena) state {
	t.Helper()
	b, err := a.Load(a.Base(), uint64(a.Len()))
	if err != nil || len(b) != a.Len() {
		t.Fatalf("Load of all %d bytes: %d bytes, %v", a.Len(), len(b), err)
	}
	return state{a.Base(), a.Len(), a.Cap(), string(b)}
}

// modelOf tells the model of an arena, which it wants to be right.
func modelOf(t *testing.T, a *arena.Arena) *model {
	t.Helper()
	s := stateOf(t, a)
	if !rightOf([]byte(s.all)) || check.Check(a) != nil {
		t.Fatalf("base %#x, %d bytes: not right ahead of the call", s.base, s.length)
	}
	return &model{[]byte(s.all), s.capacity}
}

// wantError wants the Code itself, so nothing that wraps it.
func wantError(t *testing.T, what string, err, want error) {
	t.Helper()
	if err == nil || want == nil {
		if err != nil || want != nil {
			t.Fatalf("%s: error %v, want %v", what, err, want)
		}
		return
	}
	if err != want {
		t.Fatalf("%s: error %v, want %v", what, err, want)
	}
}

// wantModel wants an arena to be right, and to stand as the model does, at the
// base where it was; with an error as it did ahead of the call.
func wantModel(t *testing.T, what string, a *arena.Arena, m *model, was state, err error) {
	t.Helper()
	got := stateOf(t, a)
	if err != nil && got != was {
		t.Fatalf("%s: error %v, and the arena was changed", what, err)
	}
	if want := (state{was.base, len(m.b), was.capacity, string(m.b)}); got != want {
		t.Fatalf("%s: base %#x, %d bytes of %d, want %#x, %d of %d; bytes differ from %d on", what,
			got.base, got.length, got.capacity, want.base, want.length, want.capacity, differ(got.all, want.all))
	}
	if !rightOf(m.b) || check.Check(a) != nil {
		t.Fatalf("%s: not right behind the call", what)
	}
}

// differ tells from where on two texts differ.
func differ(a, b string) int {
	i := 0
	for i < len(a) && i < len(b) && a[i] == b[i] {
		i++
	}
	return i
}

// wantResize wants Resize to tell what the model does, and what was held to be
// held, and tells it.
func wantResize(t *testing.T, a *arena.Arena, o, size int) (int, error) {
	t.Helper()
	was, m := stateOf(t, a), modelOf(t, a)
	want, wantErr := m.resize(o, size)
	p, err := Resize(a, o, size)
	wantError(t, "Resize", err, wantErr)
	if p != want {
		t.Fatalf("base %#x: Resize of %d to %d tells %d, want %d", was.base, o, size, p, want)
	}
	wantModel(t, "Resize", a, m, was, err)
	if err == nil {
		wantHeld(t, was, stateOf(t, a), o, p, size)
	}
	return p, err
}

// wantHeld wants what was held to be held, of the block that stood at o and stands
// at p as far as both sizes go, of all others whole, and no other block to be used.
func wantHeld(t *testing.T, was, is state, o, p, size int) {
	t.Helper()
	before, after := usedOf(was.all), usedOf(is.all)
	if len(before) != len(after) {
		t.Fatalf("%d blocks are used, want %d", len(after), len(before))
	}
	for off, x := range before {
		if off == o {
			y, ok := after[p]
			n := min(len(x), len(y))
			if !ok || n < size-16 && n < len(x) || x[:n] != y[:n] {
				t.Fatalf("the block at %d, now at %d, holds %q, want %q of it", o, p, y, x)
			}
			if len(y) != size-16 && len(y) != size {
				t.Fatalf("Resize of %d to %d makes it hold %d bytes", o, size, len(y))
			}
			continue
		}
		if y, ok := after[off]; !ok || x != y {
			t.Fatalf("the block at %d holds %q, want %q", off, y, x)
		}
	}
}

// usedOf tells what used blocks hold, by where they stand.
func usedOf(all string) map[int]string {
	l, _ := walkOf([]byte(all))
	used := map[int]string{}
	for _, x := range l {
		if x.Used {
			used[x.Off] = string(heldBy([]byte(all), x))
		}
	}
	return used
}

// resized wants Resize to tell this place.
func resized(t *testing.T, a *arena.Arena, o, size, want int) {
	t.Helper()
	p, err := wantResize(t, a, o, size)
	wantError(t, "Resize", err, nil)
	if p != want {
		t.Fatalf("Resize of %d to %d tells %d, want %d", o, size, p, want)
	}
}

// notResized wants Resize to tell this error, nothing beside it, and no change.
func notResized(t *testing.T, a *arena.Arena, o, size int, want error) {
	t.Helper()
	was := stateOf(t, a)
	p, err := Resize(a, o, size)
	wantError(t, "Resize", err, want)
	if p != 0 || stateOf(t, a) != was {
		t.Fatalf("base %#x: Resize of %d to %d tells %d with error %v, or there was a change", was.base, o, size, p, err)
	}
	if check.Check(a) != nil {
		t.Fatalf("base %#x: not right behind the call", was.base)
	}
}

// mustWalk tells all blocks of an arena.
func mustWalk(t *testing.T, a *arena.Arena) []api.Block {
	t.Helper()
	l, err := block.Walk(a)
	wantError(t, "Walk", err, nil)
	return l
}

// wantBlocks wants an arena to have just blocks of these sizes; that of a size
// below 0 is used.
func wantBlocks(t *testing.T, a *arena.Arena, sizes ...int) {
	t.Helper()
	if l := mustWalk(t, a); !slices.Equal(l, row(sizes...)) {
		t.Fatalf("blocks %v, want %v", l, row(sizes...))
	}
}

// wantList wants a class's list to have just these places, in this order.
func wantList(t *testing.T, a *arena.Arena, c int, want ...int) {
	t.Helper()
	l, err := list.All(a, c)
	wantError(t, "All", err, nil)
	if !slices.Equal(l, want) {
		t.Fatalf("the list of class %d has %v, want %v", c, l, want)
	}
}

// wantFirst wants a free block of this size to be the first of its list.
func wantFirst(t *testing.T, a *arena.Arena, o, size int) {
	t.Helper()
	l, err := list.All(a, classOf(size))
	wantError(t, "All", err, nil)
	if len(l) == 0 || l[0] != o {
		t.Fatalf("the list of class %d has %v, want %d as the first", classOf(size), l, o)
	}
}

// The chapter's example, at any base, of any capacity.
func TestTheExample(t *testing.T) {
	for _, base := range bases() {
		for _, capacity := range capacities() {
			a := of(t, base, capacity, -32)
			resized(t, a, 184, 64, 184)
			wantBlocks(t, a, -64)
			a = of(t, base, capacity, 32, -48, -32)
			resized(t, a, 264, 64, 264)
			wantBlocks(t, a, 32, -48, -64)
		}
	}
}

// noSizes are numbers that are no size: all of the first ones, some about those
// that are, and the ends of int.
func noSizes() []int {
	l := []int{math.MinInt, math.MinInt + 32, -1 << 32, -1<<32 + 32, -16384, -1024, -64, -48, -32, -31, -16, -15, -8, -1,
		16383, 16385, 16399, 16400, 16416, 32768, 1 << 31, 1 << 32, 1<<32 + 32, 1 << 40, math.MaxInt - 15, math.MaxInt - 1, math.MaxInt}
	for n := range 1100 {
		if !isSize(n) {
			l = append(l, n)
		}
	}
	return append(l, 8191, 8200, 16184, 16200, 16377)
}

// P13.1: to what is no size: ahead of whether a used block stands there, and
// whether there is room.
func TestToNoSize(t *testing.T) {
	for i, l := range [][]int{nil, {-32}, {32}, {-832}, {832}, {-64, 48, -720}, {48, -64, 720}} {
		a := of(t, baseOf(i), 1024, l...)
		offsets := []int{math.MinInt, -1, 0, 8, 176, 192, 200, a.Len(), a.Len() + 16, math.MaxInt}
		for _, x := range row(l...) {
			offsets = append(offsets, x.Off)
		}
		for _, size := range noSizes() {
			for _, o := range offsets {
				notResized(t, a, o, size, api.ErrArg)
			}
		}
	}
}

// fakes tells the blocks that are within others: a used and a free one within a
// used one, the same within a free one, and one that begins within a block and
// ends within the next.
func fakes() []api.Block {
	return []api.Block{
		{Off: 200, Size: 64, Used: true}, {Off: 280, Size: 32},
		{Off: 376, Size: 64, Used: true}, {Off: 456, Size: 32},
		{Off: 520, Size: 112, Used: true}, {Off: 664, Size: 96},
	}
}

// withFakes tells bytes of blocks that have others within.
func withFakes() ([]api.Block, []byte) {
	l := row(-160, 192, -64, -96, 112, -32, 32, -48)
	return l, tagged(listed(l), fakes()...)
}

// far are offsets far from an arena's bytes; some mean the address of a block, if
// a sum wraps round, or bits are lost.
func far(base uint64) []int {
	l := []int{math.MinInt, math.MinInt + 1, math.MinInt + 184, math.MinInt + 16, -1 << 32, -1<<32 + 184, 1<<32 + 184, 1 << 32, 1 << 16, 1<<16 + 184, 16384, 16568}
	l = append(l, math.MaxInt, math.MaxInt-1, math.MaxInt-7, math.MaxInt-15, math.MaxInt-31, math.MaxInt-183)
	for _, o := range []int{0, 184, 344} {
		l = append(l, -o, int(base)+o, o-int(base), -int(base)-o, o+math.MinInt)
	}
	return slices.DeleteFunc(l, func(o int) bool { return o >= 184 && o < 1024 })
}

// P13.1: at each offset: ahead of Start, at each block, within each, at Len and
// behind it; and far from there. ErrForm but at the used ones.
func TestEachOffset(t *testing.T) {
	l, b := withFakes()
	isUsed := map[int]bool{}
	for _, x := range l {
		isUsed[x.Off] = x.Used
	}
	for i, base := range bases() {
		a := made(t, base, capacities()[i], b)
		offsets := far(base)
		for o := -40; o < len(b)+200; o++ {
			offsets = append(offsets, o)
		}
		for _, o := range offsets {
			for _, size := range []int{32, 64, 176, 400} {
				if isUsed[o] && size < 400 {
					_, err := wantResize(t, a.Clone(), o, size)
					wantError(t, "Resize", err, nil)
				}
				if !isUsed[o] {
					notResized(t, a, o, size, api.ErrForm)
				}
			}
			if !isUsed[o] {
				notResized(t, a, o, 16384, api.ErrForm)
				notResized(t, a, o, 40, api.ErrArg)
			}
		}
	}
}

// P13.1: the same of arenas that have no used block at all; ErrForm is told ahead
// of whether there is room.
func TestEachOffsetWhereNoneIsUsed(t *testing.T) {
	for i, base := range bases() {
		arenas := []*arena.Arena{of(t, base, capacities()[i]), of(t, base, 1024, 32), of(t, base, 1024, 832)}
		for _, a := range arenas {
			offsets := far(base)
			for o := -40; o < a.Len()+40; o += 8 {
				offsets = append(offsets, o)
			}
			for _, o := range offsets {
				notResized(t, a, o, 32, api.ErrForm)
				notResized(t, a, o, 64, api.ErrForm)
				notResized(t, a, o, 16384, api.ErrForm)
			}
		}
	}
}

// P13.1: what was given back, moved, or cut off is no used block any more.
func TestWhatIsGone(t *testing.T) {
	a := of(t, 160, 1024, -32, -96, -32)
	resized(t, a, 184, 48, 344)
	notResized(t, a, 184, 32, api.ErrForm)
	resized(t, a, 216, 32, 216)
	notResized(t, a, 248, 32, api.ErrForm)
	wantError(t, "Give", alloc.Give(a, 216), nil)
	notResized(t, a, 216, 64, api.ErrForm)
	wantBlocks(t, a, 128, -32, -48)
}

// neighbours tells what may stand ahead of a block, and behind it.
func neighbours() [][2][]int {
	return [][2][]int{
		{nil, nil}, {nil, {-48}}, {nil, {48}}, {nil, {64, -32}}, {nil, {-32, 32}},
		{{-32}, nil}, {{32}, nil}, {{64}, {-32}}, {{32}, {32}}, {{-48}, {272, -32}}, {{-32, 64}, {64, -32, 64}},
	}
}

// P13.1, the first way: to each size up to that which it has, beside each kind of
// neighbour: just as many, or 16 fewer, and it stays, even with a free one right
// behind; else what is left is one with that.
func TestToFewerBytes(t *testing.T) {
	for i, r := range neighbours() {
		for _, n := range []int{32, 48, 64, 128, 288} {
			ahead, behind := r[0], r[1]
			l := slices.Concat(ahead, []int{-n}, behind)
			o := endOf(row(ahead...))
			for size := 32; size <= n; size += 16 {
				a := of(t, baseOf(i), 1024, l...)
				length := a.Len()
				resized(t, a, o, size, o)
				if a.Len() != length {
					t.Fatalf("the arena has %d bytes, want %d", a.Len(), length)
				}
				left, rest := n-size, behind
				if left < 32 {
					wantBlocks(t, a, l...)
					continue
				}
				if len(behind) > 0 && behind[0] > 0 {
					left, rest = left+behind[0], behind[1:]
				}
				wantBlocks(t, a, slices.Concat(ahead, []int{-size, left}, rest)...)
				wantFirst(t, a, o+size, left)
			}
		}
	}
}

// P13.1, the first way: again and again, by 16 and by 32 bytes.
func TestToFewerAgain(t *testing.T) {
	a := of(t, 160, 1024, -32, -256, -32)
	resized(t, a, 216, 240, 216)
	wantBlocks(t, a, -32, -256, -32)
	resized(t, a, 216, 256, 216)
	resized(t, a, 216, 224, 216)
	wantBlocks(t, a, -32, -224, 32, -32)
	resized(t, a, 216, 208, 216)
	wantBlocks(t, a, -32, -224, 32, -32)
	for n := 192; n >= 32; n -= 32 {
		resized(t, a, 216, n, 216)
		wantBlocks(t, a, -32, -n, 256-n, -32)
	}
	resized(t, a, 216, 32, 216)
	notResized(t, a, 216, 16, api.ErrArg)
}

// P13.1, the first way: of a block of all bytes that there may be.
func TestToFewerOfAll(t *testing.T) {
	for i, capacity := range capacities() {
		all := (capacity - 184) / 16 * 16
		for _, size := range []int{32, 256, all - 48, all - 32} {
			a := of(t, baseOf(i), capacity, -all)
			resized(t, a, 184, size, 184)
			wantBlocks(t, a, -size, all-size)
		}
		for _, size := range []int{all - 16, all} {
			a := of(t, baseOf(i), capacity, -all)
			resized(t, a, 184, size, 184)
			wantBlocks(t, a, -all)
		}
	}
}

// P13.1, the second way: with a free block right behind that has just what lacks,
// 16 more (it stays whole), 32 more and many more (it is cut, and what is left is
// the first of its list), be that free block the last one or not. The arena keeps
// its length, though it might grow, and another free one is left alone.
func TestWithTheFreeOneBehind(t *testing.T) {
	for i, n := range []int{32, 48, 128, 272} {
		for _, free := range []int{32, 48, 64, 96, 256, 272, 400} {
			for lacks := 16; lacks <= free; lacks += 16 {
				for _, r := range [][2][]int{{nil, nil}, {nil, {-32}}, {{-48}, nil}, {{640}, {-32, 512}}, {{512, -32}, {-48}}} {
					ahead, rest := r[0], r[1]
					a := of(t, baseOf(i), 16384, slices.Concat(ahead, []int{-n, free}, rest)...)
					o, length := endOf(row(ahead...)), a.Len()
					resized(t, a, o, n+lacks, o)
					if a.Len() != length {
						t.Fatalf("the arena has %d bytes, want %d", a.Len(), length)
					}
					if free-lacks < 32 {
						wantBlocks(t, a, slices.Concat(ahead, []int{-(n + free)}, rest)...)
						continue
					}
					wantBlocks(t, a, slices.Concat(ahead, []int{-(n + lacks), free - lacks}, rest)...)
					wantFirst(t, a, o+n+lacks, free-lacks)
				}
			}
		}
	}
}

// P13.1, the second way: where the arena is full, so that it can't grow, and no
// other block is free.
func TestWithTheFreeOneBehindOfAFullArena(t *testing.T) {
	for i, capacity := range capacities() {
		all := (capacity - 184) / 16 * 16
		for _, free := range []int{32, 48, 64, 400} {
			a := of(t, baseOf(i), capacity, -(all - free), free)
			resized(t, a.Clone(), 184, all-free+16, 184)
			resized(t, a.Clone(), 184, all-16, 184)
			notResized(t, a, 184, min(all+16, 16384), api.ErrNoMem)
			resized(t, a, 184, all, 184)
			wantBlocks(t, a, -all)
			wantList(t, a, classOf(free))
		}
	}
}

// P13.1, the third way: the last block: the arena grows by just what lacks, though
// a free block elsewhere has so many bytes.
func TestTheLastOneGrows(t *testing.T) {
	for i, capacity := range capacities() {
		for _, ahead := range [][]int{nil, {-32}, {48}, {512}, {-48, 512}, {512, -32, 32}} {
			for _, n := range []int{32, 48, 128} {
				o := endOf(row(ahead...))
				for size := n + 16; o+size <= capacity && size <= n+160; size += 16 {
					a := of(t, baseOf(i), capacity, append(slices.Clone(ahead), -n)...)
					resized(t, a, o, size, o)
					wantBlocks(t, a, append(slices.Clone(ahead), -size)...)
				}
			}
		}
	}
}

// P13.1, the third way: with a free block right behind that is the last one and has
// too few bytes: it grows by just what is more than both have, and that one is in
// no list any more, wherever it stood there.
func TestTheLastFreeOneIsTakenIn(t *testing.T) {
	for i, capacity := range capacities() {
		for _, free := range []int{32, 48, 64, 272} {
			for _, ahead := range [][]int{nil, {-32}, {free, -48}, {-32, 400}} {
				o := endOf(row(ahead...))
				for size := free + 48; o+size <= capacity && size <= free+200; size += 16 {
					a := of(t, baseOf(i), capacity, append(slices.Clone(ahead), -32, free)...)
					resized(t, a, o, size, o)
					wantBlocks(t, a, append(slices.Clone(ahead), -size)...)
					wantList(t, a, classOf(free), falling(row(ahead...), classOf(free))...)
				}
			}
		}
	}
}

// P13.1, the third way: up to the capacity itself; 16 more is ErrNoMem, till the
// arena is widened by that.
func TestUpToTheCapacity(t *testing.T) {
	rows := []struct {
		blocks []int
		o      int
	}{{[]int{-32}, 184}, {[]int{-32, -48}, 216}, {[]int{48, -32}, 232}, {[]int{-48, 32}, 184}, {[]int{-32, -32, 64}, 216}, {[]int{272, -448, 48}, 456}}
	for i, capacity := range capacities() {
		for _, r := range rows {
			a, most := of(t, baseOf(i), capacity, r.blocks...), (capacity-r.o)/16*16
			resized(t, a.Clone(), r.o, most-16, r.o)
			c := a.Clone()
			resized(t, c, r.o, most, r.o)
			if c.Len() != r.o+most {
				t.Fatalf("the arena has %d bytes, want %d", c.Len(), r.o+most)
			}
			notResized(t, c, r.o, most+16, api.ErrNoMem)
			notResized(t, a, r.o, most+16, api.ErrNoMem)
			wantBlocks(t, a, r.blocks...)
			if capacity+16 <= 16384 {
				wantError(t, "Widen", a.Widen(capacity+16), nil)
				resized(t, a, r.o, most+16, r.o)
			}
		}
	}
}

// P13.1, the fourth way: with a used block right behind, or with a free one that has
// too few bytes and isn't the last one: to the end, to a free one elsewhere, or to
// the one right ahead. What stood there is one with its free neighbours.
func TestToAnotherPlace(t *testing.T) {
	rows := []struct {
		blocks        []int
		o, size, want int
		then          []int
	}{
		{[]int{-32, -32}, 184, 48, 248, []int{32, -32, -48}},
		{[]int{-64, -32}, 184, 80, 280, []int{64, -32, -80}},
		{[]int{32, -32, -32}, 216, 48, 280, []int{64, -32, -48}},
		{[]int{-32, 32, -32}, 184, 80, 280, []int{64, -32, -80}},
		{[]int{32, -32, 32, -32}, 216, 80, 312, []int{96, -32, -80}},
		{[]int{-32, 32, -32, 48}, 184, 80, 280, []int{64, -32, -80}},
		{[]int{-32, -32, 48}, 184, 64, 248, []int{32, -32, -64}},
		{[]int{-32, -32, 64}, 184, 64, 248, []int{32, -32, -64}},
		{[]int{-32, -32, 80}, 184, 64, 248, []int{32, -32, -80}},
		{[]int{-32, -32, 96, -32}, 184, 64, 248, []int{32, -32, -64, 32, -32}},
		{[]int{-32, 32, -32, 272, -32}, 184, 96, 280, []int{64, -32, -96, 176, -32}},
		{[]int{48, -32, -32}, 232, 48, 184, []int{-48, 32, -32}},
		{[]int{64, -32, -32}, 248, 48, 184, []int{-64, 32, -32}},
		{[]int{128, -32, -32}, 312, 64, 184, []int{-64, 96, -32}},
		{[]int{96, -32, 32, -32}, 280, 80, 184, []int{-96, 64, -32}},
		{[]int{128, -32, 32, -32}, 312, 80, 184, []int{-80, 112, -32}},
		{[]int{512, -48, 48, -32}, 696, 512, 184, []int{-512, 96, -32}},
	}
	for i, r := range rows {
		for _, capacity := range capacities() {
			a := of(t, baseOf(i), capacity, r.blocks...)
			resized(t, a, r.o, r.size, r.want)
			wantBlocks(t, a, r.then...)
		}
	}
}

// P13.1: where the third way can't be, since the capacity lacks 16 bytes, the fourth
// one still can: a free block elsewhere, or right ahead.
func TestTheFourthWayWhereTheThirdCant(t *testing.T) {
	rows := []struct {
		blocks  []int
		o, size int
		then    []int
	}{
		{[]int{416, -32, -384}, 632, 400, []int{-416, -32, 384}},
		{[]int{416, -32, -352, 32}, 632, 400, []int{-416, -32, 384}},
		{[]int{416, -32, -304}, 632, 400, []int{-416, -32, 304}},
		{[]int{416, -32, -272, 32}, 632, 400, []int{-416, -32, 304}},
		{[]int{512, -32, -288}, 728, 304, []int{-304, 208, -32, 288}},
		{[]int{448, -384}, 632, 400, []int{-400, 432}},
		{[]int{432, -368, 32}, 616, 416, []int{-432, 400}},
		{[]int{432, -352}, 616, 416, []int{-432, 352}},
	}
	for i, r := range rows {
		for _, capacity := range []int{1024, 1025, 1031} {
			a := of(t, baseOf(i), capacity, r.blocks...)
			resized(t, a.Clone(), r.o, r.size-16, r.o)
			c := a.Clone()
			wantError(t, "Widen", c.Widen(1032), nil)
			resized(t, c, r.o, r.size, r.o)
			resized(t, a, r.o, r.size, 184)
			wantBlocks(t, a, r.then...)
		}
	}
}

// P13.1: ErrNoMem, where none of the four ways can be: a free one right ahead is
// asked for its own bytes alone; nothing changes.
func TestNoMem(t *testing.T) {
	rows := []struct {
		blocks  []int
		o, size int
	}{
		{[]int{-832}, 184, 848}, {[]int{-832}, 184, 16384}, {[]int{-816}, 184, 848}, {[]int{-32}, 184, 848}, {[]int{-32}, 184, 16384},
		{[]int{-32, -800}, 184, 48}, {[]int{-32, -800}, 216, 816}, {[]int{32, -32, -768}, 216, 48}, {[]int{48, -32, -752}, 232, 64},
		{[]int{48, -784}, 232, 800}, {[]int{400, -432}, 584, 448}, {[]int{-32, 32, -768}, 184, 80}, {[]int{-32, 32, -32, 64, -672}, 184, 80},
		{[]int{-32, -736, 64}, 184, 80}, {[]int{-32, -736, 48}, 184, 80}, {[]int{-32, -736, 64}, 216, 816}, {[]int{32, -736, 64}, 216, 816},
		{[]int{32, -736, 48}, 216, 816}, {[]int{64, -32, 64, -32, 64, -576}, 248, 112}, {[]int{272, -32, 272, -224, 32}, 456, 320},
	}
	for i, r := range rows {
		for _, capacity := range []int{1024, 1025, 1031} {
			a := of(t, baseOf(i), capacity, r.blocks...)
			_, err := wantResize(t, a, r.o, r.size)
			wantError(t, "Resize", err, api.ErrNoMem)
			notResized(t, a, r.o, r.size, api.ErrNoMem)
			notResized(t, a, r.o, 16384, api.ErrNoMem)
		}
	}
}

// P13.1: the free ones are taken out of their list wherever they stand there.
func TestInEveryOrder(t *testing.T) {
	l := row(32, -32, 32, -32, 32, -32, 32)
	for i, order := range orders(falling(l, 0)...) {
		b := chained(bare(l), 0, order...)
		without := func(gone ...int) []int {
			return slices.DeleteFunc(slices.Clone(order), func(o int) bool { return slices.Contains(gone, o) })
		}
		a := made(t, baseOf(i), 1024, b)
		resized(t, a, 216, 64, 216)
		wantBlocks(t, a, 32, -64, -32, 32, -32, 32)
		wantList(t, a, 0, without(248)...)
		a = made(t, baseOf(i), 1024, b)
		resized(t, a, 344, 96, 344)
		wantBlocks(t, a, 32, -32, 32, -32, 32, -96)
		wantList(t, a, 0, without(376)...)
		a = made(t, baseOf(i), 1024, b)
		resized(t, a, 216, 96, 376)
		wantBlocks(t, a, 96, -32, 32, -32, -96)
		wantList(t, a, 0, without(184, 248, 376)...)
		wantList(t, a, 4, 184)
	}
}

// P13.1, P13.2: a used block may hold anything, also what looks like tags, or like
// the lists' numbers: Resize asks none of it, and keeps it.
func TestWhatABlockHoldsIsNotAsked(t *testing.T) {
	for i, w := range []uint64{0, 1, 32, 33, 48, 49, 64, 65, 184, 216, 1<<64 - 1} {
		for _, sizes := range [][]int{{-96, -96, -96}, {-96, 48, -96, -96}, {48, -96, -96, 48}, {-96, -96, 160, -96}} {
			b := listed(row(sizes...))
			for _, x := range row(sizes...) {
				for o := x.Off + 8; x.Used && o < x.Off+x.Size-8; o += 8 {
					put(b, o, w)
				}
			}
			for _, x := range row(sizes...) {
				for size := 32; x.Used && size <= 192; size += 16 {
					_, err := wantResize(t, made(t, baseOf(i), 1024, b), x.Off, size)
					wantError(t, "Resize", err, nil)
				}
			}
		}
	}
}

// P13.2, P13.3: byte by byte, through each of the ways, and back.
func TestWhatIsHeldIsHeld(t *testing.T) {
	a := of(t, 160, 1024, -64, -32)
	want := bytes.Repeat([]byte{1, 2, 3}, 16)
	wantError(t, "Store", a.Store(160+192, want), nil)
	rows := []struct{ size, place, held int }{
		{128, 280, 48}, {48, 280, 32}, {32, 280, 16}, {112, 280, 16}, {240, 280, 16}, {672, 280, 16}, {64, 280, 16},
	}
	o := 184
	for _, r := range rows {
		resized(t, a, o, r.size, r.place)
		o = r.place
		got, err := a.Load(160+uint64(r.place)+8, uint64(r.held))
		wantError(t, "Load", err, nil)
		if !bytes.Equal(got, want[:r.held]) {
			t.Fatalf("behind Resize to %d it holds %v, want %v", r.size, got, want[:r.held])
		}
	}
	wantBlocks(t, a, 64, -32, -64, 608)
}

// layouts tells each row of sizes that has just n bytes, used and free in every
// way, but no two free ones side by side.
func layouts(n int, wasFree bool) [][]int {
	if n == 0 {
		return [][]int{nil}
	}
	var all [][]int
	for size := 32; size <= n; size += 16 {
		for _, rest := range layouts(n-size, false) {
			all = append(all, append([]int{-size}, rest...))
		}
		if wasFree {
			continue
		}
		for _, rest := range layouts(n-size, true) {
			all = append(all, append([]int{size}, rest...))
		}
	}
	return all
}

// orders tells every order of these.
func orders(l ...int) [][]int {
	if len(l) == 0 {
		return [][]int{nil}
	}
	var all [][]int
	for i, o := range l {
		for _, rest := range orders(slices.Delete(slices.Clone(l), i, i+1)...) {
			all = append(all, append([]int{o}, rest...))
		}
	}
	return all
}

// ways tells which of the four ways can be (1 to 4), for a block of these, the k-th,
// in an arena that is right, and that has no other.
func ways(l []api.Block, k, size, capacity int) []int {
	x := l[k]
	whole, last := x.Size, k == len(l)-1
	if !last && !l[k+1].Used {
		whole, last = whole+l[k+1].Size, k+1 == len(l)-1
	}
	most, end := 0, 184
	for _, y := range l {
		if y.Used {
			end = y.Off + y.Size
		} else {
			most = max(most, y.Size)
		}
	}
	can := []bool{x.Size >= size, whole >= size, last && x.Off+size <= capacity, most >= size || end+size <= capacity}
	var all []int
	for i, ok := range can {
		if ok {
			all = append(all, i+1)
		}
	}
	return all
}

// wayOf tells which way a call that told no error went, as its answer and the
// arena's length show it; 0 of one that told ErrNoMem.
func wayOf(x api.Block, size, place int, grown bool, err error) int {
	switch {
	case err != nil:
		return 0
	case place != x.Off:
		return 4
	case grown:
		return 3
	case x.Size < size:
		return 2
	}
	return 1
}

// P13.1 to P13.3: each used block of every layout to each size, behind which an
// arena of the least capacity has 0 to 80 bytes left to grow by: the first of the
// ways that can be; ErrNoMem just if none can.
func TestEveryLayout(t *testing.T) {
	var went [5]int
	for n := 0; n <= 10*16; n += 16 {
		for i, l := range layouts(n, false) {
			left := 16 * (i % 6)
			l := row(append([]int{n + left - 832}, l...)...)
			b := listed(l)
			for k, x := range l {
				for size := 32; x.Used && size <= n+left+16; size += 16 {
					a := made(t, baseOf(i), 1024, b)
					place, err := wantResize(t, a, x.Off, size)
					way, can := wayOf(x, size, place, a.Len() > len(b), err), ways(l, k, size, 1024)
					if way == 0 && len(can) > 0 || way > 0 && (len(can) == 0 || can[0] != way) {
						t.Fatalf("Resize of %d to %d in %v: way %d, those that can be are %v", x.Off, size, l, way, can)
					}
					if way == 0 {
						wantError(t, "Resize", err, api.ErrNoMem)
					}
					went[way]++
				}
			}
		}
	}
	if slices.Min(went[:]) < 200 {
		t.Errorf("so many calls went each way (0: none): %v", went)
	}
}

// P13.1: of an arena that is as long as may be.
func TestTheLongestArena(t *testing.T) {
	var sizes []int
	for range (16384 - 184) / 64 {
		sizes = append(sizes, -32, 32)
	}
	for i, o := range []int{184, 184 + 64*100, 184 + 64*(len(sizes)/2-1)} {
		a := of(t, baseOf(i), 16384, sizes...)
		resized(t, a.Clone(), o, 48, o)
		resized(t, a.Clone(), o, 64, o)
		_, err := wantResize(t, a, o, 80)
		wantError(t, "Resize", err, api.ErrNoMem)
	}
	a := of(t, 1<<62, 16384, sizes...)
	for i := range len(sizes) / 2 {
		if o, err := Resize(a, 184+64*i, 64); err != nil || o != 184+64*i {
			t.Fatalf("Resize %d tells %d, %v", i, o, err)
		}
	}
	a = of(t, 160, 16384, -32)
	for size := 48; size <= 16192; size += 16 {
		if o, err := Resize(a, 184, size); err != nil || o != 184 || a.Len() != 184+size {
			t.Fatalf("Resize to %d tells %d, %v, and %d bytes", size, o, err, a.Len())
		}
	}
	wantBlocks(t, a, -16192)
	resized(t, a, 184, 32, 184)
	resized(t, a, 184, 16192, 184)
	notResized(t, a, 184, 16208, api.ErrNoMem)
}

// draw is a row of numbers that a rule tells, each from the one ahead of it.
type draw uint32

// next tells a number from 0 to n - 1.
func (d *draw) next(n int) int {
	*d = *d*1664525 + 1013904223
	return int(*d>>8) % n
}

// size tells a size, mostly a small one, or what is none.
func (d *draw) size() int {
	switch d.next(16) {
	case 0:
		return noSizes()[d.next(len(noSizes()))]
	case 1:
		return 16 * (2 + d.next(1023))
	case 2, 3, 4:
		return 16 * (2 + d.next(60))
	}
	return 16 * (2 + d.next(12))
}

// place tells where a block of an arena stands, or one where none does.
func (d *draw) place(t *testing.T, a *arena.Arena) int {
	l := mustWalk(t, a)
	switch d.next(16) {
	case 0:
		return 16*d.next(a.Len()/16+4) - 24
	case 1:
		return far(a.Base())[d.next(len(far(a.Base())))]
	}
	if len(l) == 0 {
		return 184
	}
	return l[d.next(len(l))].Off
}

// fill lays drawn bytes between the tags of a used block.
func (d *draw) fill(t *testing.T, a *arena.Arena, o int) {
	t.Helper()
	x, err := alloc.Used(a, o)
	wantError(t, "Used", err, nil)
	b := make([]byte, x.Size-16)
	for i := range b {
		b[i] = byte(d.next(256))
	}
	wantError(t, "Store", a.Store(a.Base()+uint64(o)+8, b), nil)
}

// beside does a call of layer 12, which is to do what the model does; what was taken
// is filled.
func (d *draw) beside(t *testing.T, a *arena.Arena) {
	t.Helper()
	was, m := stateOf(t, a), modelOf(t, a)
	switch d.next(5) {
	case 0:
		o, size := d.place(t, a), d.size()
		wantErr := m.trim(o, size)
		err := alloc.Trim(a, o, size)
		wantError(t, "Trim", err, wantErr)
		wantModel(t, "Trim", a, m, was, err)
	case 1, 2:
		o := d.place(t, a)
		wantErr := m.give(o)
		err := alloc.Give(a, o)
		wantError(t, "Give", err, wantErr)
		wantModel(t, "Give", a, m, was, err)
	default:
		size := d.size()
		want, wantErr := m.take(size)
		o, err := alloc.Take(a, size)
		wantError(t, "Take", err, wantErr)
		if o != want {
			t.Fatalf("Take of %d tells %d, want %d", size, o, want)
		}
		wantModel(t, "Take", a, m, was, err)
		if err == nil {
			d.fill(t, a, o)
		}
	}
}

// P13.1 to P13.3: drawn rows of calls of Take, Trim, Give and Resize, at any base,
// of any capacity: what is told, and all bytes, agree with the model; what is held
// stays.
func TestDrawnCalls(t *testing.T) {
	d := draw(13)
	var went [5]int
	errs := map[error]int{}
	for i := range 70 {
		a := made(t, baseOf(i), capacities()[i*7%10], make([]byte, 184))
		for range 150 {
			if d.next(2) == 0 {
				d.beside(t, a)
				continue
			}
			o, size, length := d.place(t, a), d.size(), a.Len()
			x, _ := alloc.Used(a, o)
			p, err := wantResize(t, a, o, size)
			if err != nil {
				errs[err]++
				continue
			}
			went[wayOf(x, size, p, a.Len() > length && p == o, nil)]++
			d.fill(t, a, p)
		}
	}
	if slices.Min(went[1:]) < 100 {
		t.Errorf("so many calls went each way: %v", went)
	}
	for _, err := range []error{api.ErrArg, api.ErrForm, api.ErrNoMem} {
		if errs[err] < 100 {
			t.Errorf("%v was told %d times", err, errs[err])
		}
	}
}

// blocks tells a row of blocks, no two free ones side by side.
func (d *draw) blocks() []api.Block {
	sizes := []int{32, 32, 32, 48, 48, 64, 80, 96, 272, 288, 400, 496, 512}
	var l []int
	wasFree := false
	for range d.next(14) {
		size := sizes[d.next(len(sizes))]
		wasFree = !wasFree && d.next(3) > 0
		if !wasFree {
			size = -size
		}
		l = append(l, size)
	}
	return row(l...)
}

// lists lays the free ones of these blocks into lists, in an order that is drawn.
func (d *draw) lists(l []api.Block) []byte {
	b := bare(l)
	for c := range 22 {
		order := falling(l, c)
		for i := range order {
			k := i + d.next(len(order)-i)
			order[i], order[k] = order[k], order[i]
		}
		b = chained(b, c, order...)
	}
	return b
}

// P13.1 to P13.3: each block of drawn arenas, with lists of any order, and with just
// so much room, or more.
func TestDrawnArenas(t *testing.T) {
	d := draw(5)
	var went [5]int
	for i := range 1500 {
		l := d.blocks()
		b := d.lists(l)
		capacity := max(1024, min(16384, len(b)+8*d.next(20)))
		a := made(t, baseOf(i), capacity, b)
		for _, x := range l {
			_, _ = wantResize(t, a.Clone(), x.Off, d.size())
			size := max(32, min(16384, x.Size+16*(d.next(24)-6)))
			c := a.Clone()
			p, err := wantResize(t, c, x.Off, size)
			if x.Used {
				went[wayOf(x, size, p, c.Len() > a.Len(), err)]++
			}
		}
	}
	if slices.Min(went[:]) < 100 {
		t.Errorf("so many calls went each way (0: none): %v", went)
	}
}

// Words: what is told is an offset: the same calls tell the same at every base, and
// all bytes are the same.
func TestTheBaseIsNotAsked(t *testing.T) {
	var first state
	for i, base := range bases() {
		a, d := of(t, base, 2048), draw(7)
		for range 80 {
			size := 16 * (2 + d.next(10))
			if d.next(2) == 0 {
				_, _ = wantResize(t, a, 184+16*d.next(20), size)
			} else if o, err := alloc.Take(a, size); err == nil {
				d.fill(t, a, o)
			}
		}
		s := stateOf(t, a)
		s.base = 0
		if i == 0 {
			first = s
		}
		if s != first {
			t.Fatalf("base %#x: bytes differ from %d on", base, differ(s.all, first.all))
		}
	}
}

// Rule 8: nothing is kept: what is told of one arena hangs on no other.
func TestArenasAreApart(t *testing.T) {
	a, b := of(t, 160, 1024, -32), of(t, 160, 1024, -32, -800)
	c := a.Clone()
	resized(t, a, 184, 64, 184)
	notResized(t, b, 184, 64, api.ErrNoMem)
	resized(t, c, 184, 48, 184)
	wantBlocks(t, a, -64)
	wantBlocks(t, c, -48)
	resized(t, b, 216, 32, 216)
	resized(t, b, 184, 64, 248)
	wantBlocks(t, b, 32, -32, -64, 704)
	resized(t, a, 184, 832, 184)
	wantBlocks(t, c, -48)
}

// ends wants each call to end, at these offsets: it tells a Code, or nil; with an
// error nothing else.
func ends(t *testing.T, base uint64, b []byte, offsets ...int) {
	t.Helper()
	for _, o := range offsets {
		for _, size := range []int{32, 48, 64, 128, 272, 16384, 40} {
			for _, capacity := range []int{max(1024, len(b)), 16384} {
				a := made(t, base, capacity, b)
				p, err := Resize(a, o, size)
				if _, ok := err.(api.Code); err != nil && (!ok || p != 0) {
					t.Fatalf("Resize of %d to %d tells %d, %v", o, size, p, err)
				}
				if size == 40 {
					wantError(t, "Resize", err, api.ErrArg)
				}
				_, _ = Resize(a, o, 64)
				_, _ = Resize(a, p, 96)
			}
		}
	}
}

// P1: arenas that are wrong: each number of lists and tags is made another one.
func TestEachNumberAmiss(t *testing.T) {
	l := row(-48, 32, -64, 272, -32, 32, -96, 400, -32, 48)
	places := []int{184}
	for _, x := range l {
		places = append(places, x.Off)
	}
	var numbers []int
	for o := 0; o < 184; o += 8 {
		numbers = append(numbers, o)
	}
	for _, x := range l {
		numbers = append(numbers, x.Off, x.Off+8, x.Off+16, x.Off+x.Size-8)
	}
	values := []int{0, 1, 32, 33, 48, 192, 16384, 16385, 1<<32 + 184, math.MinInt, endOf(l)}
	for i, o := range numbers {
		for _, v := range append(values, places...) {
			ends(t, baseOf(i), with(listed(l), o, v), places...)
		}
	}
}

// P1: blocks that have bytes in common: the same tag at every place, so that the
// lists are within tags; free ones that are in no list; an end that is amiss.
func TestArenasThatAreWrong(t *testing.T) {
	for _, w := range []uint64{32, 33, 48, 64, 65} {
		for n := 184; n <= 344; n += 8 {
			b := make([]byte, n)
			for o := 184; o+8 <= n; o += 8 {
				put(b, o, w)
			}
			ends(t, 160, b, 184, 200, 216, n)
			for o := 184; o+int(w) <= n; o += 16 {
				a := made(t, 160, 16384, b)
				_ = list.Put(a, o)
				ends(t, 160, []byte(stateOf(t, a).all), 184, 200, 216, n)
			}
		}
	}
	l := row(-32, 32, -64, 32, -32, 48)
	for n := range endOf(l) + 1 {
		ends(t, baseOf(n), listed(l)[:n], 0, 184, 248, 344, n)
		ends(t, baseOf(n), bare(l)[:n], 184, 248, 344, n)
	}
	ends(t, 1<<62, append(listed(l), make([]byte, 16)...), 184, 248)
	ends(t, 1<<62, append(listed(l), make([]byte, 7)...), 184, 248)
}

// P1: bytes that are all alike, of every length about the places that are read.
func TestBytesThatAreAlike(t *testing.T) {
	for _, n := range []int{0, 7, 8, 16, 176, 183, 184, 185, 192, 200, 216, 217, 400, 1024, 16383, 16384} {
		for _, c := range []byte{0, 1, 2, 16, 32, 33, 48, 184, 216, 255} {
			ends(t, baseOf(n), bytes.Repeat([]byte{c}, n), math.MinInt, -8, 0, 184, 200, n, math.MaxInt)
			b := make([]byte, n)
			for o := 0; o+8 <= n; o += 8 {
				put(b, o, uint64(c))
			}
			ends(t, baseOf(n), b, math.MinInt, -8, 0, 184, 200, n, math.MaxInt)
		}
	}
}
