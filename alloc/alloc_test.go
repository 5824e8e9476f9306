package alloc

import (
	"bytes"
	"cantle/api"
	"cantle/arena"
	"cantle/block"
	"cantle/check"
	"cantle/list"
	"math"
	"slices"
	"testing"
)

// bases are those at which an address is near 0, near the greatest, or neither.
func bases() []uint64 {
	return []uint64{0, 16, 160, 192, 1 << 32, 1<<62 - 16, 1 << 62}
}

// baseOf tells the base of the i-th try.
func baseOf(i int) uint64 { return bases()[i%len(bases())] }

// capacities are the least ones, the greatest ones, and some between, be they a
// multiple of 16 or not.
func capacities() []int {
	return []int{1024, 1025, 1039, 1040, 1400, 5000, 8192, 16376, 16383, 16384}
}

// made tells an arena of these bytes.
func made(t *testing.T, base uint64, capacity int, b []byte) *arena.Arena {
	t.Helper()
	a := arena.New(base, capacity)
	if a == nil {
		t.Fatalf("New(%#x, %d) is nil", base, capacity)
	}
	wantError(t, "Grow", a.Grow(len(b)), nil)
	wantError(t, "Store", a.Store(base, b), nil)
	return a
}

// of tells an arena of these blocks, the free ones in lists by falling offsets.
func of(t *testing.T, base uint64, capacity int, sizes ...int) *arena.Arena {
	t.Helper()
	return made(t, base, capacity, listed(row(sizes...)))
}

// state is all that an arena tells of itself.
type state struct {
	base             uint64
	length, capacity int
	all              string
}

func stateOf(t *testing.T, a *arena.Arena) state {
	t.Helper()
	b, err := a.Load(a.Base(), uint64(a.Len()))
	if err != nil || len(b) != a.Len() {
		t.Fatalf("Load of all %d bytes: %d bytes, %v", a.Len(), len(b), err)
	}
	return state{a.Base(), a.Len(), a.Cap(), string(b)}
}

// modelOf tells the model of an arena, which it wants to be right.
func modelOf(t *testing.T, a *arena.Arena) *model {
	t.Helper()
	s := stateOf(t, a)
	if !rightOf([]byte(s.all)) || check.Check(a) != nil {
		t.Fatalf("base %#x, %d bytes: not right ahead of the call", s.base, s.length)
	}
	return &model{[]byte(s.all), s.capacity}
}

// wantError wants the Code itself, so nothing that wraps it.
func wantError(t *testing.T, what string, err, want error) {
	t.Helper()
	if err == nil || want == nil {
		if err != nil || want != nil {
			t.Fatalf("%s: error %v, want %v", what, err, want)
		}
		return
	}
	if err != want {
		t.Fatalf("%s: error %v, want %v", what, err, want)
	}
}

// wantModel wants an arena to be right, and to stand as the model does, at the
// base where it was; with an error as it did ahead of the call.
func wantModel(t *testing.T, what string, a *arena.Arena, m *model, was state, err error) {
	t.Helper()
	got := stateOf(t, a)
	if err != nil && got != was {
		t.Fatalf("%s: error %v, and the arena was changed", what, err)
	}
	if want := (state{was.base, len(m.b), was.capacity, string(m.b)}); got != want {
		t.Fatalf("%s: base %#x, %d bytes of %d, want %#x, %d of %d; bytes differ from %d on", what,
			got.base, got.length, got.capacity, want.base, want.length, want.capacity, differ(got.all, want.all))
	}
	if !rightOf(m.b) || check.Check(a) != nil {
		t.Fatalf("%s: not right behind the call", what)
	}
}

// differ tells from where on two texts differ.
func differ(a, b string) int {
	i := 0
	for i < len(a) && i < len(b) && a[i] == b[i] {
		i++
	}
	return i
}

// wantTake wants Take to tell what the model does, and tells it.
func wantTake(t *testing.T, a *arena.Arena, size int) (int, error) {
	t.Helper()
	was, m := stateOf(t, a), modelOf(t, a)
	want, wantErr := m.take(size)
	o, err := Take(a, size)
	wantError(t, "Take", err, wantErr)
	if o != want {
		t.Fatalf("base %#x: Take of %d tells %d, want %d", was.base, size, o, want)
	}
	wantModel(t, "Take", a, m, was, err)
	return o, err
}

// wantUsed wants Used to tell what the model does, and tells it.
func wantUsed(t *testing.T, a *arena.Arena, o int) (api.Block, error) {
	t.Helper()
	was, m := stateOf(t, a), modelOf(t, a)
	want, wantErr := m.used(o)
	x, err := Used(a, o)
	wantError(t, "Used", err, wantErr)
	if x != want {
		t.Fatalf("base %#x: Used at %d tells %v, want %v", was.base, o, x, want)
	}
	wantModel(t, "Used", a, m, was, err)
	return x, err
}

// wantTrim wants Trim to tell what the model does, and tells it.
func wantTrim(t *testing.T, a *arena.Arena, o, size int) error {
	t.Helper()
	was, m := stateOf(t, a), modelOf(t, a)
	wantErr := m.trim(o, size)
	err := Trim(a, o, size)
	wantError(t, "Trim", err, wantErr)
	wantModel(t, "Trim", a, m, was, err)
	return err
}

// wantGive wants Give to tell what the model does, and tells it.
func wantGive(t *testing.T, a *arena.Arena, o int) error {
	t.Helper()
	was, m := stateOf(t, a), modelOf(t, a)
	wantErr := m.give(o)
	err := Give(a, o)
	wantError(t, "Give", err, wantErr)
	wantModel(t, "Give", a, m, was, err)
	return err
}

// take wants Take to tell this place.
func take(t *testing.T, a *arena.Arena, size, want int) {
	t.Helper()
	o, err := wantTake(t, a, size)
	wantError(t, "Take", err, nil)
	if o != want {
		t.Fatalf("Take of %d tells %d, want %d", size, o, want)
	}
}

// noTake wants Take to tell this error.
func noTake(t *testing.T, a *arena.Arena, size int, want error) {
	t.Helper()
	o, err := wantTake(t, a, size)
	wantError(t, "Take", err, want)
	if o != 0 {
		t.Fatalf("Take of %d: %d with error %v", size, o, err)
	}
}

// trim wants Trim to tell this error, or nil.
func trim(t *testing.T, a *arena.Arena, o, size int, want error) {
	t.Helper()
	wantError(t, "Trim", wantTrim(t, a, o, size), want)
}

// give wants Give to tell no error.
func give(t *testing.T, a *arena.Arena, o int) {
	t.Helper()
	wantError(t, "Give", wantGive(t, a, o), nil)
}

// wantBlocks wants an arena to have just blocks of these sizes; that of a size
// below 0 is used.
func wantBlocks(t *testing.T, a *arena.Arena, sizes ...int) {
	t.Helper()
	l, err := block.Walk(a)
	wantError(t, "Walk", err, nil)
	if !slices.Equal(l, row(sizes...)) {
		t.Fatalf("blocks %v, want %v", l, row(sizes...))
	}
}

// wantList wants a class's list to have just these places, in this order.
func wantList(t *testing.T, a *arena.Arena, c int, want ...int) {
	t.Helper()
	l, err := list.All(a, c)
	wantError(t, "All", err, nil)
	if !slices.Equal(l, want) {
		t.Fatalf("the list of class %d has %v, want %v", c, l, want)
	}
}

// empty tells an arena of Start bytes, all 0: one without blocks.
func empty(t *testing.T, base uint64, capacity int) *arena.Arena {
	t.Helper()
	return made(t, base, capacity, make([]byte, 184))
}

// The chapter's example, at any base, of any capacity.
func TestTheExample(t *testing.T) {
	for _, base := range bases() {
		for _, capacity := range capacities() {
			a := empty(t, base, capacity)
			take(t, a, 32, 184)
			take(t, a, 32, 216)
			give(t, a, 184)
			wantBlocks(t, a, 32, -32)
			take(t, a, 32, 184)
			wantBlocks(t, a, -32, -32)
		}
	}
}

// noSizes are numbers that are no size: all of the first ones, some about those
// that are, and the ends of int.
func noSizes() []int {
	l := []int{math.MinInt, math.MinInt + 32, -1 << 32, -1<<32 + 32, -16384, -1024, -64, -48, -32, -31, -16, -15, -8, -1,
		16383, 16385, 16399, 16400, 16416, 32768, 1 << 31, 1 << 32, 1<<32 + 32, 1 << 40, math.MaxInt - 15, math.MaxInt - 1, math.MaxInt}
	for n := range 1100 {
		if !isSize(n) {
			l = append(l, n)
		}
	}
	return append(l, 8191, 8200, 16184, 16200, 16377)
}

// P12.1: Take of what is no size: ahead of whether there is room.
func TestTakeOfNoSize(t *testing.T) {
	arenas := []*arena.Arena{
		empty(t, 160, 1024), empty(t, 1<<62, 16384), of(t, 0, 1024, -32), of(t, 16, 1024, 32, -48, 64),
		of(t, 1<<62-16, 1024, -832), of(t, 192, 1024, 832), of(t, 192, 1024, -800, 32),
	}
	for _, a := range arenas {
		for _, size := range noSizes() {
			noTake(t, a, size, api.ErrArg)
		}
	}
}

// P12.1: Take of each size, where there are no blocks: the arena grows by just
// that, or can't.
func TestTakeOfEachSize(t *testing.T) {
	for i, capacity := range capacities() {
		for size := 32; size <= 16384; size += 16 {
			if size > 300 && size%(16*31) != 0 && size%1024 > 48 && capacity-184-size > 48 && size < 16000 {
				continue
			}
			a := empty(t, baseOf(i), capacity)
			if 184+size > capacity {
				noTake(t, a, size, api.ErrNoMem)
				wantBlocks(t, a)
				continue
			}
			take(t, a, size, 184)
			wantBlocks(t, a, -size)
		}
	}
}

// P12.1: where the last block is used the arena grows by the whole size, also if
// other ones are free, but have fewer bytes.
func TestTakeBehindAUsedOne(t *testing.T) {
	for i, capacity := range capacities() {
		a := of(t, baseOf(i), capacity, -32)
		take(t, a, 48, 216)
		wantBlocks(t, a, -32, -48)
		a = of(t, baseOf(i), capacity, 32, -32, 48, -64)
		take(t, a, 64, 360)
		wantBlocks(t, a, 32, -32, 48, -64, -64)
		take(t, a, 512, 424)
		wantBlocks(t, a, 32, -32, 48, -64, -64, -512)
		wantList(t, a, 0, 184)
		wantList(t, a, 1, 248)
	}
}

// P12.1: where the last one is free, and has fewer bytes, the arena grows by what
// is more alone, and the block isn't in its list any more.
func TestTakeOfTheLastOne(t *testing.T) {
	for _, base := range bases() {
		a := of(t, base, 1024, 32)
		take(t, a, 48, 184)
		wantBlocks(t, a, -48)
		wantList(t, a, 0)
		a = of(t, base, 1024, -32, 48)
		take(t, a, 512, 216)
		wantBlocks(t, a, -32, -512)
		wantList(t, a, 1)
		a = of(t, base, 1024, 272, -32, 400)
		take(t, a, 416, 488)
		wantBlocks(t, a, 272, -32, -416)
		wantList(t, a, 15, 184)
	}
}

// P12.1: the last one is taken out of its list wherever it stands there.
func TestTakeOfTheLastOneInEveryOrder(t *testing.T) {
	l := row(32, -32, 32, -64, 32, -32, 32)
	for i, order := range orders(falling(l, 0)...) {
		a := made(t, baseOf(i), 1024, chained(bare(l), 0, order...))
		take(t, a, 48, 408)
		wantBlocks(t, a, 32, -32, 32, -64, 32, -32, -48)
		wantList(t, a, 0, slices.DeleteFunc(order, func(o int) bool { return o == 408 })...)
	}
}

// P12.1: a free block of so many bytes, and of more, as the first block, between
// two, and as the last: 16 more, and it stays whole; else what is left is a block
// in its list.
func TestTakeOfAFreeOne(t *testing.T) {
	for i, size := range []int{32, 48, 64, 240, 256, 272, 288, 496, 512} {
		for more := 0; more <= 256; more += 16 {
			n := size + more
			for _, l := range [][]int{{n}, {n, -32}, {-32, n}, {-32, n, -48}} {
				a := of(t, baseOf(i), 2048, l...)
				k := slices.Index(l, n)
				o := row(l...)[k].Off
				take(t, a, size, o)
				if more < 32 {
					wantBlocks(t, a, slices.Replace(slices.Clone(l), k, k+1, -n)...)
					wantList(t, a, classOf(n))
					continue
				}
				wantBlocks(t, a, slices.Replace(slices.Clone(l), k, k+1, -size, more)...)
				wantList(t, a, classOf(more), o+size)
			}
		}
	}
}

// P12.1: Take goes on where a free one was cut, till it is used up, and then
// behind it.
func TestTakeAgainAndAgain(t *testing.T) {
	a := of(t, 1<<62, 1024, 272, -32)
	take(t, a, 64, 184)
	take(t, a, 96, 248)
	take(t, a, 80, 344)
	wantBlocks(t, a, -64, -96, -80, 32, -32)
	take(t, a, 48, 488)
	take(t, a, 32, 424)
	take(t, a, 32, 536)
	wantBlocks(t, a, -64, -96, -80, -32, -32, -48, -32)
}

// P12.1: the first that has so many bytes is of a greater class, of each one; what
// is left of it goes to another class, or to none.
func TestTakeOfAGreaterClass(t *testing.T) {
	for c, least := range leasts() {
		if least > 8192 {
			continue
		}
		for k, size := range leasts()[:c] {
			a := of(t, baseOf(k), 16384, -32, least, -32)
			take(t, a, size, 216)
			if least-size < 32 {
				wantBlocks(t, a, -32, -least, -32)
			} else {
				wantBlocks(t, a, -32, -size, least-size, -32)
			}
			wantList(t, a, c, falling(mustWalk(t, a), c)...)
		}
	}
}

// mustWalk tells all blocks of an arena.
func mustWalk(t *testing.T, a *arena.Arena) []api.Block {
	t.Helper()
	l, err := block.Walk(a)
	wantError(t, "Walk", err, nil)
	return l
}

// P12.1: of one class the first in its list that has so many bytes, in whatever
// order; where none of its own class has, the first of the next one.
func TestTakeOfTheFirst(t *testing.T) {
	l := row(272, -32, 400, -32, 496, -32, 336, -32, 512, -32)
	sizes := map[int]int{}
	for _, x := range l {
		sizes[x.Off] = x.Size
	}
	for i, order := range orders(falling(l, 15)...) {
		b := chained(chained(bare(l), 15, order...), 16, falling(l, 16)...)
		for _, size := range []int{32, 256, 272, 288, 336, 352, 400, 416, 496, 512} {
			want := falling(l, 16)[0]
			for _, o := range slices.Backward(order) {
				if sizes[o] >= size {
					want = o
				}
			}
			take(t, made(t, baseOf(i), 4096, b), size, want)
		}
	}
}

// P12.1, P12.4: ErrNoMem of an arena that is full, of one that lacks 16 bytes, or
// more; that has a last free block, which is too small; or a free one elsewhere.
func TestNoMem(t *testing.T) {
	rows := []struct {
		capacity, size int
		blocks         []int
	}{
		{1024, 32, []int{-832}}, {1024, 16384, []int{-832}}, {1040, 32, []int{-848}}, {1400, 32, []int{-1216}}, {16384, 32, []int{-16192}},
		{1024, 32, []int{-816}}, {1024, 32, []int{-32, -784}}, {1024, 48, []int{-800}}, {1024, 48, []int{-32, 32, -736}},
		{1024, 64, []int{-800, 32}}, {1024, 64, []int{-784, 48}}, {1024, 64, []int{-784, 32}}, {1024, 848, []int{832}}, {1024, 848, []int{32}},
		{1024, 848, nil}, {1024, 16384, nil}, {16384, 16208, nil}, {16384, 16384, nil}, {16384, 16384, []int{16192}},
		{1024, 80, []int{64, -640, 64, -32, 32}}, {1024, 272, []int{256, -32, 256, -32, 256}},
		{1024, 288, []int{272, -32, 272, -224, 32}}, {1031, 48, []int{-800, 32}},
	}
	for i, r := range rows {
		a := of(t, baseOf(i), r.capacity, r.blocks...)
		noTake(t, a, r.size, api.ErrNoMem)
		wantBlocks(t, a, r.blocks...)
	}
}

// P12.1, P12.4: up to the last byte: what ErrNoMem is told of, less 16 bytes, or
// with a capacity that has 16 more, is there.
func TestUpToTheCapacity(t *testing.T) {
	for i, capacity := range capacities() {
		n := (capacity - 184) / 16 * 16
		for _, last := range []int{0, 32, 48, 64, 256} {
			sizes := []int{-320}
			if last > 0 {
				sizes = append(sizes, last)
			}
			a := of(t, baseOf(i), capacity, sizes...)
			noTake(t, a, n-320+16, api.ErrNoMem)
			take(t, a.Clone(), n-320, 504)
			take(t, a.Clone(), n-336, 504)
			if capacity+16 <= 16384 {
				wantError(t, "Widen", a.Widen(capacity+16), nil)
				take(t, a, n-320+16, 504)
				wantBlocks(t, a, -320, -(n - 320 + 16))
			}
		}
	}
}

// P12.1: the capacity alone tells how far the arena grows.
func TestTheCapacityIsAsked(t *testing.T) {
	a := of(t, 160, 1024, -800, 32)
	for _, capacity := range []int{1024, 1025, 1030, 1031} {
		wantError(t, "Widen", a.Widen(capacity), nil)
		noTake(t, a, 48, api.ErrNoMem)
	}
	wantError(t, "Widen", a.Widen(1032), nil)
	take(t, a, 48, 984)
	noTake(t, a, 32, api.ErrNoMem)
	wantError(t, "Widen", a.Widen(16384), nil)
	take(t, a, 32, 1032)
	wantBlocks(t, a, -800, -48, -32)
}

// fakes tells the blocks that are within others: a used and a free one within a
// used one, the same within a free one, and one that begins within a block and
// ends within the next.
func fakes() []api.Block {
	return []api.Block{
		{Off: 200, Size: 64, Used: true}, {Off: 280, Size: 32},
		{Off: 376, Size: 64, Used: true}, {Off: 456, Size: 32},
		{Off: 520, Size: 112, Used: true}, {Off: 664, Size: 96},
	}
}

// withFakes tells bytes of blocks that have others within.
func withFakes() ([]api.Block, []byte) {
	l := row(-160, 192, -64, -96, 112, -32, 32, -48)
	return l, tagged(listed(l), fakes()...)
}

// far are offsets far from an arena's bytes; some mean the address of a block, if
// a sum wraps round, or bits are lost.
func far(base uint64) []int {
	l := []int{math.MinInt, math.MinInt + 1, math.MinInt + 184, math.MinInt + 16, -1 << 32, -1<<32 + 184, 1<<32 + 184, 1 << 32, 1 << 16, 1<<16 + 184, 16384, 16568}
	l = append(l, math.MaxInt, math.MaxInt-1, math.MaxInt-7, math.MaxInt-15, math.MaxInt-31, math.MaxInt-183)
	for _, o := range []int{0, 184, 344} {
		l = append(l, -o, int(base)+o, o-int(base), -int(base)-o, o+math.MinInt)
	}
	return slices.DeleteFunc(l, func(o int) bool { return o >= 184 && o < 1024 })
}

// P12.2: Used, Trim and Give, at each offset: ahead of Start, at each block, within
// each, at Len and behind it; and far from there. ErrForm but at the used ones.
func TestEachOffset(t *testing.T) {
	l, b := withFakes()
	for i, base := range bases() {
		a := made(t, base, capacities()[i], b)
		isUsed := map[int]bool{}
		for _, x := range l {
			isUsed[x.Off] = x.Used
		}
		offsets := far(base)
		for o := -40; o < len(b)+200; o++ {
			offsets = append(offsets, o)
		}
		for _, o := range offsets {
			if !isUsed[o] {
				wantNoneAt(t, a, o)
				continue
			}
			x, err := wantUsed(t, a, o)
			wantError(t, "Used", err, nil)
			if k := slices.Index(l, x); k < 0 || x.Off != o {
				t.Fatalf("Used at %d tells %v", o, x)
			}
			trim(t, a.Clone(), o, 32, nil)
			give(t, a.Clone(), o)
		}
	}
}

// wantNoneAt wants Used, Trim and Give to tell ErrForm at o, and no change.
func wantNoneAt(t *testing.T, a *arena.Arena, o int) {
	t.Helper()
	was := stateOf(t, a)
	x, err := Used(a, o)
	wantError(t, "Used", err, api.ErrForm)
	if x != (api.Block{}) {
		t.Fatalf("Used at %d tells %v with error %v", o, x, err)
	}
	for _, size := range []int{32, 64, 16384} {
		wantError(t, "Trim", Trim(a, o, size), api.ErrForm)
	}
	wantError(t, "Trim", Trim(a, o, 40), api.ErrArg)
	wantError(t, "Give", Give(a, o), api.ErrForm)
	if stateOf(t, a) != was {
		t.Fatalf("base %#x: a call at %d changed the arena", was.base, o)
	}
}

// P12.2: the same of arenas that have no used block at all.
func TestEachOffsetWhereNoneIsUsed(t *testing.T) {
	for i, base := range bases() {
		arenas := []*arena.Arena{empty(t, base, capacities()[i]), of(t, base, 1024, 32), of(t, base, 1024, 832)}
		for _, a := range arenas {
			for _, o := range far(base) {
				wantNoneAt(t, a, o)
			}
			for o := -40; o < a.Len()+40; o += 8 {
				wantNoneAt(t, a, o)
			}
		}
	}
}

// P12.2: what was given is none any more; what is left of a block that was cut
// isn't a used one.
func TestWhatIsGone(t *testing.T) {
	a := of(t, 160, 1024, -32, -96, -32)
	give(t, a, 184)
	wantNoneAt(t, a, 184)
	give(t, a, 216)
	wantNoneAt(t, a, 216)
	wantNoneAt(t, a, 184)
	take(t, a, 128, 184)
	trim(t, a, 184, 32, nil)
	wantNoneAt(t, a, 216)
	give(t, a, 184)
	give(t, a, 312)
	wantNoneAt(t, a, 312)
	wantBlocks(t, a, 160)
}

// P12.2: Trim to no size: ahead of whether there is such a block.
func TestTrimToNoSize(t *testing.T) {
	a := of(t, 1<<62, 1024, -832)
	for _, size := range noSizes() {
		trim(t, a, 184, size, api.ErrArg)
		trim(t, a, 200, size, api.ErrArg)
		trim(t, a, math.MinInt, size, api.ErrArg)
	}
}

// P12.2: Trim of a block to each size, beside each kind of neighbour: more than it
// has is ErrForm; just as many, or 16 fewer, and it stays, even with a free one
// right behind.
func TestTrimToEachSize(t *testing.T) {
	rows := [][2][]int{
		{nil, nil}, {nil, {-48}}, {nil, {48}}, {nil, {64, -32}}, {nil, {-32, 32}},
		{{-32}, nil}, {{32}, nil}, {{64}, {-32}}, {{32}, {32}}, {{-48}, {272, -32}}, {{-32, 64}, {64, -32, 64}},
	}
	for i, r := range rows {
		for _, n := range []int{32, 48, 64, 128, 288} {
			l := append(append(slices.Clone(r[0]), -n), r[1]...)
			for size := 32; size <= n+64; size += 16 {
				a := of(t, baseOf(i), 1024, l...)
				wantTrimmed(t, a, r[0], n, r[1], size)
			}
			trim(t, of(t, baseOf(i), 1024, l...), row(l...)[len(r[0])].Off, 16384, api.ErrForm)
		}
	}
}

// wantTrimmed wants Trim to tell what the chapter says of a block of n bytes that
// stands between others.
func wantTrimmed(t *testing.T, a *arena.Arena, ahead []int, n int, behind []int, size int) {
	t.Helper()
	o := endOf(row(ahead...))
	if size > n {
		trim(t, a, o, size, api.ErrForm)
		return
	}
	trim(t, a, o, size, nil)
	left := n - size
	switch {
	case left < 32:
		wantBlocks(t, a, slices.Concat(ahead, []int{-n}, behind)...)
	case len(behind) > 0 && behind[0] > 0:
		wantBlocks(t, a, slices.Concat(ahead, []int{-size, left + behind[0]}, behind[1:])...)
		wantFirst(t, a, o+size, left+behind[0])
	default:
		wantBlocks(t, a, slices.Concat(ahead, []int{-size, left}, behind)...)
		wantFirst(t, a, o+size, left)
	}
}

// wantFirst wants a free block of this size to be the first of its list.
func wantFirst(t *testing.T, a *arena.Arena, o, size int) {
	t.Helper()
	l, err := list.All(a, classOf(size))
	wantError(t, "All", err, nil)
	if len(l) == 0 || l[0] != o {
		t.Fatalf("the list of class %d has %v, want %d as the first", classOf(size), l, o)
	}
}

// P12.2: Trim again and again, by 16 and by 32 bytes.
func TestTrimAgain(t *testing.T) {
	a := of(t, 160, 1024, -32, -256, -32)
	trim(t, a, 216, 240, nil)
	wantBlocks(t, a, -32, -256, -32)
	trim(t, a, 216, 224, nil)
	wantBlocks(t, a, -32, -224, 32, -32)
	trim(t, a, 216, 224, nil)
	trim(t, a, 216, 240, api.ErrForm)
	trim(t, a, 216, 208, nil)
	wantBlocks(t, a, -32, -224, 32, -32)
	for n := 192; n >= 32; n -= 32 {
		trim(t, a, 216, n, nil)
		wantBlocks(t, a, -32, -n, 256-n, -32)
	}
	trim(t, a, 216, 16, api.ErrArg)
}

// P12.2: Give of a block beside each kind of neighbours, at the first, at the last
// and between others: the whole is the first of its list, and they are in none.
func TestGive(t *testing.T) {
	rows := []struct{ ahead, behind, want []int }{
		{nil, nil, []int{64}},
		{nil, []int{-32}, []int{64, -32}},
		{nil, []int{32}, []int{96}},
		{nil, []int{32, -32}, []int{96, -32}},
		{[]int{-48}, nil, []int{-48, 64}},
		{[]int{48}, nil, []int{112}},
		{[]int{-32, 48}, nil, []int{-32, 112}},
		{[]int{-48}, []int{-32}, []int{-48, 64, -32}},
		{[]int{-48}, []int{32}, []int{-48, 96}},
		{[]int{48}, []int{-32}, []int{112, -32}},
		{[]int{48}, []int{32}, []int{144}},
		{[]int{64, -32}, []int{-32, 64}, []int{64, -32, 64, -32, 64}},
		{[]int{-32, 64}, []int{64, -32}, []int{-32, 192, -32}},
		{[]int{-32, 272}, []int{496, -32}, []int{-32, 832, -32}},
		{[]int{64, -32, 64}, []int{64, -48, 64}, []int{64, -32, 192, -48, 64}},
		{[]int{32, -32, 48}, []int{-64, 32}, []int{32, -32, 112, -64, 32}},
	}
	for i, r := range rows {
		a := of(t, baseOf(i), 2048, slices.Concat(r.ahead, []int{-64}, r.behind)...)
		o := endOf(row(r.ahead...))
		n := len(stateOf(t, a).all)
		give(t, a, o)
		wantBlocks(t, a, r.want...)
		if a.Len() != n {
			t.Errorf("Give made %d bytes of %d", a.Len(), n)
		}
		whole := 64
		if k := len(r.ahead); k > 0 && r.ahead[k-1] > 0 {
			whole, o = whole+r.ahead[k-1], o-r.ahead[k-1]
		}
		if len(r.behind) > 0 && r.behind[0] > 0 {
			whole += r.behind[0]
		}
		wantFirst(t, a, o, whole)
	}
}

// P12.2: the neighbours are taken out of their list wherever they stand there.
func TestGiveInEveryOrder(t *testing.T) {
	l := row(32, -32, 32, -32, 32, -32, 32)
	for i, order := range orders(falling(l, 0)...) {
		for _, x := range l {
			if !x.Used {
				continue
			}
			a := made(t, baseOf(i), 1024, chained(bare(l), 0, order...))
			give(t, a, x.Off)
			wantList(t, a, 4, x.Off-32)
			wantList(t, a, 0, slices.DeleteFunc(slices.Clone(order), func(o int) bool { return o == x.Off-32 || o == x.Off+32 })...)
		}
	}
}

// P12.2, P12.3: whatever is in the list, what Trim cuts off is one with the free
// block behind it.
func TestTrimInEveryOrder(t *testing.T) {
	l := row(32, -32, 32, -96, 32, -32, 32)
	for i, order := range orders(falling(l, 0)...) {
		a := made(t, baseOf(i), 1024, chained(bare(l), 0, order...))
		trim(t, a, 280, 64, nil)
		wantBlocks(t, a, 32, -32, 32, -64, 64, -32, 32)
		wantList(t, a, 2, 344)
		wantList(t, a, 0, slices.DeleteFunc(slices.Clone(order), func(o int) bool { return o == 376 })...)
	}
}

// P12.2: a used block may hold anything, also what looks like a tag of its
// neighbour's: Give and Trim ask none of it.
func TestWhatABlockHoldsIsNotAsked(t *testing.T) {
	for i, w := range []uint64{0, 1, 32, 33, 48, 49, 64, 65, 184, 216, 1<<64 - 1} {
		b := listed(row(-96, -96, -96))
		for _, x := range row(-96, -96, -96) {
			for o := x.Off + 8; o < x.Off+x.Size-8; o += 8 {
				put(b, o, w)
			}
		}
		for _, o := range []int{184, 280, 376} {
			a := made(t, baseOf(i), 1024, b)
			give(t, a.Clone(), o)
			trim(t, a.Clone(), o, 64, nil)
			trim(t, a.Clone(), o, 32, nil)
			take(t, a, 48, 472)
			for _, size := range []int{32, 48, 64, 80, 96} {
				_ = wantTrim(t, a.Clone(), o, size)
			}
		}
	}
}

// P12.2, P12.3: what used blocks hold stays, whatever is taken, cut and given about
// them; of the one that is cut what it keeps.
func TestWhatIsHeldStays(t *testing.T) {
	a := empty(t, 160, 1024)
	h := held{}
	for i, size := range []int{96, 32, 128, 48, 256} {
		o, err := wantTake(t, a, size)
		wantError(t, "Take", err, nil)
		h.fill(t, a, o, byte(i+1))
	}
	trim(t, a, 312, 64, nil)
	h[312] = h[312][:48]
	h.want(t, a)
	give(t, a, 184)
	delete(h, 184)
	h.want(t, a)
	give(t, a, 280)
	delete(h, 280)
	h.want(t, a)
	take(t, a, 64, 376)
	h.want(t, a)
	take(t, a, 32, 184)
	h.want(t, a)
}

// held tells what used blocks hold: the bytes between their tags, by where they
// stand.
type held map[int][]byte

// fill lays bytes between the tags of a used block.
func (h held) fill(t *testing.T, a *arena.Arena, o int, c byte) {
	t.Helper()
	x, err := wantUsed(t, a, o)
	wantError(t, "Used", err, nil)
	h[o] = bytes.Repeat([]byte{c, c ^ 255}, x.Size/2-8)
	wantError(t, "Store", a.Store(a.Base()+uint64(o)+8, h[o]), nil)
}

// want wants all of it to be there, and just these blocks to be used.
func (h held) want(t *testing.T, a *arena.Arena) {
	t.Helper()
	for o, b := range h {
		got, err := a.Load(a.Base()+uint64(o)+8, uint64(len(b)))
		wantError(t, "Load", err, nil)
		if !bytes.Equal(got, b) {
			t.Fatalf("the block at %d holds %v, want %v", o, got, b)
		}
		if x, err := Used(a, o); err != nil || x.Size < len(b)+16 {
			t.Fatalf("Used at %d tells %v, %v, want %d bytes", o, x, err, len(b)+16)
		}
	}
}

// layouts tells each row of sizes that has just n bytes, used and free in every
// way, but no two free ones side by side.
func layouts(n int, wasFree bool) [][]int {
	if n == 0 {
		return [][]int{nil}
	}
	var all [][]int
	for size := 32; size <= n; size += 16 {
		for _, rest := range layouts(n-size, false) {
			all = append(all, append([]int{-size}, rest...))
		}
		if wasFree {
			continue
		}
		for _, rest := range layouts(n-size, true) {
			all = append(all, append([]int{size}, rest...))
		}
	}
	return all
}

// orders tells every order of these.
func orders(l ...int) [][]int {
	if len(l) == 0 {
		return [][]int{nil}
	}
	var all [][]int
	for i, o := range l {
		for _, rest := range orders(slices.Delete(slices.Clone(l), i, i+1)...) {
			all = append(all, append([]int{o}, rest...))
		}
	}
	return all
}

// P12.2, P12.3: Trim and Give at each block of every layout.
func TestGiveAndTrimOfEveryLayout(t *testing.T) {
	count := 0
	for n := 0; n <= 11*16; n += 16 {
		for i, l := range layouts(n, false) {
			b := listed(row(l...))
			for _, x := range row(l...) {
				_ = wantGive(t, made(t, baseOf(i), 1024, b), x.Off)
				_, _ = wantUsed(t, made(t, baseOf(i), 1024, b), x.Off)
				for size := 32; size <= x.Size+16; size += 16 {
					_ = wantTrim(t, made(t, baseOf(i), 1024, b), x.Off, size)
					count++
				}
			}
		}
	}
	if count < 5000 {
		t.Errorf("%d blocks were cut", count)
	}
}

// P12.1, P12.4: Take of each size from every layout, behind which an arena of the
// least capacity has 0 to 80 bytes left to grow by: ErrNoMem just if no free block
// has so many bytes, and the last used one is followed by fewer.
func TestTakeOfEveryLayout(t *testing.T) {
	refused, grown, found := 0, 0, 0
	for n := 0; n <= 9*16; n += 16 {
		for i, l := range layouts(n, false) {
			left := 16 * (i % 6)
			l := append([]int{n + left - 832}, l...)
			most, room := roomOf(row(l...), 1024)
			b := listed(row(l...))
			for size := 32; size <= n+left+16; size += 16 {
				a := made(t, baseOf(i), 1024, b)
				_, err := wantTake(t, a, size)
				if (err != nil) != (most < size && room < size) {
					t.Fatalf("Take of %d from %v: %v, the greatest free one has %d, at the end %d are left", size, l, err, most, room)
				}
				switch {
				case err != nil:
					wantError(t, "Take", err, api.ErrNoMem)
					refused++
				case a.Len() > len(b):
					grown++
				default:
					found++
				}
			}
		}
	}
	if min(refused, grown, found) < 200 {
		t.Errorf("%d were refused, %d grew, %d were found", refused, grown, found)
	}
}

// roomOf tells how many bytes the greatest free block has, and how many there are
// from the last used one's end to the capacity.
func roomOf(l []api.Block, capacity int) (most, room int) {
	end := 184
	for _, x := range l {
		if x.Used {
			end = x.Off + x.Size
		} else {
			most = max(most, x.Size)
		}
	}
	return most, capacity - end
}

// P12.2: all is given, in every order: one free block is left, of all bytes; and
// all that the capacity has, but Start and what is no multiple of 16, is taken at
// once.
func TestAllGiven(t *testing.T) {
	places := []int{184, 216, 264, 328, 600}
	for i, order := range orders(places...) {
		a := of(t, baseOf(i), capacities()[i%10], -32, -48, -64, -272, -32)
		for _, o := range order {
			give(t, a, o)
		}
		wantBlocks(t, a, 448)
		all := (a.Cap() - 184) / 16 * 16
		noTake(t, a, all+16, api.ErrNoMem)
		take(t, a, all, 184)
		wantBlocks(t, a, -all)
	}
}

// P12.1 to P12.3: as many blocks as an arena may have; each second one is given,
// then the others, and all are taken again.
func TestTheLongestArena(t *testing.T) {
	a := empty(t, 1<<62, 16384)
	n := 0
	for ; 184+32*(n+1) <= 16384; n++ {
		if o, err := Take(a, 32); err != nil || o != 184+32*n {
			t.Fatalf("Take %d tells %d, %v", n, o, err)
		}
	}
	noTake(t, a, 32, api.ErrNoMem)
	for i := 1; i < n; i += 2 {
		wantError(t, "Give", Give(a, 184+32*i), nil)
	}
	noTake(t, a, 64, api.ErrNoMem)
	give(t, a.Clone(), 184+32*100)
	take(t, a, 32, 184+32*(n-n%2-1))
	give(t, a, 184+32*(n-n%2-1))
	for i := 0; i < n; i += 2 {
		wantError(t, "Give", Give(a, 184+32*i), nil)
	}
	wantBlocks(t, a, 32*n)
	take(t, a, 32*n, 184)
}

// draw is a row of numbers that a rule tells, each from the one ahead of it.
type draw uint32

// next tells a number from 0 to n - 1.
func (d *draw) next(n int) int {
	*d = *d*1664525 + 1013904223
	return int(*d>>8) % n
}

// size tells a size, mostly a small one, or what is none.
func (d *draw) size() int {
	switch d.next(16) {
	case 0:
		return noSizes()[d.next(len(noSizes()))]
	case 1, 2:
		return 16 * (2 + d.next(1023))
	case 3, 4, 5:
		return 16 * (2 + d.next(60))
	}
	return 16 * (2 + d.next(12))
}

// place tells where a block of an arena stands, or one where none does.
func (d *draw) place(t *testing.T, a *arena.Arena) int {
	l := mustWalk(t, a)
	switch d.next(12) {
	case 0:
		return 16*d.next(a.Len()/16+4) - 24
	case 1:
		return far(a.Base())[d.next(len(far(a.Base())))]
	}
	if len(l) == 0 {
		return 184
	}
	return l[d.next(len(l))].Off
}

// call does a call, and tells of which kind it was, and whether it told no error.
func (d *draw) call(t *testing.T, a *arena.Arena, h held) (string, bool) {
	switch k := d.next(9); {
	case k < 4:
		o, err := wantTake(t, a, d.size())
		if err == nil {
			h.fill(t, a, o, byte(d.next(256)))
		}
		return "Take", err == nil
	case k < 5:
		_, err := wantUsed(t, a, d.place(t, a))
		return "Used", err == nil
	case k < 6:
		o := d.place(t, a)
		size := d.size()
		err := wantTrim(t, a, o, size)
		if err == nil {
			h[o] = h[o][:min(len(h[o]), size-16)]
		}
		return "Trim", err == nil
	}
	o := d.place(t, a)
	err := wantGive(t, a, o)
	if err == nil {
		delete(h, o)
	}
	return "Give", err == nil
}

// P12.1 to P12.4: drawn rows of calls, at any base, of any capacity: what is told,
// and all bytes, agree with the model; what is held stays; ErrNoMem comes just if
// there is no room.
func TestDrawnCalls(t *testing.T) {
	d := draw(12)
	done, failed := map[string]int{}, map[string]int{}
	for i := range 70 {
		a, h := empty(t, baseOf(i), capacities()[i*7%10]), held{}
		for range 150 {
			if kind, ok := d.call(t, a, h); ok {
				done[kind]++
			} else {
				failed[kind]++
			}
			h.want(t, a)
			if n := len(slices.DeleteFunc(mustWalk(t, a), func(x api.Block) bool { return !x.Used })); n != len(h) {
				t.Fatalf("%d blocks are used, want %d", n, len(h))
			}
			most, room := roomOf(mustWalk(t, a), a.Cap())
			o, err := Take(a.Clone(), 96)
			if (err != nil) != (most < 96 && room < 96) {
				t.Fatalf("Take of 96 tells %d, %v, the greatest free one has %d, at the end %d are left", o, err, most, room)
			}
		}
	}
	for _, kind := range []string{"Take", "Used", "Trim", "Give"} {
		if done[kind] < 150 || failed[kind] < 50 {
			t.Errorf("%s: %d were done, %d failed", kind, done[kind], failed[kind])
		}
	}
}

// blocks tells a row of blocks, no two free ones side by side.
func (d *draw) blocks() []api.Block {
	sizes := []int{32, 32, 32, 48, 48, 64, 80, 96, 272, 288, 400, 496, 512}
	var l []int
	wasFree := false
	for range d.next(14) {
		size := sizes[d.next(len(sizes))]
		wasFree = !wasFree && d.next(3) > 0
		if !wasFree {
			size = -size
		}
		l = append(l, size)
	}
	return row(l...)
}

// lists lays the free ones of these blocks into lists, in an order that is drawn.
func (d *draw) lists(l []api.Block) []byte {
	b := bare(l)
	for c := range 22 {
		order := falling(l, c)
		for i := range order {
			k := i + d.next(len(order)-i)
			order[i], order[k] = order[k], order[i]
		}
		b = chained(b, c, order...)
	}
	return b
}

// P12.1 to P12.3: each call on drawn arenas, with lists of any order, and with just
// so much room, or more.
func TestDrawnArenas(t *testing.T) {
	d := draw(3)
	for i := range 1500 {
		l := d.blocks()
		b := d.lists(l)
		capacity := max(1024, min(16384, len(b)+8*d.next(20)))
		a := made(t, baseOf(i), capacity, b)
		_, _ = wantTake(t, a.Clone(), d.size())
		_, _ = wantTake(t, a.Clone(), 16*(2+d.next(6)))
		for _, x := range l {
			_ = wantGive(t, a.Clone(), x.Off)
			_ = wantTrim(t, a.Clone(), x.Off, 16*(2+d.next(x.Size/16)))
		}
	}
}

// Words: what is told is an offset: the same calls tell the same at every base, and
// all bytes are the same.
func TestTheBaseIsNotAsked(t *testing.T) {
	var first state
	for i, base := range bases() {
		a, h, d := empty(t, base, 2048), held{}, draw(7)
		for range 80 {
			switch d.next(3) {
			case 0:
				_ = wantGive(t, a, 184+16*d.next(20))
			case 1:
				_ = wantTrim(t, a, 184+16*d.next(20), 32)
			default:
				o, err := wantTake(t, a, 16*(2+d.next(10)))
				if err == nil {
					h.fill(t, a, o, byte(d.next(256)))
				}
			}
		}
		s := stateOf(t, a)
		s.base = 0
		if i == 0 {
			first = s
		}
		if s != first {
			t.Fatalf("base %#x: bytes differ from %d on", base, differ(s.all, first.all))
		}
	}
}

// Rule 8: nothing is kept: what is told of one arena hangs on no other.
func TestArenasAreApart(t *testing.T) {
	a, b := empty(t, 160, 1024), of(t, 160, 1024, -832)
	take(t, a, 32, 184)
	noTake(t, b, 32, api.ErrNoMem)
	c := a.Clone()
	take(t, a, 48, 216)
	take(t, c, 64, 216)
	give(t, b, 184)
	wantBlocks(t, a, -32, -48)
	wantBlocks(t, b, 832)
	wantBlocks(t, c, -32, -64)
	give(t, c, 184)
	wantBlocks(t, a, -32, -48)
	noTake(t, a, 784, api.ErrNoMem)
	take(t, b, 784, 184)
}

// ends wants every call to end, at all blocks that an arena seems to have, and
// elsewhere: it tells a Code, or nil; with an error nothing else.
func ends(t *testing.T, base uint64, b []byte, offsets ...int) {
	t.Helper()
	wants := func(what string, err error, none bool) {
		if _, ok := err.(api.Code); err != nil && (!ok || !none) {
			t.Fatalf("%s: error %v, and nothing else: %t", what, err, none)
		}
	}
	for _, size := range []int{32, 48, 128, 16384, 40} {
		a := made(t, base, 16384, b)
		o, err := Take(a, size)
		wants("Take", err, o == 0)
	}
	for _, o := range offsets {
		a := made(t, base, 16384, b)
		x, err := Used(a, o)
		wants("Used", err, x == api.Block{})
		wants("Trim", Trim(a, o, 32), true)
		wants("Give", Give(a, o), true)
		_, err = Take(a, 64)
		wants("Take", err, true)
	}
}

// P1: arenas that are wrong: each number of lists and tags is made another one.
func TestEachNumberAmiss(t *testing.T) {
	l := row(32, -64, 272, -32, 32, -96, 400, -32, 48)
	places := []int{184}
	for _, x := range l {
		places = append(places, x.Off)
	}
	var numbers []int
	for o := 0; o < 184; o += 8 {
		numbers = append(numbers, o)
	}
	for _, x := range l {
		numbers = append(numbers, x.Off, x.Off+8, x.Off+16, x.Off+x.Size-8)
	}
	values := []int{0, 1, 32, 33, 48, 184, 192, 200, 16384, 16385, 1<<32 + 184, -1, math.MinInt, endOf(l)}
	for i, o := range numbers {
		for _, v := range append(values, places...) {
			ends(t, baseOf(i), with(listed(l), o, v), places...)
		}
	}
}

// P1: blocks that have bytes in common: the same tag at every place, so that the
// lists are within tags; free ones that are in no list; an end that is amiss.
func TestArenasThatAreWrong(t *testing.T) {
	for _, w := range []uint64{32, 33, 48, 64, 65} {
		for n := 184; n <= 344; n += 8 {
			b := make([]byte, n)
			for o := 184; o+8 <= n; o += 8 {
				put(b, o, w)
			}
			ends(t, 160, b, 184, 200, 216, n)
			for o := 184; o+int(w) <= n; o += 16 {
				a := made(t, 160, 16384, b)
				_ = list.Put(a, o)
				ends(t, 160, []byte(stateOf(t, a).all), 184, 200, 216, n)
			}
		}
	}
	l := row(32, -64, 32, -32, 48)
	for n := range endOf(l) + 1 {
		ends(t, baseOf(n), listed(l)[:n], 0, 184, 216, 280, n)
		ends(t, baseOf(n), bare(l)[:min(n, endOf(l))], 184, 216, n)
	}
	ends(t, 1<<62, append(listed(l), make([]byte, 16)...), 184, 216)
	ends(t, 1<<62, append(listed(l), make([]byte, 7)...), 184, 216)
}

// P1: bytes that are all alike, of every length about the places that are read.
func TestBytesThatAreAlike(t *testing.T) {
	for _, n := range []int{0, 7, 8, 16, 176, 183, 184, 185, 192, 200, 216, 217, 400, 1024, 16383, 16384} {
		for _, c := range []byte{0, 1, 2, 16, 32, 33, 48, 184, 216, 255} {
			ends(t, baseOf(n), bytes.Repeat([]byte{c}, n), math.MinInt, -8, 0, 184, 200, n, math.MaxInt)
			b := make([]byte, n)
			for o := 0; o+8 <= n; o += 8 {
				put(b, o, uint64(c))
			}
			ends(t, baseOf(n), b, math.MinInt, -8, 0, 184, 200, n, math.MaxInt)
		}
	}
}
