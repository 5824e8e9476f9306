package check

import (
	"bytes"
	"cantle/api"
	"cantle/arena"
	"cantle/block"
	"cantle/fit"
	"cantle/list"
	"encoding/binary"
	"slices"
	"testing"
)

// bases are those at which an address is near 0, near the greatest, or neither.
func bases() []uint64 {
	return []uint64{0, 16, 160, 192, 1 << 32, 1<<62 - 16, 1 << 62}
}

// baseOf tells the base of the i-th try.
func baseOf(i int) uint64 { return bases()[i%len(bases())] }

// made tells an arena of these bytes.
func made(t *testing.T, base uint64, b []byte) *arena.Arena {
	t.Helper()
	a := arena.New(base, api.MaxCap)
	if a == nil {
		t.Fatalf("New(%#x, %d) is nil", base, api.MaxCap)
	}
	wantError(t, "Grow", a.Grow(len(b)), nil)
	wantError(t, "Store", a.Store(base, b), nil)
	return a
}

// counted tells n bytes, no two neighbours alike, whose numbers are neither a
// tag nor where a block may stand. The first Start bytes are 0: no class has
// blocks.
func counted(n int) []byte {
	b := make([]byte, n)
	for i := 184; i < n; i++ {
		b[i] = byte(i*37%251) + 1
	}
	return b
}

// put lays a number's eight bytes at o.
func put(b []byte, o int, v uint64) { binary.LittleEndian.PutUint64(b[o:], v) }

// at tells the number of eight bytes at o.
func at(b []byte, o int) uint64 { return binary.LittleEndian.Uint64(b[o:]) }

// with tells bytes that are the same but for numbers, which come by turns with
// their offsets.
func with(b []byte, l ...int) []byte {
	b = slices.Clone(b)
	for i := 0; i < len(l); i += 2 {
		put(b, l[i], uint64(l[i+1]))
	}
	return b
}

// tagged lays the tags of blocks into bytes.
func tagged(b []byte, l ...api.Block) []byte {
	b = slices.Clone(b)
	for _, x := range l {
		w := uint64(x.Size)
		if x.Used {
			w++
		}
		put(b, x.Off, w)
		put(b, x.Off+x.Size-8, w)
	}
	return b
}

// chained lays a list into bytes, as the chapter of layer 9 tells it: a first
// one and a bit of the class, and two numbers of each block.
func chained(b []byte, c int, l ...int) []byte {
	b = slices.Clone(b)
	if len(l) == 0 {
		return b
	}
	put(b, 0, at(b, 0)|1<<c)
	put(b, 8+8*c, uint64(l[0]))
	for i, o := range l {
		put(b, o+8, 0)
		put(b, o+16, 0)
		if i > 0 {
			put(b, o+16, uint64(l[i-1]))
		}
		if i+1 < len(l) {
			put(b, o+8, uint64(l[i+1]))
		}
	}
	return b
}

// leasts tells each class's least size, as the chapter of layer 8 lists them.
func leasts() []int {
	return []int{32, 48, 64, 80, 96, 112, 128, 144, 160, 176, 192, 208, 224, 240, 256, 272, 512, 1024, 2048, 4096, 8192, 16384}
}

// classOf tells in which class a size is.
func classOf(size int) int {
	c := 0
	for c+1 < len(leasts()) && leasts()[c+1] <= size {
		c++
	}
	return c
}

// row tells blocks of these sizes from Start on, each right behind the one ahead
// of it; that of a size below 0 is used.
func row(sizes ...int) []api.Block {
	var l []api.Block
	o := 184
	for _, size := range sizes {
		x := api.Block{Off: o, Size: max(size, -size), Used: size < 0}
		l, o = append(l, x), o+x.Size
	}
	return l
}

// endOf tells where the last one ends.
func endOf(l []api.Block) int {
	if len(l) == 0 {
		return 184
	}
	last := l[len(l)-1]
	return last.Off + last.Size
}

// bare tells the bytes of these blocks, none of which is in a list.
func bare(l []api.Block) []byte { return tagged(counted(endOf(l)), l...) }

// listed tells the same, the free ones in lists by falling offsets.
func listed(l []api.Block) []byte {
	b := bare(l)
	for c := range 22 {
		b = chained(b, c, falling(l, c)...)
	}
	return b
}

// falling tells where the free blocks of a class stand, the last one first.
func falling(l []api.Block, c int) []int {
	var places []int
	for _, x := range l {
		if !x.Used && classOf(x.Size) == c {
			places = slices.Insert(places, 0, x.Off)
		}
	}
	return places
}

// standing tells the block that stands at v, as the chapter of layer 7 tells it.
func standing(b []byte, v uint64) (api.Block, bool) {
	n := uint64(len(b))
	if v < 184 || v%16 != 8 || v+8 > n || v > 16384 {
		return api.Block{}, false
	}
	w := at(b, int(v))
	size := w - w%2
	if size < 32 || size > 16384 || size%16 != 0 || v+size > n || at(b, int(v+size)-8) != w {
		return api.Block{}, false
	}
	return api.Block{Off: int(v), Size: int(size), Used: w%2 == 1}, true
}

// walkOf tells all blocks; false, if Walk tells ErrForm of these bytes.
func walkOf(b []byte) ([]api.Block, bool) {
	if len(b) < 184 {
		return nil, false
	}
	var l []api.Block
	for o := 184; o != len(b); {
		x, ok := standing(b, uint64(o))
		if !ok {
			return nil, false
		}
		l, o = append(l, x), o+x.Size
	}
	return l, true
}

// listOf tells where the blocks of a class's list stand; false, if All tells
// ErrForm of it.
func listOf(b []byte, c int) ([]int, bool) {
	if len(b) < 184 || (at(b, 0)>>c%2 == 1) != (at(b, 8+8*c) != 0) {
		return nil, false
	}
	var l []int
	ahead := uint64(0)
	for v := at(b, 8+8*c); v != 0; v = at(b, int(v)+8) {
		x, ok := standing(b, v)
		if !ok || x.Used || classOf(x.Size) != c || at(b, int(v)+16) != ahead || len(l) == 1024 {
			return nil, false
		}
		l, ahead = append(l, x.Off), v
	}
	return l, true
}

// rightOf tells whether these bytes are those of an arena that is right: it sorts
// what the lists have, and holds it against what is free.
func rightOf(b []byte) bool {
	blocks, ok := walkOf(b)
	if !ok {
		return false
	}
	var free, got []int
	for i, x := range blocks {
		if !x.Used && i > 0 && !blocks[i-1].Used {
			return false
		}
		if !x.Used {
			free = append(free, x.Off)
		}
	}
	for c := range 22 {
		l, ok := listOf(b, c)
		if !ok {
			return false
		}
		got = append(got, l...)
	}
	slices.Sort(got)
	return slices.Equal(got, free) && at(b, 0) < 1<<22
}

// state is all that an arena tells of itself.
type state struct {
	base             uint64
	length, capacity int
	all              string
}

func stateOf(t *testing.T, a *arena.Arena) state {
	t.Helper()
	b, err := a.Load(a.Base(), uint64(a.Len()))
	if err != nil || len(b) != a.Len() {
		t.Fatalf("Load of all %d bytes: %d bytes, %v", a.Len(), len(b), err)
	}
	return state{a.Base(), a.Len(), a.Cap(), string(b)}
}

// wantError wants the Code itself, so nothing that wraps it.
func wantError(t *testing.T, what string, err, want error) {
	t.Helper()
	if err == nil || want == nil {
		if err != nil || want != nil {
			t.Fatalf("%s: error %v, want %v", what, err, want)
		}
		return
	}
	if err != want {
		t.Fatalf("%s: error %v, want %v", what, err, want)
	}
}

// wantCheck wants Check to tell an arena to be right, or ErrForm; and no change.
func wantCheck(t *testing.T, a *arena.Arena, right bool) {
	t.Helper()
	was := stateOf(t, a)
	err := Check(a)
	if right {
		wantError(t, "Check", err, nil)
	} else {
		wantError(t, "Check", err, api.ErrForm)
	}
	if stateOf(t, a) != was {
		t.Fatalf("base %#x: Check of %d bytes changed the arena", was.base, was.length)
	}
}

// wantRight wants an arena of these bytes to be right, and the model to say so.
func wantRight(t *testing.T, base uint64, b []byte) {
	t.Helper()
	if !rightOf(b) {
		t.Fatalf("the model tells %d bytes to be wrong", len(b))
	}
	wantCheck(t, made(t, base, b), true)
}

// wantWrong wants an arena of these bytes not to be right, nor the model to say
// so.
func wantWrong(t *testing.T, base uint64, b []byte) {
	t.Helper()
	if rightOf(b) {
		t.Fatalf("the model tells %d bytes to be right", len(b))
	}
	wantCheck(t, made(t, base, b), false)
}

// wantModel wants Check to tell what the model does, and tells it.
func wantModel(t *testing.T, base uint64, b []byte) bool {
	t.Helper()
	right := rightOf(b)
	wantCheck(t, made(t, base, b), right)
	return right
}

// some are the blocks that most tests have: some classes have many free ones,
// some one; the first and the last are free, and no two side by side.
func some() []api.Block {
	return row(32, -32, 32, -48, 48, -32, 256, -32, 272, -32, 400, -64, 496, -32, 1008, -512, 512, -32, 32, -2048, 2048)
}

// The chapter's example.
func TestTheExample(t *testing.T) {
	b := make([]byte, 184)
	b[0] = 1
	for _, base := range bases() {
		wantWrong(t, base, b)
	}
}

// P11.2: Start bytes, all 0, are right; one of them, or all, of another value, and
// they aren't.
func TestStartBytes(t *testing.T) {
	for _, base := range bases() {
		wantRight(t, base, make([]byte, 184))
	}
	for o := range 184 {
		for _, c := range []byte{1, 2, 16, 128, 184, 255} {
			b := make([]byte, 184)
			b[o] = c
			wantWrong(t, baseOf(o), b)
		}
	}
	for c := 1; c < 256; c++ {
		wantWrong(t, baseOf(c), bytes.Repeat([]byte{byte(c)}, 184))
	}
}

// P11.1: fewer than Start bytes, from none on.
func TestFewerThanStart(t *testing.T) {
	for n := range 184 {
		for _, b := range [][]byte{make([]byte, 184), listed(some()), bytes.Repeat([]byte{255}, 184)} {
			wantWrong(t, baseOf(n), b[:n])
		}
	}
}

// apart tells rows of which no two free blocks stand side by side.
func apart() [][]api.Block {
	return [][]api.Block{
		nil, row(-32), row(-16192), row(-32, -32), row(-32, -48, -512),
		row(32), row(48), row(256), row(272), row(496), row(16192),
		row(32, -32), row(-32, 32), row(-32, 32, -32), row(32, -32, 32),
		row(32, -32, 32, -32, 32, -32, 32), row(-32, -32, 64, -32, -32),
		row(272, -32, 496, -32, 384), row(512, -48, 1008), row(8192, -32, 4096),
		row(32, -32, 48, -32, 64, -32, 272, -32, 512, -32, 1024, -32, 2048),
		row(-32, 2048, -64, 48, -32, 48, -48, 32, -32), some(),
	}
}

// P11.2: behind Rebuild, whatever the first Start bytes were.
func TestBehindRebuild(t *testing.T) {
	for i, l := range apart() {
		for _, c := range []byte{0, 1, 255} {
			b := append(bytes.Repeat([]byte{c}, 184), bare(l)[184:]...)
			a := made(t, baseOf(i), b)
			wantCheck(t, a, rightOf(b))
			wantError(t, "Rebuild", fit.Rebuild(a), nil)
			wantCheck(t, a, true)
			wantCheck(t, a.Clone(), true)
		}
		wantRight(t, baseOf(i), listed(l))
	}
}

// together tells rows of which two free blocks, or more, stand side by side.
func together() [][]api.Block {
	return [][]api.Block{
		row(32, 32), row(272, 496), row(32, 48), row(48, 32), row(32, 8192), row(256, 272),
		row(-32, 32, 32), row(32, 32, -32), row(-32, 32, 32, -32), row(-32, 64, 48, -32),
		row(32, -32, 32, 32), row(32, 32, -32, 32), row(48, -32, 32, 32), row(32, -32, 32, 48, -32, 32),
		row(32, 32, 32), row(32, 48, 64), row(64, 48, 32, -32, 32), row(32, -32, -32, 64, 64),
		row(512, 1008, -32, 272), append(some(), api.Block{Off: endOf(some()), Size: 32}),
	}
}

// parted tells these blocks, but that each free one behind a free one is used.
func parted(l []api.Block) []api.Block {
	l = slices.Clone(l)
	for i := range l {
		l[i].Used = l[i].Used || i > 0 && !l[i-1].Used
	}
	return l
}

// P11.1: two free blocks side by side, of one class, or of two; all else is right.
func TestFreeOnesSideBySide(t *testing.T) {
	for i, l := range together() {
		a := made(t, baseOf(i), bare(l))
		wantError(t, "Rebuild", fit.Rebuild(a), nil)
		wantCheck(t, a, false)
		wantWrong(t, baseOf(i), listed(l))
		wantRight(t, baseOf(i), listed(parted(l)))
	}
}

// P11.1: each used one between two free ones is made free; each free one is made
// used: two used ones side by side are nothing amiss.
func TestEachUsedOneMadeFree(t *testing.T) {
	for i := range some() {
		l := some()
		l[i].Used = !l[i].Used
		a := made(t, baseOf(i), bare(l))
		wantError(t, "Rebuild", fit.Rebuild(a), nil)
		wantCheck(t, a, l[i].Used)
	}
}

// P11.1: the arena ends elsewhere than its last block: too few bytes are left for
// one, or it is cut off; where it ends between two, the lists have what isn't
// there, till they are made anew.
func TestWhereTheEndIsAmiss(t *testing.T) {
	l := row(32, -32, 272, -48, 32, -64, 48)
	ends := map[int]bool{184: true}
	for _, x := range l {
		ends[endOf([]api.Block{x})] = true
	}
	b := listed(l)
	for n := 184; n < len(b); n++ {
		wantWrong(t, baseOf(n), b[:n])
		if a := made(t, baseOf(n), b[:n]); ends[n] {
			wantError(t, "Rebuild", fit.Rebuild(a), nil)
			wantCheck(t, a, true)
		}
	}
	for d := 1; d <= 80; d++ {
		for _, c := range []byte{0, 32, 255} {
			wantWrong(t, baseOf(d), append(slices.Clone(b), bytes.Repeat([]byte{c}, d)...))
			wantWrong(t, baseOf(d), append(make([]byte, 184), bytes.Repeat([]byte{c}, d)...))
		}
	}
}

// P11.1: a tag at either end of any block, or at both, that is none, or another
// one.
func TestWhereATagIsAmiss(t *testing.T) {
	b := listed(some())
	for i, x := range some() {
		base := baseOf(i)
		w := int(at(b, x.Off))
		for _, v := range []int{0, 1, 16, 17, 31, 34, 40, 16400, 16401, w ^ 1, w + 16, w - 16, w + 1<<32, w | -1<<63, -w, -1} {
			wantWrong(t, base, with(b, x.Off, v))
			wantWrong(t, base, with(b, x.Off+x.Size-8, v))
			wantWrong(t, base, with(b, x.Off, v, x.Off+x.Size-8, v))
		}
	}
}

// P11.1: a block that ends ahead of the next, or within it, or beyond the end.
func TestWhereBlocksDontMeet(t *testing.T) {
	b := append(listed(some()), make([]byte, 16)...)
	for i, x := range some() {
		for _, d := range []int{-16, 16} {
			if x.Size+d < 32 {
				continue
			}
			y := api.Block{Off: x.Off, Size: x.Size + d, Used: x.Used}
			wantWrong(t, baseOf(i), tagged(b, y)[:endOf(some())])
		}
	}
	for _, size := range []int{64, 4096, 16384} {
		wantWrong(t, 160, with(b, 184, size)[:endOf(some())])
	}
}

// three tells blocks of which three are free, and of class c; as many as have
// room, of the greatest classes.
func three(c int) []api.Block {
	size := leasts()[c]
	switch {
	case c == 21:
		return row(-32)
	case c == 20:
		return row(-32, size, -32)
	}
	return row(-32, size, -48, size, -32, size)
}

// listPlaces tells where the numbers of class c's list stand: the first, and two
// of each block.
func listPlaces(l []api.Block, c int) []int {
	places := []int{8 + 8*c}
	for _, o := range falling(l, c) {
		places = append(places, o+8, o+16)
	}
	return places
}

// values tells numbers to try in place of one that stands in an arena of these
// blocks.
func values(l []api.Block) []int {
	v := []int{0, 1, 8, 16, 33, 32, 48, 176, 192, 200, 1 << 15, 1<<32 + 184, -1, -184, -1 << 63, -1<<63 + 184, endOf(l), endOf(l) + 16}
	for _, x := range l {
		v = append(v, x.Off, x.Off+8, x.Off+16, x.Size, x.Off|-1<<63)
	}
	return v
}

// P11.1: the list of each class, of which one number is another one: its first, a
// next, or a previous.
func TestEachListBroken(t *testing.T) {
	count := 0
	for c := range 22 {
		l := three(c)
		b := listed(l)
		wantRight(t, baseOf(c), b)
		for _, o := range listPlaces(l, c) {
			for _, v := range values(l) {
				if at(b, o) != uint64(v) {
					count++
					wantWrong(t, baseOf(c), with(b, o, v))
				}
			}
		}
	}
	if count < 20*7*40 {
		t.Errorf("%d numbers were tried", count)
	}
}

// P11.1: a class's bit is 0, though it has a first one, or 1, though it has none;
// or the first is made to agree with the bit, and so not with the blocks.
func TestEachBitTurned(t *testing.T) {
	for c := range 22 {
		for _, l := range [][]api.Block{three(c), some(), nil, row(-32)} {
			b := listed(l)
			wantRight(t, baseOf(c), b)
			b = with(b, 0, int(at(b, 0))^1<<c)
			wantWrong(t, baseOf(c), b)
			if at(b, 0)>>c%2 == 1 {
				wantWrong(t, baseOf(c), with(b, 8+8*c, 184))
			} else {
				wantWrong(t, baseOf(c), with(b, 8+8*c, 0))
			}
		}
	}
}

// P11.1: a list that runs in a circle, so that it has a block twice: from each
// one to each one that is not behind it, with that one's previous as it was, or
// as it then has to be.
func TestABlockTwiceInAList(t *testing.T) {
	l := row(32, -32, 32, -32, 32, -32, 32)
	order := falling(l, 0)
	for i, from := range order {
		for k, to := range order[:i+1] {
			b := listed(l)
			wantWrong(t, baseOf(k), with(b, from+8, to))
			wantWrong(t, baseOf(k), with(b, from+8, to, to+16, from))
			wantWrong(t, baseOf(k), with(b, from+8, to, to+16, from, 8, to))
		}
	}
}

// P11.1: a block in the list of another class than its own, beside its own list,
// or in place of it.
func TestABlockInAnothersList(t *testing.T) {
	l := row(32, -32, 64, -32, 32)
	for c := range 22 {
		if c != 2 {
			wantWrong(t, 160, chained(chained(chained(bare(l), 0, falling(l, 0)...), 2, 248), c, 248))
			wantWrong(t, 160, chained(chained(bare(l), 0, 184, 344), c, 248))
			wantWrong(t, 160, chained(chained(bare(l), 2, 248), c, 184, 248, 344))
		}
	}
}

// P11.1: a list that lacks a free block, whichever; none at all; each but one.
func TestAListThatLacksABlock(t *testing.T) {
	for i, x := range some() {
		if x.Used {
			continue
		}
		b := bare(some())
		only := bare(some())
		for c := range 22 {
			rest := slices.DeleteFunc(falling(some(), c), func(o int) bool { return o == x.Off })
			b = chained(b, c, rest...)
		}
		only = chained(only, classOf(x.Size), x.Off)
		wantWrong(t, baseOf(i), b)
		wantWrong(t, baseOf(i), only)
		a := made(t, baseOf(i), listed(some()))
		wantError(t, "Take", list.Take(a, x.Off), nil)
		wantCheck(t, a, false)
		wantError(t, "Put", list.Put(a, x.Off), nil)
		wantCheck(t, a, true)
	}
	wantWrong(t, 160, bare(some()))
	a := made(t, 160, listed(some()))
	wantError(t, "Clear", list.Clear(a), nil)
	wantCheck(t, a, false)
}

// P11.1: a free block that is in no list, where no list has any: alone, and beside
// used ones.
func TestAFreeBlockInNoList(t *testing.T) {
	for i, size := range []int{32, 48, 256, 272, 512, 8192, 16192} {
		wantWrong(t, baseOf(i), bare(row(size)))
		wantRight(t, baseOf(i), listed(row(size)))
	}
	wantWrong(t, 160, bare(row(-32, 32, -48)))
	wantWrong(t, 160, bare(row(-32, -48, 272)))
}

// inner tells bytes in which free blocks of class 0 stand within the used one, at
// 224, and within the greater free one, at 440; both are none of Walk's.
func inner() []byte {
	return tagged(bare(row(32, -192, 192, -32)), api.Block{Off: 232, Size: 32}, api.Block{Off: 440, Size: 32})
}

// P11.1: a list with a block that isn't among Walk's: beside those that are, at
// each place of the list, in place of one, or in a list that should have none.
func TestABlockThatIsNotAmongWalks(t *testing.T) {
	b := chained(inner(), 10, 408)
	wantRight(t, 160, chained(b, 0, 184))
	for i, order := range [][]int{
		{232}, {440}, {232, 440}, {184, 232}, {232, 184}, {184, 440}, {440, 184},
		{184, 232, 440}, {232, 184, 440}, {440, 232, 184},
	} {
		wantWrong(t, baseOf(i), chained(b, 0, order...))
		wantWrong(t, baseOf(i), chained(inner(), 0, order...))
	}
	used := tagged(bare(row(-192)), api.Block{Off: 200, Size: 64})
	wantRight(t, 160, used)
	wantWrong(t, 160, chained(used, 2, 200))
}

// P11.1: such a block may have bytes in common with tags and numbers that are
// right.
func TestInnerBlocksThatOverlap(t *testing.T) {
	l := row(-32, 256, -32)
	for o := 184; o < endOf(l); o += 16 {
		for size := 32; o+size <= endOf(l); size += 16 {
			b := tagged(listed(l), api.Block{Off: o, Size: size})
			wantModel(t, baseOf(o/16), b)
			wantModel(t, baseOf(o/16), chained(b, classOf(size), o))
			a := made(t, baseOf(o/16), b)
			_ = list.Put(a, o)
			wantCheck(t, a, rightOf([]byte(stateOf(t, a).all)))
		}
	}
}

// P11.1: the first number has a bit that is of no class: each one, and all.
func TestBitsBeyond(t *testing.T) {
	for i, l := range apart() {
		b := listed(l)
		bits := int(at(b, 0))
		for k := 22; k < 64; k++ {
			wantWrong(t, baseOf(i), with(b, 0, bits|1<<k))
		}
		wantWrong(t, baseOf(i), with(b, 0, bits|-1<<22))
		wantRight(t, baseOf(i), with(b, 0, bits))
	}
}

// places tells of an arena of these blocks which bytes are asked: those of the
// lists, of the tags, and the two numbers of each free block.
func places(l []api.Block) map[int]bool {
	m := map[int]bool{}
	mark := func(from, to int) {
		for o := from; o < to; o++ {
			m[o] = true
		}
	}
	mark(0, 184)
	for _, x := range l {
		mark(x.Off, x.Off+8)
		mark(x.Off+x.Size-8, x.Off+x.Size)
		if !x.Used {
			mark(x.Off+8, x.Off+24)
		}
	}
	return m
}

// P11.1: every byte turned, in its eight bits one by one, and in all: the arena is
// right then just if the byte isn't asked.
func TestEveryByteTurned(t *testing.T) {
	l := row(32, -32, 32, -48, 80, -64, 272, -32, 32)
	b, asked := listed(l), places(l)
	for o := range b {
		for _, v := range []byte{1, 2, 4, 8, 16, 32, 64, 128, 255} {
			c := slices.Clone(b)
			c[o] ^= v
			if asked[o] {
				wantWrong(t, baseOf(o), c)
			} else {
				wantRight(t, baseOf(o), c)
			}
		}
	}
	b, asked = listed(some()), places(some())
	for o := range b {
		b[o] ^= 255
		wantCheck(t, made(t, baseOf(o), b), !asked[o])
		b[o] ^= 255
	}
}

// orders tells every order of these.
func orders(l ...int) [][]int {
	if len(l) == 0 {
		return [][]int{nil}
	}
	var all [][]int
	for i, o := range l {
		for _, rest := range orders(slices.Delete(slices.Clone(l), i, i+1)...) {
			all = append(all, append([]int{o}, rest...))
		}
	}
	return all
}

// P11.1: a list may have any order; sizes of one class may be unlike.
func TestEveryOrder(t *testing.T) {
	for _, l := range [][]api.Block{row(32, -32, 32, -32, 32, -32, 32), row(496, -32, 272, -48, 384, -32, 400)} {
		c := classOf(l[0].Size)
		for i, order := range orders(falling(l, c)...) {
			wantRight(t, baseOf(i), chained(bare(l), c, order...))
			wantWrong(t, baseOf(i), chained(bare(l), c, order[1:]...))
		}
	}
}

// P11.1: all that the numbers of a list of three may be: of places and of 0. Just
// the six orders are right.
func TestEveryWiring(t *testing.T) {
	l := row(32, -32, 32, -32, 32)
	b := bare(l)
	values := []int{0, 184, 248, 312}
	numbers := []int{8, 184 + 8, 184 + 16, 248 + 8, 248 + 16, 312 + 8, 312 + 16}
	right := 0
	for i := range 1 << 14 {
		for k, o := range numbers {
			put(b, o, uint64(values[i>>(2*k)%4]))
		}
		for bit := range 2 {
			put(b, 0, uint64(bit))
			if wantModel(t, baseOf(i), b) {
				right++
			}
		}
	}
	if right != 6 {
		t.Errorf("%d are right, want 6", right)
	}
}

// layouts tells each list of blocks that has all bytes from an offset up to n,
// used and free in every way.
func layouts(off, n int) [][]api.Block {
	if off == n {
		return [][]api.Block{nil}
	}
	var all [][]api.Block
	for size := 32; off+size <= n; size += 16 {
		for _, used := range []bool{false, true} {
			x := api.Block{Off: off, Size: size, Used: used}
			for _, rest := range layouts(off+size, n) {
				all = append(all, append([]api.Block{x}, rest...))
			}
		}
	}
	return all
}

// P11.2: whatever blocks have all bytes from Start on: behind Rebuild the arena is
// right just if no two free ones stand side by side; with no lists just if none is
// free.
func TestEveryLayout(t *testing.T) {
	right, wrong := 0, 0
	for n := 184; n <= 184+9*16; n += 16 {
		for i, l := range layouts(184, n) {
			free, side := 0, false
			for k, x := range l {
				if !x.Used {
					free++
					side = side || k > 0 && !l[k-1].Used
				}
			}
			a := made(t, baseOf(i), bare(l))
			wantCheck(t, a, free == 0)
			wantError(t, "Rebuild", fit.Rebuild(a), nil)
			wantCheck(t, a, !side)
			if side {
				wrong++
			} else {
				right++
			}
		}
	}
	if right < 100 || wrong < 100 {
		t.Errorf("%d layouts are right, %d are wrong", right, wrong)
	}
}

// P11.1: as many free blocks as an arena may have, one between each two used ones.
func TestTheLongestArena(t *testing.T) {
	var l []api.Block
	for o := 184; o+32 <= 16376; o += 32 {
		l = append(l, api.Block{Off: o, Size: 32, Used: len(l)%2 == 1})
	}
	b := listed(l)
	wantRight(t, 1<<62, b)
	wantWrong(t, 1<<62, append(slices.Clone(b), make([]byte, 8)...))
	places := falling(l, 0)
	for _, k := range []int{0, 1, len(places) / 2, len(places) - 1} {
		wantWrong(t, 1<<62, chained(bare(l), 0, slices.Delete(slices.Clone(places), k, k+1)...))
	}
	last := len(l) - 1
	l[last].Used = !l[last].Used
	a := made(t, 1<<62, bare(l))
	wantError(t, "Rebuild", fit.Rebuild(a), nil)
	wantCheck(t, a, l[last].Used)
}

// draw is a row of numbers that a rule tells, each from the one ahead of it.
type draw uint32

// next tells a number from 0 to n - 1.
func (d *draw) next(n int) int {
	*d = *d*1664525 + 1013904223
	return int(*d>>8) % n
}

// blocks tells a row of blocks. Most are used behind a free one.
func (d *draw) blocks() []api.Block {
	sizes := []int{32, 32, 32, 48, 48, 64, 80, 256, 272, 288, 496, 512, 1024}
	var l []int
	wasFree := false
	for range d.next(12) {
		size := sizes[d.next(len(sizes))]
		used := d.next(2) == 0 || wasFree && d.next(12) > 0
		wasFree = !used
		if used {
			size = -size
		}
		l = append(l, size)
	}
	return row(l...)
}

// lists lays the free ones of these blocks into lists, in an order that is drawn.
func (d *draw) lists(b []byte, l []api.Block) []byte {
	for c := range 22 {
		order := falling(l, c)
		for i := range order {
			k := i + d.next(len(order)-i)
			order[i], order[k] = order[k], order[i]
		}
		b = chained(b, c, order...)
	}
	return b
}

// spoil tells bytes that end sooner, or of which something is another one, be it
// asked or not.
func (d *draw) spoil(b []byte, l []api.Block) []byte {
	numbers := []int{0, 8, 16, 8 + 8*d.next(22)}
	for _, x := range l {
		numbers = append(numbers, x.Off, x.Off+8, x.Off+16, x.Off+x.Size-8)
	}
	o := numbers[d.next(len(numbers))]
	switch d.next(8) {
	case 0:
		return b[:184+d.next(len(b)-183)]
	case 1, 2, 3:
		return with(b, o, values(l)[d.next(len(values(l)))])
	case 4:
		return with(b, o, int(at(b, o))^1<<d.next(64))
	case 5:
		return with(b, 0, int(at(b, 0))^1<<d.next(64))
	case 6:
		x := api.Block{Off: 184 + 16*d.next(len(b)/16), Size: 32}
		if x.Off+32 <= len(b) {
			return chained(tagged(b, x), 0, x.Off)
		}
		return b
	}
	b = slices.Clone(b)
	b[d.next(len(b))] ^= byte(d.next(256))
	return b
}

// P11.1, P11.2: drawn arenas, as they are, or spoilt once, or more.
func TestDrawnArenas(t *testing.T) {
	d := draw(11)
	right, wrong := 0, 0
	for i := range 20000 {
		l := d.blocks()
		b := d.lists(bare(l), l)
		for range d.next(3) {
			if len(b) == endOf(l) {
				b = d.spoil(b, l)
			}
		}
		if wantModel(t, baseOf(i), b) {
			right++
		} else {
			wrong++
		}
	}
	if right < 5000 || wrong < 5000 {
		t.Errorf("%d arenas are right, %d are wrong", right, wrong)
	}
}

// P11.1: through a long run of Put and Take, and of blocks that are made used or
// free, Check tells what the model does.
func TestALongRun(t *testing.T) {
	d := draw(1)
	a := made(t, 1<<62-16, listed(some()))
	right := 0
	for range 4000 {
		x := some()[d.next(len(some()))]
		switch d.next(12) {
		case 0:
			was, err := block.Get(a, x.Off)
			wantError(t, "Get", err, nil)
			x.Used = !was.Used
			wantError(t, "Set", block.Set(a, x), nil)
		case 1:
			wantError(t, "Rebuild", fit.Rebuild(a), nil)
		case 2:
			wantError(t, "Store", a.Store(a.Base(), listed(some())), nil)
		case 3, 4, 5:
			_ = list.Take(a, x.Off)
		default:
			if l, _ := list.All(a, classOf(x.Size)); !slices.Contains(l, x.Off) {
				_ = list.Put(a, x.Off)
			}
		}
		ok := rightOf([]byte(stateOf(t, a).all))
		wantCheck(t, a, ok)
		if ok {
			right++
		}
	}
	if right < 400 || right > 3600 {
		t.Errorf("%d of 4000 are right", right)
	}
}

// P11.1: each number of an arena's lists and tags is made another one.
func TestEachNumberAmiss(t *testing.T) {
	numbers := []int{}
	for o := 0; o < 184; o += 8 {
		numbers = append(numbers, o)
	}
	for _, x := range some() {
		numbers = append(numbers, x.Off, x.Off+8, x.Off+16, x.Off+x.Size-8)
	}
	b := listed(some())
	for i, o := range numbers {
		for _, v := range values(some()) {
			wantModel(t, baseOf(i), with(b, o, v))
		}
	}
}

// P1: blocks that have bytes in common: the same tag at every place, so that the
// lists are within tags.
func TestBlocksThatOverlap(t *testing.T) {
	for _, w := range []uint64{32, 33, 48, 64} {
		for n := 184; n <= 344; n += 8 {
			b := make([]byte, n)
			for o := 184; o+8 <= n; o += 8 {
				put(b, o, w)
			}
			wantModel(t, 160, b)
			for o := 184; o+int(w) <= n; o += 16 {
				a := made(t, 160, b)
				_ = list.Put(a, o)
				wantCheck(t, a, rightOf([]byte(stateOf(t, a).all)))
				_ = fit.Rebuild(a)
				wantCheck(t, a, rightOf([]byte(stateOf(t, a).all)))
			}
		}
	}
}

// P1: bytes that are all alike, and numbers that are, of every length about the
// places that are read.
func TestBytesThatAreAlike(t *testing.T) {
	for _, n := range []int{0, 7, 8, 16, 183, 184, 185, 192, 200, 215, 216, 217, 400, 1024, 16383, 16384} {
		for c := range 256 {
			wantModel(t, baseOf(c), bytes.Repeat([]byte{byte(c)}, n))
			b := make([]byte, n)
			for o := 0; o+8 <= n; o += 8 {
				put(b, o, uint64(c)*8)
			}
			wantModel(t, baseOf(c), b)
		}
	}
}

// Rule 8: nothing is kept: what is told of one arena hangs on no other, nor on
// what was told ahead of it.
func TestArenasAreApart(t *testing.T) {
	a, b := made(t, 160, listed(some())), made(t, 160, bare(some()))
	for range 3 {
		wantCheck(t, a, true)
		wantCheck(t, b, false)
	}
	c := a.Clone()
	wantError(t, "Take", list.Take(c, 184), nil)
	wantCheck(t, c, false)
	wantCheck(t, a, true)
	wantError(t, "Rebuild", fit.Rebuild(b), nil)
	wantCheck(t, b, true)
	wantCheck(t, c, false)
}

// What is told hangs on the bytes that are there alone: not on the capacity: what
// could grow is no block.
func TestTheCapacityIsNotAsked(t *testing.T) {
	n := endOf(some())
	a := arena.New(160, n)
	wantError(t, "Grow", a.Grow(n), nil)
	wantError(t, "Store", a.Store(160, listed(some())), nil)
	for _, capacity := range []int{n, n + 1, n + 16, 16384} {
		wantError(t, "Widen", a.Widen(capacity), nil)
		wantCheck(t, a, true)
	}
	wantError(t, "Grow", a.Grow(16), nil)
	wantCheck(t, a, false)
	wantError(t, "Grow", a.Grow(16), nil)
	wantError(t, "Set", block.Set(a, api.Block{Off: n, Size: 32, Used: true}), nil)
	wantCheck(t, a, true)
}
