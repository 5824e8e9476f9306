package fit

import (
	"bytes"
	"cantle/api"
	"cantle/arena"
	"cantle/block"
	"cantle/list"
	"encoding/binary"
	"math"
	"slices"
	"testing"
)

// bases are those at which an address is near 0, near the greatest, or neither.
func bases() []uint64 {
	return []uint64{0, 16, 160, 192, 1 << 32, 1<<62 - 16, 1 << 62}
}

// made tells an arena of these bytes.
func made(t *testing.T, base uint64, b []byte) *arena.Arena {
	t.Helper()
	a := arena.New(base, api.MaxCap)
	if a == nil {
		t.Fatalf("New(%#x, %d) is nil", base, api.MaxCap)
	}
	wantError(t, "Grow", a.Grow(len(b)), nil)
	wantError(t, "Store", a.Store(base, b), nil)
	return a
}

// counted tells n bytes, no two neighbours alike, whose numbers are neither a
// tag nor where a block may stand. The first Start bytes are 0: no class has
// blocks.
func counted(n int) []byte {
	b := make([]byte, n)
	for i := 184; i < n; i++ {
		b[i] = byte(i*37%251) + 1
	}
	return b
}

// put lays a number's eight bytes at o.
func put(b []byte, o int, v uint64) { binary.LittleEndian.PutUint64(b[o:], v) }

// at tells the number of eight bytes at o.
func at(b []byte, o int) uint64 { return binary.LittleEndian.Uint64(b[o:]) }

// with tells bytes that are the same but for numbers, which come by turns with
// their offsets.
func with(b []byte, l ...uint64) []byte {
	b = slices.Clone(b)
	for i := 0; i < len(l); i += 2 {
		put(b, int(l[i]), l[i+1])
	}
	return b
}

// tagged lays the tags of blocks into bytes.
func tagged(b []byte, l ...api.Block) []byte {
	b = slices.Clone(b)
	for _, x := range l {
		w := uint64(x.Size)
		if x.Used {
			w++
		}
		put(b, x.Off, w)
		put(b, x.Off+x.Size-8, w)
	}
	return b
}

// chained lays a list into bytes, as the chapter of layer 9 tells it: a first
// one and a bit of the class, and two numbers of each block.
func chained(b []byte, c int, l ...int) []byte {
	b = slices.Clone(b)
	if len(l) == 0 {
		return b
	}
	put(b, 0, at(b, 0)|1<<c)
	put(b, 8+8*c, uint64(l[0]))
	for i, o := range l {
		put(b, o+8, 0)
		put(b, o+16, 0)
		if i > 0 {
			put(b, o+16, uint64(l[i-1]))
		}
		if i+1 < len(l) {
			put(b, o+8, uint64(l[i+1]))
		}
	}
	return b
}

// leasts tells each class's least size, as the chapter of layer 8 lists them.
func leasts() []int {
	return []int{32, 48, 64, 80, 96, 112, 128, 144, 160, 176, 192, 208, 224, 240, 256, 272, 512, 1024, 2048, 4096, 8192, 16384}
}

// classOf tells in which class a size is.
func classOf(size int) int {
	c := 0
	for c+1 < len(leasts()) && leasts()[c+1] <= size {
		c++
	}
	return c
}

// sizes tells all sizes.
func sizes() []int {
	var l []int
	for size := 32; size <= 16384; size += 16 {
		l = append(l, size)
	}
	return l
}

// fewSizes tells those at both ends of the classes, and some within them.
func fewSizes() []int {
	l := []int{288, 304, 384, 400, 416, 768, 1504, 3008}
	for _, least := range leasts() {
		if least > 32 {
			l = append(l, least-16)
		}
		l = append(l, least)
	}
	return l
}

// standing tells the block that stands at v, as the chapter of layer 7 tells it.
func standing(b []byte, v uint64) (api.Block, bool) {
	n := uint64(len(b))
	if v < 184 || v%16 != 8 || v+8 > n || v > 16384 {
		return api.Block{}, false
	}
	w := at(b, int(v))
	size := w - w%2
	if size < 32 || size > 16384 || size%16 != 0 || v+size > n || at(b, int(v+size)-8) != w {
		return api.Block{}, false
	}
	return api.Block{Off: int(v), Size: int(size), Used: w%2 == 1}, true
}

// walkOf tells all blocks; false, if Walk tells ErrForm of these bytes.
func walkOf(b []byte) ([]api.Block, bool) {
	if len(b) < 184 {
		return nil, false
	}
	var l []api.Block
	for o := 184; o != len(b); {
		x, ok := standing(b, uint64(o))
		if !ok {
			return nil, false
		}
		l, o = append(l, x), o+x.Size
	}
	return l, true
}

// listOf tells the blocks of a class's list; false, if All tells ErrForm of it.
func listOf(b []byte, c int) ([]api.Block, bool) {
	if len(b) < 184 || (at(b, 0)>>c%2 == 1) != (at(b, 8+8*c) != 0) {
		return nil, false
	}
	var l []api.Block
	ahead := uint64(0)
	for v := at(b, 8+8*c); v != 0; v = at(b, int(v)+8) {
		x, ok := standing(b, v)
		if !ok || x.Used || classOf(x.Size) != c || at(b, int(v)+16) != ahead {
			return nil, false
		}
		l, ahead = append(l, x), v
	}
	return l, true
}

// findOf tells what Find of a size does; false, if that is ErrForm.
func findOf(b []byte, size int) (int, bool) {
	for c := classOf(size); c < 22; c++ {
		l, ok := listOf(b, c)
		if !ok {
			return 0, false
		}
		for _, x := range l {
			if x.Size >= size {
				return x.Off, true
			}
		}
	}
	return 0, true
}

// rebuilt tells the bytes that are behind a Rebuild; false, if it is ErrForm.
// What was put last is first, so each list has its blocks by falling offsets.
func rebuilt(b []byte) ([]byte, bool) {
	blocks, ok := walkOf(b)
	if !ok {
		return nil, false
	}
	b = append(make([]byte, 184), b[184:]...)
	for c := range 22 {
		b = chained(b, c, falling(blocks, c)...)
	}
	return b, true
}

// falling tells where the free blocks of a class stand, the last one first.
func falling(blocks []api.Block, c int) []int {
	var l []int
	for _, x := range blocks {
		if !x.Used && classOf(x.Size) == c {
			l = slices.Insert(l, 0, x.Off)
		}
	}
	return l
}

// state is all that an arena tells of itself.
type state struct {
	base             uint64
	length, capacity int
	all              string
}

func stateOf(t *testing.T, a *arena.Arena) state {
	t.Helper()
	b, err := a.Load(a.Base(), uint64(a.Len()))
	if err != nil || len(b) != a.Len() {
		t.Fatalf("Load of all %d bytes: %d bytes, %v", a.Len(), len(b), err)
	}
	return state{a.Base(), a.Len(), a.Cap(), string(b)}
}

func wantState(t *testing.T, what string, a *arena.Arena, want state) {
	t.Helper()
	got := stateOf(t, a)
	if got == want {
		return
	}
	for o := 0; o+8 <= len(want.all) && len(got.all) == len(want.all); o += 8 {
		if g, w := at([]byte(got.all), o), at([]byte(want.all), o); g != w {
			t.Errorf("%s: %d stands at %d, want %d", what, g, o, w)
		}
	}
	got.all, want.all = "", ""
	t.Fatalf("%s: %v, want %v, or bytes are other ones", what, got, want)
}

// wantError wants the Code itself, so nothing that wraps it.
func wantError(t *testing.T, what string, err, want error) {
	t.Helper()
	if err == nil || want == nil {
		if err != nil || want != nil {
			t.Fatalf("%s: error %v, want %v", what, err, want)
		}
		return
	}
	if err != want {
		t.Fatalf("%s: error %v, want %v", what, err, want)
	}
}

// wantFind wants Find to tell this place, and no change.
func wantFind(t *testing.T, a *arena.Arena, size, want int) {
	t.Helper()
	was := stateOf(t, a)
	if o, err := Find(a, size); err != nil || o != want {
		t.Fatalf("base %#x: Find(%d) of %d bytes = %d, %v, want %d", a.Base(), size, a.Len(), o, err, want)
	}
	wantState(t, "Find", a, was)
}

// wantNoFind wants the error of Find, nothing beside it (R3), and no change.
func wantNoFind(t *testing.T, a *arena.Arena, size int, want error) {
	t.Helper()
	was := stateOf(t, a)
	o, err := Find(a, size)
	wantError(t, "Find", err, want)
	if o != 0 {
		t.Fatalf("base %#x: Find(%d) of %d bytes = %d beside an error", a.Base(), size, a.Len(), o)
	}
	wantState(t, "Find", a, was)
}

// wantFinds holds Find of each of these sizes against the model.
func wantFinds(t *testing.T, a *arena.Arena, l []int) {
	t.Helper()
	was := stateOf(t, a)
	b := []byte(was.all)
	for _, size := range l {
		want, ok := findOf(b, size)
		o, err := Find(a, size)
		if o != want || (err == nil) != ok {
			t.Fatalf("base %#x: Find(%d) of %d bytes = %d, %v, want %d, %v", a.Base(), size, a.Len(), o, err, want, ok)
		}
		if !ok {
			wantError(t, "Find", err, api.ErrForm)
		}
	}
	wantState(t, "Find", a, was)
}

// wantRebuild wants a Rebuild to do what the model does, be it an error (P10.2:
// nothing changes then).
func wantRebuild(t *testing.T, a *arena.Arena) {
	t.Helper()
	s := stateOf(t, a)
	b, ok := rebuilt([]byte(s.all))
	if !ok {
		wantNoRebuild(t, a)
		return
	}
	s.all = string(b)
	wantError(t, "Rebuild", Rebuild(a), nil)
	wantState(t, "Rebuild", a, s)
	wantJustTheFree(t, a)
}

// wantNoRebuild wants ErrForm of Rebuild, and no change.
func wantNoRebuild(t *testing.T, a *arena.Arena) {
	t.Helper()
	was := stateOf(t, a)
	wantError(t, "Rebuild", Rebuild(a), api.ErrForm)
	wantState(t, "Rebuild", a, was)
}

// wantJustTheFree wants of each class what All tells of it to be its free blocks,
// each once (P10.3).
func wantJustTheFree(t *testing.T, a *arena.Arena) {
	t.Helper()
	blocks, err := block.Walk(a)
	wantError(t, "Walk", err, nil)
	for c := range 22 {
		wantList(t, a, c, falling(blocks, c)...)
	}
}

// wantList wants All to tell just these.
func wantList(t *testing.T, a *arena.Arena, c int, want ...int) {
	t.Helper()
	if l, err := list.All(a, c); err != nil || !slices.Equal(l, want) {
		t.Fatalf("base %#x: All(%d) of %d bytes = %v, %v, want %v", a.Base(), c, a.Len(), l, err, want)
	}
}

// some are the blocks that most tests have, from Start on, up to someEnd. Free
// ones stand next to each other here, too.
func some() []api.Block {
	return []api.Block{
		{Off: 184, Size: 32}, {Off: 216, Size: 32, Used: true},
		{Off: 248, Size: 32}, {Off: 280, Size: 48}, {Off: 328, Size: 32, Used: true},
		{Off: 360, Size: 256}, {Off: 616, Size: 272}, {Off: 888, Size: 32, Used: true},
		{Off: 920, Size: 400}, {Off: 1320, Size: 64, Used: true},
		{Off: 1384, Size: 496}, {Off: 1880, Size: 32, Used: true},
		{Off: 1912, Size: 1008}, {Off: 2920, Size: 512}, {Off: 3432, Size: 2048, Used: true},
		{Off: 5480, Size: 2048}, {Off: 7528, Size: 32, Used: true},
	}
}

const someEnd = 7560

// bare tells the bytes of these blocks, none of which is in a list.
func bare() []byte { return tagged(counted(someEnd), some()...) }

// listed tells the same, the free ones in lists, that are neither by offsets nor
// by sizes.
func listed() []byte {
	b := chained(chained(chained(bare(), 0, 184, 248), 1, 280), 14, 360)
	return chained(chained(chained(b, 15, 920, 616, 1384), 16, 2920, 1912), 18, 5480)
}

// placed tells where the block stands that Find tells of listed.
func placed(size int) int {
	switch {
	case size <= 32:
		return 184
	case size <= 48:
		return 280
	case size <= 256:
		return 360
	case size <= 400:
		return 920
	case size <= 496:
		return 1384
	case size <= 512:
		return 2920
	case size <= 1008:
		return 1912
	case size <= 2048:
		return 5480
	}
	return 0
}

// placedClass tells of which class that block is; the last one, if there is none,
// since all are looked at then.
func placedClass(size int) int {
	for _, x := range some() {
		if x.Off == placed(size) {
			return classOf(x.Size)
		}
	}
	return 21
}

// The chapter's example: no free blocks, since there are no blocks at all, or
// used ones alone.
func TestTheExample(t *testing.T) {
	used := []api.Block{{Off: 184, Size: 32, Used: true}, {Off: 216, Size: 512, Used: true}}
	for _, base := range bases() {
		for _, b := range [][]byte{make([]byte, 184), tagged(counted(728), used...)} {
			a := made(t, base, b)
			for _, size := range fewSizes() {
				wantFind(t, a, size, 0)
			}
			wantRebuild(t, a)
			for _, size := range fewSizes() {
				wantFind(t, a, size, 0)
			}
		}
	}
}

// P10.1: Find of every size: the first that has room of its own class's list,
// else of that of the next class that has one.
func TestFindOfEverySize(t *testing.T) {
	for _, base := range bases() {
		a := made(t, base, listed())
		for _, size := range sizes() {
			wantFind(t, a, size, placed(size))
		}
		wantFinds(t, a, sizes())
	}
}

// noSizes tells numbers that are no size: all about the least and the greatest
// one, and those whose lower bits are a size, or whose sign is another one.
func noSizes() []int {
	l := []int{0, 16, 17, 24, 33, 16369, 16385, 16392, 16400, 32768, -32, -48, -256, -16384, -16, -1, -8,
		math.MinInt, math.MinInt + 32, math.MaxInt, math.MaxInt - 15, math.MaxInt - 31}
	for _, p := range []int{1 << 16, 1 << 31, 1 << 32, 1 << 62} {
		l = append(l, p, p+32, p+256, p-32, -p+32, -p-32)
	}
	for n := -40; n < 600; n++ {
		if n < 32 || n%16 != 0 {
			l = append(l, n)
		}
	}
	return l
}

// P10.1, R1: no size, also where a list is broken, or the arena is too short.
func TestFindOfNoSize(t *testing.T) {
	broken := [][]byte{nil, make([]byte, 183), bytes.Repeat([]byte{255}, 400), with(listed(), 8, 200)}
	for _, base := range bases() {
		for _, b := range append(broken, make([]byte, 184), bare(), listed()) {
			a := made(t, base, b)
			for _, size := range noSizes() {
				wantNoFind(t, a, size, api.ErrArg)
			}
		}
	}
}

// P10.1: the least and the greatest size: 16384 is one, and a block of it never
// has room in an arena.
func TestFindAtTheEndsOfSizes(t *testing.T) {
	a := made(t, 160, listed())
	wantNoFind(t, a, 16, api.ErrArg)
	wantFind(t, a, 32, 184)
	wantFind(t, a, 16384, 0)
	wantNoFind(t, a, 16400, api.ErrArg)
	whole := api.Block{Off: 184, Size: 16192}
	for _, n := range []int{16376, 16384} {
		a = made(t, 1<<62, chained(tagged(counted(n), whole), 20, 184))
		wantFind(t, a, 32, 184)
		wantFind(t, a, 16192, 184)
		wantFind(t, a, 16208, 0)
		wantFind(t, a, 16384, 0)
	}
}

// P10.1: within a class the list's order is asked, not what fits best, and not
// what stands first: every order of the blocks of one class.
func TestFindInEveryOrder(t *testing.T) {
	sizeAt := map[int]int{616: 272, 920: 400, 1384: 496}
	orders := [][]int{{616, 920, 1384}, {616, 1384, 920}, {920, 616, 1384}, {920, 1384, 616}, {1384, 616, 920}, {1384, 920, 616},
		{616, 920}, {920, 616}, {616, 1384}, {1384, 616}, {920, 1384}, {1384, 920}, {616}, {920}, {1384}}
	for i, order := range orders {
		a := made(t, bases()[i%len(bases())], chained(bare(), 15, order...))
		for size := 272; size <= 496; size += 16 {
			want := 0
			if k := slices.IndexFunc(order, func(o int) bool { return sizeAt[o] >= size }); k >= 0 {
				want = order[k]
			}
			wantFind(t, a, size, want)
		}
	}
}

// P10.1: the first of the list is too small by as little as can be, and the last
// one isn't.
func TestFindOfTheLast(t *testing.T) {
	var l []api.Block
	var order []int
	last := 184 + 20*480
	for o := 184; o < last; o += 480 {
		l = append(l, api.Block{Off: o, Size: 480})
		order = append(order, o)
	}
	l = append(l, api.Block{Off: last, Size: 496})
	a := made(t, 160, chained(tagged(counted(last+496), l...), 15, append(order, last)...))
	wantFind(t, a, 480, 184)
	wantFind(t, a, 496, last)
	wantFind(t, a, 512, 0)
}

// P10.1: none of the class is great enough; one of a greater one is, be it the
// next class or the last that an arena has room for.
func TestFindInAGreaterClass(t *testing.T) {
	for _, base := range bases() {
		a := made(t, base, chained(chained(bare(), 15, 616), 16, 1912, 2920))
		wantFind(t, a, 272, 616)
		for size := 288; size <= 1008; size += 16 {
			wantFind(t, a, size, 1912)
		}
		wantFind(t, a, 1024, 0)
		a = made(t, base, chained(chained(bare(), 15, 616), 18, 5480))
		for size := 288; size <= 2048; size += 16 {
			wantFind(t, a, size, 5480)
		}
	}
	for c, least := range leasts()[:21] {
		x := api.Block{Off: 184, Size: least}
		a := made(t, 1<<62, chained(tagged(counted(184+least), x), c, 184))
		for _, size := range sizes() {
			if size <= least {
				wantFind(t, a, size, 184)
			} else {
				wantFind(t, a, size, 0)
			}
		}
	}
}

// P10.1: a lesser class is taken ahead of a greater one, wherever their blocks
// stand.
func TestFindOfTheLesserClass(t *testing.T) {
	l := []api.Block{{Off: 184, Size: 1024}, {Off: 1208, Size: 512}, {Off: 1720, Size: 64}, {Off: 1784, Size: 48}}
	a := made(t, 16, tagged(counted(1832), l...))
	wantFind(t, a, 32, 0)
	for _, x := range l {
		wantError(t, "Put", list.Put(a, x.Off), nil)
		wantFind(t, a, 32, x.Off)
	}
	wantFind(t, a, 48, 1784)
	wantFind(t, a, 64, 1720)
	wantFind(t, a, 80, 1208)
	wantFind(t, a, 528, 184)
}

// P10.1: what is told is what the lists have: a free block that is in none isn't
// told, one that Walk doesn't come to is, and so is one where Walk tells an error.
func TestFindAsksTheListsAlone(t *testing.T) {
	for _, base := range bases() {
		a := made(t, base, bare())
		for _, size := range fewSizes() {
			wantFind(t, a, size, 0)
		}
		wantFind(t, made(t, base, chained(bare(), 0, 248)), 32, 248)
		within := tagged(bare(), api.Block{Off: 3464, Size: 512})
		wantFind(t, made(t, base, chained(within, 16, 3464)), 400, 3464)
		cut := listed()[:7536]
		a = made(t, base, cut)
		wantNoRebuild(t, a)
		for _, size := range fewSizes() {
			wantFind(t, a, size, placed(size))
		}
		a = made(t, base, with(listed(), 216, 7, 0, at(listed(), 0)|1<<22|1<<63))
		for _, size := range fewSizes() {
			wantFind(t, a, size, placed(size))
		}
	}
}

// P10.1: fewer bytes than Start, all 0, or as they would be of lists; R3: nothing
// beside the error.
func TestFewBytes(t *testing.T) {
	for _, base := range []uint64{0, 160, 1 << 62} {
		for n := range 184 {
			for _, b := range [][]byte{make([]byte, n), listed()[:n], bytes.Repeat([]byte{7}, n)} {
				a := made(t, base, b)
				for _, size := range []int{32, 48, 272, 1024, 16384} {
					wantNoFind(t, a, size, api.ErrForm)
				}
				wantNoRebuild(t, a)
			}
		}
	}
}

// breaks tells ways in which the list of a class of listed may be broken, and no
// other one is: another bit, another first one, and of those that have blocks:
// another previous of the first and of the last, what is no member behind the
// last, a circle, and a block that was made used.
func breaks(c int) [][]byte {
	b, bits, first := listed(), at(listed(), 0), uint64(8+8*c)
	l := [][]byte{with(b, 0, bits^1<<c)}
	for _, v := range []uint64{200, 216, 176, 7560, 1 << 62, 1<<63 + 184, 1<<64 - 1, 1<<64 - 184} {
		l = append(l, with(b, 0, bits|1<<c, first, v))
	}
	o := at(b, int(first))
	if o == 0 {
		return append(l, with(b, first, 184), with(b, 0, bits|1<<c, first, 184))
	}
	last := o
	for at(b, int(last)+8) != 0 {
		last = at(b, int(last)+8)
	}
	for _, v := range []uint64{o, last, 200, 216, 1<<64 - 1} {
		l = append(l, with(b, o+16, v), with(b, last+8, v))
	}
	for _, v := range []uint64{o, last} {
		x, _ := standing(b, v)
		l = append(l, tagged(b, api.Block{Off: x.Off, Size: x.Size, Used: true}), with(b, v, at(b, int(v))^1))
	}
	return append(l, with(b, first, 0), with(b, last+16, 200))
}

// P10.1: a list that is broken: of a lesser class than that of size, or of a
// greater one than that of which a block was found, it isn't looked at; else it
// is an error, also where the list has a block that has room ahead of what is
// broken.
func TestFindWithABrokenList(t *testing.T) {
	for c := range 22 {
		for i, b := range breaks(c) {
			a := made(t, bases()[(c+i)%len(bases())], b)
			for k := range 22 {
				if _, err := list.All(a, k); (err != nil) != (k == c) {
					t.Fatalf("All(%d) of the way %d to break %d: %v", k, i, c, err)
				}
			}
			for _, size := range fewSizes() {
				if c < classOf(size) || c > placedClass(size) {
					wantFind(t, a, size, placed(size))
				} else {
					wantNoFind(t, a, size, api.ErrForm)
				}
			}
		}
	}
}

// P10.1: the same by hand, of four lists.
func TestFindWithOneOfFourListsBroken(t *testing.T) {
	for _, base := range bases() {
		lesser := made(t, base, with(listed(), 8, 200))
		wantNoFind(t, lesser, 32, api.ErrForm)
		wantFind(t, lesser, 48, 280)
		wantFind(t, lesser, 272, 920)
		greater := made(t, base, with(listed(), 136, 200))
		wantFind(t, greater, 400, 920)
		wantFind(t, greater, 496, 1384)
		wantNoFind(t, greater, 512, api.ErrForm)
		wantNoFind(t, greater, 1008, api.ErrForm)
		wantFind(t, greater, 1024, 5480)
		own := made(t, base, with(listed(), 616+16, 184))
		wantFind(t, own, 256, 360)
		wantNoFind(t, own, 272, api.ErrForm)
		wantNoFind(t, own, 496, api.ErrForm)
		wantFind(t, own, 512, 2920)
		beyond := made(t, base, with(listed(), 0, at(listed(), 0)|1<<21))
		wantFind(t, beyond, 2048, 5480)
		wantNoFind(t, beyond, 2064, api.ErrForm)
		wantNoFind(t, beyond, 16384, api.ErrForm)
	}
}

// P10.1: the numbers that stand in the arena behind a Rebuild of free blocks of
// one class, told by hand.
func TestRebuildOfOneClass(t *testing.T) {
	l := []api.Block{{Off: 184, Size: 32}, {Off: 216, Size: 48, Used: true}, {Off: 264, Size: 32}, {Off: 296, Size: 32}, {Off: 328, Size: 64, Used: true}}
	for _, base := range bases() {
		b := tagged(counted(392), l...)
		a := made(t, base, b)
		wantError(t, "Rebuild", Rebuild(a), nil)
		want := with(b, 0, 1, 8, 296, 304, 264, 312, 0, 272, 184, 280, 296, 192, 0, 200, 264)
		wantState(t, "Rebuild", a, state{base, 392, 16384, string(want)})
		wantList(t, a, 0, 296, 264, 184)
	}
}

// P10.1: free blocks of many classes; whatever the lists held, they are the same
// behind it.
func TestRebuildOfManyClasses(t *testing.T) {
	for i, b := range heads() {
		a := made(t, bases()[i%len(bases())], b)
		wantRebuild(t, a)
		wantList(t, a, 0, 248, 184)
		wantList(t, a, 1, 280)
		wantList(t, a, 14, 360)
		wantList(t, a, 15, 1384, 920, 616)
		wantList(t, a, 16, 2920, 1912)
		wantList(t, a, 18, 5480)
		for _, size := range fewSizes() {
			want := placed(size)
			switch want {
			case 184:
				want = 248
			case 920:
				want = 1384
			}
			wantFind(t, a, size, want)
		}
	}
}

// heads tells arenas of the same blocks, whose lists, and what stands within the
// free ones, are others: none, right ones, some of the blocks alone, what is no
// block, circles, and numbers that are no lists at all.
func heads() [][]byte {
	l := [][]byte{bare(), listed(), chained(bare(), 15, 616), chained(bare(), 0, 248, 184)}
	for _, c := range []byte{1, 7, 32, 184, 255} {
		l = append(l, append(bytes.Repeat([]byte{c}, 184), bare()[184:]...))
		l = append(l, append(bytes.Repeat([]byte{c}, 184), listed()[184:]...))
	}
	for c := range 22 {
		l = append(l, with(listed(), uint64(8+8*c), 200), with(listed(), 0, 1<<c))
		l = append(l, chained(bare(), c, 184, 616))
	}
	for _, o := range []uint64{192, 200, 256, 624, 632, 928, 1392, 1400} {
		for _, v := range []uint64{0, 184, 616, 200, 1<<64 - 1} {
			l = append(l, with(listed(), o, v))
		}
	}
	for _, o := range []uint64{200, 600, 640, 2000, 3500} {
		l = append(l, with(listed(), o, 32, o+24, 32))
	}
	return l
}

// P10.1: no blocks, used ones alone, free ones alone, two free ones side by side;
// whatever the first Start bytes were, they are 0 but for those lists.
func TestRebuildOfFewBlocks(t *testing.T) {
	layouts := [][]api.Block{
		nil,
		{{Off: 184, Size: 32, Used: true}},
		{{Off: 184, Size: 32, Used: true}, {Off: 216, Size: 4096, Used: true}},
		{{Off: 184, Size: 32}},
		{{Off: 184, Size: 32}, {Off: 216, Size: 32}},
		{{Off: 184, Size: 32}, {Off: 216, Size: 48}},
		{{Off: 184, Size: 272}, {Off: 456, Size: 496}, {Off: 952, Size: 512}},
		{{Off: 184, Size: 16192}},
		{{Off: 184, Size: 16192, Used: true}},
	}
	for _, base := range bases() {
		for _, l := range layouts {
			end := 184
			for _, x := range l {
				end += x.Size
			}
			for _, head := range [][]byte{make([]byte, 184), listed()[:184], bytes.Repeat([]byte{255}, 184)} {
				a := made(t, base, append(slices.Clone(head), tagged(counted(end), l...)[184:]...))
				wantRebuild(t, a)
				wantFinds(t, a, fewSizes())
				for c := range 22 {
					wantList(t, a, c, falling(l, c)...)
				}
				wantRebuild(t, a)
			}
		}
	}
}

// P10.1: Rebuild of an arena of Start bytes, whatever they are: they are 0.
func TestRebuildOfStartBytes(t *testing.T) {
	for _, base := range bases() {
		for _, c := range []byte{0, 1, 184, 255} {
			a := made(t, base, bytes.Repeat([]byte{c}, 184))
			wantError(t, "Rebuild", Rebuild(a), nil)
			wantState(t, "Rebuild", a, state{base, 184, 16384, string(make([]byte, 184))})
		}
	}
}

// P10.1, P10.2: the arena ends elsewhere than its last block: too few bytes are
// left for a block, or the block is cut off.
func TestRebuildWhereTheEndIsAmiss(t *testing.T) {
	for _, base := range []uint64{0, 160, 1 << 62} {
		for _, b := range [][]byte{bare(), listed()} {
			ends := map[int]bool{184: true}
			for _, x := range some() {
				ends[x.Off+x.Size] = true
			}
			for n := 184; n < someEnd; n++ {
				if n > 1000 && n%8 != 0 && n%61 != 0 {
					continue
				}
				a := made(t, base, b[:n])
				if ends[n] {
					wantRebuild(t, a)
				} else {
					wantNoRebuild(t, a)
				}
			}
			for d := 1; d <= 64; d++ {
				for _, c := range []byte{0, 32, 255} {
					wantNoRebuild(t, made(t, base, append(slices.Clone(b), bytes.Repeat([]byte{c}, d)...)))
				}
			}
		}
	}
}

// P10.1, P10.2: a tag at either end of any block that is none, or another one.
func TestRebuildWhereATagIsAmiss(t *testing.T) {
	for i, x := range some() {
		base := bases()[i%len(bases())]
		w := at(bare(), x.Off)
		for _, v := range []uint64{0, 1, 16, 17, 31, 34, 40, 16400, 16401, w ^ 1, w + 16, w - 16, w + 1<<32, w + 1<<63, -w, 1<<64 - 1} {
			for _, b := range [][]byte{bare(), listed()} {
				wantNoRebuild(t, made(t, base, with(b, uint64(x.Off), v)))
				wantNoRebuild(t, made(t, base, with(b, uint64(x.Off+x.Size-8), v)))
			}
		}
		for _, v := range []uint64{0, 16, 40, 16400, w + 1<<63} {
			wantNoRebuild(t, made(t, base, with(listed(), uint64(x.Off), v, uint64(x.Off+x.Size-8), v)))
		}
	}
}

// P10.1, P10.2: a block that ends ahead of the next, or within it; one that
// reaches beyond the end.
func TestRebuildWhereBlocksDontMeet(t *testing.T) {
	for i, x := range some() {
		for _, d := range []int{-16, 16} {
			if x.Size+d < 32 {
				continue
			}
			b := append(listed(), make([]byte, 16)...)
			y := api.Block{Off: x.Off, Size: x.Size + d, Used: x.Used}
			wantNoRebuild(t, made(t, bases()[i%len(bases())], tagged(b, y)[:someEnd]))
		}
	}
	for _, size := range []int{64, 4096, 16384} {
		wantNoRebuild(t, made(t, 160, with(listed(), 7528, uint64(size))))
		wantNoRebuild(t, made(t, 160, with(listed(), 184, uint64(size))))
	}
}

// P10.2: with an error of Rebuild the lists are as they were, so Find tells what
// it told.
func TestFindBehindAnErrorOfRebuild(t *testing.T) {
	a := made(t, 160, with(listed(), 7528, 7))
	wantNoRebuild(t, a)
	for _, size := range sizes() {
		wantFind(t, a, size, placed(size))
	}
}

// layouts tells each list of blocks that has all bytes from an offset up to n,
// used and free in every way.
func layouts(off, n int) [][]api.Block {
	if off == n {
		return [][]api.Block{nil}
	}
	var all [][]api.Block
	for size := 32; off+size <= n; size += 16 {
		for _, used := range []bool{false, true} {
			x := api.Block{Off: off, Size: size, Used: used}
			for _, rest := range layouts(off+size, n) {
				all = append(all, append([]api.Block{x}, rest...))
			}
		}
	}
	return all
}

// wantNoneJustIfNone wants Find to tell a free block that has room, or 0, just if
// there is none (P10.3).
func wantNoneJustIfNone(t *testing.T, a *arena.Arena, l []api.Block, size int) {
	t.Helper()
	o, err := Find(a, size)
	wantError(t, "Find", err, nil)
	fits := slices.DeleteFunc(slices.Clone(l), func(x api.Block) bool { return x.Used || x.Size < size })
	told := slices.ContainsFunc(fits, func(x api.Block) bool { return x.Off == o })
	if told != (len(fits) > 0) || (o == 0) != (len(fits) == 0) {
		t.Fatalf("Find(%d) of %v = %d", size, l, o)
	}
}

// P10.3: whatever blocks have all bytes from Start on.
func TestRebuildOfEveryLayout(t *testing.T) {
	count := 0
	for n := 184; n <= 184+9*16; n += 16 {
		for i, l := range layouts(184, n) {
			count++
			a := made(t, bases()[i%len(bases())], tagged(counted(n), l...))
			wantRebuild(t, a)
			for size := 32; size <= 192; size += 16 {
				wantNoneJustIfNone(t, a, l, size)
			}
			wantNoneJustIfNone(t, a, l, 16384)
		}
	}
	if count < 300 {
		t.Errorf("%d layouts were asked", count)
	}
}

// P10.3: as many free blocks as an arena may have, and free ones between as many
// used ones; what is behind the last is then no block.
func TestTheLongestArena(t *testing.T) {
	for _, every := range []int{1, 2, 3} {
		var l []api.Block
		for o := 184; o+32 <= 16376; o += 32 {
			l = append(l, api.Block{Off: o, Size: 32, Used: len(l)%every != 0})
		}
		b := tagged(counted(16384), l...)
		a := made(t, 1<<62, b[:16376])
		wantRebuild(t, a)
		wantList(t, a, 0, falling(l, 0)...)
		wantFind(t, a, 32, falling(l, 0)[0])
		wantFind(t, a, 48, 0)
		wantNoRebuild(t, made(t, 1<<62, b))
	}
}

// P10.1: with the lists that Put and Take made Find tells the same as the model,
// through a long run; what comes next hangs on a rule of its own.
func TestALongRun(t *testing.T) {
	a := made(t, 1<<62-16, bare())
	x := uint32(1)
	for range 3000 {
		x = x*1664525 + 1013904223
		y := some()[int(x>>8)%len(some())]
		switch x >> 29 {
		case 0:
			was, err := block.Get(a, y.Off)
			wantError(t, "Get", err, nil)
			y.Used = !was.Used
			wantError(t, "Set", block.Set(a, y), nil)
			wantFinds(t, a, fewSizes())
			wantRebuild(t, a)
		case 1, 2, 3:
			_ = list.Take(a, y.Off)
		default:
			if l, _ := list.All(a, classOf(y.Size)); !slices.Contains(l, y.Off) {
				_ = list.Put(a, y.Off)
			}
		}
		wantFinds(t, a, fewSizes())
	}
}

// values tells numbers to try in place of one that stands in an arena of some.
func values() []uint64 {
	l := []uint64{0, 1, 33, 32, 48, 272, 496, 1 << 15, 1<<64 - 1, 1 << 63, 1<<63 + 184, 1<<64 - 184, 176, 200, someEnd, 0x5c003}
	for _, x := range some() {
		l = append(l, uint64(x.Off))
	}
	return l
}

// P10.1, P10.2: each number of an arena's lists and tags is made another one, and
// each call is held against the model.
func TestEachNumberAmiss(t *testing.T) {
	places := []int{}
	for o := 0; o < 184; o += 8 {
		places = append(places, o)
	}
	for _, x := range some() {
		places = append(places, x.Off, x.Off+8, x.Off+16, x.Off+x.Size-8)
	}
	for _, b := range [][]byte{listed(), bare()} {
		for i, o := range places {
			for _, v := range values() {
				a := made(t, bases()[i%len(bases())], with(b, uint64(o), v))
				wantFinds(t, a, []int{32, 48, 256, 272, 400, 496, 512, 1008, 2048, 2064})
				wantRebuild(t, a)
			}
		}
	}
}

// P1, P10.1: blocks that have bytes in common: the same tag at every place, so
// that the lists are within tags.
func TestBlocksThatOverlap(t *testing.T) {
	for _, w := range []uint64{32, 33, 48, 64} {
		for n := 184; n <= 344; n += 8 {
			b := make([]byte, n)
			for o := 184; o+8 <= n; o += 8 {
				put(b, o, w)
			}
			for o := 184; o+int(w) <= n; o += 16 {
				a := made(t, 160, b)
				_ = list.Put(a, o)
				wantFinds(t, a, []int{32, 48, 64, 80, 16384})
				wantRebuild(t, a)
				wantFinds(t, a, []int{32, 48, 64, 80, 16384})
			}
		}
	}
}

// P1: bytes that are all alike, and numbers that are, of every length about the
// places that are read.
func TestBytesThatAreAlike(t *testing.T) {
	for _, n := range []int{0, 7, 8, 16, 183, 184, 185, 192, 200, 215, 216, 217, 400, 1024, 16383, 16384} {
		for c := range 256 {
			a := made(t, bases()[c%len(bases())], bytes.Repeat([]byte{byte(c)}, n))
			wantFinds(t, a, []int{32, 272, 16384})
			wantRebuild(t, a)
			b := make([]byte, n)
			for o := 0; o+8 <= n; o += 8 {
				put(b, o, uint64(c)*8)
			}
			a = made(t, bases()[c%len(bases())], b)
			wantFinds(t, a, []int{32, 272, 16384})
			wantRebuild(t, a)
		}
	}
}

// Rule 8: nothing is kept: what one arena holds is not told of another.
func TestArenasAreApart(t *testing.T) {
	a, b := made(t, 160, bare()), made(t, 160, bare())
	wantRebuild(t, a)
	wantFind(t, b, 32, 0)
	wantFind(t, a, 32, 248)
	wantState(t, "Rebuild of another arena", b, state{160, someEnd, 16384, string(bare())})
	c := a.Clone()
	wantError(t, "Take", list.Take(c, 248), nil)
	wantFind(t, c, 32, 184)
	wantFind(t, a, 32, 248)
	wantRebuild(t, c)
	wantFind(t, c, 32, 248)
}

// What is told hangs on the bytes that are there alone: not on the capacity: what
// could grow is no block.
func TestTheCapacityIsNotAsked(t *testing.T) {
	a := arena.New(160, someEnd)
	wantError(t, "Grow", a.Grow(someEnd), nil)
	wantError(t, "Store", a.Store(160, listed()), nil)
	for _, capacity := range []int{someEnd, someEnd + 1, 16384} {
		wantError(t, "Widen", a.Widen(capacity), nil)
		for _, size := range sizes() {
			wantFind(t, a, size, placed(size))
		}
	}
	wantRebuild(t, a)
	wantFind(t, a, 2048, 5480)
	wantFind(t, a, 2064, 0)
}
