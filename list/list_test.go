package list

import (
	"bytes"
	"cantle/api"
	"cantle/arena"
	"encoding/binary"
	"math"
	"slices"
	"testing"
)

// bases are those at which an address is near 0, near the greatest, or neither.
func bases() []uint64 {
	return []uint64{0, 16, 160, 192, 1 << 32, 1<<62 - 16, 1 << 62}
}

// made tells an arena of these bytes.
func made(t *testing.T, base uint64, b []byte) *arena.Arena {
	t.Helper()
	a := arena.New(base, api.MaxCap)
	if a == nil {
		t.Fatalf("New(%#x, %d) is nil", base, api.MaxCap)
	}
	wantError(t, "Grow", a.Grow(len(b)), nil)
	wantError(t, "Store", a.Store(base, b), nil)
	return a
}

// counted tells n bytes, no two neighbours alike, whose numbers are neither a
// tag nor where a block may stand. The first Start bytes are 0: no class has
// blocks.
func counted(n int) []byte {
	b := make([]byte, n)
	for i := 184; i < n; i++ {
		b[i] = byte(i*37%251) + 1
	}
	return b
}

// put lays a number's eight bytes at o.
func put(b []byte, o int, v uint64) { binary.LittleEndian.PutUint64(b[o:], v) }

// at tells the number of eight bytes at o.
func at(b []byte, o int) uint64 { return binary.LittleEndian.Uint64(b[o:]) }

// tagged lays the tags of blocks into bytes.
func tagged(b []byte, l ...api.Block) []byte {
	b = slices.Clone(b)
	for _, x := range l {
		w := uint64(x.Size)
		if x.Used {
			w++
		}
		put(b, x.Off, w)
		put(b, x.Off+x.Size-8, w)
	}
	return b
}

// chained lays lists into bytes, as the chapter tells them: a first one and a
// bit of the class, and two numbers of each block.
func chained(b []byte, c int, l ...int) []byte {
	b = slices.Clone(b)
	if len(l) == 0 {
		return b
	}
	put(b, 0, at(b, 0)|1<<c)
	put(b, 8+8*c, uint64(l[0]))
	for i, o := range l {
		put(b, o+8, 0)
		put(b, o+16, 0)
		if i > 0 {
			put(b, o+16, uint64(l[i-1]))
		}
		if i+1 < len(l) {
			put(b, o+8, uint64(l[i+1]))
		}
	}
	return b
}

// leasts tells each class's least size, as the chapter of layer 8 lists them.
func leasts() []int {
	return []int{32, 48, 64, 80, 96, 112, 128, 144, 160, 176, 192, 208, 224, 240, 256, 272, 512, 1024, 2048, 4096, 8192, 16384}
}

// classOf tells in which class a size is.
func classOf(size int) int {
	c := 0
	for c+1 < len(leasts()) && leasts()[c+1] <= size {
		c++
	}
	return c
}

// memberAt tells the class that the free block at v is of; -1, if none stands
// there. It tries every size that has room, and holds both tags against it.
func memberAt(b []byte, v uint64) int {
	if v < 184 || v > 16384 || v%16 != 8 {
		return -1
	}
	for size := 32; int(v)+size <= len(b); size += 16 {
		if at(b, int(v)) == uint64(size) && at(b, int(v)+size-8) == uint64(size) {
			return classOf(size)
		}
	}
	return -1
}

// afterPut tells the bytes that are behind a Put of o; false, if it is ErrForm.
func afterPut(b []byte, o int) ([]byte, bool) {
	c := memberAt(b, uint64(int64(o)))
	if c < 0 {
		return nil, false
	}
	first := at(b, 8+8*c)
	if first == uint64(o) || (first != 0 && memberAt(b, first) != c) {
		return nil, false
	}
	b = slices.Clone(b)
	put(b, o+8, first)
	put(b, o+16, 0)
	if first != 0 {
		put(b, int(first)+16, uint64(o))
	}
	put(b, 8+8*c, uint64(o))
	put(b, 0, at(b, 0)|1<<c)
	return b, true
}

// afterTake tells the bytes that are behind a Take of o; false, if it is ErrForm.
func afterTake(b []byte, o int) ([]byte, bool) {
	c := memberAt(b, uint64(int64(o)))
	if c < 0 {
		return nil, false
	}
	next, prev, first := at(b, o+8), at(b, o+16), at(b, 8+8*c)
	switch {
	case prev == 0 && first != uint64(o):
		return nil, false
	case prev != 0 && (memberAt(b, prev) != c || at(b, int(prev)+8) != uint64(o)):
		return nil, false
	case next != 0 && (memberAt(b, next) != c || at(b, int(next)+16) != uint64(o)):
		return nil, false
	}
	b = slices.Clone(b)
	if prev != 0 {
		put(b, int(prev)+8, next)
	}
	if first == uint64(o) {
		put(b, 8+8*c, next)
	}
	if next != 0 {
		put(b, int(next)+16, prev)
	}
	bits := at(b, 0) | 1<<c
	if at(b, 8+8*c) == 0 {
		bits -= 1 << c
	}
	put(b, 0, bits)
	return b, true
}

// listOf tells what a class's list has; false, if All tells ErrForm of it.
func listOf(b []byte, c int) ([]int, bool) {
	if len(b) < 184 || (at(b, 0)>>c%2 == 1) != (at(b, 8+8*c) != 0) {
		return nil, false
	}
	var l []int
	ahead := uint64(0)
	for v := at(b, 8+8*c); v != 0; v = at(b, int(v)+8) {
		if memberAt(b, v) != c || at(b, int(v)+16) != ahead || len(l) >= 1024 {
			return nil, false
		}
		l, ahead = append(l, int(v)), v
	}
	return l, true
}

// state is all that an arena tells of itself.
type state struct {
	base             uint64
	length, capacity int
	all              string
}

func stateOf(t *testing.T, a *arena.Arena) state {
	t.Helper()
	b, err := a.Load(a.Base(), uint64(a.Len()))
	if err != nil || len(b) != a.Len() {
		t.Fatalf("Load of all %d bytes: %d bytes, %v", a.Len(), len(b), err)
	}
	return state{a.Base(), a.Len(), a.Cap(), string(b)}
}

func wantState(t *testing.T, what string, a *arena.Arena, want state) {
	t.Helper()
	got := stateOf(t, a)
	for o := 0; o+8 <= len(want.all) && len(got.all) == len(want.all); o += 8 {
		if g, w := at([]byte(got.all), o), at([]byte(want.all), o); g != w {
			t.Errorf("%s: %d stands at %d, want %d", what, g, o, w)
		}
	}
	if got.all != want.all {
		t.Errorf("%s: bytes are other ones", what)
	}
	got.all, want.all = "", ""
	if got != want {
		t.Errorf("%s: %v, want %v", what, got, want)
	}
}

// wantError wants the Code itself, so nothing that wraps it.
func wantError(t *testing.T, what string, err, want error) {
	t.Helper()
	if err == nil || want == nil {
		if err != nil || want != nil {
			t.Errorf("%s: error %v, want %v", what, err, want)
		}
		return
	}
	if err != want {
		t.Errorf("%s: error %v, want %v", what, err, want)
	}
}

// wantPut wants a Put to do what the model does, be it an error (P9.4: nothing
// changes then).
func wantPut(t *testing.T, a *arena.Arena, o int) {
	t.Helper()
	s := stateOf(t, a)
	b, ok := afterPut([]byte(s.all), o)
	if !ok {
		wantNoPut(t, a, o)
		return
	}
	s.all = string(b)
	wantError(t, "Put", Put(a, o), nil)
	wantState(t, "Put", a, s)
	failAt(t, a, "Put", o)
}

// wantTake wants the same of Take.
func wantTake(t *testing.T, a *arena.Arena, o int) {
	t.Helper()
	s := stateOf(t, a)
	b, ok := afterTake([]byte(s.all), o)
	if !ok {
		wantNoTake(t, a, o)
		return
	}
	s.all = string(b)
	wantError(t, "Take", Take(a, o), nil)
	wantState(t, "Take", a, s)
	failAt(t, a, "Take", o)
}

// wantNoPut wants ErrForm of Put, and no change.
func wantNoPut(t *testing.T, a *arena.Arena, o int) {
	t.Helper()
	was := stateOf(t, a)
	wantError(t, "Put", Put(a, o), api.ErrForm)
	wantState(t, "Put", a, was)
	failAt(t, a, "Put", o)
}

// wantNoTake wants ErrForm of Take, and no change.
func wantNoTake(t *testing.T, a *arena.Arena, o int) {
	t.Helper()
	was := stateOf(t, a)
	wantError(t, "Take", Take(a, o), api.ErrForm)
	wantState(t, "Take", a, was)
	failAt(t, a, "Take", o)
}

func failAt(t *testing.T, a *arena.Arena, what string, o int) {
	t.Helper()
	if t.Failed() {
		t.Fatalf("base %#x: %s of %d, of %d bytes", a.Base(), what, o, a.Len())
	}
}

// wantList wants All to tell just these, and no change.
func wantList(t *testing.T, a *arena.Arena, c int, want ...int) {
	t.Helper()
	was := stateOf(t, a)
	if l, err := All(a, c); err != nil || !slices.Equal(l, want) {
		t.Errorf("base %#x: All(%d) of %d bytes = %v, %v, want %v", a.Base(), c, a.Len(), l, err, want)
	}
	wantState(t, "All", a, was)
}

// wantNoList wants the error of All, nothing beside it (R3), and no change.
func wantNoList(t *testing.T, a *arena.Arena, c int, want error) {
	t.Helper()
	was := stateOf(t, a)
	l, err := All(a, c)
	wantError(t, "All", err, want)
	if len(l) != 0 || t.Failed() {
		t.Fatalf("base %#x: All(%d) of %d bytes = %v, %v, want %v", a.Base(), c, a.Len(), l, err, want)
	}
	wantState(t, "All", a, was)
}

// wantLists holds All of each class against the model.
func wantLists(t *testing.T, a *arena.Arena) {
	t.Helper()
	b := []byte(stateOf(t, a).all)
	for c := range 22 {
		if l, ok := listOf(b, c); ok {
			wantList(t, a, c, l...)
		} else {
			wantNoList(t, a, c, api.ErrForm)
		}
	}
}

// wantWord wants a number at an offset.
func wantWord(t *testing.T, a *arena.Arena, o int, want uint64) {
	t.Helper()
	if v, err := a.Word(a.Base() + uint64(o)); err != nil || v != want {
		t.Errorf("base %#x: %d stands at %d, %v, want %d", a.Base(), v, o, err, want)
	}
}

// wantWords wants numbers at offsets, which come by turns with them.
func wantWords(t *testing.T, a *arena.Arena, l ...int) {
	t.Helper()
	for i := 0; i < len(l); i += 2 {
		wantWord(t, a, l[i], uint64(l[i+1]))
	}
}

// setWord lays a number at an offset of an arena.
func setWord(t *testing.T, a *arena.Arena, o int, v uint64) {
	t.Helper()
	wantError(t, "SetWord", a.SetWord(a.Base()+uint64(o), v), nil)
}

// some are the blocks that most tests have, from Start on, up to someEnd: free
// ones of 32 bytes at 184, 248, 312 and 376, used ones between them, free ones of
// 48 and 288 bytes, a used one, and one of 304 bytes, which is of the same class
// as that of 288.
func some() []api.Block {
	return []api.Block{
		{Off: 184, Size: 32}, {Off: 216, Size: 32, Used: true},
		{Off: 248, Size: 32}, {Off: 280, Size: 32, Used: true},
		{Off: 312, Size: 32}, {Off: 344, Size: 32, Used: true},
		{Off: 376, Size: 32}, {Off: 408, Size: 64, Used: true},
		{Off: 472, Size: 48}, {Off: 520, Size: 288},
		{Off: 808, Size: 48, Used: true}, {Off: 856, Size: 304},
	}
}

const someEnd = 1160

// bare tells the bytes of these blocks, none of which is in a list.
func bare() []byte { return tagged(counted(someEnd), some()...) }

// listed tells the same, most of the free ones in lists.
func listed() []byte {
	return chained(chained(chained(bare(), 0, 312, 184, 376), 1, 472), 15, 856, 520)
}

// The chapter's example.
func TestTheExample(t *testing.T) {
	for _, base := range bases() {
		a := made(t, base, bare())
		wantError(t, "Put", Put(a, 184), nil)
		wantError(t, "Put", Put(a, 312), nil)
		wantList(t, a, 0, 312, 184)
	}
}

// P9.1: the numbers that stand in the arena behind a Put of the first block of a
// class, of a second one, and of a third; nothing else changes.
func TestPutOfThree(t *testing.T) {
	for _, base := range bases() {
		a := made(t, base, bare())
		wantPut(t, a, 248)
		wantWords(t, a, 0, 1, 8, 248, 256, 0, 264, 0)
		wantList(t, a, 0, 248)
		wantPut(t, a, 376)
		wantWords(t, a, 0, 1, 8, 376, 384, 248, 392, 0, 256, 0, 264, 376)
		wantList(t, a, 0, 376, 248)
		wantPut(t, a, 184)
		wantWords(t, a, 0, 1, 8, 184, 192, 376, 200, 0, 384, 248, 392, 184, 256, 0, 264, 376)
		wantList(t, a, 0, 184, 376, 248)
		wantPut(t, a, 520)
		wantWords(t, a, 0, 1<<15+1, 128, 520, 528, 0, 536, 0, 8, 184)
		wantList(t, a, 0, 184, 376, 248)
		wantList(t, a, 15, 520)
	}
}

// P9.1: blocks of sizes that are unlike, but of one class, are in one list; those
// of other classes in others.
func TestPutOfClasses(t *testing.T) {
	a := made(t, 160, bare())
	for _, o := range []int{520, 184, 472, 856} {
		wantPut(t, a, o)
	}
	wantList(t, a, 0, 184)
	wantList(t, a, 1, 472)
	wantList(t, a, 15, 856, 520)
	for _, c := range []int{2, 3, 14, 16, 21} {
		wantList(t, a, c)
	}
	wantWords(t, a, 0, 1<<15+1<<1+1, 8, 184, 16, 472, 128, 856)
}

// P9.1, P9.3: a block of each class that an arena has room for, both the least
// and the greatest of it; of the last class there can be none.
func TestEveryClass(t *testing.T) {
	for c, least := range leasts() {
		if c == 21 {
			break
		}
		for _, size := range []int{least, leasts()[c+1] - 16} {
			if 184+size > 16384 {
				size = 16192
			}
			x := api.Block{Off: 184, Size: size}
			for _, n := range []int{184 + size, 16384} {
				a := made(t, 1<<62, tagged(counted(n), x))
				wantPut(t, a, 184)
				wantWords(t, a, 0, 1<<c, 8+8*c, 184)
				for k := range 22 {
					if k != c {
						wantList(t, a, k)
					}
				}
				wantList(t, a, c, 184)
				wantTake(t, a, 184)
				wantWords(t, a, 0, 0, 8+8*c, 0)
			}
		}
	}
}

// P9.1: one that is the first already, whether it is the only one or not.
func TestPutOfTheFirst(t *testing.T) {
	for _, base := range bases() {
		a := made(t, base, bare())
		wantPut(t, a, 248)
		wantNoPut(t, a, 248)
		wantPut(t, a, 184)
		wantNoPut(t, a, 184)
		wantList(t, a, 0, 184, 248)
		wantPut(t, a, 472)
		wantNoPut(t, a, 472)
	}
}

// P9.1: one that stands behind the first is no error by its words: it is the
// first then, and what is ahead of it tells it as the next, so its list is a
// circle. Taken out, it is as it was, but for its own numbers (P9.5).
func TestPutOfOneBehindTheFirst(t *testing.T) {
	for _, base := range bases() {
		for _, o := range []int{184, 376} {
			a := made(t, base, listed())
			wantError(t, "Put", Put(a, o), nil)
			want := listed()
			put(want, 8, uint64(o))
			put(want, o+8, 312)
			put(want, o+16, 0)
			put(want, 328, uint64(o))
			wantState(t, "Put", a, state{base, someEnd, 16384, string(want)})
			wantNoList(t, a, 0, api.ErrForm)
			wantList(t, a, 15, 856, 520)
			wantTake(t, a, o)
			want = listed()
			put(want, o+8, 312)
			put(want, o+16, 0)
			wantState(t, "Take", a, state{base, someEnd, 16384, string(want)})
		}
	}
}

// P9.1, P9.2: where a used block stands, or none: between two, below Start,
// below 0, at the end, and beyond it.
func TestWhereNoFreeBlockStands(t *testing.T) {
	for _, base := range bases() {
		for _, b := range [][]byte{bare(), listed()} {
			a := made(t, base, b)
			for _, o := range []int{216, 280, 344, 408, 808, 200, 232, 264, 1000, 1144, 1160, 1176, 1320, 16376, 168, 8, 0, -8, -24, -184, -16} {
				wantNoPut(t, a, o)
				wantNoTake(t, a, o)
			}
			for d := 1; d < 32; d++ {
				wantNoPut(t, a, 184+d)
				wantNoTake(t, a, 248-d)
			}
		}
	}
}

// far tells offsets at which no byte is: at the ends of int, at those of 32
// bits, and where the address, or the number, is that of a block again once its
// upper bits are lost.
func far(base uint64) []int {
	l := []int{}
	for _, d := range []int{0, 8, 16, 24, 184, 248, 312, 376, 472} {
		l = append(l, math.MinInt+d, math.MaxInt-d, math.MaxInt-7-d)
		for _, p := range []int{1 << 16, 1 << 31, 1 << 32, 1 << 61, 1 << 62, 3 << 61} {
			l = append(l, p+d, p-d, -p+d, -p-d)
		}
		for _, addr := range []uint64{0, 1 << 62, 1 << 63} {
			l = append(l, int(addr-base)+d, int(addr-base)-d)
		}
	}
	return slices.DeleteFunc(l, func(o int) bool { return o > -200 && o < 20000 })
}

// P9.1, P9.2, P1: offsets far from all bytes.
func TestFarOffsets(t *testing.T) {
	for _, base := range bases() {
		for _, b := range [][]byte{nil, counted(184), bare(), listed()} {
			a := made(t, base, b)
			for _, o := range far(base) {
				wantNoPut(t, a, o)
				wantNoTake(t, a, o)
			}
		}
	}
}

// strays tells numbers that are neither 0 nor where a member of class 0 stands,
// in the arena of some: used blocks, blocks of other classes, none, and numbers
// whose lower bits are where a member stands.
func strays() []uint64 {
	l := []uint64{
		216, 280, 408, 472, 520, 856, 185, 192, 200, 240, 256, 1, 7, 8, 16, 168, 1144, 1160, 1176, 16376, 16384,
		1<<63 - 8, 1<<63 + 184, 1<<64 - 1, 1<<64 - 8, 1<<64 - 184, 1<<64 - 248,
	}
	for shift := 11; shift < 64; shift++ {
		l = append(l, 1<<shift+184, 1<<shift+248, 1<<shift+312)
	}
	return l
}

// P9.1: the first of the class is neither 0 nor a member of it, be its bit 0 or
// 1; a Put into another class goes on.
func TestPutWhereTheFirstIsAmiss(t *testing.T) {
	for _, base := range []uint64{0, 160, 1 << 62} {
		for _, v := range strays() {
			for bit := range uint64(2) {
				a := made(t, base, bare())
				setWord(t, a, 0, bit)
				setWord(t, a, 8, v)
				for _, o := range []int{184, 248, 312, 376} {
					wantNoPut(t, a, o)
				}
				wantPut(t, a, 472)
			}
		}
	}
}

// P9.1: of another class, too, and where the first would be a member of the one
// beside it.
func TestPutWhereTheFirstIsOfAnotherClass(t *testing.T) {
	for _, v := range []uint64{184, 472, 408, 8, 1<<32 + 856, 1<<64 - 856} {
		a := made(t, 160, bare())
		setWord(t, a, 128, v)
		wantNoPut(t, a, 520)
		wantNoPut(t, a, 856)
		wantPut(t, a, 184)
	}
	a := made(t, 160, bare())
	setWord(t, a, 16, 184)
	wantNoPut(t, a, 472)
	setWord(t, a, 128, 856)
	wantPut(t, a, 520)
	wantWords(t, a, 128, 520, 528, 856, 536, 0, 872, 520)
}

// P9.1: neither the class's bit nor what numbers the first has is asked; the bit
// is 1 then, other bits stay.
func TestPutAsksTheFirstAlone(t *testing.T) {
	for _, bits := range []uint64{0, 1, 2, 1 << 22, 1 << 63, 1<<64 - 1, 1<<64 - 2} {
		a := made(t, 160, bare())
		setWord(t, a, 0, bits)
		wantPut(t, a, 184)
		wantWord(t, a, 0, bits|1)
		a = made(t, 160, bare())
		setWord(t, a, 0, bits)
		setWord(t, a, 8, 248)
		wantPut(t, a, 184)
		wantWord(t, a, 0, bits|1)
		wantWords(t, a, 8, 184, 192, 248, 200, 0, 264, 184)
	}
}

// P9.2: the first of three, one in the middle, the last, and the only one: the
// numbers that stand then, the class's bit, and the numbers of what was taken,
// which stay.
func TestTakeFromEachPlace(t *testing.T) {
	for _, base := range bases() {
		a := made(t, base, listed())
		wantTake(t, a, 312)
		wantWords(t, a, 0, 1<<15+3, 8, 184, 192, 376, 200, 0, 320, 184, 328, 0)
		wantList(t, a, 0, 184, 376)

		a = made(t, base, listed())
		wantTake(t, a, 184)
		wantWords(t, a, 0, 1<<15+3, 8, 312, 320, 376, 328, 0, 384, 0, 392, 312)
		wantList(t, a, 0, 312, 376)

		a = made(t, base, listed())
		wantTake(t, a, 376)
		wantWords(t, a, 0, 1<<15+3, 8, 312, 320, 184, 192, 0, 200, 312)
		wantList(t, a, 0, 312, 184)

		a = made(t, base, listed())
		wantTake(t, a, 472)
		wantWords(t, a, 0, 1<<15+1, 16, 0)
		wantList(t, a, 1)
		wantList(t, a, 0, 312, 184, 376)
	}
}

// P9.2: the bit is 1 till the last is taken; those of other classes stay.
func TestTakeOfAll(t *testing.T) {
	for _, order := range permutations([]int{312, 184, 376}) {
		a := made(t, 1<<62, listed())
		left := []int{312, 184, 376}
		for _, o := range order {
			wantTake(t, a, o)
			left = slices.DeleteFunc(left, func(x int) bool { return x == o })
			wantList(t, a, 0, left...)
			if len(left) > 0 {
				wantWord(t, a, 0, 1<<15+3)
			}
		}
		wantWords(t, a, 0, 1<<15+2, 8, 0)
		wantList(t, a, 15, 856, 520)
	}
}

// permutations tells all orders of a list.
func permutations(l []int) [][]int {
	if len(l) == 0 {
		return [][]int{nil}
	}
	var all [][]int
	for i, o := range l {
		rest := slices.Delete(slices.Clone(l), i, i+1)
		for _, p := range permutations(rest) {
			all = append(all, append([]int{o}, p...))
		}
	}
	return all
}

// P9.2: one that is in no list: none has blocks, or others do; with numbers that
// are 0, that are where nothing stands, or that are those it had in its list.
func TestTakeOfOneInNoList(t *testing.T) {
	for _, base := range bases() {
		a := made(t, base, bare())
		for _, o := range []int{184, 248, 472, 520, 856} {
			wantNoTake(t, a, o)
			setWord(t, a, o+8, 0)
			setWord(t, a, o+16, 0)
			wantNoTake(t, a, o)
		}
		a = made(t, base, listed())
		wantNoTake(t, a, 248)
		setWord(t, a, 256, 0)
		setWord(t, a, 264, 0)
		wantNoTake(t, a, 248)
		setWord(t, a, 256, 312)
		wantNoTake(t, a, 248)
		setWord(t, a, 264, 376)
		wantNoTake(t, a, 248)
		for _, o := range []int{312, 376, 472} {
			a = made(t, base, listed())
			wantTake(t, a, o)
			wantNoTake(t, a, o)
		}
	}
}

// P9.2: one that was taken out of the middle twice: its previous has another
// next.
func TestTakeOfOneTwice(t *testing.T) {
	a := made(t, 160, listed())
	wantTake(t, a, 184)
	wantNoTake(t, a, 184)
	wantTake(t, a, 376)
	wantNoTake(t, a, 184)
	wantTake(t, a, 312)
	wantNoTake(t, a, 184)
}

// P9.2: its previous is 0, and it isn't the first of its class.
func TestTakeWithoutAPrevious(t *testing.T) {
	for _, o := range []int{184, 376} {
		a := made(t, 160, listed())
		setWord(t, a, o+16, 0)
		wantNoTake(t, a, o)
	}
	for _, v := range []uint64{0, 184, 216, 472, 1<<32 + 312, 1 << 63, 1<<64 - 1} {
		a := made(t, 160, listed())
		setWord(t, a, 8, v)
		wantNoTake(t, a, 312)
	}
	a := made(t, 160, listed())
	setWord(t, a, 8, 0)
	setWord(t, a, 16, 312)
	wantNoTake(t, a, 312)
}

// P9.2: its previous isn't 0, and no member, or one whose next is another.
func TestTakeWithAPreviousAmiss(t *testing.T) {
	for _, base := range []uint64{0, 160, 1 << 62} {
		for _, v := range append(strays(), 248, 376, 184) {
			for _, o := range []int{312, 184, 376} {
				if v == uint64(o) && o != 184 {
					continue
				}
				a := made(t, base, listed())
				if o == 376 {
					setWord(t, a, 192, 0)
				}
				setWord(t, a, o+16, v)
				wantNoTake(t, a, o)
			}
		}
	}
}

// P9.2: what is told as the previous has it as next, but is used, or of another
// class.
func TestTakeWithAPreviousThatIsNoMember(t *testing.T) {
	for _, p := range []int{216, 472, 520, 408} {
		for _, o := range []int{312, 184, 376} {
			a := made(t, 160, listed())
			setWord(t, a, o+16, uint64(p))
			setWord(t, a, p+8, uint64(o))
			wantNoTake(t, a, o)
		}
	}
}

// P9.2: its next isn't 0, and no member, or one whose previous is another.
func TestTakeWithANextAmiss(t *testing.T) {
	for _, base := range []uint64{0, 160, 1 << 62} {
		for _, v := range append(strays(), 248, 312, 184) {
			for _, o := range []int{312, 184, 376} {
				if v == 184 && o == 312 {
					continue
				}
				a := made(t, base, listed())
				setWord(t, a, o+8, v)
				wantNoTake(t, a, o)
			}
		}
	}
}

// P9.2: what is told as the next has it as previous, but is used, or of another
// class.
func TestTakeWithANextThatIsNoMember(t *testing.T) {
	for _, n := range []int{216, 472, 520, 408} {
		for _, o := range []int{312, 184, 376} {
			a := made(t, 160, listed())
			setWord(t, a, o+8, uint64(n))
			setWord(t, a, n+16, uint64(o))
			wantNoTake(t, a, o)
		}
	}
}

// P9.2: of what is ahead only its next is asked, of what is behind only its
// previous, of the class no bit: the bit is as its first tells then, other bits
// stay.
func TestTakeAsksNoMore(t *testing.T) {
	for _, bits := range []uint64{0, 1, 2, 1<<64 - 1, 1<<64 - 2} {
		a := made(t, 160, listed())
		setWord(t, a, 0, bits)
		setWord(t, a, 328, 1<<40)
		setWord(t, a, 384, 1<<40)
		wantTake(t, a, 184)
		wantWords(t, a, 8, 312, 320, 376, 392, 312)
		wantWord(t, a, 0, bits|1)
		a = made(t, 160, listed())
		setWord(t, a, 0, bits)
		wantTake(t, a, 472)
		wantWords(t, a, 16, 0)
		wantWord(t, a, 0, bits&^2)
	}
	a := made(t, 160, listed())
	setWord(t, a, 8, 0)
	wantTake(t, a, 184)
	wantWords(t, a, 0, 1<<15+2, 8, 0, 320, 376, 392, 312)
}

// P9.2: a broken list whose first has a previous that has it as next: both had
// it, so both have its next, and it is out.
func TestTakeOfAFirstWithAPrevious(t *testing.T) {
	a := made(t, 160, listed())
	setWord(t, a, 8, 184)
	wantTake(t, a, 184)
	wantWords(t, a, 0, 1<<15+3, 8, 376, 320, 376, 392, 312)
	a = made(t, 160, listed())
	setWord(t, a, 8, 376)
	wantTake(t, a, 376)
	wantWords(t, a, 0, 1<<15+2, 8, 0, 192, 0)
}

// P9.3: each class of an arena without bytes behind Start, of one whose blocks
// are in no list, and of one with lists.
func TestAllOfEachClass(t *testing.T) {
	for _, base := range bases() {
		for _, b := range [][]byte{counted(184), counted(185), bare()} {
			a := made(t, base, b)
			for c := range 22 {
				wantList(t, a, c)
			}
		}
		a := made(t, base, listed())
		for c := range 22 {
			switch c {
			case 0:
				wantList(t, a, c, 312, 184, 376)
			case 1:
				wantList(t, a, c, 472)
			case 15:
				wantList(t, a, c, 856, 520)
			default:
				wantList(t, a, c)
			}
		}
	}
}

// P9.3, R1: there is no such class, also where the arena is too short, and where
// a bit and a number stand as if there were.
func TestAllOfNoClass(t *testing.T) {
	for _, base := range bases() {
		for _, b := range [][]byte{nil, counted(183), counted(184), listed(), bytes.Repeat([]byte{255}, 400)} {
			a := made(t, base, b)
			for _, c := range []int{-1, 22, -2, 23, 32, 63, 64, 65, 86, -22, -64, 1 << 32, -1 << 32, math.MaxInt, math.MinInt, math.MinInt + 1} {
				wantNoList(t, a, c, api.ErrArg)
			}
		}
	}
}

// P9.3: fewer bytes than Start, all 0, or as they would be of lists.
func TestFewBytes(t *testing.T) {
	for _, base := range []uint64{0, 160, 1 << 62} {
		for n := range 184 {
			for _, b := range [][]byte{make([]byte, n), listed()[:n], bytes.Repeat([]byte{7}, n)} {
				a := made(t, base, b)
				was := stateOf(t, a)
				for _, c := range []int{0, 1, 2, 15, 20, 21} {
					wantNoList(t, a, c, api.ErrForm)
				}
				wantError(t, "Clear", Clear(a), api.ErrForm)
				wantState(t, "Clear", a, was)
				for _, o := range []int{184, 168, 24, 8, 0} {
					wantNoPut(t, a, o)
					wantNoTake(t, a, o)
				}
			}
		}
	}
}

// P9.3: a bit that is turned, of a class with blocks, or without.
func TestAllWithABitTurned(t *testing.T) {
	for c := range 64 {
		a := made(t, 160, listed())
		setWord(t, a, 0, (1<<15+3)^1<<c)
		for k := range 22 {
			if k == c {
				wantNoList(t, a, k, api.ErrForm)
			}
		}
		wantLists(t, a)
	}
}

// P9.3: each bit of the arena's first bytes is turned: of the class that it tells
// of All isn't as it was, of all others it is.
func TestAllWithABitOfTheHeadTurned(t *testing.T) {
	for o := range 184 {
		for bit := range 8 {
			b := listed()
			b[o] ^= 1 << bit
			a := made(t, 160, b)
			wantLists(t, a)
			if o >= 8 {
				wantNoList(t, a, o/8-1, api.ErrForm)
			}
		}
	}
}

// P9.3: the first, or a later one, is no member.
func TestAllOfOneThatIsNoMember(t *testing.T) {
	for _, v := range strays() {
		for _, o := range []int{8, 320, 192, 384} {
			a := made(t, 160, listed())
			setWord(t, a, o, v)
			wantNoList(t, a, 0, api.ErrForm)
			wantList(t, a, 1, 472)
		}
	}
	for _, v := range []uint64{184, 472, 808, 8} {
		for _, o := range []int{128, 864, 528} {
			a := made(t, 160, listed())
			setWord(t, a, o, v)
			wantNoList(t, a, 15, api.ErrForm)
			wantList(t, a, 0, 312, 184, 376)
		}
	}
}

// P9.3: a block that is in the list was made used, or of another size.
func TestAllOfOneThatIsNoMoreAMember(t *testing.T) {
	for _, o := range []int{312, 184, 376} {
		a := made(t, 160, tagged(listed(), api.Block{Off: o, Size: 32, Used: true}))
		wantNoList(t, a, 0, api.ErrForm)
		a = made(t, 160, tagged(listed(), api.Block{Off: o, Size: 64}))
		wantNoList(t, a, 0, api.ErrForm)
		for _, end := range []int{o, o + 24} {
			b := listed()
			put(b, end, 48)
			wantNoList(t, made(t, 160, b), 0, api.ErrForm)
		}
	}
}

// P9.3: a previous that isn't the one ahead, of the first, of one in the middle,
// and of the last.
func TestAllWithAPreviousAmiss(t *testing.T) {
	ahead := map[int]uint64{312: 0, 184: 312, 376: 184}
	for o, right := range ahead {
		for _, v := range append(strays(), 0, 184, 248, 312, 376) {
			if v == right {
				continue
			}
			a := made(t, 160, listed())
			setWord(t, a, o+16, v)
			wantNoList(t, a, 0, api.ErrForm)
			wantList(t, a, 15, 856, 520)
		}
	}
}

// P9.3, P1: a list that runs in a circle: back to the first, to one in the
// middle, to itself, with each previous that a block may have.
func TestAllOfACircle(t *testing.T) {
	members := []int{312, 184, 376}
	for i, from := range members {
		for _, to := range members[:i+1] {
			for _, prev := range []int{0, 312, 184, 376} {
				a := made(t, 160, listed())
				setWord(t, a, from+8, uint64(to))
				setWord(t, a, to+16, uint64(prev))
				wantNoList(t, a, 0, api.ErrForm)
				for _, o := range members {
					wantTake(t, a.Clone(), o)
					wantPut(t, a.Clone(), o)
				}
			}
		}
	}
}

// P9.3: Clear lays 0 into the first Start bytes, and leaves all others, of lists
// with blocks, of bytes that are no lists, and where nothing is behind them.
func TestClear(t *testing.T) {
	for _, base := range bases() {
		for _, b := range [][]byte{listed(), bare(), counted(184), bytes.Repeat([]byte{255}, 184), bytes.Repeat([]byte{255}, 185), bytes.Repeat([]byte{7}, 16384)} {
			a := made(t, base, b)
			want := append(make([]byte, 184), b[184:]...)
			for range 2 {
				wantError(t, "Clear", Clear(a), nil)
				wantState(t, "Clear", a, state{base, len(b), 16384, string(want)})
			}
			for c := range 22 {
				wantList(t, a, c)
			}
		}
	}
}

// P9.3, P9.1: behind Clear each block can be put again.
func TestPutBehindClear(t *testing.T) {
	a := made(t, 160, listed())
	wantError(t, "Clear", Clear(a), nil)
	for _, o := range []int{184, 312, 376} {
		wantNoPutOfUsed(t, a)
		wantPut(t, a, o)
	}
	wantList(t, a, 0, 376, 312, 184)
}

func wantNoPutOfUsed(t *testing.T, a *arena.Arena) {
	t.Helper()
	for _, x := range some() {
		if x.Used {
			wantNoPut(t, a, x.Off)
		}
	}
}

// P9.5: what was put is first, and taken out again leaves all as it was, but for
// its own numbers.
func TestPutIsTakenBack(t *testing.T) {
	for _, base := range bases() {
		for _, b := range [][]byte{bare(), listed(), chained(bare(), 0, 376), chained(bare(), 15, 520)} {
			for _, x := range some() {
				if _, ok := afterPut(b, x.Off); !ok {
					continue
				}
				a := made(t, base, b)
				want := slices.Clone(b)
				copy(want[x.Off+8:], make([]byte, 16))
				put(want, x.Off+8, at(b, 8+8*classOf(x.Size)))
				wantError(t, "Put", Put(a, x.Off), nil)
				wantWord(t, a, 8+8*classOf(x.Size), uint64(x.Off))
				wantError(t, "Take", Take(a, x.Off), nil)
				wantState(t, "Put and Take", a, state{base, someEnd, 16384, string(want)})
			}
		}
	}
}

// P9.5: the same of every order in which four blocks are put, and then taken in
// every order.
func TestEveryOrder(t *testing.T) {
	orders := permutations([]int{184, 248, 312, 376})
	for i, in := range orders {
		for j, out := range orders {
			a := made(t, bases()[(i+j)%len(bases())], bare())
			var l []int
			for _, o := range in {
				wantError(t, "Put", Put(a, o), nil)
				l = slices.Insert(l, 0, o)
				wantList(t, a, 0, l...)
			}
			for _, o := range out {
				wantError(t, "Take", Take(a, o), nil)
				l = slices.DeleteFunc(l, func(x int) bool { return x == o })
				wantList(t, a, 0, l...)
			}
			wantWords(t, a, 0, 0, 8, 0)
		}
	}
}

// values tells numbers to try in place of one that stands in an arena of some.
func values() []uint64 {
	l := []uint64{0, 1, 2, 3, 1 << 15, 1<<15 + 3, 33, 32, 48, 64, 1<<64 - 1, 1 << 63, 1<<32 + 312, 1<<63 + 184, 1<<64 - 184, 176, 200, someEnd}
	for _, x := range some() {
		l = append(l, uint64(x.Off))
	}
	return l
}

// P9.1 to P9.4: each number of an arena with lists is made another one, and each
// call is held against the model.
func TestEachNumberAmiss(t *testing.T) {
	offsets := []int{0, 8, 168, 184, 200, 216, 248, 312, 376, 472, 520, 856, 872, someEnd, -8}
	for _, b := range [][]byte{listed(), bare()} {
		for o := 0; o+8 <= someEnd; o += 8 {
			if o > 580 && o < 800 || o > 900 && o < 1140 {
				continue
			}
			for _, v := range values() {
				changed := slices.Clone(b)
				put(changed, o, v)
				a := made(t, 160, changed)
				wantLists(t, a)
				for _, at := range offsets {
					wantPut(t, a.Clone(), at)
					wantTake(t, a.Clone(), at)
				}
			}
		}
	}
}

// P9.1 to P9.4, P1: blocks that have bytes in common: the same tag at every
// place, so that a change of one block's numbers changes another's tags.
func TestBlocksThatOverlap(t *testing.T) {
	for _, w := range []uint64{32, 48, 64} {
		for _, n := range []int{216, 232, 248, 280, 296, 312, 320} {
			b := make([]byte, n)
			for o := 184; o < n; o += 8 {
				put(b, o, w)
			}
			for first := 184; first < n; first += 16 {
				for second := 184; second < n; second += 16 {
					a := made(t, 160, b)
					wantPut(t, a, first)
					wantLists(t, a)
					wantPut(t, a, second)
					wantLists(t, a)
					for o := 184; o < n; o += 16 {
						wantPut(t, a.Clone(), o)
						wantTake(t, a.Clone(), o)
					}
				}
			}
		}
	}
}

// P9.1 to P9.3: as many blocks as an arena may have, in one list, and taken out
// of it from its middle on.
func TestTheLongestList(t *testing.T) {
	var l []api.Block
	for o := 184; o+32 <= 16376; o += 32 {
		l = append(l, api.Block{Off: o, Size: 32})
	}
	a := made(t, 1<<62, tagged(counted(16384), l...))
	var want []int
	for _, x := range l {
		wantError(t, "Put", Put(a, x.Off), nil)
		want = append(want, x.Off)
	}
	slices.Reverse(want)
	wantList(t, a, 0, want...)
	for len(want) > 0 {
		i := len(want) / 2
		wantError(t, "Take", Take(a, want[i]), nil)
		want = slices.Delete(want, i, i+1)
		wantList(t, a, 0, want...)
	}
	wantWords(t, a, 0, 0, 8, 0)
}

// P9.1, P9.2: a long run of calls, held against the model each time; what comes
// next hangs on a rule of its own.
func TestALongRun(t *testing.T) {
	a := made(t, 1<<62-16, bare())
	offsets := []int{184, 216, 248, 312, 376, 472, 520, 808, 856, 200, someEnd}
	x := uint32(1)
	for range 20000 {
		x = x*1664525 + 1013904223
		o := offsets[int(x>>8)%len(offsets)]
		if x>>30 < 2 {
			wantTake(t, a, o)
		} else if !isListed(a, o) {
			wantPut(t, a, o)
		}
	}
	wantLists(t, a)
	for c := range 22 {
		if _, err := All(a, c); err != nil {
			t.Errorf("All(%d): %v", c, err)
		}
	}
}

// isListed tells whether a block is in any list.
func isListed(a *arena.Arena, o int) bool {
	for c := range 22 {
		if l, err := All(a, c); err == nil && slices.Contains(l, o) {
			return true
		}
	}
	return false
}

// R2: what is told is new memory: to change it changes neither the arena nor
// what is told next.
func TestAllTellsNewMemory(t *testing.T) {
	a := made(t, 160, listed())
	l, err := All(a, 0)
	wantError(t, "All", err, nil)
	for i := range l {
		l[i] = -1
	}
	_ = append(l, 7)
	wantState(t, "All", a, state{160, someEnd, 16384, string(listed())})
	wantList(t, a, 0, 312, 184, 376)
}

// Rule 8: nothing is kept: what one arena holds is not told of another.
func TestArenasAreApart(t *testing.T) {
	a, b := made(t, 160, bare()), made(t, 160, bare())
	wantPut(t, a, 184)
	wantState(t, "Put into another arena", b, state{160, someEnd, 16384, string(bare())})
	wantList(t, b, 0)
	wantNoTake(t, b, 184)
	c := a.Clone()
	wantTake(t, c, 184)
	wantList(t, a, 0, 184)
	wantList(t, c, 0)
}

// What is told hangs on the bytes that are there alone: not on the capacity, nor
// on the base.
func TestTheCapacityIsNotAsked(t *testing.T) {
	a := arena.New(160, 1160)
	wantError(t, "Grow", a.Grow(someEnd), nil)
	wantError(t, "Store", a.Store(160, listed()), nil)
	wantPut(t, a, 248)
	wantError(t, "Widen", a.Widen(16384), nil)
	wantList(t, a, 0, 248, 312, 184, 376)
	wantTake(t, a, 184)
	wantList(t, a, 0, 248, 312, 376)
	wantPut(t, a, 184)
	wantList(t, a, 0, 184, 248, 312, 376)
}
