package heap

import (
	"bytes"
	"cantle/api"
	"cantle/arena"
	"cantle/check"
	"cantle/list"
	"math"
	"slices"
	"testing"
)

// bases are those at which an address is near 0, near the greatest, or neither.
func bases() []uint64 {
	return []uint64{0, 16, 160, 192, 1 << 32, 1<<62 - 16, 1 << 62}
}

// baseOf tells the base of the i-th try.
func baseOf(i int) uint64 { return bases()[i%len(bases())] }

// capacities are the least ones, the greatest ones, and some between, be they a
// multiple of 16 or not.
func capacities() []int {
	return []int{1024, 1025, 1039, 1040, 1400, 5000, 8192, 16376, 16383, 16384}
}

// made tells an arena of these bytes.
func made(t *testing.T, base uint64, capacity int, b []byte) *arena.Arena {
	t.Helper()
	a := arena.New(base, capacity)
	if a == nil {
		t.Fatalf("New(%#x, %d) is nil", base, capacity)
	}
	wantError(t, "Grow", a.Grow(len(b)), nil)
	wantError(t, "Store", a.Store(base, b), nil)
	return a
}

// begin tells a heap without blocks.
func begin(t *testing.T, base uint64, capacity int) *Heap {
	t.Helper()
	h, err := New(base, capacity)
	wantError(t, "New", err, nil)
	if h == nil {
		t.Fatalf("New(%#x, %d) is nil", base, capacity)
	}
	return h
}

// heapOf tells a heap of what an arena is.
func heapOf(t *testing.T, a *arena.Arena) *Heap {
	t.Helper()
	h, err := Of(a)
	wantError(t, "Of", err, nil)
	if h == nil {
		t.Fatal("Of of an arena that is right is nil")
	}
	return h
}

// of tells a heap of these blocks, the free ones in lists by falling offsets; that
// of a size below 0 is used.
func of(t *testing.T, base uint64, capacity int, sizes ...int) *Heap {
	t.Helper()
	return heapOf(t, made(t, base, capacity, listed(row(sizes...))))
}

// state is all that an arena tells of itself.
type state struct {
	base             uint64
	length, capacity int
	all              string
}

func stateOf(t *testing.T, a *arena.Arena) state {
	t.Helper()
	if a == nil {
		t.Fatal("the arena is nil")
	}
	b, err := a.Load(a.Base(), uint64(a.Len()))
	if err != nil || len(b) != a.Len() {
		t.Fatalf("Load of all %d bytes: %d bytes, %v", a.Len(), len(b), err)
	}
	return state{a.Base(), a.Len(), a.Cap(), string(b)}
}

// modelOf tells the model of a heap, whose arena it wants to be right.
func modelOf(t *testing.T, h *Heap) *model {
	t.Helper()
	a := h.Arena()
	s := stateOf(t, a)
	if !rightOf([]byte(s.all)) || check.Check(a) != nil {
		t.Fatalf("base %#x, %d bytes: not right ahead of the call", s.base, s.length)
	}
	return &model{[]byte(s.all), s.capacity}
}

// wantError wants the Code itself, so nothing that wraps it.
func wantError(t *testing.T, what string, err, want error) {
	t.Helper()
	if err == nil || want == nil {
		if err != nil || want != nil {
			t.Fatalf("%s: error %v, want %v", what, err, want)
		}
		return
	}
	if err != want {
		t.Fatalf("%s: error %v, want %v", what, err, want)
	}
}

// wantModel wants a heap's arena to be right, and to stand as the model does, at the
// base where it was.
func wantModel(t *testing.T, what string, h *Heap, m *model, base uint64) {
	t.Helper()
	a := h.Arena()
	got := stateOf(t, a)
	if want := (state{base, len(m.b), m.capacity, string(m.b)}); got != want {
		t.Fatalf("%s: base %#x, %d bytes of %d, want %#x, %d of %d; bytes differ from %d on", what,
			got.base, got.length, got.capacity, want.base, want.length, want.capacity, differ(got.all, want.all))
	}
	if !rightOf(m.b) || check.Check(a) != nil {
		t.Fatalf("%s: not right behind the call", what)
	}
	if s := h.Stats(); s != m.stats() {
		t.Fatalf("%s: stats %+v, want %+v", what, s, m.stats())
	}
}

// differ tells from where on two texts differ.
func differ(a, b string) int {
	i := 0
	for i < len(a) && i < len(b) && a[i] == b[i] {
		i++
	}
	return i
}

// called does a call by its name, and tells as a reply what it tells.
func called(t *testing.T, h *Heap, x api.Call) api.Reply {
	t.Helper()
	var r api.Reply
	var err error
	switch x.Op {
	case api.Malloc:
		r.H, err = h.Malloc(x.N)
	case api.Calloc:
		r.H, err = h.Calloc(x.N, x.M)
	case api.Free:
		err = h.Free(x.H)
	case api.Realloc:
		r.H, err = h.Realloc(x.H, x.N)
	case api.Usable:
		r.N, err = h.Usable(x.H)
	case api.Read:
		r.B, err = h.Read(x.H, x.At, x.N)
	case api.Write:
		err = h.Write(x.H, x.At, x.B)
	case api.Count:
		r.S = h.Stats()
	default:
		err = api.ErrArg
	}
	if err != nil {
		c, ok := err.(api.Code)
		if !ok {
			t.Fatalf("%+v: the error is no Code, but %v", x, err)
		}
		r.Code = int(c)
	}
	return r
}

// same tells whether two replies are the same.
func same(a, b api.Reply) bool {
	return a.Code == b.Code && a.H == b.H && a.N == b.N && a.S == b.S && bytes.Equal(a.B, b.B)
}

// spoil lays other bytes into a list: if it is kept, or shared, it shows.
func spoil(b []byte) {
	b = b[:cap(b)]
	for i := range b {
		b[i] ^= 0x5a
	}
}

// wantCall wants a call by its name, and Do of it on a heap that is alike, to tell
// what the model tells, and do what it does; with an error nothing. It tells the
// reply. What is handed in is to stay as it was, and what is told to be new.
func wantCall(t *testing.T, h *Heap, x api.Call) api.Reply {
	t.Helper()
	was, m := stateOf(t, h.Arena()), modelOf(t, h)
	twin := heapOf(t, h.Arena())
	want := m.do(x)
	given := bytes.Clone(x.B)
	got, done := called(t, h, x), twin.Do(x)
	if !same(got, want) {
		t.Fatalf("base %#x: %+v by its name tells %+v, want %+v", was.base, x, got, want)
	}
	if !same(done, want) {
		t.Fatalf("base %#x: %+v by Do tells %+v, want %+v", was.base, x, done, want)
	}
	if !bytes.Equal(x.B, given) {
		t.Fatalf("%+v: the bytes were %v", x, given)
	}
	spoil(got.B)
	spoil(done.B)
	spoil(x.B)
	wantModel(t, "by its name", h, m, was.base)
	wantModel(t, "by Do", twin, m, was.base)
	if got.Code != 0 && stateOf(t, h.Arena()) != was {
		t.Fatalf("%+v tells error %d, and there was a change", x, got.Code)
	}
	if x.B != nil {
		copy(x.B, given)
	}
	got.B = want.B
	return got
}

// wantCode wants a call to tell this error, or none, and tells the reply.
func wantCode(t *testing.T, h *Heap, x api.Call, code api.Code) api.Reply {
	t.Helper()
	r := wantCall(t, h, x)
	if r.Code != int(code) {
		t.Fatalf("%+v tells %+v, want error %d", x, r, code)
	}
	return r
}

// malloc wants Malloc of n to tell no error, and tells the handle.
func malloc(t *testing.T, h *Heap, n uint64) uint64 {
	t.Helper()
	return wantCode(t, h, api.Call{Op: api.Malloc, N: n}, 0).H
}

// realloc wants Realloc to tell this handle.
func realloc(t *testing.T, h *Heap, p, n, want uint64) {
	t.Helper()
	if r := wantCode(t, h, api.Call{Op: api.Realloc, H: p, N: n}, 0); r.H != want {
		t.Fatalf("Realloc of %d to %d tells %d, want %d", p, n, r.H, want)
	}
}

// free wants Free to tell no error.
func free(t *testing.T, h *Heap, p uint64) {
	t.Helper()
	wantCode(t, h, api.Call{Op: api.Free, H: p}, 0)
}

// write wants Write to tell no error.
func write(t *testing.T, h *Heap, p, at uint64, b []byte) {
	t.Helper()
	wantCode(t, h, api.Call{Op: api.Write, H: p, At: at, B: b}, 0)
}

// wantHeld wants a handle to hold just these bytes.
func wantHeld(t *testing.T, h *Heap, p uint64, want []byte) {
	t.Helper()
	n, err := h.Usable(p)
	wantError(t, "Usable", err, nil)
	if n != uint64(len(want)) {
		t.Fatalf("%d bytes of %d are usable, want %d", n, p, len(want))
	}
	b, err := h.Read(p, 0, n)
	wantError(t, "Read", err, nil)
	if !bytes.Equal(b, want) {
		t.Fatalf("%d holds %v, want %v", p, b, want)
	}
}

// fills tells n bytes that are Fill.
func fills(n int) []byte { return bytes.Repeat([]byte{165}, n) }

// bytesFrom tells n bytes that count up from c, none of which is Fill or 0.
func bytesFrom(c, n int) []byte {
	b := make([]byte, n)
	for i := range b {
		b[i] = byte((c+i)%164) + 1
	}
	return b
}

// wantBlocks wants a heap to have just blocks of these sizes; that of a size below 0
// is used.
func wantBlocks(t *testing.T, h *Heap, sizes ...int) {
	t.Helper()
	s := stateOf(t, h.Arena())
	if l, ok := walkOf([]byte(s.all)); !ok || !slices.Equal(l, row(sizes...)) {
		t.Fatalf("blocks %v, want %v", l, row(sizes...))
	}
}

// wantList wants a class's list to have just these places, in this order.
func wantList(t *testing.T, h *Heap, c int, want ...int) {
	t.Helper()
	l, err := list.All(h.Arena(), c)
	wantError(t, "All", err, nil)
	if !slices.Equal(l, want) {
		t.Fatalf("the list of class %d has %v, want %v", c, l, want)
	}
}

// wantStats wants these, by both ways of asking.
func wantStats(t *testing.T, h *Heap, want api.Stats) {
	t.Helper()
	if r := wantCode(t, h, api.Call{Op: api.Count}, 0); r.S != want || h.Stats() != want {
		t.Fatalf("stats %+v, want %+v", r.S, want)
	}
}

// The chapter's example, at any base, of any capacity.
func TestTheExample(t *testing.T) {
	for _, base := range bases() {
		for _, capacity := range capacities() {
			h := begin(t, base, capacity)
			p, err := h.Malloc(5)
			wantError(t, "Malloc", err, nil)
			n, err := h.Usable(p)
			wantError(t, "Usable", err, nil)
			b, err := h.Read(p, 0, 1)
			wantError(t, "Read", err, nil)
			if p != 192 || n != 16 || !bytes.Equal(b, []byte{165}) {
				t.Fatalf("base %#x: %d; %d; %v", base, p, n, b)
			}
		}
	}
}

// P14.1: New at what makes no arena: ErrArg, and no heap.
func TestNewOfNoArena(t *testing.T) {
	wrongBases := []uint64{1, 8, 15, 17, 184, 1<<32 + 8, 1<<62 - 1, 1<<62 + 1, 1<<62 + 16, 1 << 63, 1<<64 - 16, 1<<64 - 1}
	wrongCapacities := []int{math.MinInt, -16384, -1024, -1, 0, 1, 184, 1008, 1023, 16385, 16400, 32768, 1<<32 + 1024, math.MaxInt}
	none := func(base uint64, capacity int) {
		t.Helper()
		h, err := New(base, capacity)
		wantError(t, "New", err, api.ErrArg)
		if h != nil {
			t.Fatalf("New(%#x, %d) tells a heap beside an error", base, capacity)
		}
	}
	for _, base := range wrongBases {
		for _, capacity := range append(capacities(), wrongCapacities...) {
			none(base, capacity)
		}
	}
	for _, base := range bases() {
		for _, capacity := range wrongCapacities {
			none(base, capacity)
		}
	}
}

// P14.1: New at what does: Start bytes, all 0, at that base, of that capacity.
func TestNew(t *testing.T) {
	for _, base := range bases() {
		for _, capacity := range capacities() {
			h := begin(t, base, capacity)
			want := state{base, 184, capacity, string(make([]byte, 184))}
			if got := stateOf(t, h.Arena()); got != want {
				t.Fatalf("New(%#x, %d) has %+v", base, capacity, got)
			}
			wantStats(t, h, api.Stats{Len: 184, Cap: capacity})
			wantBlocks(t, h)
		}
	}
}

// P14.1: heaps are apart: each has an arena of its own.
func TestHeapsAreApart(t *testing.T) {
	g, h := begin(t, 160, 1024), begin(t, 160, 1024)
	p := malloc(t, g, 100)
	wantStats(t, h, api.Stats{Len: 184, Cap: 1024})
	wantCode(t, h, api.Call{Op: api.Usable, H: p}, api.ErrHandle)
	q := malloc(t, h, 100)
	write(t, h, q, 0, bytesFrom(1, 112))
	wantHeld(t, g, p, fills(112))
	free(t, g, p)
	wantHeld(t, h, q, bytesFrom(1, 112))
}

// P14.1: Of nil: ErrArg, and no heap.
func TestOfNil(t *testing.T) {
	h, err := Of(nil)
	wantError(t, "Of", err, api.ErrArg)
	if h != nil {
		t.Fatal("Of(nil) tells a heap beside an error")
	}
}

// notRight wants Of to tell ErrForm of an arena, and to leave it as it was.
func notRight(t *testing.T, a *arena.Arena) {
	t.Helper()
	was := stateOf(t, a)
	h, err := Of(a)
	wantError(t, "Of", err, api.ErrForm)
	if h != nil || stateOf(t, a) != was {
		t.Fatalf("base %#x, %d bytes: Of tells a heap beside an error, or changed it", was.base, was.length)
	}
}

// P14.1: Of arenas that aren't right, in each way.
func TestOfWhatIsNotRight(t *testing.T) {
	l := row(-48, 32, -64, 32, -32, 272)
	b := listed(l)
	wrongs := [][]byte{
		listed(row(32, 32)), listed(row(-32, 48, 64, -32)), listed(row(-32, 32, 32)), // free ones side by side
		bare(l), chained(bare(l), 15, 440), // free ones in no list
		tagged(b, api.Block{Off: 344, Size: 32, Used: true}), // a used one in a list
		with(b, 0, 0), with(b, 0, 1), with(b, 0, 1<<15), with(b, 0, 1|1<<15|2), // bits
		with(b, 0, 1|1<<15|1<<22), with(b, 0, 1|1<<15|1<<40), with(b, 0, math.MinInt|1|1<<15), // bits beyond
		with(b, 8, 0), with(b, 8, 184), with(b, 8, 440), with(b, 8, 16384), with(b, 8, math.MinInt+344), // first ones
		with(b, 128, 344), with(b, 16, 232), with(b, 8, 232), // of another class, without a bit, not all
		with(b, 344+16, 232), with(b, 232+16, 0), with(b, 232+16, 232), // previous ones
		with(b, 344+8, 0), with(b, 344+8, 344), with(b, 232+8, 344), with(b, 232+8, 232), // next ones
		with(b, 184, 40), with(b, 184, 0), with(b, 184, 16385), with(b, 184, 48), with(b, 184+40, 33), // tags
		with(b, len(b)-8, 0), b[:len(b)-1], b[:len(b)-16], append(bytes.Clone(b), 0), append(bytes.Clone(b), make([]byte, 32)...), // ends
	}
	for i, w := range wrongs {
		for _, capacity := range []int{1024, 16384} {
			if rightOf(w) {
				t.Fatalf("the %d-th of the wrong arenas is right", i)
			}
			notRight(t, made(t, baseOf(i), capacity, w))
		}
	}
	for n := range 184 {
		notRight(t, made(t, baseOf(n), 1024, make([]byte, n)))
	}
	for n := 185; n < 300; n++ {
		notRight(t, made(t, baseOf(n), 1024, make([]byte, n)))
	}
}

// P14.1: each number of lists and tags is made another one: Of tells a heap just if
// the arena is right, and then it has what the arena has.
func TestOfEachNumberAmiss(t *testing.T) {
	l := row(-48, 32, -64, 272, -32, 32, -96)
	b := listed(l)
	var numbers []int
	for o := 0; o < 184; o += 8 {
		numbers = append(numbers, o)
	}
	values := []int{0, 1, 2, 32, 33, 48, 49, 1<<22 | 1, 16384, math.MinInt, -1}
	for _, x := range l {
		numbers = append(numbers, x.Off, x.Off+8, x.Off+16, x.Off+x.Size-8)
		values = append(values, x.Off)
	}
	for i, o := range numbers {
		for _, v := range values {
			w := with(b, o, v)
			a := made(t, baseOf(i), 1024, w)
			if !rightOf(w) {
				notRight(t, a)
			} else if h := heapOf(t, a); stateOf(t, h.Arena()) != stateOf(t, a) {
				t.Fatalf("the number at %d is %d: the heap has other bytes", o, v)
			}
		}
	}
}

// P14.1: Of an arena with blocks and lists: what is done with the heap doesn't change
// the arena, and what is done with the arena doesn't change the heap.
func TestOfTakesWhatIsThereNow(t *testing.T) {
	for i, capacity := range capacities() {
		a := made(t, baseOf(i), capacity, listed(row(-48, 32, -64, 272, -32)))
		was := stateOf(t, a)
		h := heapOf(t, a)
		if stateOf(t, h.Arena()) != was || stateOf(t, a) != was {
			t.Fatal("the heap has other bytes than the arena, or that was changed")
		}
		free(t, h, 192)
		malloc(t, h, 200)
		malloc(t, h, 100)
		write(t, h, 272, 0, []byte{1, 2, 3})
		h.Rebuild()
		wantError(t, "Widen", h.Widen(16384), nil)
		if stateOf(t, a) != was {
			t.Fatal("the heap's calls changed the arena")
		}
		is := stateOf(t, h.Arena())
		wantError(t, "Fill", a.Fill(a.Base(), uint64(a.Len()), 7), nil)
		wantError(t, "Grow", a.Grow(16), nil)
		wantError(t, "Widen", a.Widen(16384), nil)
		if stateOf(t, h.Arena()) != is {
			t.Fatal("what was done with the arena changed the heap")
		}
		wantCode(t, h, api.Call{Op: api.Read, H: 272, N: 3}, 0)
		notRight(t, a)
	}
}

// P14.1: Of twice of one arena: two heaps, which are apart.
func TestOfTwice(t *testing.T) {
	a := made(t, 160, 1024, listed(row(-48, 32, -64)))
	g, h := heapOf(t, a), heapOf(t, a)
	free(t, g, 192)
	write(t, h, 192, 0, []byte{9})
	wantBlocks(t, g, 80, -64)
	wantBlocks(t, h, -48, 32, -64)
	wantBlocks(t, heapOf(t, a), -48, 32, -64)
}

// P14.1: Arena is a Clone: what is done with it doesn't change the heap, nor what was
// told of it ahead, and what the heap does changes none that was told.
func TestArenaIsAClone(t *testing.T) {
	for i, base := range bases() {
		h := of(t, base, 1024, -48, 32, -64)
		first, second := h.Arena(), h.Arena()
		was := stateOf(t, first)
		wantError(t, "Fill", second.Fill(base, uint64(second.Len()), 7), nil)
		wantError(t, "Grow", second.Grow(16*i), nil)
		wantError(t, "Widen", second.Widen(16384), nil)
		if stateOf(t, h.Arena()) != was || stateOf(t, first) != was {
			t.Fatal("what was done with one changed the heap, or another one")
		}
		malloc(t, h, 100)
		write(t, h, 192, 0, []byte{9})
		free(t, h, 272)
		wantError(t, "Widen", h.Widen(2048), nil)
		if stateOf(t, first) != was {
			t.Fatal("what the heap did changed what was told")
		}
	}
}

// P14.1: Widen to what the arena's refuses: ErrArg, and nothing changes; to what it
// doesn't, and more can be taken then.
func TestWiden(t *testing.T) {
	for i, capacity := range capacities() {
		h := of(t, baseOf(i), capacity, -48, 32, -64)
		was := stateOf(t, h.Arena())
		for _, n := range []int{math.MinInt, -1, 0, 184, 1023, capacity - 1, 16385, 1 << 20, 1<<32 + 16384, math.MaxInt} {
			wantError(t, "Widen", h.Widen(n), api.ErrArg)
			if stateOf(t, h.Arena()) != was {
				t.Fatalf("Widen to %d tells an error, and there was a change", n)
			}
		}
		for _, n := range []int{capacity, min(capacity+1, 16384), min(capacity+16, 16384), 16384, 16384} {
			wantError(t, "Widen", h.Widen(n), nil)
			was.capacity = n
			if stateOf(t, h.Arena()) != was {
				t.Fatalf("behind Widen to %d: %+v", n, stateOf(t, h.Arena()))
			}
			wantStats(t, h, api.Stats{Used: 2, Free: 1, Bytes: 80, Len: 328, Cap: n})
		}
		wantError(t, "Widen", h.Widen(16383), api.ErrArg)
	}
}

// P14.1: behind Widen there is just so much more room.
func TestWidenMakesRoom(t *testing.T) {
	for i, base := range bases() {
		h := of(t, base, 1024, -800)
		wantCode(t, h, api.Call{Op: api.Malloc, N: 32}, api.ErrNoMem)
		malloc(t, h, 16)
		for capacity := 1032; capacity < 1200; capacity += 16 {
			wantCode(t, h, api.Call{Op: api.Realloc, H: 992, N: uint64(capacity - 1000)}, api.ErrNoMem)
			wantError(t, "Widen", h.Widen(capacity), nil)
			realloc(t, h, 992, uint64(capacity-1000), 992)
		}
		more := uint64(32 + 16*i)
		wantError(t, "Widen", h.Widen(1192+int(more)), nil)
		wantCode(t, h, api.Call{Op: api.Calloc, N: more - 15, M: 1}, api.ErrNoMem)
		malloc(t, h, more-16)
	}
}

// turned tells bytes of these blocks, whose lists begin at another one: each class's
// at that which falling tells as the n-th.
func turned(l []api.Block, n int) []byte {
	b := bare(l)
	for c := range 22 {
		places := falling(l, c)
		if k := len(places); k > 0 {
			b = chained(b, c, slices.Concat(places[n%k:], places[:n%k])...)
		}
	}
	return b
}

// P14.1: Rebuild: the lists are made anew, whatever order they had; nothing else is
// changed, and the heap goes on.
func TestRebuild(t *testing.T) {
	l := row(32, -48, 32, -32, 272, -32, 400, -64, 32)
	for i, base := range bases() {
		h := heapOf(t, made(t, base, 2048, turned(l, i)))
		for range 2 {
			m := modelOf(t, h)
			m.rebuild()
			h.Rebuild()
			wantModel(t, "Rebuild", h, m, base)
			for c := range 22 {
				wantList(t, h, c, falling(l, c)...)
			}
		}
		if p := malloc(t, h, 16); p != uint64(endOf(l)-32+8) {
			t.Fatalf("behind Rebuild Malloc tells %d", p)
		}
		malloc(t, h, 300)
		free(t, h, 224)
		h.Rebuild()
		wantBlocks(t, h, 112, -32, 272, -32, -320, 80, -64, -32)
	}
}

// P14.1: Rebuild where no block is free, or there is none at all: nothing changes.
func TestRebuildOfNoFreeOnes(t *testing.T) {
	for i, sizes := range [][]int{nil, {-32}, {-832}, {-32, -48, -64}} {
		h := of(t, baseOf(i), 1024, sizes...)
		was := stateOf(t, h.Arena())
		h.Rebuild()
		if stateOf(t, h.Arena()) != was {
			t.Fatalf("Rebuild of %v changed the arena", sizes)
		}
	}
}

// P14.1: Stats behind calls of all kinds.
func TestStats(t *testing.T) {
	h := begin(t, 160, 1024)
	wantStats(t, h, api.Stats{Len: 184, Cap: 1024})
	p, q, r := malloc(t, h, 5), malloc(t, h, 40), malloc(t, h, 100)
	wantStats(t, h, api.Stats{Used: 3, Bytes: 176, Len: 408, Cap: 1024})
	free(t, h, q)
	wantStats(t, h, api.Stats{Used: 2, Free: 1, Bytes: 128, Len: 408, Cap: 1024})
	realloc(t, h, r, 40, r)
	wantStats(t, h, api.Stats{Used: 2, Free: 2, Bytes: 64, Len: 408, Cap: 1024})
	last := wantCode(t, h, api.Call{Op: api.Calloc, N: 8, M: 3}, 0).H
	wantStats(t, h, api.Stats{Used: 3, Free: 1, Bytes: 112, Len: 408, Cap: 1024})
	wantCode(t, h, api.Call{Op: api.Malloc, N: 5000}, api.ErrNoMem)
	wantStats(t, h, api.Stats{Used: 3, Free: 1, Bytes: 112, Len: 408, Cap: 1024})
	wantError(t, "Widen", h.Widen(1500), nil)
	wantStats(t, h, api.Stats{Used: 3, Free: 1, Bytes: 112, Len: 408, Cap: 1500})
	free(t, h, p)
	wantStats(t, h, api.Stats{Used: 2, Free: 1, Bytes: 96, Len: 408, Cap: 1500})
	free(t, h, r)
	wantStats(t, h, api.Stats{Used: 1, Free: 1, Bytes: 48, Len: 408, Cap: 1500})
	free(t, h, last)
	wantStats(t, h, api.Stats{Free: 1, Len: 408, Cap: 1500})
}

// beyond are numbers of bytes that need no size.
func beyond() []uint64 {
	return []uint64{16369, 16370, 16383, 16384, 16385, 1 << 20, 1<<32 - 1, 1 << 32, 1<<32 + 5, 1<<63 - 1, 1 << 63, 1<<63 + 5,
		1<<64 - 32, 1<<64 - 31, 1<<64 - 17, 1<<64 - 16, 1<<64 - 15, 1<<64 - 1}
}

// P14.2: Malloc of 0 and of each n up to some: a block of the size that n needs, all
// whose usable bytes are Fill.
func TestMalloc(t *testing.T) {
	for n := range uint64(300) {
		h := begin(t, baseOf(int(n)), 1024)
		p := malloc(t, h, n)
		size, _ := needOf(whole(n))
		if p != 192 {
			t.Fatalf("Malloc(%d) tells %d, want 192", n, p)
		}
		wantBlocks(t, h, -size)
		wantHeld(t, h, p, fills(size-16))
		if q := malloc(t, h, n); q != p+uint64(size) {
			t.Fatalf("Malloc(%d) tells %d, want %d", n, q, p+uint64(size))
		}
	}
}

// P14.2: Malloc of all that there may be, and of one more; of what needs no size.
func TestMallocOfTheMost(t *testing.T) {
	for i, capacity := range capacities() {
		most := uint64((capacity-184)/16*16 - 16)
		for n := most - 20; n <= most; n++ {
			h := begin(t, baseOf(i), capacity)
			size, _ := needOf(whole(n))
			wantHeld(t, h, malloc(t, h, n), fills(size-16))
		}
		h := begin(t, baseOf(i), capacity)
		for _, n := range append(beyond(), most+1, most+16, 16368) {
			wantCode(t, h, api.Call{Op: api.Malloc, N: n}, api.ErrNoMem)
			wantCode(t, h, api.Call{Op: api.Calloc, N: n, M: 1}, api.ErrNoMem)
			wantCode(t, h, api.Call{Op: api.Calloc, N: 1, M: n}, api.ErrNoMem)
		}
		wantStats(t, h, api.Stats{Len: 184, Cap: capacity})
		malloc(t, h, most)
		for _, n := range append(beyond(), 0, 1) {
			wantCode(t, h, api.Call{Op: api.Malloc, N: n}, api.ErrNoMem)
		}
	}
}

// P14.2: Malloc until nothing is left: each one within the capacity, none with a byte
// in common; then ErrNoMem, and nothing changes.
func TestMallocUntilNothingIsLeft(t *testing.T) {
	for i, capacity := range capacities()[:6] {
		for _, n := range []uint64{0, 16, 17, 100} {
			h := begin(t, baseOf(i), capacity)
			size, _ := needOf(whole(n))
			for k := range (capacity - 184) / size {
				p, err := h.Malloc(n)
				wantError(t, "Malloc", err, nil)
				if p != uint64(192+k*size) {
					t.Fatalf("the %d-th Malloc(%d) tells %d", k, n, p)
				}
			}
			wantCode(t, h, api.Call{Op: api.Malloc, N: n}, api.ErrNoMem)
			wantStats(t, h, api.Stats{Used: (capacity - 184) / size, Bytes: (capacity - 184) / size * (size - 16), Len: 184 + (capacity-184)/size*size, Cap: capacity})
			free(t, h, 192)
			if p := malloc(t, h, n); p != 192 {
				t.Fatalf("Malloc tells %d, want 192", p)
			}
			wantCode(t, h, api.Call{Op: api.Malloc, N: n}, api.ErrNoMem)
		}
	}
}

// P14.2: a new block is Fill, or 0, all of it, where it held other bytes before; also
// one that has 16 bytes more than were asked for, and one at the arena's end.
func TestWhatStoodThereBefore(t *testing.T) {
	for i, n := range []int{16, 32, 48, 96, 240, 400} {
		for _, lacks := range []int{0, 1, 15, 16} {
			for _, x := range []api.Call{{Op: api.Malloc, N: uint64(n - lacks)}, {Op: api.Calloc, N: uint64(n - lacks), M: 1}, {Op: api.Calloc, N: 1, M: uint64(n - lacks)}} {
				want := make([]byte, n+16)
				if x.Op == api.Malloc {
					want = fills(n + 16)
				}
				h := of(t, baseOf(i), 1024, -32, -n-16, -32)
				write(t, h, 224, 0, bytesFrom(i, n))
				free(t, h, 224)
				if r := wantCode(t, h, x, 0); r.H != 224 {
					t.Fatalf("%+v tells %d, want 224", x, r.H)
				}
				wantHeld(t, h, 224, want[:n])
				h = of(t, baseOf(i), 1024, -32, -48)
				write(t, h, 224, 0, bytesFrom(i, 32))
				free(t, h, 224)
				r := wantCode(t, h, x, 0)
				u, err := h.Usable(r.H)
				wantError(t, "Usable", err, nil)
				wantHeld(t, h, r.H, want[:u])
			}
		}
	}
}

// P14.2: Calloc of 0 and any, and of products that need a size: all usable bytes are
// 0.
func TestCalloc(t *testing.T) {
	rows := []struct {
		n, m uint64
		held int
	}{
		{0, 0, 16}, {0, 1, 16}, {1, 0, 16}, {0, 1<<64 - 1, 16}, {1<<64 - 1, 0, 16}, {0, 1 << 63, 16}, {1 << 32, 0, 16},
		{1, 1, 16}, {1, 16, 16}, {16, 1, 16}, {4, 4, 16}, {1, 17, 32}, {17, 1, 32}, {3, 7, 32}, {5, 7, 48}, {20, 40, 800}, {816, 1, 816}, {1, 816, 816}, {272, 3, 816},
	}
	for i, r := range rows {
		h := begin(t, baseOf(i), 1024)
		got := wantCode(t, h, api.Call{Op: api.Calloc, N: r.n, M: r.m}, 0)
		if got.H != 192 {
			t.Fatalf("Calloc(%d, %d) tells %d", r.n, r.m, got.H)
		}
		wantHeld(t, h, 192, make([]byte, r.held))
	}
}

// P14.2: Calloc of products that are too many, just below 2^64, 2^64 itself, and
// beyond it, where what is left of the product is a small number.
func TestCallocOfTooMany(t *testing.T) {
	rows := [][2]uint64{
		{817, 1}, {409, 2}, {16369, 1}, {128, 128}, {1 << 16, 1 << 16}, {1<<32 - 1, 1<<32 + 1}, {1<<64 - 1, 1}, {1<<63 - 1, 2},
		{1 << 32, 1 << 32}, {1 << 63, 2}, {1 << 60, 16}, {1 << 62, 4}, {1 << 40, 1 << 40}, {1 << 63, 1 << 63}, {1<<64 - 1, 1<<64 - 1},
		{1<<63 + 8, 2}, {1<<63 + 1, 2}, {1<<62 + 5, 4}, {1<<61 + 1, 8}, {6148914691236517206, 3}, {1<<32 + 1, 1 << 32}, {1<<33 + 1, 1<<31 + 1},
		{1<<64 - 1, 2}, {3689348814741910324, 5}, {2635249153387078803, 7}, {12297829382473034411, 3},
	}
	for i, r := range rows {
		h := of(t, baseOf(i), 1024, -32, 48)
		wantCode(t, h, api.Call{Op: api.Calloc, N: r[0], M: r[1]}, api.ErrNoMem)
		wantCode(t, h, api.Call{Op: api.Calloc, N: r[1], M: r[0]}, api.ErrNoMem)
	}
}

// ofHandle tells each call that asks a handle.
func ofHandle(p uint64) []api.Call {
	return []api.Call{
		{Op: api.Free, H: p}, {Op: api.Usable, H: p},
		{Op: api.Realloc, H: p, N: 1}, {Op: api.Realloc, H: p, N: 900}, {Op: api.Realloc, H: p, N: 1<<64 - 1},
		{Op: api.Read, H: p}, {Op: api.Read, H: p, N: 1}, {Op: api.Read, H: p, At: 1<<64 - 1, N: 1<<64 - 1},
		{Op: api.Write, H: p}, {Op: api.Write, H: p, B: []byte{1}}, {Op: api.Write, H: p, At: 1<<64 - 1, B: []byte{1, 2}},
	}
}

// noHandle wants each call that asks a handle to tell ErrHandle, ahead of all else.
func noHandle(t *testing.T, h *Heap, p uint64) {
	t.Helper()
	was := stateOf(t, h.Arena())
	for _, x := range ofHandle(p) {
		if r := called(t, h, x); !same(r, api.Reply{Code: int(api.ErrHandle)}) {
			t.Fatalf("base %#x: %+v tells %+v", was.base, x, r)
		}
		if r := h.Do(x); !same(r, api.Reply{Code: int(api.ErrHandle)}) {
			t.Fatalf("base %#x: Do of %+v tells %+v", was.base, x, r)
		}
	}
	if stateOf(t, h.Arena()) != was {
		t.Fatalf("base %#x: %d is no handle, and there was a change", was.base, p)
	}
}

// farHandles are numbers far from all handles; some are one, if bits are lost, or a
// sum wraps round, or the base is added.
func farHandles(base uint64) []uint64 {
	l := []uint64{1 << 16, 1 << 32, 1 << 62, 1 << 63, 1<<63 + 1, 1<<64 - 1, 1<<64 - 7, 1<<64 - 8, 1<<64 - 9, 1<<64 - 16, 1<<64 - 184, 1<<64 - 192}
	for _, p := range []uint64{8, 192, 184} {
		l = append(l, 1<<16+p, 1<<31+p, 1<<32+p, 1<<63+p, base+p, p-base, -p, -p-base, base<<1+p)
	}
	return slices.DeleteFunc(l, func(p uint64) bool { return p < 2000 })
}

// P14.2 to P14.4: each number up to beyond the arena: handles are just 8 more than
// where a used block stands. Within used blocks stand others, which are no blocks of
// Walk's; within free ones, too.
func TestWhatIsNoHandle(t *testing.T) {
	fakes := []api.Block{
		{Off: 200, Size: 64, Used: true}, {Off: 280, Size: 32}, {Off: 376, Size: 64, Used: true}, {Off: 456, Size: 32, Used: true},
		{Off: 520, Size: 112, Used: true}, {Off: 664, Size: 96, Used: true},
	}
	l := row(-160, 192, -64, -96, 112, -32, 32, -48)
	b := tagged(listed(l), fakes...)
	isHandle := map[uint64]bool{}
	for _, x := range l {
		isHandle[uint64(x.Off)+8] = x.Used
	}
	for i, base := range bases() {
		h := heapOf(t, made(t, base, capacities()[i], b))
		for _, p := range farHandles(base) {
			noHandle(t, h, p)
		}
		for p := range uint64(len(b) + 100) {
			if !isHandle[p] {
				noHandle(t, h, p)
				continue
			}
			if n, err := h.Usable(p); err != nil || n == 0 {
				t.Fatalf("Usable(%d) tells %d, %v", p, n, err)
			}
		}
	}
}

// P14.2 to P14.4: a heap without blocks has no handle, nor has one whose blocks are
// free.
func TestNoHandlesAtAll(t *testing.T) {
	for i, base := range bases() {
		for _, h := range []*Heap{begin(t, base, 1024), of(t, base, capacities()[i], 48), of(t, base, 1024, 832)} {
			for _, p := range farHandles(base) {
				noHandle(t, h, p)
			}
			for p := range uint64(1100) {
				if p%8 < 2 {
					noHandle(t, h, p)
				}
			}
		}
	}
}

// P14.2: Free of a handle, and of the same once more; of what was within a block that
// is one with others.
func TestFree(t *testing.T) {
	for i, base := range bases() {
		h := begin(t, base, capacities()[i])
		p, q, r := malloc(t, h, 16), malloc(t, h, 32), malloc(t, h, 48)
		for _, x := range []uint64{p - 8, q - 8, p + 1, p + 8, p + 16, q + 16, r + 48, r + 56, 0, 8} {
			noHandle(t, h, x)
		}
		free(t, h, q)
		noHandle(t, h, q)
		wantBlocks(t, h, -32, 48, -64)
		free(t, h, p)
		noHandle(t, h, p)
		noHandle(t, h, q)
		wantBlocks(t, h, 80, -64)
		wantList(t, h, 3, 184)
		free(t, h, r)
		noHandle(t, h, r)
		wantBlocks(t, h, 144)
		wantList(t, h, 7, 184)
		if x := malloc(t, h, 128); x != p {
			t.Fatalf("Malloc tells %d, want %d", x, p)
		}
		free(t, h, p)
		noHandle(t, h, p)
	}
}

// P14.2: what a block holds isn't asked: tags that are written into it make no handle
// and spoil no block.
func TestForgedTags(t *testing.T) {
	for i, w := range []byte{32, 33, 48, 49, 64, 65} {
		h := of(t, baseOf(i), 1024, -96, -96, 48, -96)
		for _, p := range []uint64{192, 288, 432} {
			b := make([]byte, 80)
			for o := 0; o < 80; o += 8 {
				b[o] = w
			}
			write(t, h, p, 0, b)
		}
		for p := range uint64(600) {
			if p != 192 && p != 288 && p != 432 {
				noHandle(t, h, p)
			}
		}
		free(t, h, 288)
		wantBlocks(t, h, -96, 144, -96)
		realloc(t, h, 192, 16, 192)
		free(t, h, 432)
		wantBlocks(t, h, -32, 304)
		free(t, h, 192)
		wantBlocks(t, h, 336)
	}
}

// P14.3: what Realloc keeps, and what it fills, byte by byte: to each n, of blocks
// beside each kind of neighbour, so that it is cut, stays, takes the free one behind,
// grows, or stands elsewhere.
func TestReallocByteByByte(t *testing.T) {
	rows := []struct {
		blocks []int
		o      int
	}{
		{[]int{-64}, 184}, {[]int{-64, -32}, 184}, {[]int{-64, 48}, 184}, {[]int{-64, 48, -32}, 184}, {[]int{-64, 128, -32}, 184},
		{[]int{-32, -64}, 216}, {[]int{48, -64, -32}, 232}, {[]int{272, -64, 32, -32}, 456}, {[]int{-64, -32, 96, -32}, 184}, {[]int{-64, -32, 96}, 184},
	}
	for i, r := range rows {
		for n := range uint64(280) {
			h := of(t, baseOf(i), 1024, r.blocks...)
			p := uint64(r.o) + 8
			what := bytesFrom(int(n), 48)
			wantError(t, "Write", h.Write(p, 0, what), nil)
			got := wantCode(t, h, api.Call{Op: api.Realloc, H: p, N: n}, 0)
			u, err := h.Usable(got.H)
			wantError(t, "Usable", err, nil)
			if u < n || u > max(n, 16)+31 {
				t.Fatalf("%v: Realloc to %d: %d are usable", r.blocks, n, u)
			}
			wantHeld(t, h, got.H, append(what, fills(300)...)[:u])
			if got.H != p {
				noHandle(t, h, p)
			}
		}
	}
}

// P14.3: to fewer bytes, to as many, to more, in its place and elsewhere, and what is
// beside it stays.
func TestReallocPlaces(t *testing.T) {
	h := begin(t, 160, 1024)
	p, q := malloc(t, h, 64), malloc(t, h, 32)
	write(t, h, p, 0, bytesFrom(1, 64))
	write(t, h, q, 0, bytesFrom(7, 32))
	rows := []struct{ n, want uint64 }{{64, 192}, {50, 192}, {49, 192}, {33, 192}, {16, 192}, {48, 192}, {64, 192}, {65, 320}, {300, 320}, {0, 320}, {688, 320}}
	held := bytesFrom(1, 64)
	for _, r := range rows {
		u, err := h.Usable(p)
		wantError(t, "Usable", err, nil)
		realloc(t, h, p, r.n, r.want)
		p = r.want
		after, err := h.Usable(p)
		wantError(t, "Usable", err, nil)
		held = append(held[:min(u, after)], fills(int(after-min(u, after)))...)
		wantHeld(t, h, p, held)
		wantHeld(t, h, q, bytesFrom(7, 32))
	}
	wantBlocks(t, h, 80, -48, -704)
	wantCode(t, h, api.Call{Op: api.Realloc, H: p, N: 689}, api.ErrNoMem)
	wantCode(t, h, api.Call{Op: api.Realloc, H: q, N: 65}, api.ErrNoMem)
	realloc(t, h, q, 64, 192)
	wantHeld(t, h, 192, append(bytesFrom(7, 32), fills(32)...))
	noHandle(t, h, q)
}

// P14.3: n that needs no size, and where there is no room: ErrNoMem, and nothing
// changes; what was held is held.
func TestReallocNoMem(t *testing.T) {
	for i, r := range []struct {
		blocks []int
		o      int
		n      uint64
	}{
		{[]int{-832}, 184, 817}, {[]int{-32, -800}, 184, 17}, {[]int{-32, -800}, 216, 785}, {[]int{-32, 32, -768}, 184, 49}, {[]int{48, -784}, 232, 769},
		{[]int{-32, -736, 64}, 184, 49}, {[]int{64, -32, 64, -672}, 248, 81},
	} {
		h := of(t, baseOf(i), 1024, r.blocks...)
		p := uint64(r.o) + 8
		what, err := h.Read(p, 0, 16)
		wantError(t, "Read", err, nil)
		for _, n := range append(beyond(), r.n, r.n+16, 16368) {
			wantCode(t, h, api.Call{Op: api.Realloc, H: p, N: n}, api.ErrNoMem)
		}
		wantBlocks(t, h, r.blocks...)
		is, err := h.Read(p, 0, 16)
		wantError(t, "Read", err, nil)
		if !bytes.Equal(is, what) {
			t.Fatal("what was held isn't held")
		}
		wantCode(t, h, api.Call{Op: api.Realloc, H: p, N: r.n - 1}, 0)
	}
}

// P14.4: Read and Write from each place on, of each number of bytes.
func TestRanges(t *testing.T) {
	for i, base := range bases() {
		h := of(t, base, capacities()[i], -32, -48, -32)
		held := bytesFrom(i, 32)
		write(t, h, 224, 0, held)
		for at := range uint64(36) {
			for n := range uint64(36) {
				code := api.Code(0)
				if at+n > 32 {
					code = api.ErrRange
				}
				r := wantCode(t, h, api.Call{Op: api.Read, H: 224, At: at, N: n}, code)
				if code == 0 && !bytes.Equal(r.B, held[at:at+n]) {
					t.Fatalf("Read of %d from %d tells %v", n, at, r.B)
				}
				b := bytesFrom(int(at*7+n), int(n))
				wantCode(t, h, api.Call{Op: api.Write, H: 224, At: at, B: b}, code)
				if code == 0 {
					copy(held[at:], b)
				}
				wantHeld(t, h, 224, held)
			}
		}
	}
}

// P14.4: Read and Write from and of numbers whose sum is beyond 2^64, or that are one
// in reach, if bits are lost.
func TestRangesBeyondAllNumbers(t *testing.T) {
	far := []uint64{33, 40, 48, 1 << 31, 1 << 32, 1<<32 + 1, 1 << 62, 1<<62 + 8, 1 << 63, 1<<63 + 1, 1<<64 - 224, 1<<64 - 48, 1<<64 - 33, 1<<64 - 32, 1<<64 - 31, 1<<64 - 8, 1<<64 - 1}
	for i, base := range bases() {
		h := of(t, base, capacities()[i], -32, -48, -32)
		for _, n := range append(far, -base, -base-224, base, 1<<64-1-base) {
			if n <= 32 {
				continue
			}
			for _, k := range append(far, 0, 1, 31, 32) {
				wantCode(t, h, api.Call{Op: api.Read, H: 224, At: n, N: k}, api.ErrRange)
				wantCode(t, h, api.Call{Op: api.Read, H: 224, At: k, N: n}, api.ErrRange)
			}
			for _, b := range [][]byte{nil, {}, {1}, bytesFrom(1, 32), bytesFrom(1, 33), bytesFrom(1, 300)} {
				wantCode(t, h, api.Call{Op: api.Write, H: 224, At: n, B: b}, api.ErrRange)
			}
		}
	}
}

// P14.4: Write of nil and of none: from 0 up to as many as are usable, and nothing
// changes; Read of none.
func TestNone(t *testing.T) {
	h := of(t, 160, 1024, -32, -48, -32)
	for _, b := range [][]byte{nil, {}} {
		for at := range uint64(33) {
			wantCode(t, h, api.Call{Op: api.Write, H: 224, At: at, B: b}, 0)
			if r := wantCode(t, h, api.Call{Op: api.Read, H: 224, At: at}, 0); len(r.B) > 0 {
				t.Fatalf("Read of none tells %v", r.B)
			}
		}
		wantCode(t, h, api.Call{Op: api.Write, H: 224, At: 33, B: b}, api.ErrRange)
	}
}

// P14.4: Usable: each size less 16, and 16 more where a block was not cut.
func TestUsable(t *testing.T) {
	h := of(t, 160, 1024, -32, -48, -272, 64, -32)
	for p, want := range map[uint64]uint64{192: 16, 224: 32, 272: 256, 608: 16} {
		if r := wantCode(t, h, api.Call{Op: api.Usable, H: p}, 0); r.N != want {
			t.Fatalf("%d bytes of %d are usable, want %d", r.N, p, want)
		}
	}
	p := malloc(t, h, 32)
	if n, err := h.Usable(p); n != 48 || err != nil || p != 544 {
		t.Fatalf("%d bytes of %d are usable, want 48 of 544 (%v)", n, p, err)
	}
	write(t, h, p, 47, []byte{1})
	wantCode(t, h, api.Call{Op: api.Write, H: p, At: 48, B: []byte{1}}, api.ErrRange)
}

// P14.5: Do of what is no call: ErrArg, whatever else is asked, and nothing changes.
func TestDoOfNoCall(t *testing.T) {
	h := of(t, 160, 1024, -32, 48, -64)
	for _, op := range []int{math.MinInt, -256, -8, -1, 0, 9, 10, 16, 255, 256, 257, 1 << 32, 1<<32 + 1, 1<<32 + 8, math.MaxInt} {
		for _, p := range []uint64{0, 192, 272} {
			x := api.Call{Op: op, H: p, N: 1, M: 1, At: 1, B: []byte{1}}
			was := stateOf(t, h.Arena())
			if r := h.Do(x); !same(r, api.Reply{Code: int(api.ErrArg)}) || stateOf(t, h.Arena()) != was {
				t.Fatalf("%+v tells %+v, or there was a change", x, r)
			}
		}
	}
}

// P14.5: Do of each Op asks just its own fields: others make no difference.
func TestDoAsksJustItsFields(t *testing.T) {
	full := func(x, other api.Call) api.Call {
		switch x.Op {
		case api.Malloc:
			other.N = x.N
		case api.Calloc:
			other.N, other.M = x.N, x.M
		case api.Free, api.Usable:
			other.H = x.H
		case api.Realloc:
			other.H, other.N = x.H, x.N
		case api.Read:
			other.H, other.At, other.N = x.H, x.At, x.N
		case api.Write:
			other.H, other.At, other.B = x.H, x.At, x.B
		}
		other.Op = x.Op
		return other
	}
	calls := []api.Call{
		{Op: api.Malloc, N: 40}, {Op: api.Calloc, N: 5, M: 9}, {Op: api.Free, H: 272}, {Op: api.Realloc, H: 192, N: 60}, {Op: api.Usable, H: 272},
		{Op: api.Read, H: 272, At: 3, N: 20}, {Op: api.Write, H: 272, At: 5, B: []byte{1, 2, 3}}, {Op: api.Count},
		{Op: api.Malloc, N: 4000}, {Op: api.Calloc, N: 50, M: 90}, {Op: api.Free, H: 271}, {Op: api.Realloc, H: 192, N: 6000}, {Op: api.Usable, H: 1},
		{Op: api.Read, H: 272, At: 30, N: 20}, {Op: api.Write, H: 272, At: 47, B: []byte{1, 2, 3}},
	}
	others := []api.Call{{}, {H: 192, N: 1, M: 1, At: 1, B: []byte{9}}, {H: 1<<64 - 1, N: 1<<64 - 1, M: 1<<64 - 1, At: 1<<64 - 1, B: bytesFrom(1, 99)}}
	for _, x := range calls {
		for _, other := range others {
			wantCall(t, of(t, 160, 1024, -32, 48, -64), full(x, other))
		}
	}
}

// P14.5: each Op's reply in every field.
func TestDo(t *testing.T) {
	h := begin(t, 160, 1024)
	rows := []struct {
		x    api.Call
		want api.Reply
	}{
		{api.Call{Op: 1, N: 20}, api.Reply{H: 192}},
		{api.Call{Op: 2, N: 3, M: 7}, api.Reply{H: 240}},
		{api.Call{Op: 5, H: 192}, api.Reply{N: 32}},
		{api.Call{Op: 7, H: 192, At: 30, B: []byte{1, 2}}, api.Reply{}},
		{api.Call{Op: 6, H: 192, At: 29, N: 3}, api.Reply{B: []byte{165, 1, 2}}},
		{api.Call{Op: 6, H: 240, At: 0, N: 2}, api.Reply{B: []byte{0, 0}}},
		{api.Call{Op: 4, H: 192, N: 100}, api.Reply{H: 288}},
		{api.Call{Op: 6, H: 288, At: 30, N: 3}, api.Reply{B: []byte{1, 2, 165}}},
		{api.Call{Op: 8}, api.Reply{S: api.Stats{Used: 2, Free: 1, Bytes: 144, Len: 408, Cap: 1024}}},
		{api.Call{Op: 3, H: 240}, api.Reply{}},
		{api.Call{Op: 3, H: 240}, api.Reply{Code: 4}},
		{api.Call{Op: 7, H: 288, At: 112, B: []byte{1}}, api.Reply{Code: 2}},
		{api.Call{Op: 6, H: 288, At: 112, N: 1}, api.Reply{Code: 2}},
		{api.Call{Op: 4, H: 288, N: 2000}, api.Reply{Code: 5}},
		{api.Call{Op: 1, N: 2000}, api.Reply{Code: 5}},
		{api.Call{Op: 2, N: 1 << 63, M: 2}, api.Reply{Code: 5}},
		{api.Call{Op: 8}, api.Reply{S: api.Stats{Used: 1, Free: 1, Bytes: 112, Len: 408, Cap: 1024}}},
		{api.Call{Op: 0}, api.Reply{Code: 1}},
	}
	for i, r := range rows {
		if got := wantCall(t, h, r.x); !same(got, r.want) {
			t.Fatalf("the %d-th call tells %+v, want %+v", i, got, r.want)
		}
	}
}

// P14.6: what Read tells is new memory each time, and what Write was handed isn't
// kept.
func TestMemoryIsNew(t *testing.T) {
	h := of(t, 160, 1024, -32, -48)
	b := bytesFrom(1, 32)
	wantError(t, "Write", h.Write(224, 0, b), nil)
	spoil(b)
	wantHeld(t, h, 224, bytesFrom(1, 32))
	first, err := h.Read(224, 0, 32)
	wantError(t, "Read", err, nil)
	second := h.Do(api.Call{Op: api.Read, H: 224, N: 32}).B
	spoil(second)
	if !bytes.Equal(first, bytesFrom(1, 32)) {
		t.Fatal("two reads share memory")
	}
	spoil(first)
	wantHeld(t, h, 224, bytesFrom(1, 32))
	third := h.Do(api.Call{Op: api.Read, H: 224, N: 32}).B
	write(t, h, 224, 0, make([]byte, 32))
	free(t, h, 224)
	if !bytes.Equal(third, bytesFrom(1, 32)) {
		t.Fatal("what was told changed")
	}
	b = bytesFrom(1, 8)
	if r := h.Do(api.Call{Op: api.Write, H: 192, B: b[:4]}); r.Code != 0 || !bytes.Equal(b, bytesFrom(1, 8)) {
		t.Fatalf("Write tells %+v, and the bytes are %v", r, b)
	}
	spoil(b)
	if got, err := h.Read(192, 0, 4); err != nil || !bytes.Equal(got, bytesFrom(1, 4)) {
		t.Fatalf("%v, %v", got, err)
	}
}

// draw is a row of numbers that a rule tells, each from the one ahead of it.
type draw uint32

// next tells a number from 0 to n - 1.
func (d *draw) next(n int) int {
	*d = *d*1664525 + 1013904223
	return int(*d>>8) % n
}

// pick tells one of these.
func (d *draw) pick(l ...uint64) uint64 { return l[d.next(len(l))] }

// count tells how many bytes are asked for, mostly a few.
func (d *draw) count() uint64 {
	switch d.next(20) {
	case 0:
		return d.pick(beyond()...)
	case 1, 2:
		return uint64(d.next(17000))
	case 3, 4, 5:
		return uint64(d.next(700))
	}
	return uint64(d.next(160))
}

// handle tells a handle of a heap, or what is none.
func (d *draw) handle(m *model, base uint64) uint64 {
	blocks, _ := walkOf(m.b)
	switch d.next(14) {
	case 0:
		return uint64(d.next(len(m.b) + 40))
	case 1:
		return d.pick(farHandles(base)...)
	}
	if len(blocks) == 0 {
		return 192
	}
	return uint64(blocks[d.next(len(blocks))].Off) + 8
}

// call tells a call of a heap.
func (d *draw) call(m *model, base uint64) api.Call {
	x := api.Call{Op: 1 + d.next(8), H: d.handle(m, base)}
	switch x.Op {
	case api.Count:
		x.Op = d.next(12)
	case api.Calloc:
		x.N, x.M = uint64(d.next(30)), uint64(d.next(30))
		if d.next(10) == 0 {
			x.N, x.M = d.pick(1<<32, 1<<63, 1<<64-1, 1<<60+1), d.pick(0, 1, 2, 16, 1<<32)
		}
	case api.Read, api.Write:
		y, _ := m.holder(x.H)
		x.At = uint64(d.next(y.Size + 4))
		x.N = uint64(d.next(y.Size + 4 - min(int(x.At), y.Size)))
		if d.next(12) == 0 {
			x.At, x.N = d.pick(0, 1, 1<<63, 1<<64-1, 1<<64-8), d.pick(0, 1, 8, 1<<63, 1<<64-1)
		}
		x.B = bytesFrom(d.next(256), int(min(x.N, 3000)))
	default:
		x.N = d.count()
	}
	return x
}

// wantDrawn does drawn calls, and what is done beside them, each of which is to do
// what the model does, and tells how often each call told each code.
func (d *draw) wantDrawn(t *testing.T, h *Heap, times int, told map[[2]int]int) {
	t.Helper()
	base := h.Arena().Base()
	for range times {
		m := modelOf(t, h)
		switch d.next(40) {
		case 0:
			m.rebuild()
			h.Rebuild()
			wantModel(t, "Rebuild", h, m, base)
		case 1:
			n := m.capacity - 20 + d.next(400)
			want := n >= m.capacity && n <= 16384
			err := h.Widen(n)
			if (err == nil) != want {
				t.Fatalf("Widen from %d to %d tells %v", m.capacity, n, err)
			}
			if want {
				m.capacity = n
			}
			wantModel(t, "Widen", h, m, base)
		default:
			x := d.call(m, base)
			told[[2]int{x.Op, wantCall(t, h, x).Code}]++
		}
	}
}

// rowOf tells a row of drawn blocks, no two free ones side by side.
func (d *draw) rowOf() []api.Block {
	sizes := []int{32, 32, 48, 64, 80, 96, 272, 288, 400, 512}
	var l []int
	wasFree := false
	for range d.next(12) {
		size := sizes[d.next(len(sizes))]
		wasFree = !wasFree && d.next(3) > 0
		if !wasFree {
			size = -size
		}
		l = append(l, size)
	}
	return row(l...)
}

// P14.1 to P14.6: drawn rows of calls, of heaps made by New and by Of, at any base, of
// any capacity: all replies, all blocks, all lists and the arena agree with the
// model.
func TestDrawnCalls(t *testing.T) {
	d := draw(14)
	told := map[[2]int]int{}
	for i := range 40 {
		d.wantDrawn(t, begin(t, baseOf(i), capacities()[i*7%10]), 150, told)
		b := turned(d.rowOf(), i)
		d.wantDrawn(t, heapOf(t, made(t, baseOf(i), max(1024, len(b)+8*d.next(60)), b)), 150, told)
	}
	for op := 1; op <= 8; op++ {
		if told[[2]int{op, 0}] < 100 {
			t.Errorf("call %d told no error %d times", op, told[[2]int{op, 0}])
		}
	}
	for _, x := range [][2]int{{0, 1}, {9, 1}, {11, 1}, {1, 5}, {2, 5}, {3, 4}, {4, 4}, {4, 5}, {5, 4}, {6, 4}, {6, 2}, {7, 4}, {7, 2}} {
		if told[x] < 5 {
			t.Errorf("call %d told error %d %d times", x[0], x[1], told[x])
		}
	}
}

// holds wants handles to hold what a map of them says, within the capacity, at a
// multiple of 16 from the base on, with no byte in common.
func holds(t *testing.T, h *Heap, held map[uint64][]byte) {
	t.Helper()
	taken := map[uint64]uint64{}
	a := h.Arena()
	for p, want := range held {
		wantHeld(t, h, p, want)
		if (a.Base()+p)%16 != 0 || p+uint64(len(want)) > uint64(a.Cap()) {
			t.Fatalf("%d bytes are held at %d, of %d", len(want), p, a.Cap())
		}
		for i := range want {
			if q, ok := taken[p+uint64(i)]; ok {
				t.Fatalf("%d and %d both hold the byte at %d", p, q, p+uint64(i))
			}
			taken[p+uint64(i)] = p
		}
	}
	if s := h.Stats(); s.Used != len(held) || s.Bytes != len(taken) {
		t.Fatalf("stats %+v, want %d used, and %d bytes", s, len(held), len(taken))
	}
}

// asMap does a call on a map of handles to bytes, and wants the reply to be what that
// allows.
func asMap(t *testing.T, h *Heap, held map[uint64][]byte, x api.Call) {
	t.Helper()
	what, ok := held[x.H]
	r := h.Do(x)
	asks := x.Op >= api.Free && x.Op <= api.Write
	n := x.N
	if x.Op == api.Write {
		n = uint64(len(x.B))
	}
	beyond := x.At > uint64(len(what)) || n > uint64(len(what))-min(x.At, uint64(len(what)))
	want := 0
	switch {
	case asks && !ok:
		want = 4
	case x.Op >= api.Read && x.Op <= api.Write && beyond:
		want = 2
	case x.Op < 1 || x.Op > 8:
		want = 1
	}
	if r.Code != want && (want != 0 || r.Code != 5 || x.Op != api.Malloc && x.Op != api.Calloc && x.Op != api.Realloc) {
		t.Fatalf("%+v tells %+v, want error %d", x, r, want)
	}
	if r.Code != 0 {
		return
	}
	switch x.Op {
	case api.Malloc, api.Calloc:
		if _, ok := held[r.H]; ok {
			t.Fatalf("%+v tells %d, which was told already", x, r.H)
		}
		u, _ := h.Usable(r.H)
		held[r.H] = make([]byte, u)
		if x.Op == api.Malloc {
			held[r.H] = fills(int(u))
		}
	case api.Free:
		delete(held, x.H)
	case api.Realloc:
		u, _ := h.Usable(r.H)
		delete(held, x.H)
		held[r.H] = append(bytes.Clone(what), fills(20000)...)[:u]
	case api.Read:
		if !bytes.Equal(r.B, what[x.At:x.At+x.N]) {
			t.Fatalf("%+v tells %v", x, r.B)
		}
	case api.Write:
		copy(what[x.At:], x.B)
	}
}

// T1: the answers are what a map of handles to bytes allows.
func TestAMapOfHandles(t *testing.T) {
	d := draw(1)
	for i := range 60 {
		h := begin(t, baseOf(i), capacities()[i*3%10])
		held := map[uint64][]byte{}
		for range 120 {
			asMap(t, h, held, d.call(modelOf(t, h), baseOf(i)))
			holds(t, h, held)
		}
	}
}

// roomOf tells the most bytes that are in one place: of a free block, or from behind
// the last used one up to the capacity.
func roomOf(m *model) int {
	blocks, _ := walkOf(m.b)
	most, end := 0, 184
	for _, x := range blocks {
		if x.Used {
			end = x.Off + x.Size
		} else {
			most = max(most, x.Size)
		}
	}
	return max(most, m.capacity-end)
}

// T5: Malloc tells ErrNoMem just if no place has as many bytes as n needs. Once all is
// freed, as much as the capacity has but Start, 16, and what is no multiple of 16, can
// be had at once.
func TestMallocTellsNoMemJustIfThereIsNoRoom(t *testing.T) {
	d := draw(5)
	for i := range 60 {
		capacity := capacities()[i*3%10]
		h := begin(t, baseOf(i), capacity)
		for range 60 {
			h.Do(d.call(modelOf(t, h), baseOf(i)))
			room := roomOf(modelOf(t, h))
			for _, n := range []int{0, 1, 16, 17, 100, room - 40, room - 32, room - 31, room - 16, room - 15, room, room + 1} {
				if n < 0 {
					continue
				}
				size, ok := needOf(whole(uint64(n)))
				p, err := heapOf(t, h.Arena()).Malloc(uint64(n))
				if ok && size <= room {
					wantError(t, "Malloc", err, nil)
				} else if wantError(t, "Malloc", err, api.ErrNoMem); p != 0 {
					t.Fatalf("Malloc tells %d beside an error", p)
				}
			}
		}
		blocks, _ := walkOf(modelOf(t, h).b)
		for _, x := range blocks {
			if x.Used {
				wantError(t, "Free", h.Free(uint64(x.Off)+8), nil)
			}
		}
		most := uint64((capacity-184)/16*16 - 16)
		wantCode(t, h, api.Call{Op: api.Malloc, N: most + 1}, api.ErrNoMem)
		wantHeld(t, h, malloc(t, h, most), fills(int(most)))
	}
}

// Words: a handle is told from the base: the same calls tell the same at every base,
// and all bytes are the same.
func TestTheBaseIsNotAsked(t *testing.T) {
	var first state
	for i, base := range bases() {
		h, d := begin(t, base, 2048), draw(7)
		for range 150 {
			h.Do(d.call(modelOf(t, h), 160))
		}
		s := stateOf(t, h.Arena())
		s.base = 0
		if i == 0 {
			first = s
		}
		if s != first {
			t.Fatalf("base %#x: bytes differ from %d on", base, differ(s.all, first.all))
		}
	}
}

// P1: Of arenas whose bytes are all alike, and of such as have blocks with bytes in
// common: it ends, and tells a heap just if the arena is right.
func TestOfEnds(t *testing.T) {
	of := func(i int, b []byte) {
		t.Helper()
		a := made(t, baseOf(i), 16384, b)
		if !rightOf(b) {
			notRight(t, a)
			return
		}
		h := heapOf(t, a)
		for _, p := range []uint64{0, 192, 208, 224} {
			for _, x := range ofHandle(p) {
				wantCall(t, h, x)
			}
		}
	}
	for i, n := range []int{0, 7, 8, 183, 184, 185, 192, 200, 216, 217, 248, 400, 1024, 16383, 16384} {
		for _, c := range []byte{0, 1, 2, 16, 32, 33, 48, 184, 255} {
			of(i, bytes.Repeat([]byte{c}, n))
			b := make([]byte, n)
			for o := 0; o+8 <= n; o += 8 {
				put(b, o, uint64(c))
			}
			of(i, b)
			for o := 0; o < min(n, 184); o++ {
				b[o] = 0
			}
			of(i, b)
		}
	}
}
