package arena

import (
	"bytes"
	"cantle/api"
	"math"
	"math/big"
	"slices"
	"testing"
)

// bases are those at which an address is near 0, near the greatest, or neither.
func bases() []uint64 {
	return []uint64{0, 16, 160, 1 << 32, 1<<62 - 16, 1 << 62}
}

// counted tells n bytes, no two neighbours alike, none of them 0.
func counted(n int) []byte {
	b := make([]byte, n)
	for i := range b {
		b[i] = byte(i*37%251) + 1
	}
	return b
}

// laid tells an arena of n bytes that are counted.
func laid(t *testing.T, base uint64, n int) *Arena {
	t.Helper()
	a := New(base, api.MinCap)
	if a == nil {
		t.Fatalf("New(%#x, %d) is nil", base, api.MinCap)
	}
	wantError(t, "Grow", a.Grow(n), nil)
	wantError(t, "Store", a.Store(base, counted(n)), nil)
	return a
}

// state is all that an arena tells of itself.
type state struct {
	base             uint64
	length, capacity int
	all              string
}

func stateOf(t *testing.T, a *Arena) state {
	t.Helper()
	b, err := a.Load(a.Base(), uint64(a.Len()))
	if err != nil || len(b) != a.Len() {
		t.Fatalf("Load of all %d bytes: %d bytes, %v", a.Len(), len(b), err)
	}
	return state{a.Base(), a.Len(), a.Cap(), string(b)}
}

func wantState(t *testing.T, what string, a *Arena, want state) {
	t.Helper()
	got := stateOf(t, a)
	if got.all != want.all {
		t.Errorf("%s: bytes %v, want %v", what, []byte(got.all), []byte(want.all))
	}
	got.all, want.all = "", ""
	if got != want {
		t.Errorf("%s: %v, want %v", what, got, want)
	}
}

// wantError wants the Code itself, so nothing that wraps it.
func wantError(t *testing.T, what string, err, want error) {
	t.Helper()
	if err == nil || want == nil {
		if err != nil || want != nil {
			t.Errorf("%s: error %v, want %v", what, err, want)
		}
		return
	}
	if err != want {
		t.Errorf("%s: error %v, want %v", what, err, want)
	}
}

func wantLoad(t *testing.T, a *Arena, addr, n uint64, want []byte) {
	t.Helper()
	b, err := a.Load(addr, n)
	if err != nil || !bytes.Equal(b, want) {
		t.Errorf("Load(%#x, %d): %v %v, want %v", addr, n, b, err, want)
	}
}

func wantWord(t *testing.T, a *Arena, addr, want uint64) {
	t.Helper()
	if v, err := a.Word(addr); err != nil || v != want {
		t.Errorf("Word(%#x): %#x %v, want %#x", addr, v, err, want)
	}
}

// The chapter's example.
func TestTheExample(t *testing.T) {
	for _, base := range bases() {
		a := New(base, 1024)
		wantError(t, "Grow", a.Grow(8), nil)
		wantError(t, "SetWord", a.SetWord(base, 258), nil)
		wantLoad(t, a, base, 2, []byte{2, 1})
	}
}

// P3.1: which bases and capacities there are.
func TestNew(t *testing.T) {
	for _, base := range bases() {
		for _, capacity := range []int{1024, 1025, 1040, 16383, 16384} {
			a := New(base, capacity)
			if a == nil {
				t.Errorf("New(%#x, %d) is nil", base, capacity)
				continue
			}
			wantState(t, "New", a, state{base, 0, capacity, ""})
		}
	}
}

// P3.1: bases that are no multiple of 16, or too great, and capacities that
// are too small or too great, each alone and both together.
func TestNewRefuses(t *testing.T) {
	wrong := []uint64{1<<62 + 1, 1<<62 + 8, 1<<62 + 16, 1<<62 + 1<<61, 1 << 63, 1<<63 + 16, 1<<64 - 16, 1<<64 - 1}
	for d := uint64(1); d < 16; d++ {
		wrong = append(wrong, d, 16+d, 1<<62-d)
	}
	sizes := []int{1023, 1022, 1008, 16, 1, 0, -1, -1024, -16384, 16385, 16400, 1 << 32, 1<<32 + 1024, math.MaxInt, math.MinInt, math.MinInt + 1024}
	for _, base := range wrong {
		for _, capacity := range append([]int{1024, 16384}, sizes...) {
			if New(base, capacity) != nil {
				t.Errorf("New(%#x, %d) isn't nil", base, capacity)
			}
		}
	}
	for _, base := range bases() {
		for _, capacity := range sizes {
			if New(base, capacity) != nil {
				t.Errorf("New(%#x, %d) isn't nil", base, capacity)
			}
		}
	}
}

// P3.1: what is laid is 0, behind what stands, which stays.
func TestGrow(t *testing.T) {
	a := New(32, 1024)
	var all []byte
	for i, n := range []int{0, 1, 0, 7, 8, 100, 3, 500, 405, 0} {
		wantError(t, "Grow", a.Grow(n), nil)
		all = append(all, make([]byte, n)...)
		wantState(t, "Grow", a, state{32, len(all), 1024, string(all)})
		wantError(t, "Fill", a.Fill(32, uint64(len(all)), byte(i+1)), nil)
		all = bytes.Repeat([]byte{byte(i + 1)}, len(all))
	}
	if a.Len() != 1024 {
		t.Errorf("%d bytes, want 1024", a.Len())
	}
}

// P3.1: up to the capacity at once, and not by one more.
func TestGrowToTheCapacity(t *testing.T) {
	for _, capacity := range []int{1024, 1025, 16384} {
		for _, had := range []int{0, 1, 184, capacity - 1, capacity} {
			a := New(16, capacity)
			wantError(t, "Grow", a.Grow(had), nil)
			wantError(t, "Grow by one too many", a.Grow(capacity-had+1), api.ErrNoMem)
			wantState(t, "Grow by one too many", a, state{16, had, capacity, string(make([]byte, had))})
			wantError(t, "Grow", a.Grow(capacity-had), nil)
			wantState(t, "Grow", a, state{16, capacity, capacity, string(make([]byte, capacity))})
		}
	}
}

// P3.1, P3.3: what Grow refuses changes nothing.
func TestGrowRefuses(t *testing.T) {
	for _, length := range []int{0, 9, 1024} {
		a := laid(t, 48, length)
		was := stateOf(t, a)
		for _, n := range []int{-1, -2, -9, -1024, math.MinInt32, math.MinInt + 1, math.MinInt} {
			wantError(t, "Grow by less than 0", a.Grow(n), api.ErrArg)
		}
		for _, n := range []int{1025 - length, 1025, 16384, 1 << 31, 1 << 32, 1 << 62, math.MaxInt - length, math.MaxInt - 1, math.MaxInt} {
			wantError(t, "Grow by too many", a.Grow(n), api.ErrNoMem)
		}
		wantState(t, "Grow refused", a, was)
	}
}

// P3.1: the capacity is that, from the old one itself to the greatest.
func TestWiden(t *testing.T) {
	a := laid(t, 64, 1024)
	was := stateOf(t, a)
	for _, capacity := range []int{1024, 1025, 1025, 2000, 16383, 16384, 16384} {
		wantError(t, "Widen", a.Widen(capacity), nil)
		was.capacity = capacity
		wantState(t, "Widen", a, was)
	}
	wantError(t, "Grow behind Widen", a.Grow(16384-1024), nil)
	wantError(t, "Grow behind all", a.Grow(1), api.ErrNoMem)
	wantLoad(t, a, 64, 1024, counted(1024))
	wantLoad(t, a, 64+1024, 16384-1024, make([]byte, 16384-1024))
}

// P3.1: how far it can grow hangs on the capacity then, not on the first one.
func TestWidenGivesJustSoMuchRoom(t *testing.T) {
	a := laid(t, 64, 1000)
	wantError(t, "Grow ahead of Widen", a.Grow(25), api.ErrNoMem)
	wantError(t, "Widen", a.Widen(1025), nil)
	wantError(t, "Grow by one too many", a.Grow(26), api.ErrNoMem)
	wantError(t, "Grow", a.Grow(25), nil)
	wantError(t, "Grow by one too many", a.Grow(1), api.ErrNoMem)
}

// P3.1, P3.3: what Widen refuses changes nothing; the bytes that there are
// don't lower what is asked: less than the capacity is refused.
func TestWidenRefuses(t *testing.T) {
	for _, capacity := range []int{1024, 3000, 16384} {
		a := New(64, capacity)
		wantError(t, "Grow", a.Grow(5), nil)
		was := stateOf(t, a)
		for _, n := range []int{capacity - 1, 1023, 5, 0, -1, math.MinInt, 16385, 1 << 32, 1<<32 + 2000, math.MaxInt} {
			wantError(t, "Widen", a.Widen(n), api.ErrArg)
		}
		wantState(t, "Widen refused", a, was)
	}
}

// there tells by long arithmetic, which never wraps round, whether n bytes
// from addr on are among length bytes from base on.
func there(base uint64, length int, addr, n uint64) bool {
	number := func(v uint64) *big.Int { return new(big.Int).SetUint64(v) }
	end := new(big.Int).Add(number(base), number(uint64(length)))
	last := new(big.Int).Add(number(addr), number(n))
	return number(addr).Cmp(number(base)) >= 0 && last.Cmp(end) <= 0
}

// addresses are those around the ends of an arena, and far ones.
func addresses(base uint64, length int) []uint64 {
	var l []uint64
	for d := range uint64(10) {
		end := base + uint64(length)
		l = append(l, base-d, base+d, end-d, end+d, d, -d)
	}
	for _, far := range []uint64{1 << 31, 1 << 32, 1 << 62, 1 << 63} {
		l = append(l, far-1, far, far+1, base+far, base-far)
	}
	slices.Sort(l)
	return slices.Compact(l)
}

// counts are few bytes, about as many as there are, and such with which an
// address in the arena, or its place there, would wrap round.
func counts(base uint64, length int) []uint64 {
	l := []uint64{1 << 31, 1 << 32, 1 << 62, 1<<63 - 1, 1 << 63, 1<<63 + 1, -base, -base - 1}
	for d := range uint64(10) {
		size := uint64(length)
		l = append(l, d, -d, size-d, size+d, -size-d, d-size, d-size-base)
	}
	slices.Sort(l)
	return slices.Compact(l)
}

// places calls back with arenas, and with addresses and counts of each.
func places(t *testing.T, try func(a *Arena, addr, n uint64, ok bool)) {
	t.Helper()
	for _, base := range bases() {
		for _, length := range []int{0, 1, 7, 8, 9, 24} {
			a := laid(t, base, length)
			for _, addr := range addresses(base, length) {
				for _, n := range counts(base, length) {
					try(a, addr, n, there(base, length, addr, n))
				}
			}
		}
	}
}

// P3.2: Load tells just the bytes that are there, and changes nothing.
func TestLoadAtEachPlace(t *testing.T) {
	places(t, func(a *Arena, addr, n uint64, ok bool) {
		was := stateOf(t, a)
		if ok {
			at := addr - a.Base()
			wantLoad(t, a, addr, n, []byte(was.all)[at:at+n])
		} else if b, err := a.Load(addr, n); err != api.ErrRange || len(b) != 0 {
			t.Errorf("Load(%#x, %d) of %d at %#x: %v %v", addr, n, a.Len(), a.Base(), b, err)
		}
		wantState(t, "Load", a, was)
	})
}

// P3.2, P3.3, P3.4: Store lays b there, and nothing elsewhere or with an error.
func TestStoreAtEachPlace(t *testing.T) {
	places(t, func(a *Arena, addr, n uint64, ok bool) {
		if n > 64 {
			return
		}
		c := a.Clone()
		want := stateOf(t, a)
		b := bytes.Repeat([]byte{254}, int(n))
		if !ok {
			wantError(t, "Store", c.Store(addr, b), api.ErrRange)
		} else {
			wantError(t, "Store", c.Store(addr, b), nil)
			want.all = changed(want.all, addr-a.Base(), b)
			wantLoad(t, c, addr, n, b)
		}
		wantState(t, "Store", c, want)
	})
}

// changed tells all, but with b from at on.
func changed(all string, at uint64, b []byte) string {
	return all[:at] + string(b) + all[at+uint64(len(b)):]
}

// P3.2, P3.3, P3.4: Fill lays n bytes there, and nothing elsewhere or with an error.
func TestFillAtEachPlace(t *testing.T) {
	places(t, func(a *Arena, addr, n uint64, ok bool) {
		c := a.Clone()
		want := stateOf(t, a)
		if !ok {
			wantError(t, "Fill", c.Fill(addr, n, 253), api.ErrRange)
		} else {
			wantError(t, "Fill", c.Fill(addr, n, 253), nil)
			want.all = changed(want.all, addr-a.Base(), bytes.Repeat([]byte{253}, int(n)))
		}
		wantState(t, "Fill", c, want)
	})
}

// P3.2: Fill with each byte, 0 too.
func TestFillWithEachByte(t *testing.T) {
	a := laid(t, 16, 24)
	for b := range 256 {
		wantError(t, "Fill", a.Fill(20, 5, byte(b)), nil)
		wantLoad(t, a, 20, 5, bytes.Repeat([]byte{byte(b)}, 5))
	}
	wantLoad(t, a, 16, 4, counted(24)[:4])
	wantLoad(t, a, 25, 15, counted(24)[9:])
}

// P3.2, P3.3: Word and SetWord at each address: eight bytes, all of them there.
func TestWordAtEachPlace(t *testing.T) {
	places(t, func(a *Arena, addr, n uint64, _ bool) {
		if n != 8 {
			return
		}
		c := a.Clone()
		want := stateOf(t, a)
		if !there(a.Base(), a.Len(), addr, 8) {
			if v, err := c.Word(addr); err != api.ErrRange || v != 0 {
				t.Errorf("Word(%#x): %#x %v, want 0 and ErrRange", addr, v, err)
			}
			wantError(t, "SetWord", c.SetWord(addr, 1<<64-1), api.ErrRange)
		} else {
			wantError(t, "SetWord", c.SetWord(addr, 0xf8f7f6f5f4f3f2f1), nil)
			want.all = changed(want.all, addr-a.Base(), []byte{0xf1, 0xf2, 0xf3, 0xf4, 0xf5, 0xf6, 0xf7, 0xf8})
			wantWord(t, c, addr, 0xf8f7f6f5f4f3f2f1)
		}
		wantState(t, "SetWord", c, want)
	})
}

// P3.2: the lowest byte comes first, wherever the number stands.
func TestWordTellsTheLowestByteFirst(t *testing.T) {
	a := laid(t, 160, 40)
	for at := range uint64(33) {
		wantError(t, "Store", a.Store(160+at, []byte{8, 7, 6, 5, 4, 3, 2, 1}), nil)
		wantWord(t, a, 160+at, 0x0102030405060708)
		wantError(t, "SetWord", a.SetWord(160+at, 0xff02030405060780), nil)
		wantLoad(t, a, 160+at, 8, []byte{0x80, 7, 6, 5, 4, 3, 2, 255})
	}
	for _, v := range []uint64{0, 1, 255, 256, 1<<32 - 1, 1 << 32, 1<<63 - 1, 1 << 63, 1<<64 - 1} {
		wantError(t, "SetWord", a.SetWord(163, v), nil)
		wantWord(t, a, 163, v)
	}
}

// P3.2: each to, from and n of few bytes, so both ways over itself, each side
// of both ends, and onto itself.
func TestCopyOverItself(t *testing.T) {
	const length = 12
	for _, base := range bases() {
		a := laid(t, base, length)
		was := stateOf(t, a)
		for to := range uint64(length + 2) {
			for from := range uint64(length + 2) {
				for n := range uint64(length + 2) {
					c := a.Clone()
					want := was
					if to+n <= length && from+n <= length {
						wantError(t, "Copy", c.Copy(base+to, base+from, n), nil)
						want.all = changed(was.all, to, []byte(was.all[from:from+n]))
					} else {
						wantError(t, "Copy", c.Copy(base+to, base+from, n), api.ErrRange)
					}
					wantState(t, "Copy", c, want)
				}
			}
		}
	}
}

// P3.2: many bytes, shifted by little both ways, each twice.
func TestCopyOfManyBytes(t *testing.T) {
	const length = 1024
	for shift := uint64(1); shift < 40; shift++ {
		a := laid(t, 16, length)
		n := uint64(length) - shift
		all := counted(length)
		for range 2 {
			wantError(t, "Copy up", a.Copy(16+shift, 16, n), nil)
			all = append(slices.Clone(all[:shift]), all[:n]...)
			wantLoad(t, a, 16, length, all)
		}
		for range 2 {
			wantError(t, "Copy down", a.Copy(16, 16+shift, n), nil)
			all = append(slices.Clone(all[shift:]), all[n:]...)
			wantLoad(t, a, 16, length, all)
		}
	}
}

// P3.2, P3.3: a place that isn't there, as to, as from, and as both; of no
// bytes, too.
func TestCopyAtEachPlace(t *testing.T) {
	places(t, func(a *Arena, addr, n uint64, ok bool) {
		was := stateOf(t, a)
		whole := there(a.Base(), a.Len(), a.Base(), n)
		c := a.Clone()
		if ok && whole {
			wantError(t, "Copy to", c.Copy(addr, a.Base(), n), nil)
			at := addr - a.Base()
			wantState(t, "Copy to", c, state{was.base, was.length, was.capacity, changed(was.all, at, []byte(was.all)[:n])})
			c = a.Clone()
			wantError(t, "Copy from", c.Copy(a.Base(), addr, n), nil)
			wantState(t, "Copy from", c, state{was.base, was.length, was.capacity, changed(was.all, 0, []byte(was.all)[at:at+n])})
			return
		}
		wantError(t, "Copy to", c.Copy(addr, a.Base(), n), api.ErrRange)
		wantError(t, "Copy from", c.Copy(a.Base(), addr, n), api.ErrRange)
		if !ok {
			wantError(t, "Copy to and from", c.Copy(addr, addr, n), api.ErrRange)
		}
		wantState(t, "Copy refused", c, was)
	})
}

// P3.2: what isn't laid yet isn't there, though the capacity has room for it.
func TestTheCapacityIsNotThere(t *testing.T) {
	a := New(160, 16384)
	for _, n := range []int{0, 16, 100} {
		wantError(t, "Grow", a.Grow(n), nil)
		end := 160 + uint64(a.Len())
		wantLoad(t, a, end, 0, nil)
		wantError(t, "Store of nothing", a.Store(end, nil), nil)
		wantError(t, "Store", a.Store(end, []byte{1}), api.ErrRange)
		wantError(t, "Fill", a.Fill(end, 1, 1), api.ErrRange)
		wantError(t, "SetWord", a.SetWord(end-7, 1), api.ErrRange)
		wantLoad(t, a, 160, uint64(a.Len()), make([]byte, a.Len()))
	}
}

// P3.3: a Clone stands as the arena; each goes its own ways then.
func TestClone(t *testing.T) {
	for _, length := range []int{0, 1, 24, 1000, 1024} {
		a := laid(t, 160, length)
		c := a.Clone()
		was := stateOf(t, a)
		wantState(t, "Clone", c, was)
		goOwnWay(t, a)
		wantState(t, "Clone of an arena that went on", c, was)

		now := stateOf(t, a)
		goOwnWay(t, c)
		goOwnWay(t, c)
		wantState(t, "arena whose Clone went on", a, now)
	}
}

// goOwnWay changes all that can be changed.
func goOwnWay(t *testing.T, a *Arena) {
	t.Helper()
	n := uint64(a.Len())
	wantError(t, "Fill", a.Fill(a.Base(), n, byte(a.Cap())), nil)
	wantError(t, "Widen", a.Widen(a.Cap()+17), nil)
	wantError(t, "Grow", a.Grow(17), nil)
	wantError(t, "Store", a.Store(a.Base()+n, bytes.Repeat([]byte{byte(n) | 1}, 17)), nil)
	wantError(t, "SetWord", a.SetWord(a.Base()+n, 1<<63|n), nil)
	wantError(t, "Copy", a.Copy(a.Base(), a.Base()+n, 17), nil)
}

// P3.3: both may grow into the same addresses, each with bytes of its own.
func TestClonesGrowApart(t *testing.T) {
	a := New(16, 16384)
	for range 40 {
		wantError(t, "Grow", a.Grow(9), nil)
		c := a.Clone()
		d := c.Clone()
		end := a.Base() + uint64(a.Len())
		for i, x := range []*Arena{a, c, d} {
			wantError(t, "Grow", x.Grow(9), nil)
			wantLoad(t, x, end, 9, make([]byte, 9))
			wantError(t, "Fill", x.Fill(end, 9, byte(i+1)), nil)
		}
		for i, x := range []*Arena{a, c, d} {
			wantLoad(t, x, end, 9, bytes.Repeat([]byte{byte(i + 1)}, 9))
		}
	}
}

// Two arenas of one base have nothing in common.
func TestArenasGoTheirOwnWays(t *testing.T) {
	a, b := laid(t, 16, 64), laid(t, 16, 64)
	was := stateOf(t, b)
	goOwnWay(t, a)
	wantState(t, "another arena", b, was)
}

// P3.3, R2: whoever changes what was loaded, or adds to it, changes no arena.
func TestLoadTellsNewMemory(t *testing.T) {
	a := laid(t, 16, 64)
	was := stateOf(t, a)
	for _, n := range []uint64{0, 1, 8, 32, 48} {
		first, _ := a.Load(32, n)
		second, _ := a.Load(32, n)
		whole := first[:cap(first)]
		for i := range whole {
			whole[i] = ^whole[i]
		}
		wantState(t, "changed what was loaded", a, was)
		if !bytes.Equal(second, counted(64)[16:16+n]) {
			t.Errorf("two loads of %d bytes share memory", n)
		}
	}
}

// P3.3: what was loaded stays as it was, whatever becomes of the arena.
func TestLoadedBytesStay(t *testing.T) {
	a := laid(t, 16, 64)
	b, _ := a.Load(16, 64)
	goOwnWay(t, a)
	if !bytes.Equal(b, counted(64)) {
		t.Error("what was loaded changed with the arena")
	}
}

// R2: what is stored is neither changed nor kept, nor what lies behind it.
func TestStoreKeepsNothing(t *testing.T) {
	whole := counted(64)
	a := New(16, 1024)
	wantError(t, "Store of nothing", a.Store(16, whole[:0]), nil)
	wantError(t, "Grow", a.Grow(40), nil)
	wantError(t, "Store", a.Store(16, whole[8:48]), nil)
	goOwnWay(t, a)
	if !bytes.Equal(whole, counted(64)) {
		t.Error("Store, or a call behind it, changed what was handed in")
	}
	wantError(t, "Store", a.Store(16, whole[8:48]), nil)
	clear(whole)
	wantLoad(t, a, 16, 40, counted(64)[8:48])
}

// P3.4: what was stored is loaded, in whole or in pieces; other bytes stay.
func TestStoredIsLoaded(t *testing.T) {
	for _, base := range bases() {
		a := laid(t, base, 600)
		b := bytes.Repeat([]byte{7, 0, 255}, 100)
		wantError(t, "Store", a.Store(base+150, b), nil)
		wantLoad(t, a, base+150, 300, b)
		for i, x := range b {
			wantLoad(t, a, base+150+uint64(i), 1, []byte{x})
		}
		wantLoad(t, a, base, 150, counted(600)[:150])
		wantLoad(t, a, base+450, 150, counted(600)[450:])
	}
}

// model is what an arena is to be: its bytes by their addresses.
type model struct {
	base     uint64
	length   int
	capacity int
	bytes    map[uint64]byte
}

func (m *model) load(addr, n uint64) []byte {
	var b []byte
	for i := range n {
		b = append(b, m.bytes[addr+i])
	}
	return b
}

func (m *model) store(addr uint64, b []byte) {
	for i, x := range b {
		m.bytes[addr+uint64(i)] = x
	}
}

func (m *model) state() state {
	return state{m.base, m.length, m.capacity, string(m.load(m.base, uint64(m.length)))}
}

// rangeError tells what a call is to answer that names these places of n bytes.
func (m *model) rangeError(n uint64, addrs ...uint64) error {
	for _, addr := range addrs {
		if !there(m.base, m.length, addr, n) {
			return api.ErrRange
		}
	}
	return nil
}

func (m *model) grow(n int) error {
	if n < 0 {
		return api.ErrArg
	}
	if n > m.capacity-m.length {
		return api.ErrNoMem
	}
	m.store(m.base+uint64(m.length), make([]byte, n))
	m.length += n
	return nil
}

func (m *model) widen(capacity int) error {
	if capacity < m.capacity || capacity > 16384 {
		return api.ErrArg
	}
	m.capacity = capacity
	return nil
}

// step does one call on both, and holds what they answer against each other.
func step(t *testing.T, a *Arena, m *model, op byte, x, y, n uint64) {
	t.Helper()
	switch op % 8 {
	case 0:
		wantError(t, "Grow", a.Grow(int(n)), m.grow(int(n)))
	case 1:
		wantError(t, "Widen", a.Widen(int(n)), m.widen(int(n)))
	case 2:
		want := m.rangeError(n, x)
		b, err := a.Load(x, n)
		wantError(t, "Load", err, want)
		if want == nil && !bytes.Equal(b, m.load(x, n)) || want != nil && len(b) != 0 {
			t.Errorf("Load(%#x, %d): %v", x, n, b)
		}
	case 3:
		b := counted(int(n % 64))
		want := m.rangeError(n%64, x)
		wantError(t, "Store", a.Store(x, b), want)
		if want == nil {
			m.store(x, b)
		}
	case 4:
		want := m.rangeError(8, x)
		wantError(t, "SetWord", a.SetWord(x, y), want)
		if want == nil {
			m.store(x, []byte{byte(y), byte(y >> 8), byte(y >> 16), byte(y >> 24), byte(y >> 32), byte(y >> 40), byte(y >> 48), byte(y >> 56)})
			wantWord(t, a, x, y)
		}
	case 5:
		want := m.rangeError(n, x, y)
		wantError(t, "Copy", a.Copy(x, y, n), want)
		if want == nil {
			m.store(x, m.load(y, n))
		}
	case 6:
		want := m.rangeError(n, x)
		wantError(t, "Fill", a.Fill(x, n, byte(y)), want)
		if want == nil {
			m.store(x, bytes.Repeat([]byte{byte(y)}, int(n)))
		}
	case 7:
		goOwnWay(t, a.Clone().Clone())
	}
	wantState(t, "step", a, m.state())
}

// source tells numbers that follow no short rule; each source the same ones.
type source uint64

func (s *source) next() uint64 {
	*s = *s*6364136223846793005 + 1442695040888963407
	return uint64(*s >> 33)
}

// near tells an address about an arena, seldom a far one.
func near(s *source, m *model) uint64 {
	addr := m.base + s.next()%uint64(m.length+20) - 10
	if s.next()%16 == 0 {
		addr += s.next() << 32
	}
	return addr
}

// All promises together: long runs of calls, held against a map of bytes.
func TestRunsOfCalls(t *testing.T) {
	for run := range 30 {
		s := source(run)
		base := bases()[run%len(bases())]
		a := New(base, 1024)
		m := &model{base, 0, 1024, map[uint64]byte{}}
		for range 300 {
			op := byte(s.next())
			n := s.next() % 40
			switch {
			case op%8 == 1:
				n = uint64(a.Cap()) + n%8 - 2
			case n == 39:
				n = s.next() % 1200
			}
			// A clone takes the arena's place, so that it, too, goes on rightly.
			if op%8 == 7 && a.Cap() < 16000 {
				a = a.Clone()
			} else if op%8 == 7 {
				continue
			}
			step(t, a, m, op, near(&s, m), near(&s, m), n)
		}
	}
}

// P1: no numbers let a call panic, or answer otherwise than the model.
func FuzzCalls(f *testing.F) {
	f.Add(uint64(0), 1024, 32, byte(2), uint64(0), uint64(0), uint64(32))
	f.Add(uint64(160), 1024, 32, byte(5), uint64(161), uint64(160), uint64(31))
	f.Add(uint64(1<<62), 16384, 16384, byte(6), uint64(1<<62), uint64(9), uint64(1<<64-1))
	f.Add(uint64(1<<62), 2048, 100, byte(3), uint64(1<<64-1), uint64(0), uint64(3))
	f.Add(uint64(16), 1024, 0, byte(0), uint64(0), uint64(0), uint64(1<<63))
	f.Add(uint64(16), 1024, 9, byte(1), uint64(0), uint64(0), uint64(1<<64-1))
	f.Add(uint64(8), 1024, 0, byte(4), uint64(0), uint64(0), uint64(0))
	f.Fuzz(func(t *testing.T, base uint64, capacity, length int, op byte, x, y, n uint64) {
		a := New(base, capacity)
		if ok := base%16 == 0 && base <= 1<<62 && capacity >= 1024 && capacity <= 16384; ok != (a != nil) {
			t.Fatalf("New(%#x, %d): %v", base, capacity, a)
		}
		if a == nil {
			return
		}
		m := &model{base, 0, capacity, map[uint64]byte{}}
		wantError(t, "Grow", a.Grow(length), m.grow(length))
		if err := a.Store(base, counted(m.length)); err != nil {
			t.Fatal(err)
		}
		m.store(base, counted(m.length))
		if op%8 != 7 {
			step(t, a, m, op, x, y, n)
		}
	})
}
