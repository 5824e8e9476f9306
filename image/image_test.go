package image

import (
	"bytes"
	"cantle/alloc"
	"cantle/api"
	"cantle/arena"
	"cantle/fit"
	"cantle/heap"
	"cantle/resize"
	"fmt"
	"math"
	"slices"
	"testing"
)

// bases are those at which an address is near 0, near the greatest, or neither.
func bases() []uint64 {
	return []uint64{0, 16, 160, 192, 1 << 32, 1<<62 - 16, 1 << 62}
}

// baseOf tells the base of the i-th try.
func baseOf(i int) uint64 { return bases()[i%len(bases())] }

// made tells an arena of these bytes.
func made(t *testing.T, base uint64, capacity int, b []byte) *arena.Arena {
	t.Helper()
	a := arena.New(base, capacity)
	if a == nil {
		t.Fatalf("New(%#x, %d) is nil", base, capacity)
	}
	wantError(t, "Grow", a.Grow(len(b)), nil)
	wantError(t, "Store", a.Store(base, b), nil)
	return a
}

// state is all that an arena tells of itself.
type state struct {
	base             uint64
	length, capacity int
	all              string
}

func stateOf(t *testing.T, a *arena.Arena) state {
	t.Helper()
	b, err := a.Load(a.Base(), uint64(a.Len()))
	if err != nil || len(b) != a.Len() {
		t.Fatalf("Load of all %d bytes: %d bytes, %v", a.Len(), len(b), err)
	}
	return state{a.Base(), a.Len(), a.Cap(), string(b)}
}

// wantError wants the Code itself, so nothing that wraps it.
func wantError(t *testing.T, what string, err, want error) {
	t.Helper()
	if err == nil || want == nil {
		if err != nil || want != nil {
			t.Fatalf("%s: error %v, want %v", what, err, want)
		}
		return
	}
	if err != want {
		t.Fatalf("%s: error %v, want %v", what, err, want)
	}
}

// bytesFrom tells n bytes that rise from c on.
func bytesFrom(c, n int) []byte {
	b := make([]byte, n)
	for i := range b {
		b[i] = byte(c + i)
	}
	return b
}

// imageFrom tells an image of these blocks; that of a size below 0 is used, and what
// it holds rises from a number of its own on.
func imageFrom(sizes ...int) Image {
	m := Image{Blocks: row(sizes...)}
	m.Len = endOf(m.Blocks)
	for i, x := range m.Blocks {
		if x.Used {
			m.Data = append(m.Data, bytesFrom(40*i+1, x.Size-16))
		}
	}
	return m
}

// some is the image that most tests have: used and free ones, used ones side by
// side, and each end of another kind.
func some() Image { return imageFrom(-32, 64, -48, -64, 32, -32, 272) }

// copyOf tells an image that has no memory in common with m.
func copyOf(m Image) Image {
	c := Image{Len: m.Len, Blocks: slices.Clone(m.Blocks)}
	for _, b := range m.Data {
		c.Data = append(c.Data, bytes.Clone(b))
	}
	return c
}

// same tells whether two images are alike.
func same(m, n Image) bool {
	return m.Len == n.Len && slices.Equal(m.Blocks, n.Blocks) && slices.EqualFunc(m.Data, n.Data, bytes.Equal)
}

// isZero tells whether an image is the zero one.
func isZero(m Image) bool { return m.Len == 0 && len(m.Blocks) == 0 && len(m.Data) == 0 }

// brief tells an image in a line.
func brief(m Image) string {
	var lengths []int
	for _, b := range m.Data[:min(9, len(m.Data))] {
		lengths = append(lengths, len(b))
	}
	return fmt.Sprintf("Len %d, %d blocks %v, %d Data of %v", m.Len, len(m.Blocks), m.Blocks[:min(9, len(m.Blocks))], len(m.Data), lengths)
}

// wantMay wants May and Put to tell of an image what the model does, and Get of what
// was put to tell that image, which put is those bytes; and tells whether it may be.
func wantMay(t *testing.T, m Image) bool {
	t.Helper()
	was, may := copyOf(m), mayOf(m)
	if got := May(m); got != may {
		t.Fatalf("May tells %v of %s", got, brief(m))
	}
	b, err := Put(m)
	if !same(m, was) {
		t.Fatalf("May or Put changed %s", brief(was))
	}
	if !may {
		wantError(t, "Put of "+brief(m), err, api.ErrArg)
		if len(b) != 0 {
			t.Fatalf("Put tells %d bytes beside an error", len(b))
		}
		return false
	}
	wantError(t, "Put of "+brief(m), err, nil)
	if !bytes.Equal(b, bytesOf(m)) {
		t.Fatalf("Put of %s tells\n%v, want\n%v", brief(m), b, bytesOf(m))
	}
	got, err := Get(b)
	wantError(t, "Get of what was put", err, nil)
	if !same(got, m) {
		t.Fatalf("Get of what was put tells %s, want %s", brief(got), brief(m))
	}
	again, err := Put(got)
	wantError(t, "Put of what was got", err, nil)
	if !bytes.Equal(again, b) {
		t.Fatalf("what was got of %s is put as other bytes", brief(m))
	}
	return true
}

// wantIs wants an image to be one that may be.
func wantIs(t *testing.T, m Image) {
	t.Helper()
	if !wantMay(t, m) {
		t.Fatalf("it may not be: %s", brief(m))
	}
}

// wantNone wants an image to be one that may not be.
func wantNone(t *testing.T, m Image) {
	t.Helper()
	if wantMay(t, m) {
		t.Fatalf("it may be: %s", brief(m))
	}
}

// wantModel wants Get of b to tell what the model does, and tells the step that the
// model ended at.
func wantModel(t *testing.T, b []byte) int {
	t.Helper()
	was := bytes.Clone(b)
	want, step := getOf(b)
	got, err := Get(b)
	wantError(t, fmt.Sprintf("Get of %d bytes, step %d", len(b), step), err, errorOf(step))
	if !bytes.Equal(b, was) {
		t.Fatal("Get changed the bytes")
	}
	if step != done && !isZero(got) {
		t.Fatalf("beside an error Get tells %s", brief(got))
	}
	if step == done && !same(got, want) {
		t.Fatalf("Get tells %s, want %s", brief(got), brief(want))
	}
	return step
}

// wantStep wants Get of b to end at a step, by the model, too.
func wantStep(t *testing.T, b []byte, want int) {
	t.Helper()
	if step := wantModel(t, b); step != want {
		t.Fatalf("the model ends at step %d, want %d", step, want)
	}
}

// wantOf wants Of to tell of an arena what the model does of its bytes, and tells
// whether there is an image, which is then one that may be.
func wantOf(t *testing.T, a *arena.Arena) bool {
	t.Helper()
	was := stateOf(t, a)
	want, ok := imageOf([]byte(was.all))
	m, err := Of(a)
	if stateOf(t, a) != was {
		t.Fatal("Of changed the arena")
	}
	if !ok {
		wantError(t, "Of", err, api.ErrForm)
		if !isZero(m) {
			t.Fatalf("beside an error Of tells %s", brief(m))
		}
		return false
	}
	wantError(t, "Of", err, nil)
	if !same(m, want) {
		t.Fatalf("Of tells %s, want %s", brief(m), brief(want))
	}
	wantIs(t, m)
	return true
}

// The chapter's example, and another one, each with its sums as they were worked out
// elsewhere.
func TestTheExample(t *testing.T) {
	for _, x := range []struct {
		m    Image
		want []byte
	}{
		{Image{Len: 184}, []byte{67, 78, 84, 76, 1, 0, 0, 0, 184, 0, 0, 0, 0, 0, 0, 0, 0, 0, 0, 0, 0, 0, 0, 0, 117, 7, 217, 114, 0, 0, 0, 0, 0, 0, 0, 0, 111, 198, 213, 123}},
		{imageOfTwo(), []byte{67, 78, 84, 76, 1, 0, 0, 0, 8, 1, 0, 0, 0, 0, 0, 0, 2, 0, 0, 0, 0, 0, 0, 0, 247, 115, 226, 36, 48, 0, 0, 0, 0, 0, 0, 0, 33, 0, 0, 0, 0, 0, 0, 0, 126, 108, 127, 40, 1, 2, 3, 4, 5, 6, 7, 8, 9, 10, 11, 12, 13, 14, 15, 16, 241, 128, 76, 9, 28, 213, 152, 231}},
	} {
		b, err := Put(x.m)
		wantError(t, "Put", err, nil)
		if !bytes.Equal(b, x.want) {
			t.Errorf("Put of %s tells %v, want %v", brief(x.m), b, x.want)
		}
		m, err := Get(x.want)
		wantError(t, "Get", err, nil)
		if !same(m, x.m) {
			t.Errorf("Get tells %s, want %s", brief(m), brief(x.m))
		}
		wantIs(t, x.m)
	}
}

// imageOfTwo is an image of a free and a used one.
func imageOfTwo() Image {
	return Image{Len: 264, Blocks: []api.Block{{Off: 184, Size: 48}, {Off: 232, Size: 32, Used: true}}, Data: [][]byte{bytesFrom(1, 16)}}
}

// manyOf tells as many of a size as there is room for; all used, or each second one.
func manyOf(size int, all bool) Image {
	var sizes []int
	for n := 184; n+size <= 16384; n += size {
		if all || len(sizes)%2 == 0 {
			sizes = append(sizes, -size)
		} else {
			sizes = append(sizes, size)
		}
	}
	return imageFrom(sizes...)
}

// P15.1: images with no blocks, one, many, at the least and the greatest Len.
func TestMay(t *testing.T) {
	wantIs(t, Image{Len: 184, Blocks: []api.Block{}, Data: [][]byte{}})
	for _, sizes := range [][]int{{}, {32}, {-32}, {16192}, {-16192}, {-32, 16160}, {16160, -32}, {-8096, -8096}, {8096, -8096}} {
		wantIs(t, imageFrom(sizes...))
	}
	wantIs(t, some())
	for _, size := range []int{32, 48, 64, 80, 256, 272, 512, 1024, 4096, 8096, 16176} {
		wantIs(t, manyOf(size, true))
		wantIs(t, manyOf(size, false))
	}
	if m := manyOf(32, true); m.Len != 16376 || len(m.Blocks) != 506 {
		t.Errorf("most blocks: %s", brief(m))
	}
}

// P15.1: the Data are bytes of any kind, also such as those that stand elsewhere.
func TestDataOfAnyKind(t *testing.T) {
	b, _ := Put(some())
	for _, c := range [][]byte{make([]byte, 256), bytes.Repeat([]byte{255}, 256), bytes.Repeat([]byte{165}, 256), b, bytes.Repeat([]byte("CNTL\x01\x00\x00\x00"), 40)} {
		m := imageFrom(-272, 32, -32, -64)
		for i, x := range m.Data {
			m.Data[i] = bytes.Clone(c[:len(x)])
		}
		wantIs(t, m)
	}
}

// layouts tells each row of blocks that has all bytes from an offset up to n, used
// and free in every way, be free ones side by side or not.
func layouts(off, n int) [][]api.Block {
	if off == n {
		return [][]api.Block{nil}
	}
	var all [][]api.Block
	for size := 32; size <= n-off; size += 16 {
		for _, rest := range layouts(off+size, n) {
			for _, used := range []bool{true, false} {
				all = append(all, append([]api.Block{{Off: off, Size: size, Used: used}}, rest...))
			}
		}
	}
	return all
}

// P15.1: every layout of some lengths; with just the Data that it asks for, and with
// one more or one less.
func TestEveryLayout(t *testing.T) {
	told := map[bool]int{}
	for n := 184; n <= 184+176; n += 16 {
		for _, l := range layouts(184, n) {
			m := Image{Len: n, Blocks: l}
			for i, x := range l {
				if x.Used {
					m.Data = append(m.Data, bytesFrom(i, x.Size-16))
				}
			}
			may := wantMay(t, m)
			told[may]++
			if may == freeSideBySide(l) {
				t.Fatalf("may be %v: %s", may, brief(m))
			}
			wantNone(t, Image{n, l, append(m.Data, make([]byte, 16))})
			if len(m.Data) > 0 {
				wantNone(t, Image{n, l, m.Data[1:]})
			}
			wantNone(t, Image{n + 16, l, m.Data})
			wantNone(t, Image{n - 16, l, m.Data})
		}
	}
	if told[true] < 500 || told[false] < 500 {
		t.Errorf("told %v", told)
	}
}

// P15.1: every Len from below 0 to beyond the greatest, with one block up to there,
// which is none of less than 32 bytes, and without blocks.
func TestEveryLen(t *testing.T) {
	for n := -40; n < 16500; n++ {
		may := n >= 200+16 && n <= 16376 && (n-184)%16 == 0
		m := Image{Len: n, Blocks: []api.Block{{Off: 184, Size: n - 184}}}
		if May(m) != may || mayOf(m) != may {
			t.Fatalf("May tells %v of one block up to %d", May(m), n)
		}
		m = Image{Len: n}
		if May(m) != (n == 184) || mayOf(m) != (n == 184) {
			t.Fatalf("May tells %v of no blocks, Len %d", May(m), n)
		}
	}
	for _, n := range []int{184, 200, 216, 16376} {
		wantMay(t, Image{Len: n})
		wantMay(t, Image{Len: n, Blocks: []api.Block{{Off: 184, Size: n - 184}}})
	}
	wantNone(t, imageFrom(-16208)) // Len 16392
	wantNone(t, imageFrom(16200))  // Len 16384, but no multiple
	wantNone(t, imageFrom(-8192, -8192, -32))
}

// P15.1: what may not be, in each way that the chapter names.
func TestWhatMayNotBe(t *testing.T) {
	changes := map[string]func(m *Image){
		"Len 0":                         func(m *Image) { m.Len = 0 },
		"Len below Start":               func(m *Image) { m.Len = 168 },
		"Len Start":                     func(m *Image) { m.Len = 184 },
		"Len below 0":                   func(m *Image) { m.Len = -m.Len },
		"Len one more":                  func(m *Image) { m.Len++ },
		"Len one less":                  func(m *Image) { m.Len-- },
		"Len eight more":                func(m *Image) { m.Len += 8 },
		"Len 16 more":                   func(m *Image) { m.Len += 16 },
		"Len 16 less":                   func(m *Image) { m.Len -= 16 },
		"Len the greatest":              func(m *Image) { m.Len = 16376 },
		"Len beyond":                    func(m *Image) { m.Len = 16392 },
		"the first further on":          func(m *Image) { m.Blocks[0].Off = 200 },
		"the first ahead of Start":      func(m *Image) { m.Blocks[0].Off = 168 },
		"the first at 0":                func(m *Image) { m.Blocks[0].Off = 0 },
		"all further on":                func(m *Image) { shift(m, 0, 16) },
		"all further back":              func(m *Image) { shift(m, 0, -16) },
		"a gap":                         func(m *Image) { shift(m, 3, 16) },
		"a gap of 8":                    func(m *Image) { shift(m, 3, 8) },
		"a gap ahead of the last":       func(m *Image) { shift(m, 6, 32) },
		"one over another":              func(m *Image) { shift(m, 3, -16) },
		"two at one place":              func(m *Image) { m.Blocks[2].Off = m.Blocks[1].Off },
		"one Off alone":                 func(m *Image) { m.Blocks[4].Off += 16 },
		"one Off alone, less":           func(m *Image) { m.Blocks[4].Off -= 16 },
		"one Off below 0":               func(m *Image) { m.Blocks[4].Off *= -1 },
		"a size more":                   func(m *Image) { m.Blocks[1].Size += 16 },
		"a size less":                   func(m *Image) { m.Blocks[1].Size -= 16 },
		"a size that is none":           func(m *Image) { m.Blocks[1].Size += 8 },
		"sizes that are none":           func(m *Image) { m.Blocks[1].Size, m.Blocks[2].Off, m.Blocks[2].Size = 56, 272, 56 },
		"a size of 16":                  func(m *Image) { m.Blocks[1].Size, m.Blocks[2].Off, m.Blocks[2].Size = 16, 232, 96 },
		"a size of 0":                   func(m *Image) { m.Blocks = slices.Insert(m.Blocks, 2, api.Block{Off: 280}) },
		"a size below 0":                func(m *Image) { m.Blocks[1].Size *= -1 },
		"the last one more":             func(m *Image) { m.Blocks[6].Size += 16 },
		"the last one less":             func(m *Image) { m.Blocks[6].Size -= 16 },
		"no last one":                   func(m *Image) { m.Blocks = m.Blocks[:6] },
		"no first one":                  func(m *Image) { m.Blocks, m.Data = m.Blocks[1:], m.Data[1:] },
		"no blocks":                     func(m *Image) { m.Blocks = nil },
		"no blocks, no Data":            func(m *Image) { m.Blocks, m.Data = nil, nil },
		"one block more":                func(m *Image) { m.Blocks = append(m.Blocks, api.Block{Off: m.Len, Size: 32}) },
		"two by turns":                  func(m *Image) { m.Blocks[1], m.Blocks[2] = m.Blocks[2], m.Blocks[1] },
		"the last ahead of the others":  func(m *Image) { m.Blocks = slices.Insert(m.Blocks[:6], 0, m.Blocks[6]) },
		"a block twice":                 func(m *Image) { m.Blocks = slices.Insert(m.Blocks, 1, m.Blocks[1]) },
		"two free ones":                 func(m *Image) { m.Blocks[2].Used, m.Data = false, slices.Delete(m.Data, 1, 2) },
		"two free ones at the end":      func(m *Image) { m.Blocks[5].Used, m.Data = false, m.Data[:3] },
		"two free ones at the start":    func(m *Image) { m.Blocks[0].Used, m.Data = false, m.Data[1:] },
		"all free":                      func(m *Image) { freeAll(m) },
		"a free one used":               func(m *Image) { m.Blocks[1].Used = true },
		"a used one free":               func(m *Image) { m.Blocks[3].Used = false },
		"no Data":                       func(m *Image) { m.Data = nil },
		"empty Data":                    func(m *Image) { m.Data = [][]byte{} },
		"Data too few":                  func(m *Image) { m.Data = m.Data[:3] },
		"Data too many":                 func(m *Image) { m.Data = append(m.Data, bytesFrom(1, 256)) },
		"Data too many, nil":            func(m *Image) { m.Data = append(m.Data, nil) },
		"Data of free ones, too":        func(m *Image) { m.Data = slices.Insert(m.Data, 1, bytesFrom(1, 48)) },
		"Data too short":                func(m *Image) { m.Data[1] = m.Data[1][1:] },
		"Data too long":                 func(m *Image) { m.Data[1] = append(m.Data[1], 1) },
		"Data 16 more":                  func(m *Image) { m.Data[1] = append(m.Data[1], bytesFrom(1, 16)...) },
		"Data 8 more":                   func(m *Image) { m.Data[0] = append(m.Data[0], bytesFrom(1, 8)...) },
		"Data nil":                      func(m *Image) { m.Data[3] = nil },
		"the first Data empty":          func(m *Image) { m.Data[0] = []byte{} },
		"the last Data too short":       func(m *Image) { m.Data[3] = m.Data[3][1:] },
		"Data by turns":                 func(m *Image) { m.Data[1], m.Data[2] = m.Data[2], m.Data[1] },
		"Data that have a byte of next": func(m *Image) { m.Data[0], m.Data[1] = append(m.Data[0], 1), m.Data[1][1:] },
	}
	for what, change := range changes {
		t.Run(what, func(t *testing.T) {
			m := copyOf(some())
			change(&m)
			wantNone(t, m)
		})
	}
	for i := range 7 {
		for _, n := range []int{-32768, -64, -16, -8, -1, 1, 8, 16, 64, 32768} {
			m := some()
			m.Blocks[i].Off += n
			wantNone(t, m)
			m = some()
			m.Blocks[i].Size += n
			wantNone(t, m)
		}
	}
}

// shift lets the blocks from the i-th on stand n further on.
func shift(m *Image, i, n int) {
	for k := range m.Blocks[i:] {
		m.Blocks[i+k].Off += n
	}
	m.Len += n
}

// freeAll lets all blocks be free.
func freeAll(m *Image) {
	for i := range m.Blocks {
		m.Blocks[i].Used = false
	}
	m.Data = nil
}

// P15.1: it isn't asked whether used ones stand next to each other, nor what is
// beyond a list's end.
func TestWhatIsNotAsked(t *testing.T) {
	m := some()
	m.Blocks = append(m.Blocks, api.Block{Off: 1, Size: 1})[:7]
	m.Data = append(m.Data, nil, []byte{1})[:4]
	for i, b := range m.Data {
		m.Data[i] = append(b, 1, 2, 3)[:len(b)]
	}
	wantIs(t, m)
}

// ends are numbers near the ends of an int, and such as wrap round beside others.
func ends() []int {
	return []int{
		math.MinInt, math.MinInt + 1, math.MinInt + 8, math.MinInt + 16, math.MinInt + 32, math.MinInt + 184, math.MinInt + 216, math.MinInt / 2,
		math.MaxInt, math.MaxInt - 1, math.MaxInt - 7, math.MaxInt - 15, math.MaxInt - 31, math.MaxInt - 183, math.MaxInt - 215, math.MaxInt / 2,
		math.MaxInt32, math.MaxInt32 - 7, math.MinInt32, math.MinInt32 + 184, -1, -8, -16, -32, -184, 0, 1,
	}
}

// P1, P15.1: numbers of each field near the ends of an int, alone and by twos, so
// that where a block ends wraps round to where the next one begins.
func TestEnds(t *testing.T) {
	for _, n := range ends() {
		wantNone(t, Image{Len: n})
		for i := range 7 {
			m := some()
			m.Len = n
			wantNone(t, m)
			m = some()
			m.Blocks[i].Off = n
			wantNone(t, m)
			m = some()
			m.Blocks[i].Size = n
			wantNone(t, m)
		}
		for _, k := range ends() {
			wantNone(t, Image{n, []api.Block{{Off: k, Size: n - k}}, nil})
			wantNone(t, Image{k, []api.Block{{Off: 184, Size: n}, {Off: 184 + n, Size: k - n - 184}}, nil})
			wantNone(t, Image{216, []api.Block{{Off: 184, Size: n}, {Off: 184 + n, Size: 32 - n, Used: true}}, [][]byte{make([]byte, 16)}})
			wantNone(t, Image{n, row(-32, 32), [][]byte{make([]byte, 16)}})
			wantNone(t, Image{248, []api.Block{{Off: 184, Size: 32, Used: true}, {Off: n, Size: k}}, [][]byte{make([]byte, 16)}})
		}
	}
}

// P1, P15.1: so many blocks that where the last one ends wraps round, where an int has
// 32 bits: each may be, but they don't end at Len.
func TestARowThatWrapsRound(t *testing.T) {
	m := Image{Len: 184}
	held := make([]byte, 16384-16)
	o := int32(184)
	for range 1 << 18 {
		m.Blocks = append(m.Blocks, api.Block{Off: int(o), Size: 16384, Used: true})
		m.Data = append(m.Data, held)
		o += 16384
	}
	if May(m) {
		t.Error("May tells true of a row that wraps round")
	}
	b, err := Put(m)
	wantError(t, "Put", err, api.ErrArg)
	if len(b) != 0 {
		t.Errorf("Put tells %d bytes beside an error", len(b))
	}
}

// P15.1: the zero image, and lists of more than there may be.
func TestOddImages(t *testing.T) {
	wantNone(t, Image{})
	wantNone(t, Image{Len: 184, Data: make([][]byte, 1)})
	wantNone(t, Image{Len: 184, Data: make([][]byte, 2000)})
	wantNone(t, Image{Len: 16376, Blocks: make([]api.Block, 2000), Data: make([][]byte, 2000)})
	wantNone(t, Image{Len: 16376, Blocks: make([]api.Block, 506)})
	wantNone(t, Image{Len: 184, Blocks: make([]api.Block, 1)})
	wantNone(t, Image{Len: 184, Blocks: []api.Block{{Off: 184}}})
	wantNone(t, Image{Len: 184, Blocks: []api.Block{{Off: 184, Used: true}}, Data: [][]byte{nil}})
	wantNone(t, Image{Len: 200, Blocks: []api.Block{{Off: 184, Size: 16, Used: true}}, Data: [][]byte{nil}})
	wantNone(t, Image{Len: 200, Blocks: []api.Block{{Off: 184, Size: 16, Used: true}}, Data: [][]byte{{}}})
}

// P15.2: of fewer than 28 bytes, and of each beginning of an image's bytes.
func TestGetOfTooFew(t *testing.T) {
	wantStep(t, nil, noMark)
	wantStep(t, []byte{}, noMark)
	b := bytesOf(some())
	for n := range 28 {
		wantStep(t, b[:n], noMark)
		wantStep(t, b[:n:n], noMark)
		wantStep(t, make([]byte, n), noMark)
	}
	for _, m := range []Image{some(), {Len: 184}, imageOfTwo()} {
		b := bytesOf(m)
		for n := range b {
			step := noBlocks
			if n < 28 {
				step = noMark
			} else if n < 28+8*len(m.Blocks)+4 {
				step = noHead
			}
			wantStep(t, b[:n:n], step)
			wantStep(t, b[:n], step)
		}
	}
}

// P15.2: of an image's bytes, and more behind them.
func TestGetOfTooMany(t *testing.T) {
	for _, m := range []Image{some(), {Len: 184}, imageOfTwo(), manyOf(32, true)} {
		for n := 1; n < 70; n++ {
			p := partsOf(m)
			p.more = n
			wantStep(t, p.all(), noBlocks)
		}
		b := bytesOf(m)
		wantStep(t, append(b, b...), noBlocks)
		wantStep(t, append(b, b[len(b)-4:]...), noBlocks)
	}
}

// P15.2: each of the first eight bytes is another one, whatever the sums are.
func TestGetMark(t *testing.T) {
	b := bytesOf(some())
	for i := range 8 {
		for v := 1; v < 256; v++ {
			c := bytes.Clone(b)
			c[i] ^= byte(v)
			wantStep(t, c, noMark)
			wantStep(t, c[:28], noMark)
			p := partsOf(some())
			p.mark = string(c[:8])
			wantStep(t, p.all(), noMark)
		}
	}
	for _, n := range []int{28, 40, 5000} {
		wantStep(t, make([]byte, n), noMark)
		wantStep(t, bytes.Repeat([]byte{255}, n), noMark)
	}
}

// P15.2: each bit of the first three fields, and of their sum, is turned, and the sum
// left as it was; no matter what is behind.
func TestGetHeadSum(t *testing.T) {
	b := bytesOf(some())
	for i := 8; i < 28; i++ {
		for bit := range 8 {
			c := bytes.Clone(b)
			c[i] ^= 1 << bit
			wantStep(t, c, headSum)
			wantStep(t, c[:28], headSum)
			wantStep(t, append(c[:28], 1, 2, 3), headSum)
		}
	}
}

// far are numbers near the ends of 63 and of 64 bits, and such as have some of the
// lowest bits of n, but others above.
func far(n uint64) []uint64 {
	l := []uint64{1<<64 - 1, 1<<64 - 8, 1<<64 - 16, 1<<64 - 184, 1<<63 - 1, 1<<63 - 8, 1<<63 - 16, 1<<63 + 16, 1<<62 + 8, -n}
	for k := 15; k < 64; k++ {
		bit := uint64(1) << k
		l = append(l, bit, bit+n, bit+184, n-bit)
	}
	return l
}

// P15.2: Len is another one, with its sum made anew: ErrForm, ahead of the tags' sum,
// if it is none that may be; else ErrForm behind that, since the blocks end elsewhere.
func TestGetLen(t *testing.T) {
	lengths := far(uint64(some().Len))
	for n := range uint64(17000) {
		if n%16 == 8 || n%97 == 0 {
			lengths = append(lengths, n)
		}
	}
	for _, n := range lengths {
		p, q := partsOf(some()), partsOf(some())
		asked := p.length
		p.length, q.length = n, n
		q.turn[1], q.turn[3] = 1<<31, 1
		switch {
		case n < 184 || n > 16384 || n%16 != 8:
			wantStep(t, p.all(), noHead)
			wantStep(t, q.all(), noHead)
		case n != asked:
			wantStep(t, p.all(), noBlocks)
			wantStep(t, q.all(), tagsSum)
		default:
			wantStep(t, p.all(), done)
			wantStep(t, q.all(), tagsSum)
		}
	}
}

// P15.2: a Len beside no blocks: each but Start is amiss; one that may be, by itself,
// is so with the blocks, behind the tags' sum.
func TestGetLenOfNoBlocks(t *testing.T) {
	for n := range uint64(17000) {
		p := partsOf(Image{Len: 184})
		p.length = n
		q := p
		q.turn[1] = 1
		switch {
		case n < 184 || n > 16384 || n%16 != 8:
			wantStep(t, p.all(), noHead)
			wantStep(t, q.all(), noHead)
		case n > 184:
			wantStep(t, p.all(), noBlocks)
			wantStep(t, q.all(), tagsSum)
		default:
			wantStep(t, p.all(), done)
			wantStep(t, q.all(), tagsSum)
		}
	}
}

// P15.2: how many blocks there are is another number, with its sum made anew, and
// many bytes behind, or few: ErrForm, ahead of the tags' sum, if it is above 1024, or
// there are fewer bytes than up to that sum; else that sum is another one.
func TestGetCount(t *testing.T) {
	counts := far(7)
	for n := range uint64(1100) {
		counts = append(counts, n)
	}
	for k := 55; k < 64; k++ { // eight times as many wrap round to a few
		bit := uint64(1) << k
		counts = append(counts, bit-1, bit-4, bit+1, bit+2, bit+7)
	}
	for _, n := range counts {
		for _, tags := range []int{7, 1024, 1100} {
			p := partsOf(some())
			p.count = n
			for len(p.tags) < tags {
				p.tags = append(p.tags, 33)
			}
			p.upTo = 28 + 8*tags + 4
			switch {
			case n > 1024 || n > uint64(tags):
				wantStep(t, p.all(), noHead)
			case n != uint64(tags):
				wantStep(t, p.all(), tagsSum)
			default: // but then no Data stand behind
				wantStep(t, p.all(), noBlocks)
			}
		}
	}
}

// P15.2: 1024 blocks are not too many, but there is no Len for them; 1025 are, and that
// is told ahead of the tags' sum.
func TestGetOfTheMostBlocks(t *testing.T) {
	for n := 1000; n < 1050; n++ {
		p := partsOf(Image{Len: 16376})
		p.count = uint64(n)
		for range n {
			p.tags = append(p.tags, 33)
		}
		p.data = make([]byte, 16*n)
		q := p
		q.turn[1] = 1 << 9
		if n > 1024 {
			wantStep(t, p.all(), noHead)
			wantStep(t, q.all(), noHead)
		} else {
			wantStep(t, p.all(), noBlocks)
			wantStep(t, q.all(), tagsSum)
		}
	}
}

// P15.2: the bytes end ahead of the tags' sum, or within it, or right behind, and that
// sum is right or not.
func TestGetOfTooFewForTheTags(t *testing.T) {
	for _, m := range []Image{{Len: 184}, imageOfTwo(), some(), manyOf(32, true)} {
		end := 28 + 8*len(m.Blocks)
		for n := 28; n < end+4; n++ {
			for _, turn := range []uint32{0, 1, 1 << 24} {
				p := partsOf(m)
				p.upTo, p.turn[1] = n, turn
				wantStep(t, p.all(), noHead)
			}
		}
		for n := end + 4; n < end+4+8; n++ {
			p := partsOf(m)
			p.upTo = n
			wantStep(t, p.all(), noBlocks)
			p.turn[1] = 1 << 13
			wantStep(t, p.all(), tagsSum)
		}
	}
}

// P15.2: each bit of the tags, and of their sum, is turned, the sum left as it was.
func TestGetTagsSum(t *testing.T) {
	m := some()
	b := bytesOf(m)
	for i := 28; i < 28+8*len(m.Blocks)+4; i++ {
		for bit := range 8 {
			c := bytes.Clone(b)
			c[i] ^= 1 << bit
			wantStep(t, c, tagsSum)
			wantStep(t, c[:28+8*len(m.Blocks)+4], tagsSum)
			wantStep(t, append(c, 1), tagsSum)
		}
	}
}

// P15.2: each tag is another one, or none, with all sums made anew, or those behind
// left amiss: ErrForm, since the blocks may not be, or ask for other bytes.
func TestGetTags(t *testing.T) {
	tags := []uint64{0, 1, 16, 17, 31, 34, 35, 40, 41, 47, 56, 57, 16400, 16401, 1<<16 + 32, 1<<32 + 33, 1<<63 + 64, 1<<63 + 65}
	for n := uint64(32); n <= 16384; n += 16 {
		tags = append(tags, n, n+1)
	}
	for i, is := range partsOf(some()).tags {
		for _, w := range append(tags, far(is)...) {
			p := partsOf(some())
			p.tags[i] = w
			q := p
			q.turn[2], q.turn[3] = 1, 1<<31
			if w == is {
				wantStep(t, p.all(), done)
				wantStep(t, q.all(), dataSum)
			} else {
				wantStep(t, p.all(), noBlocks)
				wantStep(t, q.all(), noBlocks)
			}
		}
	}
}

// P15.2: two tags at once are others, so that the blocks end at Len nonetheless: they
// may be, or free ones stand side by side, or there are other Data.
func TestGetTwoTags(t *testing.T) {
	told := map[int]int{}
	for i := range some().Blocks {
		for k := range some().Blocks {
			for n := -256; n <= 256; n += 8 {
				for used := range uint64(4) {
					p := partsOf(some())
					p.tags[i] += uint64(n)
					p.tags[k] -= uint64(n)
					p.tags[i] ^= used & 1
					p.tags[k] ^= used >> 1
					told[wantModel(t, p.all())]++
				}
			}
		}
	}
	if told[done] < 100 || told[noBlocks] < 1000 || told[done]+told[noBlocks] != 49*65*4 {
		t.Errorf("told %v", told)
	}
}

// P15.2: the blocks that the tags tell may not be, in each way in which tags can say
// so, and nothing else is amiss: there are as many bytes as they ask for.
func TestGetOfBlocksThatMayNotBe(t *testing.T) {
	for _, sizes := range [][]int{{32, 64}, {-32, 32, 64, -32}, {-32, 48, 48}, {32, 32, 32}, {16, -32}, {-40, -40}, {-32, 24, -40}, {-32, 0, 32}} {
		m := imageFrom(sizes...)
		wantNone(t, m)
		wantStep(t, bytesOf(m), noBlocks)
	}
	for _, length := range []int{184, 200, 216, 232, 264, 16376} {
		m := imageFrom(-32, 32)
		m.Len = length
		wantNone(t, m)
		wantStep(t, bytesOf(m), noBlocks)
	}
	for n := 184; n <= 184+112; n += 16 {
		for _, l := range layouts(184, n) {
			m := Image{Len: n, Blocks: l}
			for i, x := range l {
				if x.Used {
					m.Data = append(m.Data, bytesFrom(i, x.Size-16))
				}
			}
			if freeSideBySide(l) {
				wantStep(t, bytesOf(m), noBlocks)
			} else {
				wantStep(t, bytesOf(m), done)
			}
		}
	}
}

// P15.2: each bit of the Data, of their sum and of that of all is turned, the sums left
// as they were, or just one of them amiss.
func TestGetDataSums(t *testing.T) {
	for _, m := range []Image{some(), imageOfTwo(), {Len: 184}} {
		b := bytesOf(m)
		for i := 28 + 8*len(m.Blocks) + 4; i < len(b); i++ {
			for bit := range 8 {
				c := bytes.Clone(b)
				c[i] ^= 1 << bit
				wantStep(t, c, dataSum)
			}
		}
		for bit := range 32 {
			p := partsOf(m)
			p.turn[2] = 1 << bit // and the sum of all is made of this one
			wantStep(t, p.all(), dataSum)
			p.turn[2], p.turn[3] = 0, 1<<bit
			wantStep(t, p.all(), dataSum)
			p.turn[2] = 1 << bit
			wantStep(t, p.all(), dataSum)
		}
	}
}

// P15.2: a byte of the Data turned, all sums made anew: an image with that byte. The sum
// of the Data as it was ahead: ErrSum, though that of all fits it.
func TestGetOtherData(t *testing.T) {
	was := bytesOf(some())
	for i := range partsOf(some()).data {
		p := partsOf(some())
		p.data[i] ^= 129
		b := p.all()
		wantStep(t, b, done)
		p.turn[2] = at4(b, len(b)-8) ^ at4(was, len(was)-8)
		wantStep(t, p.all(), dataSum)
	}
}

// fault is what is amiss, at which step Get ends then, if nothing is amiss ahead of it.
type fault struct {
	what string
	step int
	lay  func(p *parts)
}

// faults tells what is amiss, by rising steps, of the fields of an image of three
// blocks: a used one of 32 bytes, a free one of 64, and a used one of 48.
func faults() []fault {
	return []fault{
		{"27 bytes", noMark, func(p *parts) { p.upTo = 27 }},
		{"another mark", noMark, func(p *parts) { p.mark = "cNTL" + p.mark[4:] }},
		{"another number of the mark", noMark, func(p *parts) { p.mark = p.mark[:7] + "\x01" }},
		{"the first sum", headSum, func(p *parts) { p.turn[0] ^= 1 }},
		{"28 bytes", noHead, func(p *parts) { p.upTo = 28 }},
		{"Len below", noHead, func(p *parts) { p.length = 168 }},
		{"Len beyond", noHead, func(p *parts) { p.length = 16392 }},
		{"Len between", noHead, func(p *parts) { p.length++ }},
		{"Len of 64 bits", noHead, func(p *parts) { p.length |= 1 << 63 }},
		{"1025 blocks", noHead, func(p *parts) {
			p.count = 1025
			for len(p.tags) < 1025 {
				p.tags = append(p.tags, 33)
			}
		}},
		{"2^61 and three blocks", noHead, func(p *parts) { p.count = 1<<61 + 3 }},
		{"a byte of the tags' sum lacks", noHead, func(p *parts) { p.upTo = 28 + 3*8 + 3 }},
		{"the tags' sum", tagsSum, func(p *parts) { p.turn[1] ^= 1 << 30 }},
		{"no tag", noBlocks, func(p *parts) { p.tags[0] = 35 }},
		{"a tag of a lesser size", noBlocks, func(p *parts) { p.tags[2] = 33 }},
		{"two free ones", noBlocks, func(p *parts) { p.tags[2], p.data = 48, p.data[:min(16, len(p.data))] }},
		{"Len further on", noBlocks, func(p *parts) { p.length += 16 }},
		{"one byte more", noBlocks, func(p *parts) { p.more = 1 }},
		{"no Data", noBlocks, func(p *parts) { p.data = nil }},
		{"the Data's sum", dataSum, func(p *parts) { p.turn[2] ^= 1 << 7 }},
		{"the sum of all", dataSum, func(p *parts) { p.turn[3] ^= 1 << 15 }},
	}
}

// R1, P15.2: wherever two or three are amiss, the first of them is told. What comes
// later is laid first, so that what comes ahead of it isn't undone.
func TestTheFirstOfManyFaults(t *testing.T) {
	l := faults()
	begin := func() *parts {
		p := partsOf(imageFrom(-32, 64, -48))
		return &p
	}
	wantStep(t, begin().all(), done)
	for i, x := range l {
		for k, y := range l[:i+1] {
			for _, z := range l[:k+1] {
				p := begin()
				x.lay(p)
				if k < i {
					y.lay(p)
				}
				if z.what != y.what {
					z.lay(p)
				}
				if step := wantModel(t, p.all()); step != z.step {
					t.Fatalf("%s, %s, %s: step %d, want %d", z.what, y.what, x.what, step, z.step)
				}
			}
		}
	}
}

// P15.4: each byte turned in every way: it is none.
func TestEveryByteTurned(t *testing.T) {
	for _, m := range []Image{{Len: 184}, imageOfTwo(), imageFrom(-32, 32, -48)} {
		b := bytesOf(m)
		for i := range b {
			for v := 1; v < 256; v++ {
				c := bytes.Clone(b)
				c[i] ^= byte(v)
				if wantModel(t, c) == done {
					t.Fatalf("byte %d turned by %d: there is an image", i, v)
				}
			}
		}
	}
}

// P15.4: two to four bytes that stand together turned in drawn ways: it is none. The
// first and the last of them are always turned. Of a few bytes each place has its turn,
// of many a drawn one.
func TestBytesTurnedTogether(t *testing.T) {
	d := draw(4)
	for _, m := range []Image{{Len: 184}, imageOfTwo(), some(), manyOf(48, false)} {
		b := bytesOf(m)
		for n := 2; n <= 4; n++ {
			for try := range min(5000, 40*len(b)) {
				i := try % (len(b) - n + 1)
				if len(b) > 1000 {
					i = d.next(len(b) - n + 1)
				}
				c := bytes.Clone(b)
				for k := range n {
					c[i+k] ^= byte(d.next(256))
				}
				for _, k := range []int{i, i + n - 1} {
					if c[k] == b[k] {
						c[k] ^= byte(1 + d.next(255))
					}
				}
				if m, err := Get(c); err != api.ErrForm && err != api.ErrSum || !isZero(m) {
					t.Fatalf("%d bytes from %d on turned: %s, %v", n, i, brief(m), err)
				}
			}
		}
	}
}

// spoil turns all bytes, as far as the memory of b goes.
func spoil(b []byte) {
	b = b[:cap(b)]
	for i := range b {
		b[i] ^= 255
	}
}

// spoilImage turns all that an image has, as far as its memory goes, but for its own
// lists' lengths.
func spoilImage(m Image) {
	for _, b := range m.Data[:cap(m.Data)] {
		spoil(b)
	}
	for i := range m.Blocks[:cap(m.Blocks)] {
		m.Blocks[:cap(m.Blocks)][i] = api.Block{Off: -1, Size: -1, Used: true}
	}
	clear(m.Data[:cap(m.Data)])
}

// wantApart wants no two Data of an image to have memory in common.
func wantApart(t *testing.T, m Image) {
	t.Helper()
	was := copyOf(m)
	for i, b := range m.Data {
		spoil(b)
		for k, c := range m.Data {
			if k != i && !bytes.Equal(c, was.Data[k]) {
				t.Fatalf("Data %d and %d have memory in common", i, k)
			}
		}
		spoil(b)
	}
}

// P15.3: of Put: its image is neither changed nor kept, its bytes are new memory.
func TestPutMemory(t *testing.T) {
	for _, want := range []Image{some(), {Len: 184}, manyOf(64, false)} {
		m := copyOf(want)
		first, _ := Put(m)
		second, _ := Put(m)
		spoil(first)
		if !same(m, want) || !bytes.Equal(second, bytesOf(want)) {
			t.Fatal("what was told has memory in common with the image, or with another one's")
		}
		spoilImage(m)
		if !bytes.Equal(second, bytesOf(want)) {
			t.Fatal("the image was kept")
		}
		if b, err := Put(want); err != nil || !bytes.Equal(b, bytesOf(want)) {
			t.Fatal("what was told was kept")
		}
	}
}

// P15.3: of Get: its bytes are neither changed nor kept, its image is new memory, no
// two lists of which share any.
func TestGetMemory(t *testing.T) {
	for _, want := range []Image{some(), {Len: 184}, manyOf(64, false)} {
		b := append(bytesOf(want), 1, 2, 3)
		b = b[:len(b)-3]
		was := bytes.Clone(b[:cap(b)])
		first, _ := Get(b)
		second, _ := Get(b)
		wantApart(t, first)
		spoilImage(first)
		if !bytes.Equal(b[:cap(b)], was) || !same(second, want) {
			t.Fatal("what was told has memory in common with the bytes, or with another one's")
		}
		spoil(b)
		if !same(second, want) {
			t.Fatal("the bytes were kept")
		}
		if m, err := Get(was[:len(b)]); err != nil || !same(m, want) {
			t.Fatal("what was told was kept")
		}
	}
}

// P15.3: of Of: its arena is neither changed nor kept, its image is new memory, no two
// lists of which share any.
func TestOfMemory(t *testing.T) {
	for i, l := range [][]api.Block{row(-32, 64, -48, -64), row(), row(-16192)} {
		a := made(t, baseOf(i), 16384, listed(l))
		was := stateOf(t, a)
		want, _ := imageOf([]byte(was.all))
		first, _ := Of(a)
		second, _ := Of(a)
		wantApart(t, first)
		spoilImage(first)
		if stateOf(t, a) != was || !same(second, want) {
			t.Fatal("what was told has memory in common with the arena, or with another one's")
		}
		wantError(t, "Fill", a.Fill(a.Base(), uint64(a.Len()), 7), nil)
		if !same(second, want) {
			t.Fatal("the arena was kept")
		}
	}
}

// P15.1: of arenas without blocks, whatever base and capacity they have.
func TestOfNoBlocks(t *testing.T) {
	for _, base := range bases() {
		for _, capacity := range []int{1024, 1025, 5000, 16383, 16384} {
			a := made(t, base, capacity, make([]byte, 184))
			m, err := Of(a)
			wantError(t, "Of", err, nil)
			if !same(m, Image{Len: 184}) {
				t.Fatalf("Of tells %s", brief(m))
			}
			if !wantOf(t, a) {
				t.Fatal("it isn't right")
			}
		}
	}
}

// P15.1: of arenas with used and free blocks of all kinds, whatever base and capacity
// they have.
func TestOf(t *testing.T) {
	for i, sizes := range [][]int{{32}, {-32}, {16192}, {-16192}, {-32, 64, -48, -64, 32, -32, 272}, {272, -32, 272, -32, 400, -512, -32}, {-32, -32, -32, 16096}} {
		b := listed(row(sizes...))
		for k, capacity := range []int{1024, 1100, 16383, 16384} {
			if len(b) <= capacity && !wantOf(t, made(t, baseOf(i+k), capacity, b)) {
				t.Fatalf("it isn't right: %v", sizes)
			}
		}
	}
	for _, m := range []Image{manyOf(32, true), manyOf(32, false), manyOf(272, false)} {
		if !wantOf(t, made(t, 160, 16384, listed(m.Blocks))) {
			t.Fatalf("it isn't right: %s", brief(m))
		}
	}
}

// P15.1: of every layout of some lengths: those without two free ones side by side
// have an image.
func TestOfEveryLayout(t *testing.T) {
	i := 0
	for n := 184; n <= 184+128; n += 16 {
		for _, l := range layouts(184, n) {
			i++
			if wantOf(t, made(t, baseOf(i), 1024, listed(l))) == freeSideBySide(l) {
				t.Fatalf("%v: right or not?", l)
			}
		}
	}
}

// P15.1: the order of a list is not asked; what used blocks hold may look like tags.
func TestOfWhatIsNotAsked(t *testing.T) {
	l := row(32, -32, 32, -64, 32)
	for _, order := range [][]int{{184, 248, 344}, {344, 248, 184}, {248, 184, 344}, {344, 184, 248}} {
		b := chained(bare(l), 0, order...)
		if !wantOf(t, made(t, 16, 1024, b)) || !wantOf(t, made(t, 16, 1024, with(b, 288, 33, 296, 184, 312, 33))) {
			t.Fatalf("order %v: it isn't right", order)
		}
	}
}

// P15.1: of arenas that aren't right, in each way.
func TestOfWhatIsNotRight(t *testing.T) {
	l := row(-48, 32, -64, 32, -32, 272)
	b := listed(l)
	if !wantOf(t, made(t, 160, 1024, b)) {
		t.Fatal("it isn't right to begin with")
	}
	wrongs := [][]byte{
		listed(row(32, 32)), listed(row(-32, 48, 64, -32)), listed(row(-32, 32, 32)), // free ones side by side
		bare(l), chained(bare(l), 15, 440), chained(bare(l), 0, 344, 232), // free ones in no list
		tagged(b, api.Block{Off: 344, Size: 32, Used: true}), // a used one in a list
		with(b, 0, 0), with(b, 0, 1), with(b, 0, 1<<15), with(b, 0, 1|1<<15|2), // bits
		with(b, 0, 1|1<<15|1<<22), with(b, 0, 1|1<<15|1<<40), with(b, 0, 1<<63|1|1<<15), // bits beyond
		with(b, 8, 0), with(b, 8, 184), with(b, 8, 440), with(b, 8, 16384), with(b, 8, 1<<63+344), // first ones
		with(b, 128, 344), with(b, 16, 232), with(b, 8, 232), // of another class, without a bit, not all
		with(b, 344+16, 232), with(b, 232+16, 0), with(b, 232+16, 232), // previous ones
		with(b, 344+8, 0), with(b, 344+8, 344), with(b, 232+8, 344), with(b, 232+8, 232), // next ones
		with(b, 184, 40), with(b, 184, 0), with(b, 184, 16385), with(b, 184, 48), with(b, 184+40, 33), // tags
		with(b, uint64(len(b)-8), 0), b[:len(b)-1], b[:len(b)-16], append(bytes.Clone(b), 0), append(bytes.Clone(b), make([]byte, 32)...), // ends
	}
	for i, w := range wrongs {
		for _, capacity := range []int{1024, 16384} {
			if wantOf(t, made(t, baseOf(i), capacity, w)) {
				t.Fatalf("the %d-th of the wrong arenas is right", i)
			}
		}
	}
	for n := range 300 {
		if n != 184 && wantOf(t, made(t, baseOf(n), 1024, make([]byte, n))) {
			t.Fatalf("%d bytes, all 0, are right", n)
		}
	}
}

// P15.1: each number of lists and tags is made another one: Of tells an image just if
// the arena is right.
func TestOfEachNumberAmiss(t *testing.T) {
	l := row(-48, 32, -64, 272, -32, 32, -96)
	b := listed(l)
	var numbers []uint64
	for o := uint64(0); o < 184; o += 8 {
		numbers = append(numbers, o)
	}
	values := []uint64{0, 1, 2, 32, 33, 48, 49, 1<<22 | 1, 16384, 1 << 63, 1<<64 - 1}
	for _, x := range l {
		o := uint64(x.Off)
		numbers = append(numbers, o, o+8, o+16, o+uint64(x.Size)-8)
		values = append(values, o)
	}
	told := map[bool]int{}
	for i, o := range numbers {
		for _, v := range values {
			told[wantOf(t, made(t, baseOf(i), 1024, with(b, o, v)))]++
		}
	}
	if told[true] < 50 || told[false] < 500 {
		t.Errorf("told %v", told)
	}
}

// draw is a row of numbers that a rule tells, each from the one ahead of it.
type draw uint32

// next tells a number from 0 to n - 1.
func (d *draw) next(n int) int {
	*d = *d*1664525 + 1013904223
	return int(*d>>8) % n
}

// pick tells one of these.
func (d *draw) pick(l ...int) int { return l[d.next(len(l))] }

// wantHeld wants an image of a heap to have what the heap's handles hold.
func wantHeld(t *testing.T, h *heap.Heap, m Image) {
	t.Helper()
	i := 0
	for _, x := range m.Blocks {
		if !x.Used {
			if _, err := h.Usable(uint64(x.Off) + 8); err != api.ErrHandle {
				t.Fatalf("a free block is a handle: %v", err)
			}
			continue
		}
		n, err := h.Usable(uint64(x.Off) + 8)
		wantError(t, "Usable", err, nil)
		b, err := h.Read(uint64(x.Off)+8, 0, n)
		wantError(t, "Read", err, nil)
		if !bytes.Equal(b, m.Data[i]) {
			t.Fatalf("the handle %d holds %v, its Data is %v", x.Off+8, b, m.Data[i])
		}
		i++
	}
	if s := h.Stats(); s.Used != i || s.Used+s.Free != len(m.Blocks) || s.Len != m.Len {
		t.Fatalf("%s of a heap with %v", brief(m), s)
	}
}

// P15.1: of what calls of a heap make of its arena.
func TestOfDeedsOfAHeap(t *testing.T) {
	d := draw(15)
	for i := range 12 {
		h, err := heap.New(baseOf(i), d.pick(1024, 1040, 2000, 5000, 16384))
		wantError(t, "New", err, nil)
		var l []uint64
		for range 80 {
			r := h.Do(d.call(l))
			if r.Code == 0 && r.H != 0 {
				l = append(l, r.H)
			}
			if d.next(20) == 0 {
				h.Rebuild()
			}
			if a := h.Arena(); !wantOf(t, a) {
				t.Fatal("a heap's arena isn't right")
			} else {
				m, _ := Of(a)
				wantHeld(t, h, m)
			}
		}
	}
}

// call tells a call of one of these handles, or of another one.
func (d *draw) call(l []uint64) api.Call {
	x := api.Call{Op: d.pick(1, 1, 2, 3, 4, 7, 7), N: uint64(d.next(d.pick(40, 200, 1500))), M: 1, H: uint64(d.next(1000))}
	if len(l) > 0 && d.next(9) > 0 {
		x.H = l[d.next(len(l))]
	}
	if x.Op == api.Write {
		x.B = bytesFrom(d.next(256), d.next(40))
	}
	return x
}

// P15.1: of what the layers below heaps make of an arena.
func TestOfDeedsOfBlocks(t *testing.T) {
	d := draw(12)
	for i := range 12 {
		a := made(t, baseOf(i), d.pick(1024, 3000, 16384), make([]byte, 184))
		for range 60 {
			o, size := 184, 16*d.next(30)
			if l, _ := walkOf([]byte(stateOf(t, a).all)); len(l) > 0 {
				o = l[d.next(len(l))].Off
			}
			switch d.next(6) {
			case 0, 1:
				_, _ = alloc.Take(a, size)
			case 2:
				_ = alloc.Give(a, o)
			case 3:
				_ = alloc.Trim(a, o, size)
			case 4:
				_, _ = resize.Resize(a, o, size)
			default:
				_ = fit.Rebuild(a)
			}
			if !wantOf(t, a) {
				t.Fatal("the arena isn't right")
			}
		}
	}
}

// image tells a drawn image, which may be.
func (d *draw) image() Image {
	var sizes []int
	n, wasFree := 184, false
	for range d.next(d.pick(4, 12, 40)) {
		size := d.pick(32, 32, 48, 64, 80, 112, 272, 16*(2+d.next(60)))
		if n += size; n > 16376 {
			break
		}
		if wasFree = !wasFree && d.next(3) > 0; !wasFree {
			size = -size
		}
		sizes = append(sizes, size)
	}
	m := imageFrom(sizes...)
	for _, b := range m.Data {
		for i := range b {
			b[i] = byte(d.next(256))
		}
	}
	return m
}

// spoil changes one thing of an image, of which there may be nothing left to change.
func (d *draw) spoil(m *Image) {
	nb, nd := len(m.Blocks), len(m.Data)
	amount := d.pick(-16, 16, -8, 8, 1, -1, -32, 32, 1024, ends()[d.next(len(ends()))])
	switch k := d.next(9); {
	case k == 0:
		m.Len += amount
	case k == 1 && nb > 0:
		m.Blocks[d.next(nb)].Off += amount
	case k == 2 && nb > 0:
		m.Blocks[d.next(nb)].Size += amount
	case k == 3 && nb > 0:
		x := &m.Blocks[d.next(nb)]
		x.Used = !x.Used
	case k == 4 && nb > 0:
		i := d.next(nb)
		m.Blocks = slices.Delete(m.Blocks, i, i+1)
	case k == 5 && nb > 1: // where one ends, and the next one begins, moves
		i := 1 + d.next(nb-1)
		m.Blocks[i-1].Size += amount
		m.Blocks[i].Off += amount
		m.Blocks[i].Size -= amount
	case k == 6 && nd > 0:
		i := d.next(nd)
		m.Data = slices.Delete(m.Data, i, i+1)
	case k == 7 && nd > 0:
		i := d.next(nd)
		m.Data[i] = append(m.Data[i], make([]byte, 20)...)[:max(0, len(m.Data[i])+d.pick(-16, -1, 1, 16))]
	default:
		m.Data = slices.Insert(m.Data, d.next(nd+1), make([]byte, d.pick(0, 16, 32, 48)))
	}
}

// P15.1, P15.4: drawn images, as they are, and with one to three things changed.
func TestDrawnImages(t *testing.T) {
	d := draw(151)
	told := map[bool]int{}
	for range 1500 {
		m := d.image()
		wantIs(t, m)
		for range 4 {
			c := copyOf(m)
			for range 1 + d.next(3) {
				d.spoil(&c)
			}
			told[wantMay(t, c)]++
		}
	}
	if told[true] < 50 || told[false] < 3000 {
		t.Errorf("told %v", told)
	}
}

// number tells a drawn number, mostly a small one.
func (d *draw) number() uint64 {
	switch d.next(8) {
	case 0:
		return far(uint64(16 * d.next(60)))[d.next(100)]
	case 1:
		return uint64(d.next(20000))
	case 2:
		return uint64(184 + 16*d.next(1013))
	}
	return uint64(16*d.next(40) + d.next(2))
}

// amiss changes one of the fields of an image's bytes.
func (d *draw) amiss(p *parts) {
	switch k := d.next(12); {
	case k == 0:
		b := []byte(p.mark)
		b[d.next(8)] ^= 1 << d.next(8)
		p.mark = string(b)
	case k == 1:
		p.length = d.number()
	case k == 2:
		p.count = d.number() % uint64(d.pick(12, 1100, math.MaxInt))
	case k <= 5 && len(p.tags) > 0:
		p.tags[d.next(len(p.tags))] = d.number()
	case k == 6 && len(p.tags) > 0:
		p.tags[d.next(len(p.tags))] ^= 1
	case k == 7:
		p.data = append(p.data, make([]byte, 16*d.next(4))...)[:d.next(len(p.data)+1)]
	case k == 8 && len(p.data) > 0:
		p.data[d.next(len(p.data))] ^= 1 << d.next(8)
	case k == 9:
		p.upTo = d.next(28 + 8*len(p.tags) + 4 + len(p.data) + 8)
	case k == 10:
		p.more = d.next(20)
	default:
		p.turn[d.next(4)] ^= 1 << d.next(32)
	}
}

// P15.2: drawn bytes, of images with up to three fields amiss, all sums but for these
// made anew, and some bytes turned at last: each step is come to, and agrees with the
// model.
func TestDrawnBytes(t *testing.T) {
	d := draw(152)
	told := map[int]int{}
	for range 12000 {
		p := partsOf(d.image())
		for range d.next(4) {
			d.amiss(&p)
		}
		b := p.all()
		for range d.pick(0, 0, 0, 1, 2) {
			if len(b) > 0 {
				b[d.next(len(b))] ^= 1 << d.next(8)
			}
		}
		told[wantModel(t, b)]++
	}
	for step := done; step <= dataSum; step++ {
		if told[step] < 200 {
			t.Errorf("%d times at step %d", told[step], step)
		}
	}
}

// P1: bytes that no rule made: Get tells what the model does, and what it tells to be
// an image is put as these bytes.
func FuzzGet(f *testing.F) {
	f.Add([]byte(nil))
	f.Add([]byte("CNTL\x01\x00\x00\x00"))
	f.Add(make([]byte, 40))
	for _, m := range []Image{{Len: 184}, imageOfTwo(), some()} {
		f.Add(bytesOf(m))
		f.Add(bytesOf(m)[:len(bytesOf(m))-1])
	}
	f.Fuzz(func(t *testing.T, b []byte) {
		if wantModel(t, b) != done {
			return
		}
		m, _ := Get(b)
		if again, err := Put(m); err != nil || !bytes.Equal(again, b) {
			t.Fatalf("what was got is put as %v, %v", again, err)
		}
	})
}
