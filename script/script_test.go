package script

import (
	"bytes"
	"cantle/api"
	"cantle/disk"
	"cantle/heap"
	"cantle/snap"
	"fmt"
	"maps"
	"math"
	"reflect"
	"slices"
	"testing"
)

// bases are those at which an address is near 0, near the greatest, or neither.
func bases() []uint64 {
	return []uint64{0, 16, 160, 192, 1 << 32, 1<<62 - 16, 1 << 62}
}

// baseOf tells the base of the i-th try.
func baseOf(i int) uint64 { return bases()[i%len(bases())] }

// wrongBases are those of which there is no heap.
func wrongBases() []uint64 {
	return []uint64{1, 8, 15, 17, 184, 1<<32 + 8, 1<<62 - 8, 1<<62 + 1, 1<<62 + 16, 1<<63 - 16, 1 << 63, 1<<64 - 1024, 1<<64 - 16, 1<<64 - 1}
}

// capacities are the least ones, the greatest ones, and some between.
func capacities() []int {
	return []int{1024, 1025, 1040, 1400, 5000, 8192, 16375, 16376, 16383, 16384}
}

// wrongCapacities are those of which there is no heap.
func wrongCapacities() []int {
	return []int{math.MinInt, math.MinInt + 1024, -16384, -1024, -1, 0, 1, 184, 216, 1008, 1023, 16385, 16400, 32768, 1<<32 + 1024, math.MaxInt - 1, math.MaxInt}
}

// wrongSectors are the numbers of sectors of which there is no disk.
func wrongSectors() []int {
	return []int{math.MinInt, math.MinInt + 8, -128, -8, -2, -1, 0, 1, 129, 130, 256, 512, 1<<32 + 8, math.MaxInt - 1, math.MaxInt}
}

// otherKinds are those of no step.
func otherKinds() []int {
	return []int{math.MinInt, math.MinInt + 1, -256, -6, -5, -3, -1, 6, 7, 8, 9, 16, 255, 256, 257, 259, 1 << 32, 1<<32 + 1, 1<<32 + 3, math.MaxInt}
}

// Steps that are calls of the heap.
func malloc(n uint64) Step     { return Step{C: api.Call{Op: api.Malloc, N: n}} }
func calloc(n, m uint64) Step  { return Step{C: api.Call{Op: api.Calloc, N: n, M: m}} }
func free(p uint64) Step       { return Step{C: api.Call{Op: api.Free, H: p}} }
func realloc(p, n uint64) Step { return Step{C: api.Call{Op: api.Realloc, H: p, N: n}} }
func usable(p uint64) Step     { return Step{C: api.Call{Op: api.Usable, H: p}} }
func read(p, at, n uint64) Step {
	return Step{C: api.Call{Op: api.Read, H: p, At: at, N: n}}
}
func write(p, at uint64, b ...byte) Step {
	return Step{C: api.Call{Op: api.Write, H: p, At: at, B: b}}
}
func count() Step { return Step{C: api.Call{Op: api.Count}} }

// Steps beside calls.
func saves() Step             { return Step{Kind: 1} }
func cuts(n int) Step         { return Step{Kind: 2, N: n} }
func boots(keep ...bool) Step { return Step{Kind: 3, Keep: keep} }
func loads() Step             { return Step{Kind: 4} }
func rebuilds() Step          { return Step{Kind: 5} }

// wantError wants the Code itself, so nothing that wraps it.
func wantError(t *testing.T, what string, err, want error) {
	t.Helper()
	if err == nil || want == nil {
		if err != nil || want != nil {
			t.Fatalf("%s: error %v, want %v", what, err, want)
		}
		return
	}
	if err != want {
		t.Fatalf("%s: error %v, want %v", what, err, want)
	}
}

// alike tells whether two replies are the same.
func alike(a, b api.Reply) bool {
	return a.Code == b.Code && a.H == b.H && a.N == b.N && a.S == b.S && bytes.Equal(a.B, b.B)
}

// wantReplies wants these replies.
func wantReplies(t *testing.T, what string, l []Step, got, want []api.Reply) {
	t.Helper()
	if len(got) != len(want) {
		t.Fatalf("%s: %d replies, want %d", what, len(got), len(want))
	}
	for i := range want {
		if !alike(got[i], want[i]) {
			t.Fatalf("%s: step %d of %d, %+v, tells %+v, want %+v", what, i, len(l), l[i], got[i], want[i])
		}
	}
}

// bytesFrom tells n bytes that rise from c on.
func bytesFrom(c, n int) []byte {
	b := make([]byte, n)
	for i := range b {
		b[i] = byte(c + i)
	}
	return b
}

// fills tells n bytes that are Fill.
func fills(n int) []byte { return bytes.Repeat([]byte{165}, n) }

// spoil lays other bytes into a list: if it is kept, or shared, it shows.
func spoil(b []byte) {
	b = b[:cap(b)]
	for i := range b {
		b[i] ^= 0x5a
	}
}

// copyOf tells steps that have no memory in common with these.
func copyOf(l []Step) []Step {
	l = slices.Clone(l)
	for i := range l {
		l[i].C.B = slices.Clone(l[i].C.B)
		l[i].Keep = slices.Clone(l[i].Keep)
	}
	return l
}

// spoilSteps lays other steps into a list, and other bytes and flags into theirs.
func spoilSteps(l []Step) {
	for i := range l {
		spoil(l[i].C.B)
		for k := range l[i].Keep {
			l[i].Keep[k] = !l[i].Keep[k]
		}
		l[i] = Step{Kind: 1, N: 5}
	}
}

// wantRun wants Run to tell what the model tells, twice, to leave the steps as they
// were, and to tell new memory; and tells the replies.
func wantRun(t *testing.T, base uint64, capacity, sectors int, l []Step) []api.Reply {
	t.Helper()
	want, wantErr := modelRun(base, capacity, sectors, copyOf(l))
	what := fmt.Sprintf("base %#x, capacity %d, %d sectors", base, capacity, sectors)
	for range 2 {
		given := copyOf(l)
		got, err := Run(base, capacity, sectors, given)
		wantError(t, what, err, wantErr)
		if err != nil && got != nil {
			t.Fatalf("%s: %d replies beside an error", what, len(got))
		}
		if !reflect.DeepEqual(given, copyOf(l)) {
			t.Fatalf("%s: the steps are other ones", what)
		}
		spoilSteps(given)
		wantReplies(t, what, l, got, want)
		for i := range got {
			if !bytes.Equal(got[i].B, want[i].B) {
				t.Fatalf("%s: the bytes of step %d are another one's", what, i)
			}
			spoil(got[i].B)
		}
	}
	return want
}

// turn is a step, and its reply.
type turn struct {
	x    Step
	want api.Reply
}

// wantTurns wants each step's reply, as the model and the turns tell it, at each base.
func wantTurns(t *testing.T, capacity, sectors int, turns ...turn) {
	t.Helper()
	var l []Step
	var want []api.Reply
	for _, x := range turns {
		l, want = append(l, x.x), append(want, x.want)
	}
	for _, base := range bases() {
		wantReplies(t, "written out", l, wantRun(t, base, capacity, sectors, l), want)
	}
}

// Replies of turns.
func code(c api.Code) api.Reply { return api.Reply{Code: int(c)} }
func handle(p uint64) api.Reply { return api.Reply{H: p} }
func held(b ...byte) api.Reply  { return api.Reply{B: b} }
func counts(used, free, held, length, capacity int) api.Reply {
	return api.Reply{S: api.Stats{Used: used, Free: free, Bytes: held, Len: length, Cap: capacity}}
}

// The chapter's example: no steps, no replies.
func TestTheExample(t *testing.T) {
	for _, l := range [][]Step{nil, {}} {
		got, err := Run(160, 1024, 8, l)
		wantError(t, "Run", err, nil)
		if len(got) != 0 {
			t.Fatalf("replies %+v", got)
		}
		wantRun(t, 160, 1024, 8, l)
	}
}

// The README's example.
func TestTheReadme(t *testing.T) {
	steps := []Step{
		{C: api.Call{Op: api.Malloc, N: 20}},
		{Kind: 1},
		{C: api.Call{Op: api.Write, H: 192, B: []byte{7}}},
		{Kind: 2, N: 1},
		{Kind: 1},
		{Kind: 4},
		{C: api.Call{Op: api.Read, H: 192, N: 1}},
		{Kind: 3, Keep: []bool{true}},
		{C: api.Call{Op: api.Read, H: 192, N: 1}},
		{Kind: 5},
		{Kind: 6},
	}
	got, err := Run(160, 1024, 8, steps)
	wantError(t, "Run", err, nil)
	wantReplies(t, "the README", steps, got, []api.Reply{{H: 192}, {}, {}, {}, {Code: 6}, {Code: 6}, {B: []byte{7}}, {}, {B: []byte{165}}, {}, {Code: 1}})
	_, err = Run(160, 1024, 1, steps)
	wantError(t, "Run", err, api.ErrArg)
	_, err = Run(160, 1024, 8, make([]Step, 201))
	wantError(t, "Run", err, api.ErrLarge)
}

// someOf tells n steps, of all kinds.
func someOf(n int) []Step {
	l := []Step{malloc(20), saves(), write(192, 0, 7), cuts(1), saves(), loads(), read(192, 0, 1), boots(true), read(192, 0, 1), rebuilds(), {Kind: 6}}
	return slices.Repeat(l, n/len(l)+1)[:n]
}

// P19.1: no such heap, or no such disk, or neither: ErrArg, with no steps, with as many
// as there may be, and with more.
func TestNoSuchHeapOrDisk(t *testing.T) {
	wrong := func(base uint64, capacity, sectors int) {
		t.Helper()
		for _, n := range []int{0, 1, 11, 200, 201, 1000} {
			got, err := Run(base, capacity, sectors, someOf(n))
			wantError(t, fmt.Sprintf("base %#x, capacity %d, %d sectors, %d steps", base, capacity, sectors, n), err, api.ErrArg)
			if got != nil {
				t.Fatal("replies beside an error")
			}
		}
		wantRun(t, base, capacity, sectors, someOf(5))
	}
	for i, base := range wrongBases() {
		wrong(base, 1024+i, 8)
		wrong(base, wrongCapacities()[i], 8)
		wrong(base, 1024+i, wrongSectors()[i])
		wrong(base, wrongCapacities()[i], wrongSectors()[i])
	}
	for i, capacity := range wrongCapacities() {
		wrong(baseOf(i), capacity, 8)
		wrong(baseOf(i), capacity, wrongSectors()[i%len(wrongSectors())])
	}
	for i, sectors := range wrongSectors() {
		wrong(baseOf(i), 1024+i, sectors)
	}
}

// P19.1: each number of sectors of which there is a disk, bases and capacities of which
// there is a heap, and each capacity near the bounds: what Count tells is the script's.
func TestHeapsAndDisks(t *testing.T) {
	for sectors := -3; sectors <= 133; sectors++ {
		wantRun(t, baseOf(sectors+3), 1024+max(0, sectors), sectors, append(someOf(22), count()))
	}
	for _, base := range bases() {
		for _, capacity := range capacities() {
			l := []Step{count(), boots(), count(), saves(), loads(), count(), boots(), count()}
			for i, r := range wantRun(t, base, capacity, 4, l) {
				if l[i].C.Op == api.Count && !alike(r, counts(0, 0, 0, 184, capacity)) {
					t.Fatalf("base %#x, capacity %d: step %d tells %+v", base, capacity, i, r)
				}
			}
		}
	}
	for n := -40; n <= 40; n++ {
		for i, capacity := range []int{1024 + n, 16384 + n} {
			wantRun(t, baseOf(i+n+40), capacity, 8, someOf(22))
		}
		wantRun(t, uint64(n+40), 1024, 8, someOf(22))
		wantRun(t, 1<<62+uint64(n), 1024, 8, someOf(22))
	}
}

// P19.1: up to 200 steps each has a reply; with more there are none.
func TestHowManySteps(t *testing.T) {
	for n := range 204 {
		if got := wantRun(t, baseOf(n), 1024, 8, someOf(n)); n <= 200 && len(got) != n || n > 200 && got != nil {
			t.Fatalf("%d steps: %d replies", n, len(got))
		}
	}
	for _, n := range []int{200, 201, 256, 400, 1000, 1 << 16, 1<<16 + 1} {
		for _, x := range []Step{{}, malloc(5), saves(), cuts(0), boots(), loads(), rebuilds(), {Kind: 6}} {
			wantRun(t, baseOf(n), 1024, 8, slices.Repeat([]Step{x}, n))
		}
	}
}

// P19.1: steps of each kind, written out.
func TestWrittenOut(t *testing.T) {
	wantTurns(t, 1024, 8,
		turn{boots(), code(api.ErrNoImage)},
		turn{malloc(5), handle(192)},
		turn{count(), counts(1, 0, 16, 216, 1024)},
		turn{loads(), code(api.ErrNoImage)},
		turn{read(192, 0, 1), held(165)},
		turn{saves(), code(0)},
		turn{write(192, 0, 7), code(0)},
		turn{read(192, 0, 2), held(7, 165)},
		turn{loads(), code(0)},
		turn{read(192, 0, 2), held(165, 165)},
		turn{calloc(4, 5), handle(224)},
		turn{saves(), code(0)},
		turn{cuts(1), code(0)},
		turn{free(192), code(0)},
		turn{saves(), code(api.ErrDown)},
		turn{loads(), code(api.ErrDown)},
		turn{saves(), code(api.ErrDown)},
		turn{count(), counts(1, 1, 32, 264, 1024)},
		turn{usable(192), code(api.ErrHandle)},
		turn{boots(true, false), code(0)},
		turn{count(), counts(2, 0, 48, 264, 1024)},
		turn{usable(192), api.Reply{N: 16}},
		turn{rebuilds(), code(0)},
		turn{read(224, 30, 2), held(0, 0)},
		turn{read(224, 30, 3), code(api.ErrRange)},
		turn{realloc(192, 17), handle(272)},
		turn{Step{Kind: 6}, code(api.ErrArg)},
		turn{Step{Kind: -1}, code(api.ErrArg)},
		turn{Step{}, code(api.ErrArg)},
		turn{malloc(1 << 62), code(api.ErrNoMem)},
		turn{count(), counts(2, 1, 64, 312, 1024)},
	)
}

// P19.1: with ErrNoImage step 3 lets a new heap be, and step 4 lets the heap stay.
func TestNoImage(t *testing.T) {
	wantTurns(t, 1030, 2,
		turn{malloc(100), handle(192)},
		turn{write(192, 0, 1, 2, 3), code(0)},
		turn{loads(), code(api.ErrNoImage)},
		turn{count(), counts(1, 0, 112, 312, 1030)},
		turn{read(192, 0, 4), held(1, 2, 3, 165)},
		turn{boots(), code(api.ErrNoImage)},
		turn{count(), counts(0, 0, 0, 184, 1030)},
		turn{read(192, 0, 4), code(api.ErrHandle)},
		turn{free(192), code(api.ErrHandle)},
		turn{malloc(20), handle(192)},
		turn{read(192, 0, 4), held(165, 165, 165, 165)},
		turn{count(), counts(1, 0, 32, 232, 1030)},
		turn{boots(false), code(api.ErrNoImage)},
		turn{loads(), code(api.ErrNoImage)},
		turn{count(), counts(0, 0, 0, 184, 1030)},
		turn{malloc(814), handle(192)},
		turn{malloc(0), code(api.ErrNoMem)},
	)
}

// P19.1: with ErrDown step 4 lets the heap stay, its lists as well; step 3 tells none.
func TestLoadWhileThePowerIsOff(t *testing.T) {
	wantTurns(t, 1024, 8,
		turn{malloc(16), handle(192)},
		turn{saves(), code(0)},
		turn{malloc(16), handle(224)},
		turn{malloc(16), handle(256)},
		turn{malloc(16), handle(288)},
		turn{free(256), code(0)},
		turn{free(192), code(0)},
		turn{cuts(0), code(0)},
		turn{loads(), code(0)},
		turn{count(), counts(1, 0, 16, 216, 1024)},
		turn{malloc(16), handle(224)},
		turn{malloc(16), handle(256)},
		turn{malloc(16), handle(288)},
		turn{free(256), code(0)},
		turn{free(192), code(0)},
		turn{saves(), code(api.ErrDown)},
		turn{loads(), code(api.ErrDown)},
		turn{count(), counts(2, 2, 32, 312, 1024)},
		turn{malloc(16), handle(192)},
		turn{boots(), code(0)},
		turn{loads(), code(0)},
		turn{count(), counts(1, 0, 16, 216, 1024)},
	)
}

// holed are steps behind which two free blocks of 32 bytes stand apart; the one in
// front was given back last, so that it is the first of its list.
func holed() []turn {
	return []turn{
		{malloc(16), handle(192)},
		{malloc(16), handle(224)},
		{malloc(16), handle(256)},
		{malloc(16), handle(288)},
		{free(256), code(0)},
		{free(192), code(0)},
	}
}

// P19.1: Rebuild makes the lists anew, so that the last block is the first of its list;
// what is loaded has such lists, too; all else leaves them.
func TestWhichBlockIsNext(t *testing.T) {
	none, off := code(api.ErrNoImage), code(api.ErrDown)
	for _, x := range []struct {
		turns []turn
		next  uint64
	}{
		{nil, 192},
		{[]turn{{rebuilds(), code(0)}}, 256},
		{[]turn{{rebuilds(), code(0)}, {rebuilds(), code(0)}}, 256},
		{[]turn{{saves(), code(0)}}, 192},
		{[]turn{{saves(), code(0)}, {loads(), code(0)}}, 256},
		{[]turn{{saves(), code(0)}, {boots(), code(0)}}, 256},
		{[]turn{{saves(), code(0)}, {cuts(0), code(0)}, {loads(), code(0)}}, 256},
		{[]turn{{loads(), none}}, 192},
		{[]turn{{loads(), none}, {rebuilds(), code(0)}}, 256},
		{[]turn{{cuts(0), code(0)}, {saves(), off}, {loads(), off}}, 192},
		{[]turn{{cuts(0), code(0)}, {saves(), off}, {rebuilds(), code(0)}}, 256},
		{[]turn{{Step{Kind: 6}, code(api.ErrArg)}}, 192},
		{[]turn{{cuts(3), code(0)}}, 192},
		{[]turn{{count(), counts(2, 2, 32, 312, 1024)}}, 192},
	} {
		wantTurns(t, 1024, 8, slices.Concat(holed(), x.turns, []turn{{malloc(16), handle(x.next)}})...)
	}
}

// P19.1: steps of no kind tell ErrArg, whatever their other fields ask, and do nothing:
// neither with the heap nor with the disk, nor with the power.
func TestOtherKinds(t *testing.T) {
	for _, kind := range otherKinds() {
		for _, x := range []Step{{}, malloc(5), free(192), write(192, 0, 1), cuts(0), {Keep: []bool{true}}, {C: malloc(5).C, N: 1, Keep: []bool{true, false}}} {
			x.Kind = kind
			wantTurns(t, 1024, 8,
				turn{x, code(api.ErrArg)},
				turn{malloc(5), handle(192)},
				turn{x, code(api.ErrArg)},
				turn{loads(), code(api.ErrNoImage)},
				turn{saves(), code(0)},
				turn{malloc(5), handle(224)},
				turn{x, code(api.ErrArg)},
				turn{count(), counts(2, 0, 32, 248, 1024)},
				turn{read(192, 0, 1), held(165)},
				turn{cuts(0), code(0)},
				turn{x, code(api.ErrArg)},
				turn{saves(), code(api.ErrDown)},
				turn{x, code(api.ErrArg)},
				turn{loads(), code(api.ErrDown)},
				turn{boots(), code(0)},
				turn{count(), counts(1, 0, 16, 216, 1024)},
			)
		}
	}
}

// P19.1: each kind asks just its own fields: others make no difference. A step beside
// calls does none, and tells a Code alone; a call neither cuts nor boots.
func TestStepsAskJustTheirFields(t *testing.T) {
	l := []Step{
		malloc(20), write(192, 0, 1, 2), saves(), calloc(3, 7), cuts(4), saves(), saves(), loads(), read(192, 0, 3), count(), rebuilds(), boots(true),
		free(192), realloc(240, 100), usable(240), {Kind: 6}, saves(), loads(), count(), boots(), read(240, 0, 2), free(192), {Kind: -1}, cuts(1), saves(), boots(),
	}
	full := func(x, other Step) Step {
		other.Kind = x.Kind
		switch x.Kind {
		case 0:
			other.C = x.C
		case 2:
			other.N = x.N
		case 3:
			other.Keep = x.Keep
		}
		return other
	}
	want := wantRun(t, 160, 1024, 8, l)
	for _, other := range []Step{
		{C: malloc(5).C, N: 0, Keep: []bool{true}},
		{C: free(192).C, N: 1, Keep: []bool{}},
		{C: count().C, N: -1, Keep: []bool{false, true}},
		{C: read(192, 0, 1).C, N: 2, Keep: make([]bool, 300)},
		{C: api.Call{Op: 99, H: 1<<64 - 1, N: 1<<64 - 1, M: 1<<64 - 1, At: 1<<64 - 1, B: bytesFrom(1, 99)}, N: math.MinInt},
		{C: write(192, 0, 9).C, N: math.MaxInt},
	} {
		var given []Step
		for _, x := range l {
			given = append(given, full(x, other))
		}
		wantReplies(t, "with other fields", given, wantRun(t, 160, 1024, 8, given), want)
	}
	for i, r := range want {
		if l[i].Kind != 0 && !alike(r, api.Reply{Code: r.Code}) {
			t.Fatalf("step %d, %+v, tells more than a Code: %+v", i, l[i], r)
		}
	}
}

// P19.1: Save has room for an image just as long as a slot's sectors but the first; of
// a heap that is too large it tells ErrFull, and what was saved ahead of it stays.
func TestRoom(t *testing.T) {
	for sectors := 2; sectors <= 60; sectors++ {
		most := uint64(512*(sectors/2-1)) - 48
		if sectors < 4 {
			wantTurns(t, 16384, sectors,
				turn{saves(), code(api.ErrFull)},
				turn{malloc(0), handle(192)},
				turn{saves(), code(api.ErrFull)},
				turn{boots(), code(api.ErrNoImage)},
			)
			continue
		}
		wantTurns(t, 16384, sectors,
			turn{saves(), code(0)},
			turn{malloc(most + 1), handle(192)},
			turn{saves(), code(api.ErrFull)},
			turn{loads(), code(0)},
			turn{count(), counts(0, 0, 0, 184, 16384)},
			turn{malloc(most), handle(192)},
			turn{saves(), code(0)},
			turn{malloc(0), handle(192 + most + 16)},
			turn{saves(), code(api.ErrFull)},
			turn{cuts(0), code(0)},
			turn{saves(), code(api.ErrFull)},
			turn{boots(), code(0)},
			turn{count(), counts(1, 0, int(most), 200+int(most), 16384)},
		)
	}
}

// P19.1: Cut: the power goes at the write behind so many; a Save of one sector's image
// has three. The last Cut alone is in force, and none behind a Boot; none below 0.
func TestCut(t *testing.T) {
	for n := -3; n <= 9; n++ {
		l := []Step{malloc(5), saves(), cuts(n), malloc(6), saves(), loads(), malloc(7), saves(), loads(), count(), saves(), boots(), count(), saves(), saves()}
		got := wantRun(t, baseOf(n+3), 1024, 8, l)
		for k, i := range []int{4, 7, 10} {
			want := 0
			if n >= 0 && n < 3*k+3 {
				want = 6
			}
			if got[i].Code != want {
				t.Fatalf("Cut(%d): the %d-th Save tells %+v", n, k, got[i])
			}
		}
		used := 3
		if n >= 0 {
			used = 1 + min(n/3, 2)
		}
		if got[12].S.Used != used || got[11].Code != 0 || got[13].Code != 0 || got[14].Code != 0 {
			t.Fatalf("Cut(%d): behind Boot %+v", n, got[11:])
		}
	}
	for _, n := range []int{math.MinInt, math.MinInt + 1, -1 << 32, -1, 200, 1 << 32, math.MaxInt} {
		l := append([]Step{cuts(n)}, slices.Repeat([]Step{saves()}, 66)...)
		for i, r := range wantRun(t, 160, 1024, 8, l) {
			if (r.Code != 0) != (n == 200 && i > 66) {
				t.Fatalf("Cut(%d): step %d tells %+v", n, i, r)
			}
		}
	}
	wantTurns(t, 1024, 8,
		turn{cuts(0), code(0)},
		turn{cuts(3), code(0)},
		turn{saves(), code(0)},
		turn{cuts(-1), code(0)},
		turn{saves(), code(0)},
		turn{cuts(0), code(0)},
		turn{boots(), code(0)},
		turn{saves(), code(0)},
		turn{cuts(1), code(0)},
		turn{saves(), code(api.ErrDown)},
		turn{cuts(-1), code(0)},
		turn{saves(), code(api.ErrDown)},
		turn{loads(), code(api.ErrDown)},
		turn{boots(), code(0)},
		turn{saves(), code(0)},
	)
}

// keeps tells each way to keep some of n writes, with a list of n flags, of more, and
// of none.
func keeps(n int) [][]bool {
	l := [][]bool{nil}
	for range n {
		var next [][]bool
		for _, keep := range l {
			next = append(next, append(slices.Clone(keep), true), append(slices.Clone(keep), false))
		}
		l = next
	}
	return append(l, slices.Repeat([]bool{true}, n+9), nil)
}

// P19.1, T4: the power goes ahead of each write of the k-th Save, and each of the writes
// that wait then is kept or not: what is loaded then is the Save's ahead of it, and a
// Save behind that is done.
func TestEachCut(t *testing.T) {
	for k := range 4 {
		for n := range 7 {
			for _, keep := range keeps(max(0, min(n-1, 3))) {
				l := []Step{malloc(1200)}
				for i := range k {
					l = append(l, write(192, 9, byte(i+1)), saves())
				}
				l = append(l, write(192, 9, 99), cuts(n), saves(), read(192, 9, 1), boots(keep...), read(192, 9, 1), malloc(0), saves(), boots(), count())
				got := wantRun(t, baseOf(n), 2048, 8, l)
				end := got[2*k+1:]
				read, load := code(api.ErrHandle), code(api.ErrNoImage)
				used := 1
				if k > 0 {
					read, load, used = held(byte(k)), code(0), 2
				}
				save := code(api.ErrDown)
				if n >= 5 {
					save, read, load, used = code(0), held(99), code(0), 2
				}
				if !alike(end[2], save) || !alike(end[3], held(99)) || !alike(end[4], load) || !alike(end[5], read) || end[7].Code != 0 || end[9].S.Used != used {
					t.Fatalf("%d Saves, Cut(%d), %v: %+v", k, n, keep, end)
				}
			}
		}
	}
}

// P19.1: a call's reply is Do's, in all its fields, and the others' are those of layers
// 4, 14 and 18.
func TestAsTheLayersBelow(t *testing.T) {
	d := draw(19)
	for i := range 60 {
		capacity, sectors := d.pick(capacities()...), d.pick(2, 4, 5, 8, 24, 128)
		l := d.steps(capacity, sectors, 1+d.next(40))
		h, err := heap.New(160, capacity)
		wantError(t, "New", err, nil)
		plate := disk.New(sectors)
		var want []api.Reply
		for _, x := range copyOf(l) {
			var r api.Reply
			switch x.Kind {
			case 0:
				r = h.Do(x.C)
			case 1:
				r = coded(snap.Save(plate, h))
			case 2:
				plate.Cut(x.N)
			case 3, 4:
				if x.Kind == 3 {
					plate.Boot(x.Keep)
				}
				g, err := snap.Load(plate, 160, capacity)
				if err != nil && x.Kind == 3 {
					wantError(t, "Load behind Boot", err, api.ErrNoImage)
					g, _ = heap.New(160, capacity)
				}
				if g != nil {
					h = g
				}
				r = coded(err)
			case 5:
				h.Rebuild()
			default:
				r = code(api.ErrArg)
			}
			want = append(want, r)
		}
		got, err := Run(baseOf(i), capacity, sectors, l)
		wantError(t, "Run", err, nil)
		wantReplies(t, "as the layers below", l, got, want)
	}
}

// draw is a row of numbers that a rule tells, each from the one ahead of it.
type draw uint32

// next tells a number from 0 to n - 1.
func (d *draw) next(n int) int {
	*d = *d*1664525 + 1013904223
	return int(*d>>8) % n
}

// pick tells one of these.
func (d *draw) pick(l ...int) int { return l[d.next(len(l))] }

// flags tells n of them.
func (d *draw) flags(n int) []bool {
	l := make([]bool, n)
	for i := range l {
		l[i] = d.next(2) == 0
	}
	return l
}

// far tells a number that is near an end of 64 bits, or none that may be asked.
func (d *draw) far() uint64 {
	return []uint64{0, 7, 184, 1024, 16384, 1 << 31, 1 << 32, 1<<62 + 192, 1<<63 - 1, 1 << 63, 1<<64 - 192, 1<<64 - 8, 1<<64 - 1}[d.next(13)]
}

// count tells how many bytes are asked for, mostly a few.
func (d *draw) count() uint64 {
	if d.next(16) == 0 {
		return d.far()
	}
	return uint64(d.next(d.pick(30, 30, 60, 200, 900, 17000)))
}

// call tells a call, mostly of one of these handles.
func (d *draw) call(handles []uint64) api.Call {
	x := api.Call{Op: d.pick(1, 1, 1, 2, 3, 3, 4, 5, 6, 6, 7, 7, 8, d.next(12)-1), N: d.count(), M: uint64(d.next(3))}
	switch {
	case d.next(20) == 0:
		x.H = d.far()
	case len(handles) == 0 || d.next(12) == 0:
		x.H = uint64(d.next(1200))
	default:
		x.H = handles[d.next(len(handles))]
	}
	switch x.Op {
	case api.Read, api.Write:
		x.N, x.At = uint64(d.next(d.pick(8, 40))), uint64(d.next(d.pick(8, 60)))
		if d.next(20) == 0 {
			x.N, x.At = d.far(), d.far()
		}
		x.B = bytesFrom(d.next(256), d.next(40))
	}
	return x
}

// step tells a step, whose calls are mostly of one of these handles.
func (d *draw) step(handles []uint64) Step {
	x := Step{C: d.call(handles), N: d.pick(-1, 0, 1, 2, 3, 4, 5, 8, 12, 40), Keep: d.flags(d.next(12))}
	switch n := d.next(40); {
	case n < 24:
		x.Kind = 0
	case n < 30:
		x.Kind = 1
	case n < 33:
		x.Kind = 2
	case n < 35:
		x.Kind = 3
	case n < 37:
		x.Kind = 4
	case n < 39:
		x.Kind = 5
	default:
		x.Kind = otherKinds()[d.next(len(otherKinds()))]
	}
	return x
}

// handlesOf tells the handles that a model has.
func handlesOf(m *model) []uint64 {
	var l []uint64
	blocks, _ := walkOf(m.b)
	for _, x := range blocks {
		if x.Used {
			l = append(l, uint64(x.Off)+8)
		}
	}
	return l
}

// steps tells n steps, chosen by what the model does.
func (d *draw) steps(capacity, sectors, n int) []Step {
	s := sceneOf(capacity, sectors)
	var l []Step
	for range n {
		x := d.step(handlesOf(s.model))
		s.step(x)
		l = append(l, x)
	}
	return l
}

// P19.1: drawn scripts, at any base, with any capacity and any disk, held against the
// model; the first of their steps alone tell the first of their replies.
func TestDrawnScripts(t *testing.T) {
	d := draw(191)
	told := map[[2]int]int{}
	for i := range 300 {
		capacity, sectors := d.pick(capacities()...), d.pick(2, 3, 4, 5, 6, 8, 9, 12, 24, 33, 64, 128)
		l := d.steps(capacity, sectors, 1+d.next(d.pick(20, 100, 200)))
		got := wantRun(t, baseOf(i), capacity, sectors, l)
		for k, r := range got {
			kind := min(max(-1, l[k].Kind), 6)
			told[[2]int{kind, r.Code}]++
		}
		n := d.next(len(l) + 1)
		first, err := Run(baseOf(i+1), capacity, sectors, l[:n])
		wantError(t, "Run", err, nil)
		wantReplies(t, "the first steps", l, first, got[:n])
	}
	for _, x := range [][2]int{{0, 0}, {0, 1}, {0, 2}, {0, 4}, {0, 5}, {1, 0}, {1, 6}, {1, 7}, {2, 0}, {3, 0}, {3, 8}, {4, 0}, {4, 6}, {4, 8}, {5, 0}, {6, 1}, {-1, 1}} {
		if told[x] < 50 {
			t.Errorf("kind %d told error %d: %d times", x[0], x[1], told[x])
		}
		delete(told, x)
	}
	if len(told) != 0 {
		t.Errorf("told %v, too", told)
	}
}

// T2: of a heap that was saved, what is loaded answers each further step as the heap
// itself does, behind Rebuild.
func TestStepsAsOfTheHeapItself(t *testing.T) {
	d, done := draw(192), 0
	for i := range 100 {
		s := sceneOf(d.pick(capacities()...), d.pick(70, 100, 128))
		var ahead, behind []Step
		for range 1 + d.next(60) {
			x := Step{C: d.call(handlesOf(s.model))}
			s.step(x)
			ahead = append(ahead, x)
		}
		s.step(rebuilds())
		for range 60 {
			x := Step{C: d.call(handlesOf(s.model))}
			if s.step(x).Code == 0 {
				done++
			}
			behind = append(behind, x)
		}
		capacity, sectors := s.capacity, len(s.stands)/512
		itself := wantRun(t, baseOf(i), capacity, sectors, slices.Concat(ahead, []Step{saves(), rebuilds()}, behind))
		for _, between := range [][]Step{
			{saves(), loads()},
			{saves(), boots()},
			{saves(), malloc(40), cuts(2), saves(), boots(true)},
			{saves(), saves(), loads(), loads(), rebuilds()},
			{saves(), malloc(40), write(192, 0, 1), loads()},
		} {
			l := slices.Concat(ahead, between, behind)
			got := wantRun(t, baseOf(i+1), capacity, sectors, l)
			wantReplies(t, "what is loaded", behind, got[len(l)-60:], itself[len(itself)-60:])
		}
	}
	if done < 2000 {
		t.Errorf("%d calls told no error", done)
	}
}

// play is a script that goes on: each step is chosen by what was told of those ahead of
// it. The model isn't asked: held is what a map of handles to bytes has, saved what it
// had at the last Save that told no error, within what it had at the one in which the
// power went; each is nil, if there is none.
type play struct {
	t                 *testing.T
	base              uint64
	capacity, sectors int
	l                 []Step
	told              []api.Reply
	held              map[uint64][]byte
	saved, within     map[uint64][]byte
	off               bool
}

// playOf tells a new one.
func playOf(t *testing.T, base uint64, capacity, sectors int) *play {
	return &play{t: t, base: base, capacity: capacity, sectors: sectors, held: map[uint64][]byte{}}
}

// try tells what a step would tell, if it came next.
func (p *play) try(x Step) api.Reply {
	p.t.Helper()
	l := append(slices.Clone(p.l), x)
	told, err := Run(p.base, p.capacity, p.sectors, l)
	wantError(p.t, "Run", err, nil)
	wantReplies(p.t, "the steps ahead", l, told[:len(told)-1], p.told)
	return told[len(told)-1]
}

// copied tells a map with bytes of its own.
func copied(m map[uint64][]byte) map[uint64][]byte {
	m = maps.Clone(m)
	for p := range m {
		m[p] = bytes.Clone(m[p])
	}
	return m
}

// do lets a step come next, and wants it to tell what the maps allow.
func (p *play) do(x Step) api.Reply {
	p.t.Helper()
	r := p.try(x)
	switch x.Kind {
	case 0:
		p.wantCall(x.C, r)
	case 1:
		p.wantSave(r)
	case 3:
		p.off = false
	case 4:
		p.wantLoad(r)
	}
	p.l, p.told = append(p.l, x), append(p.told, r)
	if x.Kind == 3 {
		p.wantBoot(r)
	}
	return r
}

// wantSave wants a Save to tell ErrDown while the power is off.
func (p *play) wantSave(r api.Reply) {
	p.t.Helper()
	switch {
	case r.Code == 0 && !p.off:
		p.saved = copied(p.held)
	case r.Code == 6 && !p.off:
		p.within, p.off = copied(p.held), true
	case r.Code == 7 && !p.off || r.Code == 6:
	default:
		p.t.Fatalf("Save tells %+v; the power is off: %v", r, p.off)
	}
}

// wantLoad wants a Load without Boot to tell what was saved.
func (p *play) wantLoad(r api.Reply) {
	p.t.Helper()
	want := 0
	switch {
	case p.off:
		want = 6
	case p.saved == nil:
		want = 8
	default:
		p.held = copied(p.saved)
	}
	if r.Code != want {
		p.t.Fatalf("Load tells %+v, want error %d", r, want)
	}
}

// wantBoot is T4.
func (p *play) wantBoot(r api.Reply) {
	p.t.Helper()
	switch {
	case r.Code == 8 && p.saved == nil:
		p.held = map[uint64][]byte{}
		if !p.holds(p.held) {
			p.t.Fatal("there is no new heap")
		}
	case r.Code == 0 && p.saved != nil && p.holds(p.saved):
		p.held = copied(p.saved)
	case r.Code == 0 && p.within != nil && p.holds(p.within):
		p.saved, p.held = p.within, copied(p.within)
	default:
		p.t.Fatalf("Boot tells %+v; saved: %v, within: %v", r, p.saved, p.within)
	}
	p.within = nil
}

// holds tells whether the heap holds just what a map has.
func (p *play) holds(m map[uint64][]byte) bool {
	p.t.Helper()
	all := 0
	for h, want := range m {
		if r := p.try(read(h, 0, uint64(len(want)))); !alike(r, held(want...)) {
			return false
		}
		if r := p.try(usable(h)); r.N != uint64(len(want)) {
			return false
		}
		all += len(want)
	}
	s := p.try(count()).S
	return s.Used == len(m) && s.Bytes == all && s.Cap == p.capacity
}

// wantCall is T1: it wants a call's reply to be what a map of handles to bytes allows.
func (p *play) wantCall(x api.Call, r api.Reply) {
	p.t.Helper()
	what, ok := p.held[x.H]
	n := x.N
	if x.Op == api.Write {
		n = uint64(len(x.B))
	}
	beyond := x.At > uint64(len(what)) || n > uint64(len(what))-min(x.At, uint64(len(what)))
	takes := x.Op == api.Malloc || x.Op == api.Calloc || x.Op == api.Realloc
	want := 0
	switch {
	case x.Op < 1 || x.Op > 8:
		want = 1
	case x.Op >= api.Free && x.Op <= api.Write && !ok:
		want = 4
	case x.Op >= api.Read && x.Op <= api.Write && beyond:
		want = 2
	case takes && r.Code == 5:
		want = 5
	}
	if r.Code != want {
		p.t.Fatalf("%+v tells %+v, want error %d", x, r, want)
	}
	if want == 0 {
		p.change(x, r, what)
	}
}

// change does a call that told no error on the map. How many bytes a new handle holds
// is asked behind the call itself, by a script of its own.
func (p *play) change(x api.Call, r api.Reply, what []byte) {
	p.t.Helper()
	least := x.N
	switch x.Op {
	case api.Free:
		delete(p.held, x.H)
		return
	case api.Usable:
		if r.N != uint64(len(what)) {
			p.t.Fatalf("%+v tells %+v, want %d", x, r, len(what))
		}
		return
	case api.Read:
		if !bytes.Equal(r.B, what[x.At:x.At+x.N]) {
			p.t.Fatalf("%+v tells %+v", x, r)
		}
		return
	case api.Write:
		copy(what[x.At:], x.B)
		return
	case api.Count:
		return
	case api.Calloc:
		least = x.N * x.M
	case api.Realloc:
		delete(p.held, x.H)
	}
	told, err := Run(p.base, p.capacity, p.sectors, append(slices.Clone(p.l), Step{C: x}, usable(r.H)))
	wantError(p.t, "Run", err, nil)
	n := told[len(told)-1].N
	if _, ok := p.held[r.H]; ok || n < least {
		p.t.Fatalf("%+v tells %+v, which holds %d bytes", x, r, n)
	}
	switch x.Op {
	case api.Malloc:
		p.held[r.H] = fills(int(n))
	case api.Calloc:
		p.held[r.H] = make([]byte, n)
	case api.Realloc:
		p.held[r.H] = append(bytes.Clone(what), fills(20000)...)[:n]
	}
	p.wantApart()
}

// handles tells the handles, by rising numbers.
func (p *play) handles() []uint64 { return slices.Sorted(maps.Keys(p.held)) }

// wantApart wants handles to hold bytes within the capacity, from a multiple of 16 on,
// none in common.
func (p *play) wantApart() {
	p.t.Helper()
	end := uint64(0)
	for _, h := range p.handles() {
		if (p.base+h)%16 != 0 || h < end || h+uint64(len(p.held[h])) > uint64(p.capacity) {
			p.t.Fatalf("%d bytes at %d, and others up to %d, of %d", len(p.held[h]), h, end, p.capacity)
		}
		end = h + uint64(len(p.held[h]))
	}
}

// T1, T3, T4: scripts whose steps are drawn, with the power going anywhere, and drawn
// writes kept: the replies are what maps of handles to bytes allow.
func TestMapsOfHandles(t *testing.T) {
	d := draw(193)
	told := map[[2]int]int{}
	for i := range 120 {
		p := playOf(t, baseOf(i), d.pick(1024, 1400, 2048), d.pick(3, 4, 6, 8, 9, 12))
		for range 40 {
			x := d.step(p.handles())
			told[[2]int{min(max(-1, x.Kind), 6), p.do(x).Code}]++
		}
		if !p.holds(p.held) {
			t.Fatal("the heap holds something else than the map")
		}
	}
	for _, x := range [][2]int{{0, 0}, {0, 1}, {0, 2}, {0, 4}, {0, 5}, {1, 0}, {1, 6}, {1, 7}, {3, 0}, {3, 8}, {4, 0}, {4, 6}, {4, 8}} {
		if told[x] < 10 {
			t.Errorf("kind %d told error %d: %d times", x[0], x[1], told[x])
		}
	}
}

// T4: rows of Saves, in each of which the power goes somewhere, or doesn't.
func TestThePowerGoesAnywhere(t *testing.T) {
	d := draw(194)
	told := map[int]int{}
	for i := range 60 {
		p := playOf(t, baseOf(i), 2048, d.pick(8, 9, 12, 20))
		for range 6 {
			for range 1 + d.next(3) {
				p.do(Step{C: d.call(p.handles())})
			}
			p.do(cuts(d.pick(-1, 0, 1, 2, 3, 4, 5, 6, 8)))
			p.do(saves())
			told[p.do(boots(d.flags(d.next(9))...)).Code]++
		}
	}
	if told[0] < 100 || told[8] < 20 || len(told) != 2 {
		t.Errorf("Boot told %v", told)
	}
}

// rooms tells how many bytes each place without used blocks has: those between them,
// and what is behind the last one, up to the capacity. The second number is how many
// of them are free blocks, where the heap ends at length.
func (p *play) rooms(length int) ([]int, int) {
	var l []int
	end, free := 184, 0
	for _, h := range p.handles() {
		if o := int(h) - 8; o > end {
			l, free = append(l, o-end), free+1
		}
		end = int(h) + len(p.held[h]) + 8
	}
	if end < length {
		free++
	}
	return append(l, p.capacity-end), free
}

// T5: Malloc tells ErrNoMem just if no place has as many bytes as n needs; no two free
// blocks stand side by side. Once all is freed, all that the capacity has can be had at
// once. All that holds behind Load, Boot and Rebuild, too.
func TestMallocTellsNoMemJustIfThereIsNoRoom(t *testing.T) {
	d := draw(195)
	for i := range 30 {
		capacity := d.pick(1024, 1030, 1500, 2048)
		p := playOf(t, baseOf(i), capacity, 16)
		for range 25 {
			p.do(d.step(p.handles()))
			s := p.try(count()).S
			l, free := p.rooms(s.Len)
			if s.Free != free {
				t.Fatalf("stats %+v, and %d places between what is held", s, free)
			}
			room := slices.Max(l)
			for _, n := range []int{0, 1, 16, 17, 100, room - 40, room - 32, room - 31, room - 16, room - 15, room, room + 1} {
				size, ok := needOf(whole(uint64(max(0, n))))
				want := 5
				if ok && size <= room {
					want = 0
				}
				if r := p.try(malloc(uint64(max(0, n)))); r.Code != want {
					t.Fatalf("room for %d bytes, Malloc(%d) tells %+v", room, n, r)
				}
			}
		}
		for _, h := range p.handles() {
			p.do(free(h))
		}
		most := uint64((capacity-184)/16*16 - 16)
		if r := p.try(malloc(most + 1)); r.Code != 5 {
			t.Fatalf("Malloc(%d) tells %+v", most+1, r)
		}
		if r := p.do(malloc(most)); r.Code != 0 || len(p.held) != 1 {
			t.Fatalf("Malloc(%d) tells %+v", most, r)
		}
	}
}

// P1: numbers that nothing has, lists that have far too much, and as much work as 200
// steps may be.
func TestAtAllArguments(t *testing.T) {
	l := []Step{{C: api.Call{Op: api.Malloc, N: 16184}}, {C: api.Call{Op: api.Write, H: 192, B: make([]byte, 100000)}}}
	for _, n := range []int{math.MinInt, -1, 0, 1, math.MaxInt} {
		for _, keep := range [][]bool{nil, {}, make([]bool, 100000), slices.Repeat([]bool{true}, 100000)} {
			l = append(l, Step{Kind: 2, N: n}, Step{Kind: 1}, Step{Kind: 3, N: n, Keep: keep}, Step{Kind: 4})
		}
	}
	wantRun(t, 1<<62, 16384, 128, l)
	for _, x := range [][]Step{{saves()}, {loads()}, {boots()}, {rebuilds()}, {saves(), loads()}, {saves(), cuts(20), saves(), boots(true)}} {
		long := append([]Step{malloc(16168)}, slices.Repeat(x, 200)...)[:200]
		wantRun(t, 1<<62, 16384, 128, long)
	}
}

// stepsFrom tells the steps that bytes are taken for.
func stepsFrom(b []byte) []Step {
	var l []Step
	for ; len(b) >= 6; b = b[6:] {
		x := Step{Kind: int(b[0]%16) - 9, N: int(int8(b[1])), C: api.Call{Op: int(b[1]) % 10, H: 192 + 16*uint64(b[2]), N: uint64(b[3]) << (b[4] % 64), M: uint64(b[4]), At: uint64(b[5])}}
		x.Kind = max(x.Kind, -1) + int(b[0]/255)*1000
		if b[0]%16 < 9 {
			x.Kind = 0
		}
		x.C.B = bytesFrom(int(b[4]), int(b[5]%64))
		for i := range b[5] % 9 {
			x.Keep = append(x.Keep, b[4]>>i%2 == 1)
		}
		l = append(l, x)
	}
	return l
}

// P1: steps, bases, capacities and disks that no rule made.
func FuzzRun(f *testing.F) {
	d := draw(196)
	f.Add(uint64(0), 1024, 8, []byte(nil))
	f.Add(uint64(8), 0, 1, make([]byte, 1300))
	for i := range 12 {
		b := make([]byte, 6*d.next(150))
		for k := range b {
			b[k] = byte(d.next(d.pick(16, 256)))
		}
		f.Add(baseOf(i), d.pick(capacities()...), d.pick(2, 4, 8, 30, 128), b)
	}
	f.Fuzz(func(t *testing.T, base uint64, capacity, sectors int, b []byte) {
		wantRun(t, base, capacity, sectors, stepsFrom(b[:min(len(b), 1300)]))
	})
}
