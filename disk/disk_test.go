package disk

import (
	"bytes"
	"cantle/api"
	"math"
	"slices"
	"testing"
)

// marked tells a sector's bytes, that differ from those of each other mark
// below 251 at every place, and from their neighbours.
func marked(mark int) []byte {
	b := make([]byte, 512)
	for i := range b {
		b[i] = byte((mark + i*37) % 251)
	}
	return b
}

// marks tells the bytes of sectors, one for each mark.
func marks(l ...int) []byte {
	var b []byte
	for _, mark := range l {
		b = append(b, marked(mark)...)
	}
	return b
}

// laid tells a disk on which these marks stand.
func laid(t *testing.T, l ...int) *Disk {
	t.Helper()
	d := Of(marks(l...))
	if d == nil {
		t.Fatalf("Of %d sectors is nil", len(l))
	}
	return d
}

// wantError wants the Code itself, so nothing that wraps it.
func wantError(t *testing.T, what string, err, want error) {
	t.Helper()
	if err == nil || want == nil {
		if err != nil || want != nil {
			t.Errorf("%s: error %v, want %v", what, err, want)
		}
		return
	}
	if err != want {
		t.Errorf("%s: error %v, want %v", what, err, want)
	}
}

func wantWrite(t *testing.T, d *Disk, i, mark int, want error) {
	t.Helper()
	wantError(t, "Write", d.Write(i, marked(mark)), want)
}

func wantRead(t *testing.T, d *Disk, i, mark int) {
	t.Helper()
	b, err := d.Read(i)
	if err != nil || !bytes.Equal(b, marked(mark)) {
		t.Errorf("Read(%d): %d bytes from %v on, %v, want mark %d", i, len(b), b[:min(len(b), 2)], err, mark)
	}
}

// wantNoRead wants the error, and nothing beside it (R3).
func wantNoRead(t *testing.T, d *Disk, i int, want error) {
	t.Helper()
	b, err := d.Read(i)
	wantError(t, "Read", err, want)
	if len(b) != 0 {
		t.Errorf("Read(%d): %d bytes beside an error", i, len(b))
	}
}

func wantWaiting(t *testing.T, d *Disk, want int) {
	t.Helper()
	if n := d.Waiting(); n != want {
		t.Errorf("%d writes wait, want %d", n, want)
	}
}

func wantBytes(t *testing.T, d *Disk, want []byte) {
	t.Helper()
	if b := d.Bytes(); !bytes.Equal(b, want) {
		t.Errorf("what stands isn't what is to stand (%d bytes, want %d)", len(b), len(want))
	}
}

// wantStands wants that these marks stand, and no more.
func wantStands(t *testing.T, d *Disk, l ...int) {
	t.Helper()
	wantBytes(t, d, marks(l...))
}

// wantReads wants these marks to be read of all sectors.
func wantReads(t *testing.T, d *Disk, l ...int) {
	t.Helper()
	if d.Sectors() != len(l) {
		t.Errorf("%d sectors, want %d", d.Sectors(), len(l))
	}
	for i, mark := range l {
		wantRead(t, d, i, mark)
	}
}

// wantOff wants that the power is off: each call is told so, and none of them
// changes anything.
func wantOff(t *testing.T, d *Disk) {
	t.Helper()
	stood, waited, sectors := d.Bytes(), d.Waiting(), d.Sectors()
	for range 2 {
		for i := range sectors {
			wantWrite(t, d, i, 200, api.ErrDown)
			wantNoRead(t, d, i, api.ErrDown)
		}
		wantError(t, "Flush", d.Flush(), api.ErrDown)
		wantWaiting(t, d, waited)
		wantBytes(t, d, stood)
		if d.Sectors() != sectors {
			t.Errorf("%d sectors, want %d", d.Sectors(), sectors)
		}
	}
}

// The chapter's example.
func TestTheExample(t *testing.T) {
	d := New(2)
	wantWrite(t, d, 0, 1, nil)
	d.Boot([]bool{false})
	wantWaiting(t, d, 0)
	wantBytes(t, d, make([]byte, 1024))
	b, err := d.Read(0)
	if err != nil || !bytes.Equal(b, make([]byte, 512)) {
		t.Errorf("Read of a write that is gone: %v %v", b, err)
	}
}

// P4.1: of 2 to 128 sectors there is a disk, all 0, with the power on.
func TestNew(t *testing.T) {
	for sectors := 2; sectors <= 128; sectors++ {
		d := New(sectors)
		if d == nil {
			t.Fatalf("New(%d) is nil", sectors)
		}
		if d.Sectors() != sectors {
			t.Errorf("New(%d): %d sectors", sectors, d.Sectors())
		}
		wantWaiting(t, d, 0)
		wantBytes(t, d, make([]byte, sectors*512))
		for _, i := range []int{0, sectors / 2, sectors - 1} {
			b, err := d.Read(i)
			if err != nil || !bytes.Equal(b, make([]byte, 512)) {
				t.Errorf("New(%d), Read(%d): %d bytes, %v", sectors, i, len(b), err)
			}
		}
		wantError(t, "Flush", d.Flush(), nil)
	}
}

// P4.1: of fewer and of more there is none; numbers whose bytes would wrap
// round to a few sectors' are refused, too.
func TestNewRefuses(t *testing.T) {
	for _, n := range []int{1, 0, -1, -2, -128, 129, 130, 256, 1024, 1 << 31, 1 << 32, 1<<32 + 2, 1<<55 + 2, 1<<55 + 128, 1 << 62, math.MaxInt, math.MinInt, math.MinInt + 2} {
		if New(n) != nil {
			t.Errorf("New(%d) isn't nil", n)
		}
	}
}

// P4.1: Of bytes of 2 to 128 whole sectors there is a disk on which they stand.
func TestOf(t *testing.T) {
	for sectors := 2; sectors <= 128; sectors++ {
		var l []int
		for i := range sectors {
			l = append(l, sectors+i)
		}
		d := laid(t, l...)
		wantWaiting(t, d, 0)
		wantStands(t, d, l...)
		wantReads(t, d, l...)
		wantError(t, "Flush", d.Flush(), nil)
		wantStands(t, d, l...)
	}
}

// P4.1: bytes that are no whole sectors, of one sector too few, and too many.
func TestOfRefuses(t *testing.T) {
	if Of(nil) != nil || Of([]byte{}) != nil {
		t.Error("Of no bytes isn't nil")
	}
	all := make([]byte, 131*512)
	for n := range 131*512 + 1 {
		if ok := n%512 == 0 && n >= 1024 && n <= 65536; ok != (Of(all[:n]) != nil) {
			t.Errorf("Of %d bytes: a disk, or none: %v", n, !ok)
		}
	}
}

// P4.1: how long the bytes are counts, not how much room they have.
func TestOfHangsOnNoCapacity(t *testing.T) {
	room := make([]byte, 1024, 4096)
	if d := Of(room); d == nil || d.Sectors() != 2 {
		t.Error("Of 1024 bytes with more room")
	}
	if Of(room[:512]) != nil || Of(room[:0]) != nil || Of(room[:1023]) != nil {
		t.Error("Of too few bytes with more room isn't nil")
	}
	if b := Of(room).Bytes(); len(b) != 1024 {
		t.Errorf("Bytes: %d, want 1024", len(b))
	}
}

// P4.2: the first, the last and each other sector are written alone.
func TestWriteAndReadEachSector(t *testing.T) {
	for _, sectors := range []int{2, 3, 5, 128} {
		was := make([]int, sectors)
		for i := range was {
			was[i] = i
		}
		for i := range sectors {
			d := laid(t, was...)
			wantWrite(t, d, i, 222, nil)
			wantWaiting(t, d, 1)
			now := slices.Clone(was)
			now[i] = 222
			wantReads(t, d, now...)
			wantStands(t, d, was...)
			wantError(t, "Flush", d.Flush(), nil)
			wantWaiting(t, d, 0)
			wantReads(t, d, now...)
			wantStands(t, d, now...)
		}
	}
}

// absent are numbers of which a disk has no sector.
func absent(sectors int) []int {
	return []int{-1, -2, -sectors, sectors, sectors + 1, 128, 512, 1 << 31, 1 << 32, 1 << 55, 1<<55 + 1, 1 << 62, math.MaxInt, math.MinInt, math.MinInt + 1}
}

// P4.2: sectors that aren't there, with the power on and off.
func TestSectorsThatAreNotThere(t *testing.T) {
	for _, sectors := range []int{2, 3, 128} {
		d := New(sectors)
		for range 2 {
			for _, i := range absent(sectors) {
				wantWrite(t, d, i, 7, api.ErrArg)
				wantError(t, "Write of nothing", d.Write(i, nil), api.ErrArg)
				wantNoRead(t, d, i, api.ErrArg)
			}
			wantWaiting(t, d, 0)
			wantBytes(t, d, make([]byte, sectors*512))
			d.Cut(0)
			wantWrite(t, d, 0, 7, api.ErrDown)
		}
		wantOff(t, d)
	}
}

// P4.2: bytes that are too few or too many, with the power on and off.
func TestBytesThatAreNoSector(t *testing.T) {
	d := laid(t, 1, 2)
	for range 2 {
		for _, n := range []int{0, 1, 256, 511, 513, 1023, 1024, 65536} {
			for i := range 2 {
				wantError(t, "Write", d.Write(i, make([]byte, n)), api.ErrArg)
				wantError(t, "Write with more room", d.Write(i, make([]byte, n, n+512)), api.ErrArg)
			}
		}
		wantError(t, "Write of nil", d.Write(0, nil), api.ErrArg)
		wantWaiting(t, d, 0)
		wantStands(t, d, 1, 2)
		d.Cut(0)
		wantWrite(t, d, 0, 7, api.ErrDown)
	}
	wantOff(t, d)
}

// P4.2: what was written last is read, however many writes wait, to that
// sector and to others.
func TestReadTellsTheLastWrite(t *testing.T) {
	d := laid(t, 1, 2, 3)
	wantWrite(t, d, 1, 11, nil)
	wantReads(t, d, 1, 11, 3)
	wantWrite(t, d, 2, 12, nil)
	wantReads(t, d, 1, 11, 12)
	wantWrite(t, d, 1, 13, nil)
	wantReads(t, d, 1, 13, 12)
	wantWrite(t, d, 0, 14, nil)
	wantReads(t, d, 14, 13, 12)
	wantWrite(t, d, 1, 2, nil)
	wantReads(t, d, 14, 2, 12)
	wantWaiting(t, d, 5)
	wantStands(t, d, 1, 2, 3)
	wantError(t, "Flush", d.Flush(), nil)
	wantReads(t, d, 14, 2, 12)
	wantStands(t, d, 14, 2, 12)
}

// P4.1: each write waits for itself, one of what stands there, too.
func TestEachWriteWaits(t *testing.T) {
	d := laid(t, 1, 2)
	for n := range 300 {
		wantWaiting(t, d, n)
		wantWrite(t, d, n%2, 1+n%2, nil)
	}
	wantWaiting(t, d, 300)
	wantStands(t, d, 1, 2)
	wantError(t, "Flush", d.Flush(), nil)
	wantWaiting(t, d, 0)
	wantStands(t, d, 1, 2)
}

// P4.2: the writes come to stand in order, so the last one to each sector
// stands; with nothing to flush nothing changes.
func TestFlushInOrder(t *testing.T) {
	d := laid(t, 1, 2, 3)
	for _, w := range []struct{ i, mark int }{{0, 10}, {2, 11}, {0, 12}, {1, 13}, {2, 14}, {0, 15}, {2, 3}} {
		wantWrite(t, d, w.i, w.mark, nil)
	}
	for range 2 {
		wantError(t, "Flush", d.Flush(), nil)
		wantWaiting(t, d, 0)
		wantStands(t, d, 15, 13, 3)
		wantReads(t, d, 15, 13, 3)
	}
	wantWrite(t, d, 0, 16, nil)
	wantError(t, "Flush", d.Flush(), nil)
	wantStands(t, d, 16, 13, 3)
}

// P4.3: so many writes come about behind Cut, and at the next the power goes.
func TestCut(t *testing.T) {
	for n := range 20 {
		d := laid(t, 1, 2)
		d.Cut(n)
		for k := range n {
			wantWrite(t, d, 0, 10+k, nil)
			wantRead(t, d, 0, 10+k)
		}
		wantRead(t, d, 1, 2)
		wantWaiting(t, d, n)
		wantWrite(t, d, 1, 9, api.ErrDown)
		wantWaiting(t, d, n)
		wantStands(t, d, 1, 2)
		wantOff(t, d)
	}
}

// P4.3: writes ahead of a Cut don't count, and reads and flushes never do.
func TestCutCountsWritesAlone(t *testing.T) {
	d := laid(t, 1, 2)
	wantWrite(t, d, 0, 10, nil)
	wantWrite(t, d, 0, 11, nil)
	d.Cut(2)
	for k := range 2 {
		for range 5 {
			wantRead(t, d, 1, 2)
			wantNoRead(t, d, 2, api.ErrArg)
			wantError(t, "Flush", d.Flush(), nil)
		}
		wantWrite(t, d, 0, 20+k, nil)
	}
	for range 5 {
		wantReads(t, d, 21, 2)
		wantError(t, "Flush", d.Flush(), nil)
	}
	wantStands(t, d, 21, 2)
	wantWrite(t, d, 0, 30, api.ErrDown)
	wantOff(t, d)
}

// P4.3: a write that is told ErrArg doesn't count; nor is it one at which the
// power goes, since it is told ErrArg ahead of ErrDown.
func TestCutCountsNoWrongWrites(t *testing.T) {
	for n := range 4 {
		d := laid(t, 1, 2)
		d.Cut(n)
		for k := range n + 1 {
			for range 3 {
				wantWrite(t, d, 2, 9, api.ErrArg)
				wantWrite(t, d, -1, 9, api.ErrArg)
				wantError(t, "Write", d.Write(0, make([]byte, 511)), api.ErrArg)
				wantError(t, "Write", d.Write(0, make([]byte, 513)), api.ErrArg)
			}
			wantRead(t, d, 1, 2)
			if k < n {
				wantWrite(t, d, 0, 10+k, nil)
			}
		}
		wantWrite(t, d, 0, 9, api.ErrDown)
		wantWaiting(t, d, n)
		wantOff(t, d)
	}
}

// P4.3: below 0 the power never goes, and a Cut that was in force is gone.
func TestCutBelowZero(t *testing.T) {
	for _, n := range []int{-1, -2, -5, -200, math.MinInt + 1, math.MinInt} {
		d := laid(t, 1, 2)
		d.Cut(1)
		wantWrite(t, d, 0, 10, nil)
		d.Cut(n)
		for k := range 300 {
			wantWrite(t, d, k%2, k%250, nil)
		}
		wantWaiting(t, d, 301)
		wantError(t, "Flush", d.Flush(), nil)
		wantStands(t, d, 298%250, 299%250)
	}
}

// P4.3: without a Cut the power stays on, and with one of very many, too.
func TestCutFarAway(t *testing.T) {
	for _, n := range []int{never, 1000, math.MaxInt32, math.MaxInt} {
		d := New(2)
		if n != never {
			d.Cut(n)
		}
		for k := range 1000 {
			wantWrite(t, d, 1, k%250, nil)
		}
		wantRead(t, d, 1, 999%250)
	}
}

// P4.3: of two Cuts the last one alone holds, be it sooner or later.
func TestCutAgain(t *testing.T) {
	for first := range 5 {
		for ahead := range first + 1 {
			for second := range 5 {
				d := laid(t, 1, 2)
				d.Cut(first)
				for k := range ahead {
					wantWrite(t, d, 0, 10+k, nil)
				}
				d.Cut(second)
				for k := range second {
					wantWrite(t, d, 0, 20+k, nil)
				}
				wantWrite(t, d, 0, 30, api.ErrDown)
				wantWaiting(t, d, ahead+second)
				wantOff(t, d)
			}
		}
	}
}

// P4.3: no Cut turns the power on; only Boot does, and no Cut of the time when
// the power was off is in force then.
func TestCutWhileThePowerIsOff(t *testing.T) {
	for _, n := range []int{-1, 0, 1, 5, math.MaxInt, math.MinInt} {
		d := laid(t, 1, 2)
		d.Cut(1)
		wantWrite(t, d, 0, 10, nil)
		wantWrite(t, d, 1, 11, api.ErrDown)
		d.Cut(n)
		wantWaiting(t, d, 1)
		wantOff(t, d)
		d.Boot([]bool{true, true})
		wantStands(t, d, 10, 2)
		for k := range 10 {
			wantWrite(t, d, 1, 20+k, nil)
		}
		wantReads(t, d, 10, 29)
	}
}

// P4.2: while the power is off each call with a right sector and right bytes
// is told ErrDown, and what may not be is told ErrArg, which is named first.
func TestCallsWhileThePowerIsOff(t *testing.T) {
	d := laid(t, 1, 2)
	wantWrite(t, d, 0, 10, nil)
	d.Cut(0)
	wantReads(t, d, 10, 2)
	wantWrite(t, d, 0, 11, api.ErrDown)
	wantOff(t, d)
	for _, i := range absent(2) {
		wantWrite(t, d, i, 7, api.ErrArg)
		wantNoRead(t, d, i, api.ErrArg)
	}
	for _, n := range []int{0, 511, 513} {
		wantError(t, "Write", d.Write(1, make([]byte, n)), api.ErrArg)
	}
	if d.Sectors() != 2 {
		t.Errorf("%d sectors, want 2", d.Sectors())
	}
	wantWaiting(t, d, 1)
	wantStands(t, d, 1, 2)
	wantOff(t, d)
}

// keeps tells each way to keep some of n writes, none and all of them too.
func keeps(n int) [][]bool {
	var l [][]bool
	for bits := range 1 << n {
		keep := make([]bool, n)
		for i := range keep {
			keep[i] = bits>>i&1 == 1
		}
		l = append(l, keep)
	}
	return l
}

// P4.3, P4.5: each way to keep some writes, with the power off and on: those
// stand, in order, the others are gone, and what was flushed stands.
func TestBootKeepsSome(t *testing.T) {
	sectors := []int{0, 2, 0, 1, 2, 0}
	for _, keep := range keeps(len(sectors)) {
		for _, cut := range []bool{false, true} {
			d := New(4)
			for i := range 4 {
				wantWrite(t, d, i, 1+i, nil)
			}
			wantError(t, "Flush", d.Flush(), nil)
			want := []int{1, 2, 3, 4}
			for k, i := range sectors {
				wantWrite(t, d, i, 10+k, nil)
				if keep[k] {
					want[i] = 10 + k
				}
			}
			if cut {
				d.Cut(0)
				wantWrite(t, d, 3, 99, api.ErrDown)
			}
			d.Boot(keep)
			wantWaiting(t, d, 0)
			wantStands(t, d, want...)
			wantReads(t, d, want...)
		}
	}
}

// P4.3: a keep that is shorter keeps none of what is behind it; one that is
// longer keeps nothing that isn't there; nil keeps nothing.
func TestBootWithKeepsOfOtherLengths(t *testing.T) {
	yes := slices.Repeat([]bool{true}, 9)
	for n := range yes {
		d := laid(t, 1, 2, 3)
		want := []int{1, 2, 3}
		for k := range 4 {
			wantWrite(t, d, k%3, 10+k, nil)
			if k < n {
				want[k%3] = 10 + k
			}
		}
		// What lies behind the end of keep is none of it.
		d.Boot(yes[:n])
		wantWaiting(t, d, 0)
		wantStands(t, d, want...)
		wantReads(t, d, want...)
	}
	d := laid(t, 1, 2)
	wantWrite(t, d, 0, 10, nil)
	d.Boot(nil)
	wantWaiting(t, d, 0)
	wantReads(t, d, 1, 2)
}

// P4.3: with nothing that waits Boot changes nothing that stands.
func TestBootOfNothing(t *testing.T) {
	for _, keep := range [][]bool{nil, {}, {true}, {false, true, true}} {
		d := laid(t, 1, 2)
		d.Boot(keep)
		wantWaiting(t, d, 0)
		wantStands(t, d, 1, 2)
		wantReads(t, d, 1, 2)
		wantWrite(t, d, 1, 3, nil)
		wantReads(t, d, 1, 3)
	}
}

// P4.3: the i-th is counted anew behind each flush and each Boot.
func TestBootCountsWhatWaits(t *testing.T) {
	d := laid(t, 1, 2, 3)
	wantWrite(t, d, 0, 10, nil)
	wantError(t, "Flush", d.Flush(), nil)
	wantWrite(t, d, 1, 11, nil)
	wantWrite(t, d, 2, 12, nil)
	d.Boot([]bool{true, false})
	wantStands(t, d, 10, 11, 3)
	wantWrite(t, d, 0, 13, nil)
	wantWrite(t, d, 2, 14, nil)
	d.Boot([]bool{false, true})
	wantStands(t, d, 10, 11, 14)
	d.Boot([]bool{true, true})
	wantStands(t, d, 10, 11, 14)
}

// P4.3: behind Boot the power is on, and no Cut in force, whether it had gone
// or not; and it may go again.
func TestBootEndsACut(t *testing.T) {
	for _, goes := range []bool{false, true} {
		d := laid(t, 1, 2)
		for round := range 3 {
			d.Cut(1)
			wantWrite(t, d, 0, 10+round, nil)
			if goes {
				wantWrite(t, d, 0, 9, api.ErrDown)
				wantOff(t, d)
			}
			d.Boot([]bool{true})
			for k := range 10 {
				wantWrite(t, d, 1, 20+k, nil)
			}
			wantReads(t, d, 10+round, 29)
			wantError(t, "Flush", d.Flush(), nil)
			wantStands(t, d, 10+round, 29)
		}
	}
}

// P4.3: the write at which the power goes doesn't wait, so none keeps it.
func TestTheWriteAtWhichThePowerGoesIsGone(t *testing.T) {
	d := laid(t, 1, 2)
	d.Cut(1)
	wantWrite(t, d, 0, 10, nil)
	wantWrite(t, d, 1, 11, api.ErrDown)
	wantWrite(t, d, 1, 12, api.ErrDown)
	d.Boot([]bool{true, true, true, true})
	wantStands(t, d, 10, 2)
	wantReads(t, d, 10, 2)
}

// P4.5: what was flushed stands, wherever the power goes behind it, and
// whatever is kept; also what stood ahead of a flush that was told ErrDown.
func TestWhatWasFlushedStands(t *testing.T) {
	for cut := range 4 {
		for _, keep := range append(keeps(3), nil, slices.Repeat([]bool{true}, 8)) {
			d := New(3)
			for i := range 3 {
				wantWrite(t, d, i, 40+i, nil)
			}
			wantError(t, "Flush", d.Flush(), nil)
			d.Cut(cut)
			for k := range cut {
				wantWrite(t, d, 2, 50+k, nil)
			}
			wantWrite(t, d, 0, 60, api.ErrDown)
			wantError(t, "Flush", d.Flush(), api.ErrDown)
			wantStands(t, d, 40, 41, 42)
			d.Boot(keep)
			wantRead(t, d, 0, 40)
			wantRead(t, d, 1, 41)
			if b := d.Bytes(); !bytes.Equal(b[:1024], marks(40, 41)) {
				t.Errorf("Cut(%d), Boot(%v): what was flushed doesn't stand", cut, keep)
			}
		}
	}
}

// P4.4: what is handed in isn't changed, nor what lies behind it.
func TestWhatIsHandedInIsNotChanged(t *testing.T) {
	all := marks(1, 2, 3)
	sector := marks(4, 5)
	keep := []bool{true, false, true, true}
	d := Of(all[:1024])
	wantError(t, "Write", d.Write(0, sector[:512]), nil)
	wantError(t, "Flush", d.Flush(), nil)
	wantError(t, "Write", d.Write(1, sector[:512]), nil)
	wantWrite(t, d, 1, 6, nil)
	d.Boot(keep[:2])
	wantWrite(t, d, 1, 7, nil)
	wantError(t, "Flush", d.Flush(), nil)
	wantStands(t, d, 4, 7)
	if !bytes.Equal(all, marks(1, 2, 3)) || !bytes.Equal(sector, marks(4, 5)) {
		t.Error("bytes that were handed in changed")
	}
	if !slices.Equal(keep, []bool{true, false, true, true}) {
		t.Error("keep changed")
	}
}

// P4.4: what was handed in may change then, and the disk doesn't.
func TestWhatIsHandedInIsNotKept(t *testing.T) {
	all := marks(1, 2)
	d := Of(all)
	clear(all)
	wantStands(t, d, 1, 2)
	sector := marked(3)
	wantError(t, "Write", d.Write(0, sector), nil)
	copy(sector, marked(4))
	wantError(t, "Write", d.Write(1, sector), nil)
	clear(sector)
	wantReads(t, d, 3, 4)
	keep := []bool{true, false}
	d.Boot(keep)
	keep[1] = true
	wantStands(t, d, 3, 2)
	wantError(t, "Write", d.Write(1, marked(5)), nil)
	wantError(t, "Flush", d.Flush(), nil)
	wantStands(t, d, 3, 5)
}

// spoil changes all that a list has room for.
func spoil(b []byte) {
	whole := b[:cap(b)]
	for i := range whole {
		whole[i] = ^whole[i]
	}
}

// P4.4: whoever changes what was told, or adds to it, changes no disk, and
// nothing else that was told.
func TestWhatIsToldIsNewMemory(t *testing.T) {
	d := laid(t, 1, 2)
	wantWrite(t, d, 0, 3, nil)
	for i, mark := range []int{3, 2} {
		first, _ := d.Read(i)
		second, _ := d.Read(i)
		spoil(first)
		if !bytes.Equal(second, marked(mark)) {
			t.Errorf("two reads of sector %d share memory", i)
		}
		spoil(second)
		wantReads(t, d, 3, 2)
		wantStands(t, d, 1, 2)
	}
	first, second := d.Bytes(), d.Bytes()
	spoil(first)
	if !bytes.Equal(second, marks(1, 2)) {
		t.Error("two lists of Bytes share memory")
	}
	wantReads(t, d, 3, 2)
	wantStands(t, d, 1, 2)
	wantError(t, "Flush", d.Flush(), nil)
	wantStands(t, d, 3, 2)
}

// P4.4: what was told stays as it was, whatever becomes of the disk.
func TestWhatWasToldStays(t *testing.T) {
	d := laid(t, 1, 2)
	wantWrite(t, d, 0, 3, nil)
	late, _ := d.Read(0)
	early, _ := d.Read(1)
	all := d.Bytes()
	wantWrite(t, d, 0, 4, nil)
	wantWrite(t, d, 1, 5, nil)
	wantError(t, "Flush", d.Flush(), nil)
	wantWrite(t, d, 0, 6, nil)
	d.Boot([]bool{true})
	wantStands(t, d, 6, 5)
	if !bytes.Equal(late, marked(3)) || !bytes.Equal(early, marked(2)) || !bytes.Equal(all, marks(1, 2)) {
		t.Error("what was told changed with the disk")
	}
}

// Two disks have nothing in common: not of one list, nor one of the other's.
func TestDisksGoTheirOwnWays(t *testing.T) {
	all := marks(1, 2)
	a, b := Of(all), Of(all)
	c := Of(a.Bytes())
	wantWrite(t, a, 0, 3, nil)
	wantError(t, "Flush", a.Flush(), nil)
	a.Cut(0)
	wantWrite(t, a, 0, 4, api.ErrDown)
	for _, d := range []*Disk{b, c} {
		wantReads(t, d, 1, 2)
		wantWrite(t, d, 1, 5, nil)
		wantError(t, "Flush", d.Flush(), nil)
		wantStands(t, d, 1, 5)
	}
	wantStands(t, a, 3, 2)
}

// entry is a write that a model took: to which sector, what, and whether it
// stands, waits, or is gone.
type entry struct {
	sector int
	text   string
	state  int
}

const (
	waits = iota
	stands
	gone
)

// model is what a disk is to be: all that was ever written to it, and behind
// how many of the writes that it took the power goes.
type model struct {
	first []byte
	log   []entry
	cut   bool
	until int
	off   bool
}

// sectors tells what is there, with what waits or without.
func (m *model) sectors(waiting bool) []byte {
	all := slices.Clone(m.first)
	for _, e := range m.log {
		if e.state == stands || waiting && e.state == waits {
			copy(all[e.sector*512:], e.text)
		}
	}
	return all
}

// waiting tells which entries wait.
func (m *model) waiting() []int {
	var l []int
	for k, e := range m.log {
		if e.state == waits {
			l = append(l, k)
		}
	}
	return l
}

func (m *model) write(i int, b []byte) error {
	if i < 0 || i*512 >= len(m.first) || len(b) != 512 {
		return api.ErrArg
	}
	if m.off || m.cut && len(m.log) >= m.until {
		m.off = true
		return api.ErrDown
	}
	m.log = append(m.log, entry{i, string(b), waits})
	return nil
}

func (m *model) read(i int) ([]byte, error) {
	if i < 0 || i*512 >= len(m.first) {
		return nil, api.ErrArg
	}
	if m.off {
		return nil, api.ErrDown
	}
	return m.sectors(true)[i*512 : i*512+512], nil
}

func (m *model) flush() error {
	if m.off {
		return api.ErrDown
	}
	for _, k := range m.waiting() {
		m.log[k].state = stands
	}
	return nil
}

func (m *model) boot(keep []bool) {
	for n, k := range m.waiting() {
		m.log[k].state = gone
		if n < len(keep) && keep[n] {
			m.log[k].state = stands
		}
	}
	m.off, m.cut = false, false
}

// step does one call on both, and holds what they tell against each other.
func step(t *testing.T, d *Disk, m *model, op byte, i, n int, b []byte) {
	t.Helper()
	switch op % 12 {
	case 0:
		wantError(t, "Flush", d.Flush(), m.flush())
	case 1:
		d.Cut(n)
		m.cut, m.until = n >= 0, len(m.log)+min(n, 1<<32)
	case 2:
		keep := make([]bool, len(b)%16)
		for k := range keep {
			keep[k] = b[k]%2 == 1
		}
		d.Boot(keep)
		m.boot(keep)
	case 3, 4, 5:
		want, wrong := m.read(i)
		got, err := d.Read(i)
		wantError(t, "Read", err, wrong)
		if !bytes.Equal(got, want) {
			t.Errorf("Read(%d): another sector than was written", i)
		}
	default:
		wantError(t, "Write", d.Write(i, b), m.write(i, b))
	}
	wantWaiting(t, d, len(m.waiting()))
	wantBytes(t, d, m.sectors(false))
	if d.Sectors() != len(m.first)/512 {
		t.Errorf("%d sectors, want %d", d.Sectors(), len(m.first)/512)
	}
}

// source tells numbers that follow no short rule; each source the same ones.
type source uint64

func (s *source) next() int {
	*s = *s*6364136223846793005 + 1442695040888963407
	return int(*s >> 33)
}

// bytesOf tells a sector's bytes, seldom one too few or too many.
func bytesOf(s *source) []byte {
	b := marked(s.next() % 251)
	switch s.next() % 24 {
	case 0:
		return b[:511]
	case 1:
		return append(b, 0)
	}
	for k := range 16 {
		b[k] = byte(s.next())
	}
	return b
}

// All promises together: long runs of calls, held against all that was written.
func TestRunsOfCalls(t *testing.T) {
	for run := range 60 {
		s := source(run)
		sectors := 2 + s.next()%5
		d := New(sectors)
		m := &model{first: make([]byte, sectors*512)}
		if run%2 == 1 {
			m.first = bytes.Repeat(marked(run), sectors)
			d = Of(m.first)
		}
		for range 200 {
			step(t, d, m, byte(s.next()), s.next()%(sectors+2)-1, s.next()%8-2, bytesOf(&s))
		}
	}
}

// P1: no arguments let a call panic, or answer otherwise than the model.
func FuzzCalls(f *testing.F) {
	f.Add(2, []byte{6, 7, 0, 3}, 0, 0, 512)
	f.Add(128, []byte{1, 6, 6, 2, 3}, 127, 1, 512)
	f.Add(3, []byte{6, 6, 2, 4}, 2, -1, 513)
	f.Add(3, []byte{1, 6, 1, 6, 2, 6}, 1, math.MinInt, 512)
	f.Add(2, []byte{1, 6, 3, 5}, math.MaxInt, math.MaxInt, 511)
	f.Add(1, []byte{3}, math.MinInt, 0, 0)
	f.Fuzz(func(t *testing.T, sectors int, ops []byte, i, n, length int) {
		d := New(sectors)
		if ok := sectors >= 2 && sectors <= 128; ok != (d != nil) {
			t.Fatalf("New(%d): a disk, or none: %v", sectors, !ok)
		}
		if d == nil || length < 0 || length > 2048 || len(ops) > 100 {
			return
		}
		if i > 1<<40 || i < -1<<40 {
			wantWrite(t, d, i, 0, api.ErrArg)
			wantNoRead(t, d, i, api.ErrArg)
			return
		}
		m := &model{first: make([]byte, sectors*512)}
		for k, op := range ops {
			step(t, d, m, op, i, n, bytes.Repeat([]byte{byte(k*7 + 1)}, length))
			step(t, d, m, op>>4, k%sectors, n, marked(k))
		}
	})
}
