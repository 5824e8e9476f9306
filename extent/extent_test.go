package extent

import (
	"bytes"
	"cantle/api"
	"cantle/disk"
	"math"
	"slices"
	"testing"
)

// counted tells n bytes that differ by the mark, no two neighbours alike, none
// of them 0.
func counted(mark, n int) []byte {
	b := make([]byte, n)
	for i := range b {
		b[i] = byte((mark*29+i*37+i/512)%251) + 1
	}
	return b
}

// laid tells a disk on which bytes stand of which none is 0, and those bytes.
func laid(t *testing.T, sectors int) (*disk.Disk, []byte) {
	t.Helper()
	all := counted(100, sectors*512)
	d := disk.Of(all)
	if d == nil {
		t.Fatalf("no disk of %d sectors", sectors)
	}
	return d, all
}

// need tells how many sectors n bytes have, by going there one by one.
func need(n int) int {
	sectors := 0
	for sectors*512 < n {
		sectors++
	}
	return sectors
}

// over tells all, with b laid over it from sector at on, and 0 behind b to the
// end of its last sector.
func over(all []byte, at int, b []byte) []byte {
	now := slices.Clone(all)
	clear(now[at*512 : (at+need(len(b)))*512])
	copy(now[at*512:], b)
	return now
}

// wantError wants the Code itself, so nothing that wraps it.
func wantError(t *testing.T, what string, err, want error) {
	t.Helper()
	if err == nil || want == nil {
		if err != nil || want != nil {
			t.Errorf("%s: error %v, want %v", what, err, want)
		}
		return
	}
	if err != want {
		t.Errorf("%s: error %v, want %v", what, err, want)
	}
}

func wantWrite(t *testing.T, d *disk.Disk, at int, b []byte, want error) {
	t.Helper()
	wantError(t, "Write", Write(d, at, b), want)
}

func wantRead(t *testing.T, d *disk.Disk, at int, want []byte) {
	t.Helper()
	b, err := Read(d, at, len(want))
	wantError(t, "Read", err, nil)
	if !bytes.Equal(b, want) {
		t.Errorf("Read(%d, %d): %d bytes that aren't what was written", at, len(want), len(b))
	}
}

// wantNoRead wants the error, and nothing beside it (R3).
func wantNoRead(t *testing.T, d *disk.Disk, at, n int, want error) {
	t.Helper()
	b, err := Read(d, at, n)
	wantError(t, "Read", err, want)
	if len(b) != 0 {
		t.Errorf("Read(%d, %d): %d bytes beside an error", at, n, len(b))
	}
}

func wantWaiting(t *testing.T, d *disk.Disk, want int) {
	t.Helper()
	if n := d.Waiting(); n != want {
		t.Errorf("%d writes wait, want %d", n, want)
	}
}

func wantStands(t *testing.T, d *disk.Disk, want []byte) {
	t.Helper()
	if !bytes.Equal(d.Bytes(), want) {
		t.Error("what stands isn't what is to stand")
	}
}

// wantReads wants these bytes to be read of the whole disk, at once, and by the
// disk's own calls.
func wantReads(t *testing.T, d *disk.Disk, want []byte) {
	t.Helper()
	wantRead(t, d, 0, want)
	for i := range d.Sectors() {
		b, err := d.Read(i)
		if err != nil || !bytes.Equal(b, want[i*512:(i+1)*512]) {
			t.Errorf("sector %d isn't what it is to be (%v)", i, err)
		}
	}
}

// flush lets all that waits stand.
func flush(t *testing.T, d *disk.Disk) {
	t.Helper()
	wantError(t, "Flush", d.Flush(), nil)
}

// turnOff lets the power go, at a write that isn't taken.
func turnOff(t *testing.T, d *disk.Disk) {
	t.Helper()
	d.Cut(0)
	wantError(t, "the disk's Write", d.Write(0, make([]byte, 512)), api.ErrDown)
}

// lengths are numbers of bytes about those of whole sectors, up to so many.
func lengths(sectors int) []int {
	l := []int{0, 1, 2, 256}
	for s := 1; s <= sectors; s++ {
		l = append(l, s*512-1, s*512, s*512+1)
	}
	return l
}

// The chapter's example.
func TestTheExample(t *testing.T) {
	d, all := laid(t, 4)
	b := counted(1, 513)
	wantWrite(t, d, 1, b, nil)
	wantWaiting(t, d, 2)
	wantReads(t, d, over(all, 1, b))
	wantRead(t, d, 1, b)
}

// P5.1, P5.3: bytes of each length about whole sectors, from each sector on:
// they are written to as many sectors as they have, with 0 behind them, where
// they fit, and are read, ahead of a flush and behind it; other sectors stay.
// Where they don't fit nothing is written at all.
func TestWriteAndRead(t *testing.T) {
	for _, sectors := range []int{2, 3, 6} {
		for at := range sectors + 1 {
			for _, n := range lengths(sectors + 1) {
				b := counted(at, n)
				d, all := laid(t, sectors)
				if n > (sectors-at)*512 {
					wantWrite(t, d, at, b, api.ErrArg)
					wantNoRead(t, d, at, n, api.ErrArg)
					wantWaiting(t, d, 0)
					wantReads(t, d, all)
					continue
				}
				now := over(all, at, b)
				wantWrite(t, d, at, b, nil)
				wantWaiting(t, d, need(n))
				wantRead(t, d, at, b)
				wantReads(t, d, now)
				wantStands(t, d, all)
				flush(t, d)
				wantRead(t, d, at, b)
				wantReads(t, d, now)
				wantStands(t, d, now)
			}
		}
	}
}

// P5.1: on the smallest and on the greatest disk, the first and the last
// sectors, a place behind the last one for no bytes alone, and all of it.
func TestTheEndsOfADisk(t *testing.T) {
	for _, sectors := range []int{2, 128} {
		for _, c := range []struct{ at, n int }{{0, 0}, {0, 1}, {0, 512}, {1, (sectors - 1) * 512}, {sectors - 1, 0}, {sectors - 1, 1}, {sectors - 1, 512}, {sectors, 0}, {0, sectors * 512}, {0, sectors*512 - 1}, {0, sectors*512 - 511}, {0, (sectors - 1) * 512}} {
			d, all := laid(t, sectors)
			b := counted(7, c.n)
			wantWrite(t, d, c.at, b, nil)
			wantWaiting(t, d, need(c.n))
			wantRead(t, d, c.at, b)
			wantReads(t, d, over(all, c.at, b))
		}
		for _, c := range []struct{ at, n int }{{0, sectors*512 + 1}, {1, (sectors-1)*512 + 1}, {sectors - 1, 513}, {sectors, 1}, {sectors, 512}, {sectors, 65536}, {sectors + 1, 0}, {sectors + 1, 1}, {-1, 0}, {-1, 1}, {-1, 512}} {
			d, all := laid(t, sectors)
			wantWrite(t, d, c.at, counted(7, c.n), api.ErrArg)
			wantNoRead(t, d, c.at, c.n, api.ErrArg)
			wantWaiting(t, d, 0)
			wantReads(t, d, all)
		}
	}
}

// noPlaces are numbers that are no place at on a disk of so many sectors; some
// of them wrap round to one, once they are told in bytes, or added to.
func noPlaces(sectors int) []int {
	return []int{-1, -2, -sectors, sectors + 1, sectors + 2, 129, 512, 1 << 31, 1 << 32, 1<<32 + 1, 1 << 55, 1<<55 + 1, 1 << 62, math.MaxInt - 1, math.MaxInt, math.MinInt, math.MinInt + 1, math.MinInt + 512}
}

// P5.1: places that are none, also of no bytes, with the power on and off:
// ErrArg, which is named ahead of the disk's errors, and nothing is written.
func TestPlacesThatAreNone(t *testing.T) {
	for _, sectors := range []int{2, 3, 128} {
		d, all := laid(t, sectors)
		for range 2 {
			for _, at := range noPlaces(sectors) {
				for _, n := range []int{0, 1, 511, 512, 513, 1024} {
					wantWrite(t, d, at, counted(1, n), api.ErrArg)
					wantNoRead(t, d, at, n, api.ErrArg)
				}
				wantWrite(t, d, at, nil, api.ErrArg)
				wantNoRead(t, d, at, -1, api.ErrArg)
				wantNoRead(t, d, at, math.MaxInt, api.ErrArg)
				wantNoRead(t, d, at, math.MinInt, api.ErrArg)
			}
			wantWaiting(t, d, 0)
			wantStands(t, d, all)
			turnOff(t, d)
		}
	}
}

// P5.1: numbers of bytes below 0 and far above, with the power on and off, at
// each place; those near the greatest wrap round when they are rounded up.
func TestNumbersOfBytesThatAreNone(t *testing.T) {
	d, all := laid(t, 4)
	for range 2 {
		for at := range 5 {
			for _, n := range []int{-1, -2, -511, -512, -513, -2048, math.MinInt, math.MinInt + 1, math.MinInt + 511} {
				wantNoRead(t, d, at, n, api.ErrArg)
			}
			for _, n := range []int{2049, 4096, 65536, 65537, 1 << 31, 1 << 32, 1<<32 + 1, 1 << 55, 1 << 62, math.MaxInt - 512, math.MaxInt - 511, math.MaxInt - 510, math.MaxInt - 1, math.MaxInt} {
				wantNoRead(t, d, at, n, api.ErrArg)
			}
		}
		wantWaiting(t, d, 0)
		wantStands(t, d, all)
		turnOff(t, d)
	}
}

// P5.1: how long the bytes are counts, not how much room they have; what lies
// behind their end isn't written.
func TestWriteHangsOnNoCapacity(t *testing.T) {
	room := counted(3, 4096)
	for _, n := range []int{0, 1, 511, 512, 513, 1024} {
		d, all := laid(t, 3)
		wantWrite(t, d, 1, room[:n], nil)
		wantWaiting(t, d, need(n))
		wantReads(t, d, over(all, 1, room[:n]))
	}
	d, all := laid(t, 3)
	wantWrite(t, d, 1, room[:1025], api.ErrArg)
	wantReads(t, d, all)
}

// P5.1: 0 stands behind the bytes to the end of their last sector alone, also
// over what was written there ahead of it.
func TestWhatIsBehindTheBytes(t *testing.T) {
	d, all := laid(t, 4)
	wantWrite(t, d, 1, counted(1, 1536), nil)
	wantWrite(t, d, 1, counted(2, 600), nil)
	now := over(over(all, 1, counted(1, 1536)), 1, counted(2, 600))
	wantReads(t, d, now)
	wantRead(t, d, 1, append(counted(2, 600), make([]byte, 424)...))
	wantRead(t, d, 3, counted(1, 1536)[1024:])
	flush(t, d)
	wantStands(t, d, now)
}

// P5.1: fewer and more bytes may be read than were written, and from another
// sector on.
func TestReadOfOtherLengths(t *testing.T) {
	d, all := laid(t, 6)
	b := counted(1, 1100)
	wantWrite(t, d, 2, b, nil)
	now := over(all, 2, b)
	for range 2 {
		for at := range 7 {
			for n := range (6-at)*512 + 1 {
				got, err := Read(d, at, n)
				if err != nil || !bytes.Equal(got, now[at*512:at*512+n]) {
					t.Fatalf("Read(%d, %d): %d bytes, %v", at, n, len(got), err)
				}
			}
			wantNoRead(t, d, at, (6-at)*512+1, api.ErrArg)
		}
		flush(t, d)
	}
}

// P5.1: of sectors that both wait and stand, each is told as it was written
// last.
func TestReadOverWhatWaitsAndStands(t *testing.T) {
	d, all := laid(t, 4)
	wantWrite(t, d, 0, counted(1, 1024), nil)
	flush(t, d)
	wantWrite(t, d, 1, counted(2, 512), nil)
	wantWrite(t, d, 1, counted(3, 300), nil)
	now := over(over(all, 0, counted(1, 1024)), 1, counted(3, 300))
	wantReads(t, d, now)
	wantRead(t, d, 0, now[:1500])
	d.Boot(nil)
	wantReads(t, d, over(all, 0, counted(1, 1024)))
}

// P5.1: the sectors are written by rising numbers, each once: of what waits,
// the i-th write is the i-th sector's.
func TestWriteGoesByRisingNumbers(t *testing.T) {
	for _, n := range []int{1, 512, 513, 1024, 1300, 2560} {
		b := counted(1, n)
		for kept := range need(n) {
			d, all := laid(t, 6)
			wantWrite(t, d, 1, b, nil)
			keep := make([]bool, need(n))
			keep[kept] = true
			d.Boot(keep)
			want := slices.Clone(all)
			copy(want[(1+kept)*512:(2+kept)*512], over(all, 1, b)[(1+kept)*512:])
			wantStands(t, d, want)
		}
	}
}

// P5.1: the power goes at each of the sectors, and behind the last one: the
// disk's error is told, the sectors ahead are written, and no others.
func TestThePowerGoesWithinAWrite(t *testing.T) {
	for _, n := range []int{1, 512, 513, 1535, 2560} {
		for cut := range need(n) + 2 {
			b := counted(1, n)
			d, all := laid(t, 6)
			d.Cut(cut)
			written := min(cut, need(n))
			var want error
			if cut < need(n) {
				want = api.ErrDown
			}
			wantWrite(t, d, 1, b, want)
			wantWaiting(t, d, written)
			wantStands(t, d, all)
			d.Boot(slices.Repeat([]bool{true}, 9))
			now := slices.Clone(all)
			copy(now[512:(1+written)*512], over(all, 1, b)[512:])
			wantStands(t, d, now)
			wantReads(t, d, now)
		}
	}
}

// P5.1: behind a write that took just the writes that were left, the power goes
// at the next one, and that writes nothing.
func TestThePowerGoesBehindAWrite(t *testing.T) {
	d, all := laid(t, 6)
	d.Cut(3)
	wantWrite(t, d, 0, counted(1, 1025), nil)
	now := over(all, 0, counted(1, 1025))
	wantReads(t, d, now)
	wantWrite(t, d, 3, counted(2, 1536), api.ErrDown)
	wantWaiting(t, d, 3)
	wantNoRead(t, d, 0, 1, api.ErrDown)
	d.Boot(slices.Repeat([]bool{true}, 9))
	wantReads(t, d, now)
}

// P5.1: writes that are told ErrArg, or are of no bytes, take none of the
// writes that are left, and are none at which the power goes.
func TestWritesThatWriteNothing(t *testing.T) {
	d, all := laid(t, 3)
	d.Cut(1)
	for range 5 {
		wantWrite(t, d, 0, nil, nil)
		wantWrite(t, d, 3, []byte{}, nil)
		wantWrite(t, d, 3, []byte{1}, api.ErrArg)
		wantWrite(t, d, 2, counted(1, 513), api.ErrArg)
		wantWrite(t, d, -1, counted(1, 1), api.ErrArg)
	}
	wantWrite(t, d, 2, counted(1, 512), nil)
	wantWrite(t, d, 2, nil, nil)
	wantReads(t, d, over(all, 2, counted(1, 512)))
	wantWrite(t, d, 0, counted(2, 1), api.ErrDown)
}

// P5.1: while the power is off each call that has sectors is told the disk's
// error, one that may not be ErrArg, which is named first, and one of no bytes
// nothing, since no sector of it is written or read.
func TestCallsWhileThePowerIsOff(t *testing.T) {
	d, all := laid(t, 4)
	wantWrite(t, d, 1, counted(1, 700), nil)
	turnOff(t, d)
	for range 2 {
		for at := range 5 {
			for _, n := range lengths(4) {
				want := error(api.ErrDown)
				if n > (4-at)*512 {
					want = api.ErrArg
				}
				if n == 0 {
					want = nil
				}
				wantWrite(t, d, at, counted(2, n), want)
				wantNoRead(t, d, at, n, want)
			}
			wantNoRead(t, d, at, -1, api.ErrArg)
		}
		wantWaiting(t, d, 2)
		wantStands(t, d, all)
	}
	d.Boot([]bool{true, true})
	wantReads(t, d, over(all, 1, counted(1, 700)))
}

// P5.1: reads change nothing of a disk: not what waits, nor how many writes are
// left.
func TestReadChangesNothing(t *testing.T) {
	d, all := laid(t, 3)
	d.Cut(2)
	wantWrite(t, d, 0, counted(1, 5), nil)
	now := over(all, 0, counted(1, 5))
	for range 5 {
		wantReads(t, d, now)
		wantNoRead(t, d, 3, 1, api.ErrArg)
		wantRead(t, d, 3, nil)
	}
	wantWaiting(t, d, 1)
	wantStands(t, d, all)
	wantWrite(t, d, 1, counted(2, 5), nil)
	wantWrite(t, d, 1, counted(3, 5), api.ErrDown)
}

// P5.2: bytes that are handed in aren't changed, nor what lies behind them.
func TestWhatIsHandedInIsNotChanged(t *testing.T) {
	room := counted(1, 4096)
	for _, n := range lengths(4) {
		d, _ := laid(t, 3)
		if err := Write(d, 0, room[:n]); (err == nil) != (n <= 1536) {
			t.Errorf("Write of %d bytes: %v", n, err)
		}
		flush(t, d)
		if !bytes.Equal(room, counted(1, 4096)) {
			t.Fatalf("Write of %d bytes changed them, or what is behind them", n)
		}
	}
	d, _ := laid(t, 3)
	d.Cut(1)
	wantWrite(t, d, 0, room[:1024], api.ErrDown)
	if !bytes.Equal(room, counted(1, 4096)) {
		t.Error("Write that was told an error changed the bytes")
	}
}

// P5.2: bytes that were handed in may change then, and the disk doesn't, ahead
// of a flush and behind it.
func TestWhatIsHandedInIsNotKept(t *testing.T) {
	for _, n := range []int{1, 512, 513, 1536} {
		d, all := laid(t, 3)
		b := counted(1, n)
		wantWrite(t, d, 0, b, nil)
		clear(b)
		now := over(all, 0, counted(1, n))
		wantReads(t, d, now)
		flush(t, d)
		copy(b, counted(2, n))
		wantStands(t, d, now)
		wantReads(t, d, now)
	}
}

// spoil changes all that a list has room for.
func spoil(b []byte) {
	whole := b[:cap(b)]
	for i := range whole {
		whole[i] = ^whole[i]
	}
}

// P5.2: whoever changes what was told changes no disk, and nothing else that
// was told, whether it waits or stands.
func TestWhatIsToldIsNewMemory(t *testing.T) {
	d, all := laid(t, 4)
	wantWrite(t, d, 1, counted(1, 700), nil)
	now := over(all, 1, counted(1, 700))
	for range 2 {
		for at := range 4 {
			for _, n := range lengths(4 - at)[1:] {
				if n > (4-at)*512 {
					continue
				}
				first, _ := Read(d, at, n)
				second, _ := Read(d, at, n)
				spoil(first)
				if !bytes.Equal(second, now[at*512:at*512+n]) {
					t.Errorf("Read(%d, %d): two answers share memory", at, n)
				}
				spoil(second)
				wantReads(t, d, now)
			}
		}
		flush(t, d)
	}
	wantStands(t, d, now)
}

// P5.2: what was told stays as it was, whatever becomes of the disk.
func TestWhatWasToldStays(t *testing.T) {
	d, all := laid(t, 3)
	early, _ := Read(d, 0, 1536)
	wantWrite(t, d, 1, counted(1, 513), nil)
	late, _ := Read(d, 1, 513)
	wantWrite(t, d, 0, counted(2, 1536), nil)
	flush(t, d)
	if !bytes.Equal(early, all) || !bytes.Equal(late, counted(1, 513)) {
		t.Error("what was told changed with the disk")
	}
}

// Nothing is kept: calls on two disks have nothing in common.
func TestDisksGoTheirOwnWays(t *testing.T) {
	a, all := laid(t, 3)
	b, _ := laid(t, 3)
	wantWrite(t, a, 0, counted(1, 1025), nil)
	wantReads(t, b, all)
	turnOff(t, a)
	wantWrite(t, b, 1, counted(2, 513), nil)
	wantNoRead(t, a, 0, 1, api.ErrDown)
	wantReads(t, b, over(all, 1, counted(2, 513)))
	a.Boot(slices.Repeat([]bool{true}, 3))
	wantReads(t, a, over(all, 0, counted(1, 1025)))
}

// source tells numbers that follow no short rule; each source the same ones.
type source uint64

func (s *source) next() int {
	*s = *s*6364136223846793005 + 1442695040888963407
	return int(*s >> 33)
}

// P5.3: long runs of writes and flushes, held against all that was written;
// some of the writes don't fit.
func TestRunsOfCalls(t *testing.T) {
	for run := range 40 {
		s := source(run)
		sectors := 2 + s.next()%12
		d, now := laid(t, sectors)
		stood := now
		for k := range 60 {
			at, b := s.next()%(sectors+2), counted(k, s.next()%(sectors*512+20))
			if s.next()%3 == 0 {
				b = b[:len(b)%1100]
			}
			if at+need(len(b)) <= sectors {
				wantWrite(t, d, at, b, nil)
				now = over(now, at, b)
			} else {
				wantWrite(t, d, at, b, api.ErrArg)
			}
			if s.next()%4 == 0 {
				flush(t, d)
				stood = now
			}
			wantReads(t, d, now)
			wantStands(t, d, stood)
		}
	}
}

// P1: no arguments let a call panic, or answer otherwise than a list of bytes.
func FuzzCalls(f *testing.F) {
	f.Add(4, 1, 513, 2, 700)
	f.Add(2, 2, 0, 2, 0)
	f.Add(128, 0, 65536, 127, 512)
	f.Add(3, -1, 1, 0, -1)
	f.Add(3, math.MaxInt, 512, math.MinInt, math.MaxInt)
	f.Add(3, math.MinInt, 2048, math.MaxInt, math.MinInt)
	f.Fuzz(func(t *testing.T, sectors, at, length, from, n int) {
		if sectors < 2 || sectors > 128 || length < 0 || length > 1<<17 {
			return
		}
		d, now := laid(t, sectors)
		b := counted(1, length)
		if at >= 0 && at <= sectors && length <= (sectors-at)*512 {
			wantWrite(t, d, at, b, nil)
			now = over(now, at, b)
		} else {
			wantWrite(t, d, at, b, api.ErrArg)
		}
		if from >= 0 && from <= sectors && n >= 0 && n <= (sectors-from)*512 {
			wantRead(t, d, from, now[from*512:from*512+n])
		} else {
			wantNoRead(t, d, from, n, api.ErrArg)
		}
		wantReads(t, d, now)
	})
}
