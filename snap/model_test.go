package snap

import (
	"bytes"
	"cantle/api"
	"cantle/image"
	"encoding/binary"
	"hash/crc32"
	"math/big"
	"slices"
)

// put lays a number's eight bytes at o.
func put(b []byte, o int, v uint64) { binary.LittleEndian.PutUint64(b[o:], v) }

// at tells the number of eight bytes at o.
func at(b []byte, o int) uint64 { return binary.LittleEndian.Uint64(b[o:]) }

// at4 tells the number of four bytes at o.
func at4(b []byte, o int) uint32 { return binary.LittleEndian.Uint32(b[o:]) }

// sumOf is the sum; the library of the language has one of its own.
func sumOf(b []byte) uint32 { return crc32.ChecksumIEEE(b) }

// leasts tells each class's least size, as the chapter of layer 8 lists them.
func leasts() []int {
	return []int{32, 48, 64, 80, 96, 112, 128, 144, 160, 176, 192, 208, 224, 240, 256, 272, 512, 1024, 2048, 4096, 8192, 16384}
}

// classOf tells in which class a size is.
func classOf(size int) int {
	c := 0
	for c+1 < len(leasts()) && leasts()[c+1] <= size {
		c++
	}
	return c
}

// row tells blocks of these sizes from Start on, each right behind the one ahead
// of it; that of a size below 0 is used.
func row(sizes ...int) []api.Block {
	var l []api.Block
	o := 184
	for _, size := range sizes {
		x := api.Block{Off: o, Size: max(size, -size), Used: size < 0}
		l, o = append(l, x), o+x.Size
	}
	return l
}

// tagOf tells a block's tag, as the chapter of layer 6 tells it.
func tagOf(x api.Block) uint64 {
	if x.Used {
		return uint64(x.Size) + 1
	}
	return uint64(x.Size)
}

// falling tells where the free blocks of a class stand, the last one first: each is
// put ahead of those that stand ahead of it.
func falling(l []api.Block, c int) []int {
	var places []int
	for _, x := range l {
		if !x.Used && classOf(x.Size) == c {
			places = slices.Insert(places, 0, x.Off)
		}
	}
	return places
}

// layList lays a list, as the chapter of layer 9 tells it: a first one and a bit of
// the class, and two numbers of each block.
func layList(b []byte, c int, l []int) {
	if len(l) == 0 {
		return
	}
	put(b, 0, at(b, 0)|1<<c)
	put(b, 8+8*c, uint64(l[0]))
	for i, o := range l {
		if i > 0 {
			put(b, o+16, uint64(l[i-1]))
		}
		if i+1 < len(l) {
			put(b, o+8, uint64(l[i+1]))
		}
	}
}

// arenaOf tells the bytes of an arena that has what an image has: its blocks, their
// Data, and lists that were made anew; all else is 0.
func arenaOf(m image.Image) []byte {
	b := make([]byte, m.Len)
	i := 0
	for _, x := range m.Blocks {
		put(b, x.Off, tagOf(x))
		put(b, x.Off+x.Size-8, tagOf(x))
		if x.Used {
			copy(b[x.Off+8:x.Off+x.Size-8], m.Data[i])
			i++
		}
	}
	for c := range 22 {
		layList(b, c, falling(m.Blocks, c))
	}
	return b
}

// imageIn tells the image of a right arena's bytes.
func imageIn(b []byte) image.Image {
	m := image.Image{Len: len(b)}
	for o := 184; o < len(b); {
		w := at(b, o)
		x := api.Block{Off: o, Size: int(w - w%2), Used: w%2 == 1}
		m.Blocks, o = append(m.Blocks, x), o+x.Size
		if x.Used {
			m.Data = append(m.Data, bytes.Clone(b[x.Off+8:o-8]))
		}
	}
	return m
}

// imageBytes tells an image's bytes, as the chapter of layer 15 lists them.
func imageBytes(m image.Image) []byte {
	le := binary.LittleEndian
	b := []byte("CNTL\x01\x00\x00\x00")
	b = le.AppendUint64(b, uint64(m.Len))
	b = le.AppendUint64(b, uint64(len(m.Blocks)))
	b = le.AppendUint32(b, sumOf(b))
	var tags []byte
	for _, x := range m.Blocks {
		tags = le.AppendUint64(tags, tagOf(x))
	}
	held := slices.Concat(m.Data...)
	b = le.AppendUint32(append(b, tags...), sumOf(tags))
	b = le.AppendUint32(append(b, held...), sumOf(held))
	return le.AppendUint32(b, sumOf(b))
}

// imageFor tells the image whose bytes b is; false, if it is none's. It makes the
// image that the numbers in b tell, as far as they tell one that may be: b is that
// one's bytes, or none's.
func imageFor(b []byte) (image.Image, bool) {
	if len(b) < 40 || len(b) > 20000 {
		return image.Image{}, false
	}
	m := image.Image{Len: 184}
	count := at(b, 16)
	if count > uint64(len(b)/8) {
		return image.Image{}, false
	}
	data := 32 + 8*int(count)
	for i := range int(count) {
		if 28+8*i+8 > len(b) {
			return image.Image{}, false
		}
		w := at(b, 28+8*i)
		size := w - w%2
		if size < 32 || size > 16384 || size%16 != 0 {
			return image.Image{}, false
		}
		x := api.Block{Off: m.Len, Size: int(size), Used: w%2 == 1}
		if i > 0 && !x.Used && !m.Blocks[i-1].Used {
			return image.Image{}, false
		}
		if x.Used {
			end := data + x.Size - 16
			if end > len(b) {
				return image.Image{}, false
			}
			m.Data, data = append(m.Data, bytes.Clone(b[data:end])), end
		}
		m.Blocks, m.Len = append(m.Blocks, x), m.Len+x.Size
	}
	if m.Len > 16384 || !bytes.Equal(imageBytes(m), b) {
		return image.Image{}, false
	}
	return m, true
}

// record is what a slot's first sector may have.
type record struct {
	gen, length uint64
	sum         uint32
}

// recordBytes tells a record's bytes, as the chapter of layer 17 lists them.
func recordBytes(r record) []byte {
	le := binary.LittleEndian
	b := []byte("SLOT\x00\x00\x00\x00")
	b = le.AppendUint64(b, r.gen)
	b = le.AppendUint64(b, r.length)
	b = le.AppendUint32(b, r.sum)
	b = le.AppendUint32(b, sumOf(b))
	return append(b, make([]byte, 480)...)
}

// recordFor tells the record whose bytes b is; a zero one, if it is none's.
func recordFor(b []byte) record {
	r := record{at(b, 8), at(b, 16), at4(b, 24)}
	if r.gen < 1 || r.gen > 4611686018427387904 || r.length > 65536 || !bytes.Equal(recordBytes(r), b) {
		return record{}
	}
	return r
}

// side is what a slot has: its record, whose gen is 0 if there is none, and its
// image, if it is good.
type side struct {
	r    record
	good bool
	m    image.Image
}

// sideOf tells what a slot of these bytes has.
func sideOf(b []byte) side {
	s := side{r: recordFor(b[:512])}
	if s.r.gen == 0 || s.r.length > uint64(len(b)-512) {
		return s
	}
	what := b[512 : 512+s.r.length]
	if sumOf(what) == s.r.sum {
		s.m, s.good = imageFor(what)
	}
	return s
}

// sidesOf tells what both slots of a disk have, whose sectors have these bytes.
func sidesOf(b []byte) [2]side {
	n := len(b) / 512 / 2 * 512
	return [2]side{sideOf(b[:n]), sideOf(b[n : 2*n])}
}

// newestOf tells which one is the newest good one; -1, if none is: of the good ones,
// the first one last, the one that no later one has less than.
func newestOf(l [2]side) int {
	which, gen := -1, uint64(0)
	for _, i := range []int{1, 0} {
		if l[i].good && l[i].r.gen >= gen {
			which, gen = i, l[i].r.gen
		}
	}
	return which
}

// wait is a write that waits.
type wait struct {
	sector int
	b      []byte
}

// plate is a disk as the chapter of layer 4 tells it. As long as left isn't below 0,
// the power goes at the write behind so many.
type plate struct {
	stands []byte
	waits  []wait
	left   int
	off    bool
}

// plateOf tells one on which b stands.
func plateOf(b []byte) *plate { return &plate{stands: bytes.Clone(b), left: -1} }

// copyOf tells one that has no memory in common with p.
func (p *plate) copyOf() *plate {
	return &plate{bytes.Clone(p.stands), slices.Clone(p.waits), p.left, p.off}
}

// laid tells bytes, with writes laid over them.
func laid(b []byte, l []wait) []byte {
	b = bytes.Clone(b)
	for _, w := range l {
		copy(b[512*w.sector:], w.b)
	}
	return b
}

// seen tells what is read of all sectors, while the power is on.
func (p *plate) seen() []byte { return laid(p.stands, p.waits) }

// write is Write of a sector that there is; false, if the power is off, or goes.
func (p *plate) write(i int, b []byte) bool {
	p.off = p.off || p.left == 0
	if p.off {
		return false
	}
	p.left = max(p.left-1, -1)
	p.waits = append(p.waits, wait{i, bytes.Clone(b)})
	return true
}

// flush is Flush, while the power is on.
func (p *plate) flush() { p.stands, p.waits = p.seen(), nil }

// boot is Boot.
func (p *plate) boot(keep []bool) {
	var kept []wait
	for i, w := range p.waits {
		if i < len(keep) && keep[i] {
			kept = append(kept, w)
		}
	}
	p.stands, p.waits, p.left, p.off = laid(p.stands, kept), nil, -1, false
}

// sectorsOf tells bytes by sectors, the last one with 0 behind.
func sectorsOf(b []byte) [][]byte {
	var l [][]byte
	for ; len(b) > 0; b = b[min(512, len(b)):] {
		l = append(l, append(bytes.Clone(b[:min(512, len(b))]), make([]byte, 512-min(512, len(b)))...))
	}
	return l
}

// save is Save of a heap whose image has these bytes.
func (p *plate) save(b []byte) error {
	if p.off {
		return api.ErrDown
	}
	sides := sidesOf(p.seen())
	n := len(p.stands) / 512 / 2
	gen := max(sides[0].r.gen, sides[1].r.gen)
	if len(sectorsOf(b)) >= n || gen == 4611686018427387904 {
		return api.ErrFull
	}
	from := 0
	if newestOf(sides) == 0 {
		from = n
	}
	for _, part := range p.parts(from, gen+1, b) {
		for _, w := range part {
			if !p.write(w.sector, w.b) {
				return api.ErrDown
			}
		}
		p.flush()
	}
	return nil
}

// parts tells the writes of a Save, by the flushes between them.
func (p *plate) parts(from int, gen uint64, b []byte) [][]wait {
	var l []wait
	for i, s := range sectorsOf(b) {
		l = append(l, wait{from + 1 + i, s})
	}
	r := recordBytes(record{gen, uint64(len(b)), sumOf(b)})
	return [][]wait{{{from, make([]byte, 512)}}, l, {{from, r}}}
}

// load tells the image that Load is to make a heap of, or its error.
func (p *plate) load(base uint64, capacity int) (image.Image, error) {
	if p.off {
		return image.Image{}, api.ErrDown
	}
	sides := sidesOf(p.seen())
	i := newestOf(sides)
	switch {
	case i < 0:
		return image.Image{}, api.ErrNoImage
	case !isArena(base, capacity):
		return image.Image{}, api.ErrArg
	case sides[i].m.Len > capacity:
		return image.Image{}, api.ErrLarge
	}
	return sides[i].m, nil
}

// isArena tells whether there is an arena of this base and capacity, as the chapter of
// layer 3 tells it; its numbers have no end of bits.
func isArena(base uint64, capacity int) bool {
	b, c := new(big.Int).SetUint64(base), big.NewInt(int64(capacity))
	greatest := new(big.Int).Exp(big.NewInt(2), big.NewInt(62), nil)
	rest := new(big.Int).Mod(b, big.NewInt(16))
	return rest.Sign() == 0 && b.Cmp(greatest) <= 0 && c.Cmp(big.NewInt(1024)) >= 0 && c.Cmp(big.NewInt(16384)) <= 0
}

// statsOf tells a heap's Stats.
func statsOf(m image.Image, capacity int) api.Stats {
	s := api.Stats{Len: m.Len, Cap: capacity}
	for _, x := range m.Blocks {
		if x.Used {
			s.Used, s.Bytes = s.Used+1, s.Bytes+x.Size-16
		} else {
			s.Free++
		}
	}
	return s
}
