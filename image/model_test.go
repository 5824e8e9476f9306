package image

import (
	"bytes"
	"cantle/api"
	"encoding/binary"
	"hash/crc32"
	"slices"
)

// counted tells n bytes, no two neighbours alike, whose numbers are neither a
// tag nor where a block may stand. The first Start bytes are 0: no class has
// blocks.
func counted(n int) []byte {
	b := make([]byte, n)
	for i := 184; i < n; i++ {
		b[i] = byte(i*37%251) + 1
	}
	return b
}

// put lays a number's eight bytes at o.
func put(b []byte, o int, v uint64) { binary.LittleEndian.PutUint64(b[o:], v) }

// at tells the number of eight bytes at o.
func at(b []byte, o int) uint64 { return binary.LittleEndian.Uint64(b[o:]) }

// at4 tells the number of four bytes at o.
func at4(b []byte, o int) uint32 { return binary.LittleEndian.Uint32(b[o:]) }

// with tells bytes that are the same but for numbers, which come by turns with
// their offsets.
func with(b []byte, l ...uint64) []byte {
	b = bytes.Clone(b)
	for i := 0; i < len(l); i += 2 {
		put(b, int(l[i]), l[i+1])
	}
	return b
}

// tagOf tells a block's tag, as the chapter of layer 6 tells it.
func tagOf(x api.Block) uint64 {
	if x.Used {
		return uint64(x.Size) + 1
	}
	return uint64(x.Size)
}

// tagged lays the tags of blocks into bytes.
func tagged(b []byte, l ...api.Block) []byte {
	b = bytes.Clone(b)
	for _, x := range l {
		put(b, x.Off, tagOf(x))
		put(b, x.Off+x.Size-8, tagOf(x))
	}
	return b
}

// chained lays a list into bytes, as the chapter of layer 9 tells it: a first
// one and a bit of the class, and two numbers of each block.
func chained(b []byte, c int, l ...int) []byte {
	b = bytes.Clone(b)
	if len(l) == 0 {
		return b
	}
	put(b, 0, at(b, 0)|1<<c)
	put(b, 8+8*c, uint64(l[0]))
	for i, o := range l {
		put(b, o+8, 0)
		put(b, o+16, 0)
		if i > 0 {
			put(b, o+16, uint64(l[i-1]))
		}
		if i+1 < len(l) {
			put(b, o+8, uint64(l[i+1]))
		}
	}
	return b
}

// leasts tells each class's least size, as the chapter of layer 8 lists them.
func leasts() []int {
	return []int{32, 48, 64, 80, 96, 112, 128, 144, 160, 176, 192, 208, 224, 240, 256, 272, 512, 1024, 2048, 4096, 8192, 16384}
}

// classOf tells in which class a size is.
func classOf(size int) int {
	c := 0
	for c+1 < len(leasts()) && leasts()[c+1] <= size {
		c++
	}
	return c
}

// row tells blocks of these sizes from Start on, each right behind the one ahead
// of it; that of a size below 0 is used.
func row(sizes ...int) []api.Block {
	var l []api.Block
	o := 184
	for _, size := range sizes {
		x := api.Block{Off: o, Size: max(size, -size), Used: size < 0}
		l, o = append(l, x), o+x.Size
	}
	return l
}

// endOf tells where the last one ends.
func endOf(l []api.Block) int {
	if len(l) == 0 {
		return 184
	}
	last := l[len(l)-1]
	return last.Off + last.Size
}

// bare tells the bytes of these blocks, none of which is in a list.
func bare(l []api.Block) []byte { return tagged(counted(endOf(l)), l...) }

// falling tells where the free blocks of a class stand, the last one first.
func falling(l []api.Block, c int) []int {
	var places []int
	for _, x := range l {
		if !x.Used && classOf(x.Size) == c {
			places = slices.Insert(places, 0, x.Off)
		}
	}
	return places
}

// listed tells the same, the free ones in lists by falling offsets.
func listed(l []api.Block) []byte {
	b := bare(l)
	for c := range 22 {
		b = chained(b, c, falling(l, c)...)
	}
	return b
}

// standing tells the block that stands at v, as the chapter of layer 7 tells it.
func standing(b []byte, v uint64) (api.Block, bool) {
	n := uint64(len(b))
	if v < 184 || v%16 != 8 || v+8 > n || v > 16384 {
		return api.Block{}, false
	}
	w := at(b, int(v))
	size := w - w%2
	if size < 32 || size > 16384 || size%16 != 0 || v+size > n || at(b, int(v+size)-8) != w {
		return api.Block{}, false
	}
	return api.Block{Off: int(v), Size: int(size), Used: w%2 == 1}, true
}

// walkOf tells all blocks; false, if Walk tells ErrForm of these bytes.
func walkOf(b []byte) ([]api.Block, bool) {
	if len(b) < 184 {
		return nil, false
	}
	var l []api.Block
	for o := 184; o != len(b); {
		x, ok := standing(b, uint64(o))
		if !ok {
			return nil, false
		}
		l, o = append(l, x), o+x.Size
	}
	return l, true
}

// listOf tells where the blocks of a class's list stand; false, if All tells
// ErrForm of it.
func listOf(b []byte, c int) ([]int, bool) {
	if len(b) < 184 || (at(b, 0)>>c%2 == 1) != (at(b, 8+8*c) != 0) {
		return nil, false
	}
	var l []int
	ahead := uint64(0)
	for v := at(b, 8+8*c); v != 0; v = at(b, int(v)+8) {
		x, ok := standing(b, v)
		if !ok || x.Used || classOf(x.Size) != c || at(b, int(v)+16) != ahead || len(l) == 1024 {
			return nil, false
		}
		l, ahead = append(l, x.Off), v
	}
	return l, true
}

// rightOf tells whether these bytes are those of an arena that is right, as the
// chapter of layer 11 tells it.
func rightOf(b []byte) bool {
	blocks, ok := walkOf(b)
	if !ok || freeSideBySide(blocks) {
		return false
	}
	var free, got []int
	for _, x := range blocks {
		if !x.Used {
			free = append(free, x.Off)
		}
	}
	for c := range 22 {
		l, ok := listOf(b, c)
		if !ok {
			return false
		}
		got = append(got, l...)
	}
	slices.Sort(got)
	return slices.Equal(got, free) && at(b, 0) < 1<<22
}

// freeSideBySide tells whether two free ones stand next to each other.
func freeSideBySide(l []api.Block) bool {
	for i := 1; i < len(l); i++ {
		if !l[i-1].Used && !l[i].Used {
			return true
		}
	}
	return false
}

// imageOf tells the image of an arena of these bytes; false, if Of tells ErrForm.
func imageOf(b []byte) (Image, bool) {
	if !rightOf(b) {
		return Image{}, false
	}
	m := Image{Len: len(b)}
	m.Blocks, _ = walkOf(b)
	for _, x := range m.Blocks {
		if x.Used {
			m.Data = append(m.Data, b[x.Off+8:x.Off+x.Size-8])
		}
	}
	return m, true
}

// isSize tells whether a block may have so many bytes, as the chapter of layer 6
// tells it.
func isSize(n int) bool { return n >= 32 && n <= 16384 && n%16 == 0 }

// owners tells of each byte, from 0 on, which block has it, counted from 1 on; 0, if
// none has. It tells false, if a block has bytes beyond n or ahead of Start, a size
// that is none, or a byte that another one has.
func owners(l []api.Block, n int) ([]int, bool) {
	who := make([]int, n)
	for i, x := range l {
		if x.Off < 184 || x.Off > n || !isSize(x.Size) || x.Size > n-x.Off {
			return nil, false
		}
		for o := x.Off; o < x.Off+x.Size; o++ {
			if who[o] != 0 {
				return nil, false
			}
			who[o] = i + 1
		}
	}
	return who, true
}

// mayOf tells whether an image may be: each byte from Start on has one block, and
// from byte to byte it is the same one or the next.
func mayOf(m Image) bool {
	if m.Len < 184 || m.Len > 16384 || m.Len%16 != 8 {
		return false
	}
	who, ok := owners(m.Blocks, m.Len)
	if !ok || freeSideBySide(m.Blocks) {
		return false
	}
	last := 0
	for _, i := range who[184:] {
		if i == 0 || i != last && i != last+1 {
			return false
		}
		last = i
	}
	var asked, got []int
	for _, x := range m.Blocks {
		if x.Used {
			asked = append(asked, x.Size-16)
		}
	}
	for _, b := range m.Data {
		got = append(got, len(b))
	}
	return last == len(m.Blocks) && slices.Equal(asked, got)
}

// parts are the fields of an image's bytes, of which each may be amiss.
type parts struct {
	mark          string
	length, count uint64
	tags          []uint64
	data          []byte
	turn          [4]uint32 // by what each of the sums is turned
	upTo          int       // so many bytes there are at most; -1: all
	more          int       // so many bytes there are behind all others
}

// partsOf tells the fields of an image's bytes.
func partsOf(m Image) parts {
	p := parts{mark: "\x43\x4e\x54\x4c\x01\x00\x00\x00", length: uint64(m.Len), count: uint64(len(m.Blocks)), upTo: -1}
	for _, x := range m.Blocks {
		p.tags = append(p.tags, tagOf(x))
	}
	p.data = slices.Concat(m.Data...)
	return p
}

// all tells the bytes, as the chapter lists them; the library of the language has
// sums of its own.
func (p parts) all() []byte {
	le := binary.LittleEndian
	b := []byte(p.mark)
	b = le.AppendUint64(b, p.length)
	b = le.AppendUint64(b, p.count)
	b = le.AppendUint32(b, crc32.ChecksumIEEE(b)^p.turn[0])
	var tags []byte
	for _, w := range p.tags {
		tags = le.AppendUint64(tags, w)
	}
	b = append(b, tags...)
	b = le.AppendUint32(b, crc32.ChecksumIEEE(tags)^p.turn[1])
	b = append(b, p.data...)
	b = le.AppendUint32(b, crc32.ChecksumIEEE(p.data)^p.turn[2])
	b = le.AppendUint32(b, crc32.ChecksumIEEE(b)^p.turn[3])
	b = append(b, make([]byte, p.more)...)
	if p.upTo >= 0 && p.upTo < len(b) {
		b = b[:p.upTo]
	}
	return b
}

// bytesOf tells the bytes of an image that may be.
func bytesOf(m Image) []byte { return partsOf(m).all() }

// The steps of P15.2, in order; done, if there is an image.
const (
	done     = iota
	noMark   // fewer than 28 bytes, or the first eight are others
	headSum  // the sum behind the first 24
	noHead   // Len, how many blocks, or too few bytes for the tags
	tagsSum  // the tags' sum
	noBlocks // the blocks may not be, or there are too few bytes, or too many
	dataSum  // the sum of the Data, or that of all
)

// errorOf tells which error comes of a step.
func errorOf(step int) error {
	switch step {
	case done:
		return nil
	case headSum, tagsSum, dataSum:
		return api.ErrSum
	}
	return api.ErrForm
}

// getOf tells the image whose bytes b is, or at which step it is told to be none.
func getOf(b []byte) (Image, int) {
	if len(b) < 28 || !bytes.HasPrefix(b, []byte{67, 78, 84, 76, 1, 0, 0, 0}) {
		return Image{}, noMark
	}
	if crc32.ChecksumIEEE(b[:24]) != at4(b, 24) {
		return Image{}, headSum
	}
	length, count := at(b, 8), at(b, 16)
	if length < 184 || length > 16384 || length%16 != 8 || count > 1024 || len(b) < 28+8*int(count)+4 {
		return Image{}, noHead
	}
	tags, rest := b[28:28+8*int(count)], b[28+8*int(count):]
	if crc32.ChecksumIEEE(tags) != at4(rest, 0) {
		return Image{}, tagsSum
	}
	m := Image{Len: int(length)}
	data := rest[4:]
	for o := 184; len(tags) > 0; tags = tags[8:] {
		x, ok := blockOf(at(tags, 0), o)
		if !ok {
			return Image{}, noBlocks
		}
		m.Blocks, o = append(m.Blocks, x), o+x.Size
		if x.Used {
			n := min(x.Size-16, len(data))
			m.Data, data = append(m.Data, data[:n]), data[n:]
		}
	}
	if !mayOf(m) || len(data) != 8 {
		return Image{}, noBlocks
	}
	held := slices.Concat(m.Data...)
	if crc32.ChecksumIEEE(held) != at4(data, 0) || crc32.ChecksumIEEE(b[:len(b)-4]) != at4(data, 4) {
		return Image{}, dataSum
	}
	return m, done
}

// blockOf tells the block at o that a tag tells; false, if it is no tag.
func blockOf(w uint64, o int) (api.Block, bool) {
	if w > 16385 || !isSize(int(w-w%2)) {
		return api.Block{}, false
	}
	return api.Block{Off: o, Size: int(w - w%2), Used: w%2 == 1}, true
}
