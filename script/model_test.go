package script

import (
	"bytes"
	"cantle/api"
	"cantle/image"
	"encoding/binary"
	"hash/crc32"
	"math/big"
	"slices"
)

// put lays a number's eight bytes at o.
func put(b []byte, o int, v uint64) { binary.LittleEndian.PutUint64(b[o:], v) }

// at tells the number of eight bytes at o.
func at(b []byte, o int) uint64 { return binary.LittleEndian.Uint64(b[o:]) }

// at4 tells the number of four bytes at o.
func at4(b []byte, o int) uint32 { return binary.LittleEndian.Uint32(b[o:]) }

// sumOf is the sum; the library of the language has one of its own.
func sumOf(b []byte) uint32 { return crc32.ChecksumIEEE(b) }

// tagged lays the tags of blocks into bytes.
func tagged(b []byte, l ...api.Block) []byte {
	b = slices.Clone(b)
	for _, x := range l {
		w := uint64(x.Size)
		if x.Used {
			w++
		}
		put(b, x.Off, w)
		put(b, x.Off+x.Size-8, w)
	}
	return b
}

// chained lays a list into bytes, as the chapter of layer 9 tells it: a first
// one and a bit of the class, and two numbers of each block.
func chained(b []byte, c int, l ...int) []byte {
	b = slices.Clone(b)
	if len(l) == 0 {
		return b
	}
	put(b, 0, at(b, 0)|1<<c)
	put(b, 8+8*c, uint64(l[0]))
	for i, o := range l {
		put(b, o+8, 0)
		put(b, o+16, 0)
		if i > 0 {
			put(b, o+16, uint64(l[i-1]))
		}
		if i+1 < len(l) {
			put(b, o+8, uint64(l[i+1]))
		}
	}
	return b
}

// leasts tells each class's least size, as the chapter of layer 8 lists them.
func leasts() []int {
	return []int{32, 48, 64, 80, 96, 112, 128, 144, 160, 176, 192, 208, 224, 240, 256, 272, 512, 1024, 2048, 4096, 8192, 16384}
}

// classOf tells in which class a size is.
func classOf(size int) int {
	c := 0
	for c+1 < len(leasts()) && leasts()[c+1] <= size {
		c++
	}
	return c
}

// standing tells the block that stands at v, as the chapter of layer 7 tells it.
func standing(b []byte, v uint64) (api.Block, bool) {
	n := uint64(len(b))
	if v < 184 || v%16 != 8 || v+8 > n || v > 16384 {
		return api.Block{}, false
	}
	w := at(b, int(v))
	size := w - w%2
	if size < 32 || size > 16384 || size%16 != 0 || v+size > n || at(b, int(v+size)-8) != w {
		return api.Block{}, false
	}
	return api.Block{Off: int(v), Size: int(size), Used: w%2 == 1}, true
}

// walkOf tells all blocks; false, if Walk tells ErrForm of these bytes.
func walkOf(b []byte) ([]api.Block, bool) {
	if len(b) < 184 {
		return nil, false
	}
	var l []api.Block
	for o := 184; o != len(b); {
		x, ok := standing(b, uint64(o))
		if !ok {
			return nil, false
		}
		l, o = append(l, x), o+x.Size
	}
	return l, true
}

// listOf tells where the blocks of a class's list stand; false, if All tells
// ErrForm of it.
func listOf(b []byte, c int) ([]int, bool) {
	if len(b) < 184 || (at(b, 0)>>c%2 == 1) != (at(b, 8+8*c) != 0) {
		return nil, false
	}
	var l []int
	ahead := uint64(0)
	for v := at(b, 8+8*c); v != 0; v = at(b, int(v)+8) {
		x, ok := standing(b, v)
		if !ok || x.Used || classOf(x.Size) != c || at(b, int(v)+16) != ahead || len(l) == 1024 {
			return nil, false
		}
		l, ahead = append(l, x.Off), v
	}
	return l, true
}

// model is an arena as the chapter's words have it: all its bytes, and how many
// there may be. Its lists are laid anew whenever one is changed.
type model struct {
	b        []byte
	capacity int
}

// isSize tells whether a block may have so many bytes, as the chapter of layer 6
// tells it.
func isSize(n int) bool { return n >= 32 && n <= 16384 && n%16 == 0 }

// lay lays a class's list: its first one, its bit, and two numbers of each block.
func (m *model) lay(c int, l []int) {
	put(m.b, 0, at(m.b, 0)&^(1<<c))
	put(m.b, 8+8*c, 0)
	m.b = chained(m.b, c, l...)
}

// put lays a free block into its list, as the first one.
func (m *model) put(x api.Block) {
	c := classOf(x.Size)
	l, _ := listOf(m.b, c)
	m.lay(c, append([]int{x.Off}, l...))
}

// out takes a free block out of its list.
func (m *model) out(x api.Block) {
	c := classOf(x.Size)
	l, _ := listOf(m.b, c)
	m.lay(c, slices.DeleteFunc(l, func(o int) bool { return o == x.Off }))
}

// set lays a block's tags.
func (m *model) set(o, size int, used bool) {
	m.b = tagged(m.b, api.Block{Off: o, Size: size, Used: used})
}

// find tells the free block that is taken for a size.
func (m *model) find(size int) (api.Block, bool) {
	for c := classOf(size); c < 22; c++ {
		l, _ := listOf(m.b, c)
		for _, o := range l {
			if x, _ := standing(m.b, uint64(o)); x.Size >= size {
				return x, true
			}
		}
	}
	return api.Block{}, false
}

// take is Take, as the chapter tells it.
func (m *model) take(size int) (int, error) {
	if !isSize(size) {
		return 0, api.ErrArg
	}
	if x, ok := m.find(size); ok {
		m.out(x)
		m.set(x.Off, x.Size, true)
		m.cut(x, size)
		return x.Off, nil
	}
	blocks, _ := walkOf(m.b)
	last := api.Block{Off: len(m.b), Used: true}
	if len(blocks) > 0 && !blocks[len(blocks)-1].Used {
		last = blocks[len(blocks)-1]
	}
	if last.Off+size > m.capacity {
		return 0, api.ErrNoMem
	}
	if !last.Used {
		m.out(last)
	}
	m.b = append(slices.Clone(m.b), make([]byte, last.Off+size-len(m.b))...)
	m.set(last.Off, size, true)
	return last.Off, nil
}

// used is Used, as the chapter tells it.
func (m *model) used(o int) (api.Block, error) {
	blocks, _ := walkOf(m.b)
	i := slices.IndexFunc(blocks, func(x api.Block) bool { return x.Off == o })
	if i < 0 || !blocks[i].Used {
		return api.Block{}, api.ErrForm
	}
	return blocks[i], nil
}

// cut cuts a used block to a size, and gives back what is left.
func (m *model) cut(x api.Block, size int) {
	if x.Size-size < 32 {
		return
	}
	m.set(x.Off, size, true)
	m.set(x.Off+size, x.Size-size, true)
	m.free(x.Off + size)
}

// free makes the block at o free, and one with the one behind, and with the one
// ahead.
func (m *model) free(o int) {
	blocks, _ := walkOf(m.b)
	i := slices.IndexFunc(blocks, func(x api.Block) bool { return x.Off == o })
	x := blocks[i]
	if i+1 < len(blocks) && !blocks[i+1].Used {
		m.out(blocks[i+1])
		x.Size += blocks[i+1].Size
	}
	if i > 0 && !blocks[i-1].Used {
		m.out(blocks[i-1])
		x.Off, x.Size = blocks[i-1].Off, x.Size+blocks[i-1].Size
	}
	m.set(x.Off, x.Size, false)
	m.put(x)
}

// resize is Resize, as the chapter tells it: the first of the four ways that can
// be.
func (m *model) resize(o, size int) (int, error) {
	if !isSize(size) {
		return 0, api.ErrArg
	}
	x, err := m.used(o)
	if err != nil {
		return 0, err
	}
	if x.Size >= size {
		m.cut(x, size)
		return o, nil
	}
	end, behind := o+x.Size, m.freeAt(o+x.Size)
	if behind != nil && x.Size+behind.Size >= size {
		m.out(*behind)
		x.Size += behind.Size
		m.set(o, x.Size, true)
		m.cut(x, size)
		return o, nil
	}
	if behind != nil {
		end += behind.Size
	}
	if end == len(m.b) && o+size <= m.capacity {
		if behind != nil {
			m.out(*behind)
		}
		m.b = append(slices.Clone(m.b), make([]byte, o+size-end)...)
		m.set(o, size, true)
		return o, nil
	}
	return m.move(x, size)
}

// freeAt tells the free block at o; nil, if none is there.
func (m *model) freeAt(o int) *api.Block {
	blocks, _ := walkOf(m.b)
	for _, x := range blocks {
		if x.Off == o && !x.Used {
			return &x
		}
	}
	return nil
}

// move is the fourth way.
func (m *model) move(x api.Block, size int) (int, error) {
	what := string(heldBy(m.b, x))
	o, err := m.take(size)
	if err != nil {
		return 0, api.ErrNoMem
	}
	copy(m.b[o+8:], what)
	m.free(x.Off)
	return o, nil
}

// heldBy tells what a block holds: all its bytes but the first and last eight.
func heldBy(b []byte, x api.Block) []byte { return b[x.Off+8 : x.Off+x.Size-8] }

// needOf tells the size that so many bytes need, as the chapter of layer 8 tells it.
func needOf(n *big.Int) (int, bool) {
	for size := 32; size <= 16384; size += 16 {
		if n.Cmp(big.NewInt(int64(size-16))) <= 0 {
			return size, true
		}
	}
	return 0, false
}

// whole tells a number that has no end of bits.
func whole(n uint64) *big.Int { return new(big.Int).SetUint64(n) }

// do is Do, as the chapter tells each call.
func (m *model) do(x api.Call) api.Reply {
	switch x.Op {
	case 1:
		return m.get(whole(x.N), 165)
	case 2:
		return m.get(new(big.Int).Mul(whole(x.N), whole(x.M)), 0)
	case 3, 4, 5, 6, 7:
		if y, ok := m.holder(x.H); ok {
			return m.doWith(y, x)
		}
		return api.Reply{Code: 4}
	case 8:
		return api.Reply{S: m.stats()}
	}
	return api.Reply{Code: 1}
}

// doWith does a call of a handle, whose block is known.
func (m *model) doWith(y api.Block, x api.Call) api.Reply {
	what := heldBy(m.b, y)
	switch x.Op {
	case 3:
		m.free(y.Off)
		return api.Reply{}
	case 4:
		return m.remake(y, x.N)
	case 5:
		return api.Reply{N: uint64(len(what))}
	}
	n := whole(x.N)
	if x.Op == 7 {
		n = big.NewInt(int64(len(x.B)))
	}
	if n.Add(n, whole(x.At)).Cmp(big.NewInt(int64(len(what)))) > 0 {
		return api.Reply{Code: 2}
	}
	if x.Op == 7 {
		copy(what[x.At:], x.B)
		return api.Reply{}
	}
	return api.Reply{B: bytes.Clone(what[x.At : x.At+x.N])}
}

// holder tells the block of a handle.
func (m *model) holder(p uint64) (api.Block, bool) {
	blocks, _ := walkOf(m.b)
	for _, x := range blocks {
		if x.Used && uint64(x.Off)+8 == p {
			return x, true
		}
	}
	return api.Block{}, false
}

// get is Malloc, and Calloc.
func (m *model) get(n *big.Int, c byte) api.Reply {
	size, ok := needOf(n)
	if !ok {
		return api.Reply{Code: 5}
	}
	o, err := m.take(size)
	if err != nil {
		return api.Reply{Code: 5}
	}
	x, _ := m.used(o)
	copy(heldBy(m.b, x), bytes.Repeat([]byte{c}, x.Size-16))
	return api.Reply{H: uint64(o) + 8}
}

// remake is Realloc: what was held is laid once more, whatever became of it.
func (m *model) remake(x api.Block, n uint64) api.Reply {
	what := bytes.Clone(heldBy(m.b, x))
	size, ok := needOf(whole(n))
	if !ok {
		return api.Reply{Code: 5}
	}
	o, err := m.resize(x.Off, size)
	if err != nil {
		return api.Reply{Code: 5}
	}
	y, _ := m.used(o)
	held := heldBy(m.b, y)
	copy(held, bytes.Repeat([]byte{165}, len(held)))
	copy(held, what)
	return api.Reply{H: uint64(o) + 8}
}

// stats is Stats.
func (m *model) stats() api.Stats {
	s := api.Stats{Len: len(m.b), Cap: m.capacity}
	blocks, _ := walkOf(m.b)
	for _, x := range blocks {
		if x.Used {
			s.Used, s.Bytes = s.Used+1, s.Bytes+x.Size-16
		} else {
			s.Free++
		}
	}
	return s
}

// rebuild is Rebuild: each free block is put, by rising offsets.
func (m *model) rebuild() {
	m.b = slices.Concat(make([]byte, 184), m.b[184:])
	blocks, _ := walkOf(m.b)
	for _, x := range blocks {
		if !x.Used {
			m.put(x)
		}
	}
}

// tagOf tells a block's tag, as the chapter of layer 6 tells it.
func tagOf(x api.Block) uint64 {
	if x.Used {
		return uint64(x.Size) + 1
	}
	return uint64(x.Size)
}

// imageIn tells the image of a right arena's bytes.
func imageIn(b []byte) image.Image {
	m := image.Image{Len: len(b)}
	for o := 184; o < len(b); {
		w := at(b, o)
		x := api.Block{Off: o, Size: int(w - w%2), Used: w%2 == 1}
		m.Blocks, o = append(m.Blocks, x), o+x.Size
		if x.Used {
			m.Data = append(m.Data, bytes.Clone(b[x.Off+8:o-8]))
		}
	}
	return m
}

// imageBytes tells an image's bytes, as the chapter of layer 15 lists them.
func imageBytes(m image.Image) []byte {
	le := binary.LittleEndian
	b := []byte("CNTL\x01\x00\x00\x00")
	b = le.AppendUint64(b, uint64(m.Len))
	b = le.AppendUint64(b, uint64(len(m.Blocks)))
	b = le.AppendUint32(b, sumOf(b))
	var tags []byte
	for _, x := range m.Blocks {
		tags = le.AppendUint64(tags, tagOf(x))
	}
	held := slices.Concat(m.Data...)
	b = le.AppendUint32(append(b, tags...), sumOf(tags))
	b = le.AppendUint32(append(b, held...), sumOf(held))
	return le.AppendUint32(b, sumOf(b))
}

// imageFor tells the image whose bytes b is; false, if it is none's. It makes the
// image that the numbers in b tell, as far as they tell one that may be: b is that
// one's bytes, or none's.
func imageFor(b []byte) (image.Image, bool) {
	if len(b) < 40 || len(b) > 20000 {
		return image.Image{}, false
	}
	m := image.Image{Len: 184}
	count := at(b, 16)
	if count > uint64(len(b)/8) {
		return image.Image{}, false
	}
	data := 32 + 8*int(count)
	for i := range int(count) {
		if 28+8*i+8 > len(b) {
			return image.Image{}, false
		}
		w := at(b, 28+8*i)
		size := w - w%2
		if size < 32 || size > 16384 || size%16 != 0 {
			return image.Image{}, false
		}
		x := api.Block{Off: m.Len, Size: int(size), Used: w%2 == 1}
		if i > 0 && !x.Used && !m.Blocks[i-1].Used {
			return image.Image{}, false
		}
		if x.Used {
			end := data + x.Size - 16
			if end > len(b) {
				return image.Image{}, false
			}
			m.Data, data = append(m.Data, bytes.Clone(b[data:end])), end
		}
		m.Blocks, m.Len = append(m.Blocks, x), m.Len+x.Size
	}
	if m.Len > 16384 || !bytes.Equal(imageBytes(m), b) {
		return image.Image{}, false
	}
	return m, true
}

// record is what a slot's first sector may have.
type record struct {
	gen, length uint64
	sum         uint32
}

// recordBytes tells a record's bytes, as the chapter of layer 17 lists them.
func recordBytes(r record) []byte {
	le := binary.LittleEndian
	b := []byte("SLOT\x00\x00\x00\x00")
	b = le.AppendUint64(b, r.gen)
	b = le.AppendUint64(b, r.length)
	b = le.AppendUint32(b, r.sum)
	b = le.AppendUint32(b, sumOf(b))
	return append(b, make([]byte, 480)...)
}

// recordFor tells the record whose bytes b is; a zero one, if it is none's.
func recordFor(b []byte) record {
	r := record{at(b, 8), at(b, 16), at4(b, 24)}
	if r.gen < 1 || r.gen > 4611686018427387904 || r.length > 65536 || !bytes.Equal(recordBytes(r), b) {
		return record{}
	}
	return r
}

// side is what a slot has: its record, whose gen is 0 if there is none, and its
// image, if it is good.
type side struct {
	r    record
	good bool
	m    image.Image
}

// sideOf tells what a slot of these bytes has.
func sideOf(b []byte) side {
	s := side{r: recordFor(b[:512])}
	if s.r.gen == 0 || s.r.length > uint64(len(b)-512) {
		return s
	}
	what := b[512 : 512+s.r.length]
	if sumOf(what) == s.r.sum {
		s.m, s.good = imageFor(what)
	}
	return s
}

// sidesOf tells what both slots of a disk have, whose sectors have these bytes.
func sidesOf(b []byte) [2]side {
	n := len(b) / 512 / 2 * 512
	return [2]side{sideOf(b[:n]), sideOf(b[n : 2*n])}
}

// newestOf tells which one is the newest good one; -1, if none is: of the good ones,
// the first one last, the one that no later one has less than.
func newestOf(l [2]side) int {
	which, gen := -1, uint64(0)
	for _, i := range []int{1, 0} {
		if l[i].good && l[i].r.gen >= gen {
			which, gen = i, l[i].r.gen
		}
	}
	return which
}

// wait is a write that waits.
type wait struct {
	sector int
	b      []byte
}

// plate is a disk as the chapter of layer 4 tells it. As long as left isn't below 0,
// the power goes at the write behind so many.
type plate struct {
	stands []byte
	waits  []wait
	left   int
	off    bool
}

// laid tells bytes, with writes laid over them.
func laid(b []byte, l []wait) []byte {
	b = bytes.Clone(b)
	for _, w := range l {
		copy(b[512*w.sector:], w.b)
	}
	return b
}

// seen tells what is read of all sectors, while the power is on.
func (p *plate) seen() []byte { return laid(p.stands, p.waits) }

// write is Write of a sector that there is; false, if the power is off, or goes.
func (p *plate) write(i int, b []byte) bool {
	p.off = p.off || p.left == 0
	if p.off {
		return false
	}
	p.left = max(p.left-1, -1)
	p.waits = append(p.waits, wait{i, bytes.Clone(b)})
	return true
}

// flush is Flush, while the power is on.
func (p *plate) flush() { p.stands, p.waits = p.seen(), nil }

// boot is Boot.
func (p *plate) boot(keep []bool) {
	var kept []wait
	for i, w := range p.waits {
		if i < len(keep) && keep[i] {
			kept = append(kept, w)
		}
	}
	p.stands, p.waits, p.left, p.off = laid(p.stands, kept), nil, -1, false
}

// sectorsOf tells bytes by sectors, the last one with 0 behind.
func sectorsOf(b []byte) [][]byte {
	var l [][]byte
	for ; len(b) > 0; b = b[min(512, len(b)):] {
		l = append(l, append(bytes.Clone(b[:min(512, len(b))]), make([]byte, 512-min(512, len(b)))...))
	}
	return l
}

// save is Save of a heap whose image has these bytes.
func (p *plate) save(b []byte) error {
	if p.off {
		return api.ErrDown
	}
	sides := sidesOf(p.seen())
	n := len(p.stands) / 512 / 2
	gen := max(sides[0].r.gen, sides[1].r.gen)
	if len(sectorsOf(b)) >= n || gen == 4611686018427387904 {
		return api.ErrFull
	}
	from := 0
	if newestOf(sides) == 0 {
		from = n
	}
	for _, part := range p.parts(from, gen+1, b) {
		for _, w := range part {
			if !p.write(w.sector, w.b) {
				return api.ErrDown
			}
		}
		p.flush()
	}
	return nil
}

// parts tells the writes of a Save, by the flushes between them.
func (p *plate) parts(from int, gen uint64, b []byte) [][]wait {
	var l []wait
	for i, s := range sectorsOf(b) {
		l = append(l, wait{from + 1 + i, s})
	}
	r := recordBytes(record{gen, uint64(len(b)), sumOf(b)})
	return [][]wait{{{from, make([]byte, 512)}}, l, {{from, r}}}
}

// load tells the image that Load is to make a heap of, or its error. A script's heaps
// all have one capacity, so that none is too large.
func (p *plate) load() (image.Image, error) {
	if p.off {
		return image.Image{}, api.ErrDown
	}
	sides := sidesOf(p.seen())
	i := newestOf(sides)
	if i < 0 {
		return image.Image{}, api.ErrNoImage
	}
	return sides[i].m, nil
}

// isArena tells whether there is an arena of this base and capacity, as the chapter of
// layer 3 tells it; its numbers have no end of bits.
func isArena(base uint64, capacity int) bool {
	b, c := new(big.Int).SetUint64(base), big.NewInt(int64(capacity))
	greatest := new(big.Int).Exp(big.NewInt(2), big.NewInt(62), nil)
	rest := new(big.Int).Mod(b, big.NewInt(16))
	return rest.Sign() == 0 && b.Cmp(greatest) <= 0 && c.Cmp(big.NewInt(1024)) >= 0 && c.Cmp(big.NewInt(16384)) <= 0
}

// modelOf tells a heap that has what an image has: its blocks, their Data, and lists
// that were made anew; all else is 0.
func modelOf(m image.Image, capacity int) *model {
	x := &model{tagged(make([]byte, m.Len), m.Blocks...), capacity}
	x.rebuild()
	i := 0
	for _, y := range m.Blocks {
		if y.Used {
			copy(heldBy(x.b, y), m.Data[i])
			i++
		}
	}
	return x
}

// freshOf tells a new heap.
func freshOf(capacity int) *model { return modelOf(image.Image{Len: 184}, capacity) }

// scene is a heap and a disk, on which steps are done.
type scene struct {
	*model
	*plate
}

// sceneOf tells a new one.
func sceneOf(capacity, sectors int) *scene {
	return &scene{freshOf(capacity), &plate{stands: make([]byte, 512*sectors), left: -1}}
}

// step does a step, as the chapter tells each.
func (s *scene) step(x Step) api.Reply {
	switch x.Kind {
	case 0:
		return s.model.do(x.C)
	case 1:
		return coded(s.plate.save(imageBytes(imageIn(s.model.b))))
	case 2:
		s.plate.left = max(x.N, -1)
		return api.Reply{}
	case 3:
		return s.start(x.Keep)
	case 4:
		return coded(s.fetch())
	case 5:
		s.model.rebuild()
		return api.Reply{}
	}
	return api.Reply{Code: 1}
}

// start is Boot, then Load, which tells no error but that there is no image.
func (s *scene) start(keep []bool) api.Reply {
	s.plate.boot(keep)
	if s.fetch() != nil {
		s.model = freshOf(s.capacity)
		return api.Reply{Code: 8}
	}
	return api.Reply{}
}

// fetch is Load.
func (s *scene) fetch() error {
	m, err := s.plate.load()
	if err == nil {
		s.model = modelOf(m, s.capacity)
	}
	return err
}

// coded tells a reply of an error's number alone.
func coded(err error) api.Reply {
	for c := api.Code(1); c <= 10; c++ {
		if err != nil && err == error(c) {
			return api.Reply{Code: int(c)}
		}
	}
	return api.Reply{}
}

// modelRun is Run.
func modelRun(base uint64, capacity, sectors int, l []Step) ([]api.Reply, error) {
	if !isArena(base, capacity) || sectors < 2 || sectors > 128 {
		return nil, api.ErrArg
	}
	if len(l) > 200 {
		return nil, api.ErrLarge
	}
	s := sceneOf(capacity, sectors)
	var told []api.Reply
	for _, x := range l {
		told = append(told, s.step(x))
	}
	return told, nil
}
