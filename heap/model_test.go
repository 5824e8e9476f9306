package heap

import (
	"bytes"
	"cantle/api"
	"encoding/binary"
	"math/big"
	"slices"
)

// counted tells n bytes, no two neighbours alike, whose numbers are neither a
// tag nor where a block may stand. The first Start bytes are 0: no class has
// blocks.
func counted(n int) []byte {
	b := make([]byte, n)
	for i := 184; i < n; i++ {
		b[i] = byte(i*37%251) + 1
	}
	return b
}

// put lays a number's eight bytes at o.
func put(b []byte, o int, v uint64) { binary.LittleEndian.PutUint64(b[o:], v) }

// at tells the number of eight bytes at o.
func at(b []byte, o int) uint64 { return binary.LittleEndian.Uint64(b[o:]) }

// with tells bytes that are the same but for numbers, which come by turns with
// their offsets.
func with(b []byte, l ...int) []byte {
	b = slices.Clone(b)
	for i := 0; i < len(l); i += 2 {
		put(b, l[i], uint64(l[i+1]))
	}
	return b
}

// tagged lays the tags of blocks into bytes.
func tagged(b []byte, l ...api.Block) []byte {
	b = slices.Clone(b)
	for _, x := range l {
		w := uint64(x.Size)
		if x.Used {
			w++
		}
		put(b, x.Off, w)
		put(b, x.Off+x.Size-8, w)
	}
	return b
}

// chained lays a list into bytes, as the chapter of layer 9 tells it: a first
// one and a bit of the class, and two numbers of each block.
func chained(b []byte, c int, l ...int) []byte {
	b = slices.Clone(b)
	if len(l) == 0 {
		return b
	}
	put(b, 0, at(b, 0)|1<<c)
	put(b, 8+8*c, uint64(l[0]))
	for i, o := range l {
		put(b, o+8, 0)
		put(b, o+16, 0)
		if i > 0 {
			put(b, o+16, uint64(l[i-1]))
		}
		if i+1 < len(l) {
			put(b, o+8, uint64(l[i+1]))
		}
	}
	return b
}

// leasts tells each class's least size, as the chapter of layer 8 lists them.
func leasts() []int {
	return []int{32, 48, 64, 80, 96, 112, 128, 144, 160, 176, 192, 208, 224, 240, 256, 272, 512, 1024, 2048, 4096, 8192, 16384}
}

// classOf tells in which class a size is.
func classOf(size int) int {
	c := 0
	for c+1 < len(leasts()) && leasts()[c+1] <= size {
		c++
	}
	return c
}

// row tells blocks of these sizes from Start on, each right behind the one ahead
// of it; that of a size below 0 is used.
func row(sizes ...int) []api.Block {
	var l []api.Block
	o := 184
	for _, size := range sizes {
		x := api.Block{Off: o, Size: max(size, -size), Used: size < 0}
		l, o = append(l, x), o+x.Size
	}
	return l
}

// endOf tells where the last one ends.
func endOf(l []api.Block) int {
	if len(l) == 0 {
		return 184
	}
	last := l[len(l)-1]
	return last.Off + last.Size
}

// bare tells the bytes of these blocks, none of which is in a list.
func bare(l []api.Block) []byte { return tagged(counted(endOf(l)), l...) }

// falling tells where the free blocks of a class stand, the last one first.
func falling(l []api.Block, c int) []int {
	var places []int
	for _, x := range l {
		if !x.Used && classOf(x.Size) == c {
			places = slices.Insert(places, 0, x.Off)
		}
	}
	return places
}

// listed tells the same, the free ones in lists by falling offsets.
func listed(l []api.Block) []byte {
	b := bare(l)
	for c := range 22 {
		b = chained(b, c, falling(l, c)...)
	}
	return b
}

// standing tells the block that stands at v, as the chapter of layer 7 tells it.
func standing(b []byte, v uint64) (api.Block, bool) {
	n := uint64(len(b))
	if v < 184 || v%16 != 8 || v+8 > n || v > 16384 {
		return api.Block{}, false
	}
	w := at(b, int(v))
	size := w - w%2
	if size < 32 || size > 16384 || size%16 != 0 || v+size > n || at(b, int(v+size)-8) != w {
		return api.Block{}, false
	}
	return api.Block{Off: int(v), Size: int(size), Used: w%2 == 1}, true
}

// walkOf tells all blocks; false, if Walk tells ErrForm of these bytes.
func walkOf(b []byte) ([]api.Block, bool) {
	if len(b) < 184 {
		return nil, false
	}
	var l []api.Block
	for o := 184; o != len(b); {
		x, ok := standing(b, uint64(o))
		if !ok {
			return nil, false
		}
		l, o = append(l, x), o+x.Size
	}
	return l, true
}

// listOf tells where the blocks of a class's list stand; false, if All tells
// ErrForm of it.
func listOf(b []byte, c int) ([]int, bool) {
	if len(b) < 184 || (at(b, 0)>>c%2 == 1) != (at(b, 8+8*c) != 0) {
		return nil, false
	}
	var l []int
	ahead := uint64(0)
	for v := at(b, 8+8*c); v != 0; v = at(b, int(v)+8) {
		x, ok := standing(b, v)
		if !ok || x.Used || classOf(x.Size) != c || at(b, int(v)+16) != ahead || len(l) == 1024 {
			return nil, false
		}
		l, ahead = append(l, x.Off), v
	}
	return l, true
}

// rightOf tells whether these bytes are those of an arena that is right: it sorts
// what the lists have, and holds it against what is free.
func rightOf(b []byte) bool {
	blocks, ok := walkOf(b)
	if !ok {
		return false
	}
	var free, got []int
	for i, x := range blocks {
		if !x.Used && i > 0 && !blocks[i-1].Used {
			return false
		}
		if !x.Used {
			free = append(free, x.Off)
		}
	}
	for c := range 22 {
		l, ok := listOf(b, c)
		if !ok {
			return false
		}
		got = append(got, l...)
	}
	slices.Sort(got)
	return slices.Equal(got, free) && at(b, 0) < 1<<22
}

// model is an arena as the chapter's words have it: all its bytes, and how many
// there may be. Its lists are laid anew whenever one is changed.
type model struct {
	b        []byte
	capacity int
}

// isSize tells whether a block may have so many bytes, as the chapter of layer 6
// tells it.
func isSize(n int) bool { return n >= 32 && n <= 16384 && n%16 == 0 }

// lay lays a class's list: its first one, its bit, and two numbers of each block.
func (m *model) lay(c int, l []int) {
	put(m.b, 0, at(m.b, 0)&^(1<<c))
	put(m.b, 8+8*c, 0)
	m.b = chained(m.b, c, l...)
}

// put lays a free block into its list, as the first one.
func (m *model) put(x api.Block) {
	c := classOf(x.Size)
	l, _ := listOf(m.b, c)
	m.lay(c, append([]int{x.Off}, l...))
}

// out takes a free block out of its list.
func (m *model) out(x api.Block) {
	c := classOf(x.Size)
	l, _ := listOf(m.b, c)
	m.lay(c, slices.DeleteFunc(l, func(o int) bool { return o == x.Off }))
}

// set lays a block's tags.
func (m *model) set(o, size int, used bool) {
	m.b = tagged(m.b, api.Block{Off: o, Size: size, Used: used})
}

// find tells the free block that is taken for a size.
func (m *model) find(size int) (api.Block, bool) {
	for c := classOf(size); c < 22; c++ {
		l, _ := listOf(m.b, c)
		for _, o := range l {
			if x, _ := standing(m.b, uint64(o)); x.Size >= size {
				return x, true
			}
		}
	}
	return api.Block{}, false
}

// take is Take, as the chapter tells it.
func (m *model) take(size int) (int, error) {
	if !isSize(size) {
		return 0, api.ErrArg
	}
	if x, ok := m.find(size); ok {
		m.out(x)
		m.set(x.Off, x.Size, true)
		m.cut(x, size)
		return x.Off, nil
	}
	blocks, _ := walkOf(m.b)
	last := api.Block{Off: len(m.b), Used: true}
	if len(blocks) > 0 && !blocks[len(blocks)-1].Used {
		last = blocks[len(blocks)-1]
	}
	if last.Off+size > m.capacity {
		return 0, api.ErrNoMem
	}
	if !last.Used {
		m.out(last)
	}
	m.b = append(slices.Clone(m.b), make([]byte, last.Off+size-len(m.b))...)
	m.set(last.Off, size, true)
	return last.Off, nil
}

// used is Used, as the chapter tells it.
func (m *model) used(o int) (api.Block, error) {
	blocks, _ := walkOf(m.b)
	i := slices.IndexFunc(blocks, func(x api.Block) bool { return x.Off == o })
	if i < 0 || !blocks[i].Used {
		return api.Block{}, api.ErrForm
	}
	return blocks[i], nil
}

// cut cuts a used block to a size, and gives back what is left.
func (m *model) cut(x api.Block, size int) {
	if x.Size-size < 32 {
		return
	}
	m.set(x.Off, size, true)
	m.set(x.Off+size, x.Size-size, true)
	m.free(x.Off + size)
}

// free makes the block at o free, and one with the one behind, and with the one
// ahead.
func (m *model) free(o int) {
	blocks, _ := walkOf(m.b)
	i := slices.IndexFunc(blocks, func(x api.Block) bool { return x.Off == o })
	x := blocks[i]
	if i+1 < len(blocks) && !blocks[i+1].Used {
		m.out(blocks[i+1])
		x.Size += blocks[i+1].Size
	}
	if i > 0 && !blocks[i-1].Used {
		m.out(blocks[i-1])
		x.Off, x.Size = blocks[i-1].Off, x.Size+blocks[i-1].Size
	}
	m.set(x.Off, x.Size, false)
	m.put(x)
}

// resize is Resize, as the chapter tells it: the first of the four ways that can
// be.
func (m *model) resize(o, size int) (int, error) {
	if !isSize(size) {
		return 0, api.ErrArg
	}
	x, err := m.used(o)
	if err != nil {
		return 0, err
	}
	if x.Size >= size {
		m.cut(x, size)
		return o, nil
	}
	end, behind := o+x.Size, m.freeAt(o+x.Size)
	if behind != nil && x.Size+behind.Size >= size {
		m.out(*behind)
		x.Size += behind.Size
		m.set(o, x.Size, true)
		m.cut(x, size)
		return o, nil
	}
	if behind != nil {
		end += behind.Size
	}
	if end == len(m.b) && o+size <= m.capacity {
		if behind != nil {
			m.out(*behind)
		}
		m.b = append(slices.Clone(m.b), make([]byte, o+size-end)...)
		m.set(o, size, true)
		return o, nil
	}
	return m.move(x, size)
}

// freeAt tells the free block at o; nil, if none is there.
func (m *model) freeAt(o int) *api.Block {
	blocks, _ := walkOf(m.b)
	for _, x := range blocks {
		if x.Off == o && !x.Used {
			return &x
		}
	}
	return nil
}

// move is the fourth way.
func (m *model) move(x api.Block, size int) (int, error) {
	what := string(heldBy(m.b, x))
	o, err := m.take(size)
	if err != nil {
		return 0, api.ErrNoMem
	}
	copy(m.b[o+8:], what)
	m.free(x.Off)
	return o, nil
}

// heldBy tells what a block holds: all its bytes but the first and last eight.
func heldBy(b []byte, x api.Block) []byte { return b[x.Off+8 : x.Off+x.Size-8] }

// needOf tells the size that so many bytes need, as the chapter of layer 8 tells it.
func needOf(n *big.Int) (int, bool) {
	for size := 32; size <= 16384; size += 16 {
		if n.Cmp(big.NewInt(int64(size-16))) <= 0 {
			return size, true
		}
	}
	return 0, false
}

// whole tells a number that has no end of bits.
func whole(n uint64) *big.Int { return new(big.Int).SetUint64(n) }

// do is Do, as the chapter tells each call.
func (m *model) do(x api.Call) api.Reply {
	switch x.Op {
	case 1:
		return m.get(whole(x.N), 165)
	case 2:
		return m.get(new(big.Int).Mul(whole(x.N), whole(x.M)), 0)
	case 3, 4, 5, 6, 7:
		if y, ok := m.holder(x.H); ok {
			return m.doWith(y, x)
		}
		return api.Reply{Code: 4}
	case 8:
		return api.Reply{S: m.stats()}
	}
	return api.Reply{Code: 1}
}

// doWith does a call of a handle, whose block is known.
func (m *model) doWith(y api.Block, x api.Call) api.Reply {
	what := heldBy(m.b, y)
	switch x.Op {
	case 3:
		m.free(y.Off)
		return api.Reply{}
	case 4:
		return m.remake(y, x.N)
	case 5:
		return api.Reply{N: uint64(len(what))}
	}
	n := whole(x.N)
	if x.Op == 7 {
		n = big.NewInt(int64(len(x.B)))
	}
	if n.Add(n, whole(x.At)).Cmp(big.NewInt(int64(len(what)))) > 0 {
		return api.Reply{Code: 2}
	}
	if x.Op == 7 {
		copy(what[x.At:], x.B)
		return api.Reply{}
	}
	return api.Reply{B: bytes.Clone(what[x.At : x.At+x.N])}
}

// holder tells the block of a handle.
func (m *model) holder(p uint64) (api.Block, bool) {
	blocks, _ := walkOf(m.b)
	for _, x := range blocks {
		if x.Used && uint64(x.Off)+8 == p {
			return x, true
		}
	}
	return api.Block{}, false
}

// get is Malloc, and Calloc.
func (m *model) get(n *big.Int, c byte) api.Reply {
	size, ok := needOf(n)
	if !ok {
		return api.Reply{Code: 5}
	}
	o, err := m.take(size)
	if err != nil {
		return api.Reply{Code: 5}
	}
	x, _ := m.used(o)
	copy(heldBy(m.b, x), bytes.Repeat([]byte{c}, x.Size-16))
	return api.Reply{H: uint64(o) + 8}
}

// remake is Realloc: what was held is laid once more, whatever became of it.
func (m *model) remake(x api.Block, n uint64) api.Reply {
	what := bytes.Clone(heldBy(m.b, x))
	size, ok := needOf(whole(n))
	if !ok {
		return api.Reply{Code: 5}
	}
	o, err := m.resize(x.Off, size)
	if err != nil {
		return api.Reply{Code: 5}
	}
	y, _ := m.used(o)
	held := heldBy(m.b, y)
	copy(held, bytes.Repeat([]byte{165}, len(held)))
	copy(held, what)
	return api.Reply{H: uint64(o) + 8}
}

// stats is Stats.
func (m *model) stats() api.Stats {
	s := api.Stats{Len: len(m.b), Cap: m.capacity}
	blocks, _ := walkOf(m.b)
	for _, x := range blocks {
		if x.Used {
			s.Used, s.Bytes = s.Used+1, s.Bytes+x.Size-16
		} else {
			s.Free++
		}
	}
	return s
}

// rebuild is Rebuild: each free block is put, by rising offsets.
func (m *model) rebuild() {
	m.b = slices.Concat(make([]byte, 184), m.b[184:])
	blocks, _ := walkOf(m.b)
	for _, x := range blocks {
		if !x.Used {
			m.put(x)
		}
	}
}
