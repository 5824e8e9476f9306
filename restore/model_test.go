package restore

import (
	"cantle/api"
	"cantle/image"
	"encoding/binary"
	"math/big"
	"slices"
)

// put lays a number's eight bytes at o.
func put(b []byte, o int, v uint64) { binary.LittleEndian.PutUint64(b[o:], v) }

// at tells the number of eight bytes at o.
func at(b []byte, o int) uint64 { return binary.LittleEndian.Uint64(b[o:]) }

// leasts tells each class's least size, as the chapter of layer 8 lists them.
func leasts() []int {
	return []int{32, 48, 64, 80, 96, 112, 128, 144, 160, 176, 192, 208, 224, 240, 256, 272, 512, 1024, 2048, 4096, 8192, 16384}
}

// classOf tells in which class a size is.
func classOf(size int) int {
	c := 0
	for c+1 < len(leasts()) && leasts()[c+1] <= size {
		c++
	}
	return c
}

// row tells blocks of these sizes from Start on, each right behind the one ahead
// of it; that of a size below 0 is used.
func row(sizes ...int) []api.Block {
	var l []api.Block
	o := 184
	for _, size := range sizes {
		x := api.Block{Off: o, Size: max(size, -size), Used: size < 0}
		l, o = append(l, x), o+x.Size
	}
	return l
}

// endOf tells where the last one ends.
func endOf(l []api.Block) int {
	if len(l) == 0 {
		return 184
	}
	last := l[len(l)-1]
	return last.Off + last.Size
}

// falling tells where the free blocks of a class stand, the last one first: each is
// put ahead of those that stand ahead of it.
func falling(l []api.Block, c int) []int {
	var places []int
	for _, x := range l {
		if !x.Used && classOf(x.Size) == c {
			places = slices.Insert(places, 0, x.Off)
		}
	}
	return places
}

// layTags lays a block's tags, as the chapters of layers 6 and 7 tell them.
func layTags(b []byte, x api.Block) {
	w := uint64(x.Size)
	if x.Used {
		w++
	}
	put(b, x.Off, w)
	put(b, x.Off+x.Size-8, w)
}

// layList lays a list, as the chapter of layer 9 tells it: a first one and a bit of
// the class, and two numbers of each block.
func layList(b []byte, c int, l []int) {
	if len(l) == 0 {
		return
	}
	put(b, 0, at(b, 0)|1<<c)
	put(b, 8+8*c, uint64(l[0]))
	for i, o := range l {
		put(b, o+8, 0)
		put(b, o+16, 0)
		if i > 0 {
			put(b, o+16, uint64(l[i-1]))
		}
		if i+1 < len(l) {
			put(b, o+8, uint64(l[i+1]))
		}
	}
}

// bytesOf tells the bytes of an arena that has what an image has that may be: its
// blocks, their Data, and lists that were made anew; all else is 0.
func bytesOf(m image.Image) []byte {
	b := make([]byte, m.Len)
	i := 0
	for _, x := range m.Blocks {
		layTags(b, x)
		if x.Used {
			copy(b[x.Off+8:x.Off+x.Size-8], m.Data[i])
			i++
		}
	}
	for c := range 22 {
		layList(b, c, falling(m.Blocks, c))
	}
	return b
}

// standing tells the block that stands at v, as the chapter of layer 7 tells it.
func standing(b []byte, v uint64) (api.Block, bool) {
	n := uint64(len(b))
	if v < 184 || v%16 != 8 || v+8 > n || v > 16384 {
		return api.Block{}, false
	}
	w := at(b, int(v))
	size := w - w%2
	if size < 32 || size > 16384 || size%16 != 0 || v+size > n || at(b, int(v+size)-8) != w {
		return api.Block{}, false
	}
	return api.Block{Off: int(v), Size: int(size), Used: w%2 == 1}, true
}

// walkOf tells all blocks; false, if Walk tells ErrForm of these bytes.
func walkOf(b []byte) ([]api.Block, bool) {
	if len(b) < 184 {
		return nil, false
	}
	var l []api.Block
	for o := 184; o != len(b); {
		x, ok := standing(b, uint64(o))
		if !ok {
			return nil, false
		}
		l, o = append(l, x), o+x.Size
	}
	return l, true
}

// listOf tells where the blocks of a class's list stand; false, if All tells
// ErrForm of it.
func listOf(b []byte, c int) ([]int, bool) {
	if len(b) < 184 || (at(b, 0)>>c%2 == 1) != (at(b, 8+8*c) != 0) {
		return nil, false
	}
	var l []int
	ahead := uint64(0)
	for v := at(b, 8+8*c); v != 0; v = at(b, int(v)+8) {
		x, ok := standing(b, v)
		if !ok || x.Used || classOf(x.Size) != c || at(b, int(v)+16) != ahead || len(l) == 1024 {
			return nil, false
		}
		l, ahead = append(l, x.Off), v
	}
	return l, true
}

// rightOf tells whether these bytes are those of an arena that is right, as the
// chapter of layer 11 tells it.
func rightOf(b []byte) bool {
	blocks, ok := walkOf(b)
	if !ok || freeSideBySide(blocks) {
		return false
	}
	var free, got []int
	for _, x := range blocks {
		if !x.Used {
			free = append(free, x.Off)
		}
	}
	for c := range 22 {
		l, ok := listOf(b, c)
		if !ok {
			return false
		}
		got = append(got, l...)
	}
	slices.Sort(got)
	return slices.Equal(got, free) && at(b, 0) < 1<<22
}

// freeSideBySide tells whether two free ones stand next to each other.
func freeSideBySide(l []api.Block) bool {
	for i := 1; i < len(l); i++ {
		if !l[i-1].Used && !l[i].Used {
			return true
		}
	}
	return false
}

// isSize tells whether a block may have so many bytes, as the chapter of layer 6
// tells it.
func isSize(n int) bool { return n >= 32 && n <= 16384 && n%16 == 0 }

// owners tells of each byte, from 0 on, which block has it, counted from 1 on; 0, if
// none has. It tells false, if a block has bytes beyond n or ahead of Start, a size
// that is none, or a byte that another one has.
func owners(l []api.Block, n int) ([]int, bool) {
	who := make([]int, n)
	for i, x := range l {
		if x.Off < 184 || x.Off > n || !isSize(x.Size) || x.Size > n-x.Off {
			return nil, false
		}
		for o := x.Off; o < x.Off+x.Size; o++ {
			if who[o] != 0 {
				return nil, false
			}
			who[o] = i + 1
		}
	}
	return who, true
}

// mayOf tells whether an image may be, as the chapter of layer 15 tells it: each byte
// from Start on has one block, and from byte to byte it is the same one or the next.
func mayOf(m image.Image) bool {
	if m.Len < 184 || m.Len > 16384 || m.Len%16 != 8 {
		return false
	}
	who, ok := owners(m.Blocks, m.Len)
	if !ok || freeSideBySide(m.Blocks) {
		return false
	}
	last := 0
	for _, i := range who[184:] {
		if i == 0 || i != last && i != last+1 {
			return false
		}
		last = i
	}
	var asked, got []int
	for _, x := range m.Blocks {
		if x.Used {
			asked = append(asked, x.Size-16)
		}
	}
	for _, b := range m.Data {
		got = append(got, len(b))
	}
	return last == len(m.Blocks) && slices.Equal(asked, got)
}

// isArena tells whether there is an arena of this base and capacity, as the chapter of
// layer 3 tells it; its numbers have no end of bits.
func isArena(base uint64, capacity int) bool {
	b, c := new(big.Int).SetUint64(base), big.NewInt(int64(capacity))
	greatest := new(big.Int).Exp(big.NewInt(2), big.NewInt(62), nil)
	rest := new(big.Int).Mod(b, big.NewInt(16))
	return rest.Sign() == 0 && b.Cmp(greatest) <= 0 && c.Cmp(big.NewInt(1024)) >= 0 && c.Cmp(big.NewInt(16384)) <= 0
}

// errorOf tells which error Restore tells; nil, if there is a heap.
func errorOf(m image.Image, base uint64, capacity int) error {
	if !mayOf(m) || !isArena(base, capacity) {
		return api.ErrArg
	}
	if m.Len > capacity {
		return api.ErrLarge
	}
	return nil
}

// statsOf tells a heap's Stats.
func statsOf(m image.Image, capacity int) api.Stats {
	s := api.Stats{Len: m.Len, Cap: capacity}
	for _, x := range m.Blocks {
		if x.Used {
			s.Used, s.Bytes = s.Used+1, s.Bytes+x.Size-16
		} else {
			s.Free++
		}
	}
	return s
}
