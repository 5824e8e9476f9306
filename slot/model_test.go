package slot

import (
	"encoding/binary"
	"hash/crc32"
	"strings"
)

// parts are the fields of a record's bytes, of which each may be amiss.
type parts struct {
	mark        string
	gen, length uint64
	sum         uint32
	turn        uint32       // by what the sum of the 28 bytes is turned
	behind      map[int]byte // what isn't 0 behind that sum, by its index
	size        int          // how many bytes there are
}

// partsOf tells the fields of a record's bytes.
func partsOf(r Rec) parts {
	return parts{mark: "\x53\x4c\x4f\x54\x00\x00\x00\x00", gen: r.Gen, length: r.Len, sum: r.Sum, size: 512}
}

// all tells the bytes, as the chapter lists them; the library of the language has
// sums of its own.
func (p parts) all() []byte {
	le := binary.LittleEndian
	b := []byte(p.mark)
	b = le.AppendUint64(b, p.gen)
	b = le.AppendUint64(b, p.length)
	b = le.AppendUint32(b, p.sum)
	b = le.AppendUint32(b, crc32.ChecksumIEEE(b)^p.turn)
	for len(b) < p.size {
		b = append(b, p.behind[len(b)])
	}
	return b[:p.size]
}

// bytesOf tells the bytes of a record that may be.
func bytesOf(r Rec) []byte { return partsOf(r).all() }

// isRecord tells whether a record may be; the greatest Gen is written out.
func isRecord(r Rec) bool {
	return r.Gen != 0 && r.Gen <= 4611686018427387904 && r.Len < 65537
}

// What Get finds amiss in bytes, in the order in which the model looks.
const (
	nothing   = iota // they are a record's
	badSize          // fewer than 512, or more
	badMark          // the first eight are others
	badSum           // the sum of the 28 bytes is another
	badNumber        // Gen, or Len, may not be
	badRest          // not all else is 0
)

// recordOf tells the record whose bytes b is, or what is amiss.
func recordOf(b []byte) (Rec, int) {
	if len(b) != 512 {
		return Rec{}, badSize
	}
	if string(b[:4]) != "SLOT" || b[4] != 0 || b[5] != 0 || b[6] != 0 || b[7] != 0 {
		return Rec{}, badMark
	}
	if crc32.ChecksumIEEE(b[:28]) != number4(b, 28) {
		return Rec{}, badSum
	}
	r := Rec{Gen: number(b, 8), Len: number(b, 16), Sum: number4(b, 24)}
	if !isRecord(r) {
		return Rec{}, badNumber
	}
	if strings.Trim(string(b[32:]), "\x00") != "" {
		return Rec{}, badRest
	}
	return r, nothing
}

// number tells the number of eight bytes from o on, the lowest first, by its powers
// of 256.
func number(b []byte, o int) uint64 {
	v := uint64(0)
	for i := 7; i >= 0; i-- {
		v = 256*v + uint64(b[o+i])
	}
	return v
}

// number4 tells that of four bytes.
func number4(b []byte, o int) uint32 {
	return uint32(b[o]) + 256*(uint32(b[o+1])+256*(uint32(b[o+2])+256*uint32(b[o+3])))
}

// anew tells the same bytes, but with the sum of the first 28 made anew.
func anew(b []byte) []byte {
	b = append([]byte(nil), b...)
	binary.LittleEndian.PutUint32(b[28:], crc32.ChecksumIEEE(b[:28]))
	return b
}
