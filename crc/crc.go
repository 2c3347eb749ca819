// Package crc is layer 1: sums (CRC-32C) that find what was turned. The document's chapter is doc/01-crc.md.
package crc

import "revetment/api"

// generator is the generator's word: the coefficient of x^31 is its lowest bit, that of x^32 is left out.
const generator = 0x82f63b78

// sumBytes is how many bytes a sum has behind what is sealed.
const sumBytes = 4

// Table is, for each byte, the word that 0 goes on to by it.
type Table [256]uint32

// New is the table.
func New() Table {
	var t Table
	for c := range 256 {
		r := uint32(c)
		for range 8 {
			r = halve(r)
		}
		t[c] = r
	}
	return t
}

// halve takes a word on by one bit.
func halve(r uint32) uint32 {
	if r&1 == 1 {
		return r>>1 ^ generator
	}
	return r >> 1
}

// Step is the word that r goes on to by c.
func (t Table) Step(r uint32, c byte) uint32 {
	return t.goOn(r, []byte{c})
}

// Raw is the raw sum of b.
func (t Table) Raw(b []byte) uint32 {
	return t.goOn(0, b)
}

// Sum is the sum of b.
func (t Table) Sum(b []byte) uint32 {
	return ^t.goOn(^uint32(0), b)
}

// goOn takes r on by all of b. It takes a pointer, so that the table isn't copied for each byte.
func (t *Table) goOn(r uint32, b []byte) uint32 {
	for _, c := range b {
		r = t[byte(r)^c] ^ r>>8
	}
	return r
}

// Seal is b with its sum behind it.
func (t Table) Seal(b []byte) []byte {
	sealed := make([]byte, len(b)+sumBytes)
	copy(sealed, b)
	s := t.Sum(b)
	for i := range sumBytes {
		sealed[len(b)+i] = byte(s >> (8 * i))
	}
	return sealed
}

// Open is what stands ahead of a right sum.
func (t Table) Open(b []byte) ([]byte, api.Errno) {
	if len(b) < sumBytes {
		return nil, api.ErrSize
	}
	n := len(b) - sumBytes
	if t.Sum(b[:n]) != word(b[n:]) {
		return nil, api.ErrSum
	}
	ahead := make([]byte, n)
	copy(ahead, b)
	return ahead, api.OK
}

// word is the number whose bytes begin b, the lowest first.
func word(b []byte) uint32 {
	var s uint32
	for i := range sumBytes {
		s |= uint32(b[i]) << (8 * i)
	}
	return s
}

// Multiple tells whether b is a multiple of the generator.
func (t Table) Multiple(b []byte) bool {
	return t.Raw(b) == 0
}
