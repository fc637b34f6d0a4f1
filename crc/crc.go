// Package crc is layer 2: the sum that a Zip archive has of its files. See shared/doc/02-crc.md.
package crc

// A number as a polynomial: its highest bit is the power 0, its lowest one the power 31.
const (
	polynomial  uint32 = 0xedb88320 // its power 32 is left out
	powerNought uint32 = 1 << 31
	powerEight  uint32 = 1 << 23 // a step multiplies by the power 1, so eight do by this
)

// Table is what bytes do to a sum.
type Table [256]uint32

// step: one place lower, and turned where the bit that fell out asks for it.
func step(n uint32) uint32 {
	if n&1 == 0 {
		return n >> 1
	}
	return n>>1 ^ polynomial
}

// Make: the table.
func Make() Table {
	var t Table
	for i := range len(t) {
		n := uint32(i)
		for range 8 {
			n = step(n)
		}
		t[i] = n
	}
	return t
}

// Update: a sum that goes on.
func (t *Table) Update(sum uint32, s string) uint32 {
	if t == nil {
		made := Make()
		t = &made
	}
	sum = ^sum
	for i := range len(s) {
		sum = t[uint8(sum)^s[i]] ^ sum>>8
	}
	return ^sum
}

// Sum: of a text.
func (t *Table) Sum(s string) uint32 { return t.Update(0, s) }

// product: of two polynomials, modulo the sum's.
func product(a, b uint32) uint32 {
	var p uint32
	for i := range 32 {
		if a&(powerNought>>i) != 0 {
			p ^= b
		}
		b = step(b)
	}
	return p
}

// Shift: as many bytes 0.
func Shift(sum uint32, n uint64) uint32 {
	// One by one the steps may be too many, and 8 n may go round: so the power is squared for each bit of n.
	power := powerEight
	for ; n > 0; n >>= 1 {
		if n&1 == 1 {
			sum = product(power, sum)
		}
		power = product(power, power)
	}
	return sum
}

// Join: of two texts.
func (t *Table) Join(a, b uint32, n uint64) uint32 { return Shift(a, n) ^ b }
