// Package sum is layer 2: a sum that tells whether bytes are what they were.
package sum

import "sync"

// turned is the polynomial of CRC-32C, its lowest bit the highest power.
const turned = 0x82f63b78

// steps tells, for each half of a byte, what four bits of it make of the register. (A table of whole bytes would be sixteen times as large.)
type steps [16]uint32

// The table is made once, by whoever comes first. It stands beside worked, which the sums are worked out by: no answer hangs on what the table holds.
var (
	once  sync.Once
	table steps
)

// shift takes one bit out of the register.
func shift(register uint32) uint32 {
	if register&1 == 1 {
		return register>>1 ^ turned
	}
	return register >> 1
}

// worked is the steps, worked out anew.
func worked() steps {
	var s steps
	for i := range len(s) {
		register := uint32(i)
		for range 4 {
			register = shift(register)
		}
		s[i] = register
	}
	return s
}

// fill makes the table.
func (s *steps) fill() { *s = worked() }

// on goes on with a sum, by its steps.
func (s *steps) on(sum uint32, b []byte) uint32 {
	register := ^sum
	for _, c := range b {
		register ^= uint32(c)
		for range 2 {
			register = register>>4 ^ s[register&15]
		}
	}
	return ^register
}

// On goes on with a sum.
func On(sum uint32, b []byte) uint32 {
	once.Do(table.fill)
	s := table
	if w := worked(); s != w { // a table that isn't whole isn't gone by
		s = w
	}
	return s.on(sum, b)
}

// Of is the sum of bytes.
func Of(b []byte) uint32 { return On(0, b) }
