// Package sum is layer 2: a sum that tells whether bytes are what they were.
package sum

import "sync"

// turned is the polynomial of CRC-32C, its lowest bit the highest power.
const turned = 0x82f63b78

// many is from how many bytes on the table is asked: fewer, as a page has, are worked out without it.
const many = 1 << 12

// steps tells, for each half of a byte, what four bits of it make of the register. (A table of whole bytes would be sixteen times as large.)
type steps [16]uint32

// The table is made once, by whoever comes first. It stands beside worked, which tells the same without it: no answer hangs on what the table holds.
var (
	once  sync.Once
	table steps
)

// shift takes so many bits out of the register.
func shift(register uint32, bits int) uint32 {
	for range bits {
		unlike := register&1 == 1
		register >>= 1
		if unlike {
			register ^= turned
		}
	}
	return register
}

// worked goes on with a sum bit by bit: nothing that is kept has a part in it.
func worked(sum uint32, b []byte) uint32 {
	register := ^sum
	for _, c := range b {
		register = shift(register^uint32(c), 8)
	}
	return ^register
}

// made are the steps.
func made() steps {
	var s steps
	for i := range len(s) {
		s[i] = shift(uint32(i), 4)
	}
	return s
}

// fill makes the table.
func (s *steps) fill() { *s = made() }

// on goes on with a sum, by the steps.
func (s steps) on(sum uint32, b []byte) uint32 {
	register := ^sum
	for _, c := range b {
		register ^= uint32(c)
		for range 2 {
			register = register>>4 ^ s[register&15]
		}
	}
	return ^register
}

// On goes on with a sum.
func On(sum uint32, b []byte) uint32 {
	if len(b) < many {
		return worked(sum, b)
	}
	once.Do(table.fill)
	if s := table; s == made() { // a table that isn't whole isn't gone by
		return s.on(sum, b)
	}
	return worked(sum, b)
}

// Of is the sum of bytes.
func Of(b []byte) uint32 { return worked(0, b) }
