// Package crc: CRC-32C: layer 1: see DOC.md and doc/01-crc.md.
package crc

import "salvor/api"

// poly is the divisor but for its highest power, the coefficient of x^31 as the lowest bit.
const poly = 0x82f63b78

// worthTables is how many bytes a text must have, for the tables to pay for their making.
const worthTables = 1024

// Bitwise goes on with a sum over some bytes, bit by bit.
func Bitwise(sum uint32, data []byte) uint32 {
	state := ^sum
	for _, b := range data {
		state = moveByte(state ^ uint32(b))
	}
	return ^state
}

// moveBit is the state behind one bit more; as a polynomial it is multiplied by x.
func moveBit(state uint32) uint32 {
	moved := state >> 1
	if state&1 == 1 {
		moved ^= poly
	}
	return moved
}

func moveByte(state uint32) uint32 {
	for range 8 {
		state = moveBit(state)
	}
	return state
}

// Tables are the tables for sums by one byte and by eight bytes at a time.
type Tables struct {
	// rows[k][b] is what the byte b makes of a state by the time that k bytes more have come behind it.
	rows [8][256]uint32
}

// New makes them.
func New() *Tables {
	t := &Tables{}
	for b := range 256 {
		t.rows[0][b] = moveByte(uint32(b))
	}
	for k := 1; k < 8; k++ {
		for b := range 256 {
			before := t.rows[k-1][b]
			t.rows[k][b] = t.rows[0][byte(before)] ^ before>>8
		}
	}
	return t
}

// made tells whether New made these: a Tables that a caller declared by itself has noughts alone, and a nil one nothing.
func (t *Tables) made() bool {
	return t != nil && t.rows[0][1] != 0
}

// ByTable goes on with a sum, byte by byte.
func (t *Tables) ByTable(sum uint32, data []byte) uint32 {
	if !t.made() {
		return Bitwise(sum, data)
	}
	state := ^sum
	for _, b := range data {
		state = t.rows[0][byte(state)^b] ^ state>>8
	}
	return ^state
}

// ByEight goes on with a sum, eight bytes at a time.
func (t *Tables) ByEight(sum uint32, data []byte) uint32 {
	if !t.made() {
		return Bitwise(sum, data)
	}
	state := ^sum
	for len(data) >= 8 {
		state = t.moveEight(state, data[:8])
		data = data[8:]
	}
	return t.ByTable(^state, data)
}

// moveEight is the state behind eight bytes more: the state itself reaches no further than the first four of them.
func (t *Tables) moveEight(state uint32, eight []byte) uint32 {
	first := state ^ fromBytes(eight[:4])
	second := fromBytes(eight[4:])
	return t.rows[7][byte(first)] ^ t.rows[6][byte(first>>8)] ^
		t.rows[5][byte(first>>16)] ^ t.rows[4][byte(first>>24)] ^
		t.rows[3][byte(second)] ^ t.rows[2][byte(second>>8)] ^
		t.rows[1][byte(second>>16)] ^ t.rows[0][byte(second>>24)]
}

// fromBytes takes the first byte as the lowest bits, as a state does.
func fromBytes(four []byte) uint32 {
	return uint32(four[0]) | uint32(four[1])<<8 | uint32(four[2])<<16 | uint32(four[3])<<24
}

// Sum is the sum of some texts, one behind the other.
func Sum(parts ...[]byte) uint32 {
	length := 0
	for _, part := range parts {
		length += len(part)
	}
	if length < worthTables {
		return sumWith(Bitwise, parts)
	}
	return sumWith(New().ByEight, parts)
}

func sumWith(goOn func(uint32, []byte) uint32, parts [][]byte) uint32 {
	var sum uint32
	for _, part := range parts {
		sum = goOn(sum, part)
	}
	return sum
}

// Join is the sum of two texts joined, out of their sums and how many bytes the second has.
func Join(a, b uint32, n int) (uint32, api.Errno) {
	if n < 0 {
		return 0, api.ErrCrcArg
	}
	// From a and from 0 on, n bytes 0 do the same to the bits that a sum is turned by: put together these are gone, and a alone is left, multiplied.
	return multiply(a, byZeros(n)) ^ b, api.OK
}

// byZeros is what n bytes 0 multiply a state by: x^8 to the power n. It doubles its way up, so that n of any size takes but a few steps.
func byZeros(n int) uint32 {
	power := uint32(1) << 31
	square := uint32(1) << 23
	for ; n > 0; n >>= 1 {
		if n&1 == 1 {
			power = multiply(power, square)
		}
		square = multiply(square, square)
	}
	return power
}

// multiply is the rest of two polynomials' product; the highest bit of each is the coefficient of 1.
func multiply(p, q uint32) uint32 {
	var product uint32
	for ; p != 0; p <<= 1 {
		if p>>31 == 1 {
			product ^= q
		}
		q = moveBit(q)
	}
	return product
}

// Forge is four bytes that, behind a text with a sum, make the sum what is wanted.
func Forge(sum, want uint32) []byte {
	state := ^want
	for range 32 {
		state = moveBack(state)
	}
	// Four bytes fill a state, so they turn the one that is there into any that must be there.
	four := state ^ ^sum
	return []byte{byte(four), byte(four >> 8), byte(four >> 16), byte(four >> 24)}
}

// moveBack is the one state of which moveBit makes this one. The highest bit tells which bit fell out: a move leaves a nought there, and poly has a one.
func moveBack(state uint32) uint32 {
	if state>>31 == 1 {
		return (state^poly)<<1 | 1
	}
	return state << 1
}
