// Package field: bytes as numbers of the field in which the parity columns are reckoned.
// To add two of them is the exclusive or, which the language has already.
package field

import "platter/api"

// fallen: what the bits 8, 9, .. 14 of a product stand for, those that fall out at the top of a byte.
var fallen = [7]byte{29, 58, 116, 232, 205, 135, 19}

// powers: those of 2 by which the data columns 0, 1, .. count in the column Q.
var powers = [api.MaxDisks - 2]byte{1, 2, 4, 8, 16, 32}

// Times multiplies two numbers.
func Times(a, b byte) byte {
	wide := product(a, b)
	low := byte(wide)
	for bit, value := range fallen {
		if wide>>(8+bit)&1 == 1 {
			low ^= value
		}
	}
	return low
}

// product multiplies without folding the bits back that fall out of a byte.
func product(a, b byte) uint16 {
	var sum uint16
	for bit := range 8 {
		if b>>bit&1 == 1 {
			sum ^= uint16(a) << bit
		}
	}
	return sum
}

// Power tells 2 to the power column, for a data column that there may be.
func Power(column int) byte {
	return powers[column]
}

// Inverse tells by what a number is multiplied to 1; of 0, which has none, it tells 0.
func Inverse(a byte) byte {
	// A number to the power 255 is 1, so its inverse is the power 254: 2 + 4 + .. + 128.
	inverse, square := byte(1), a
	for range 7 {
		square = Times(square, square)
		inverse = Times(inverse, square)
	}
	return inverse
}
