package platter_test

import (
	"bytes"

	"platter/api"
)

// What the document says of bytes and stripes, written down a second time and slowly, to hold the program against.

const (
	most  = 1<<63 - 1
	least = -1 << 63
)

// counts tells what a byte of data column c counts in Q: it multiplied by 2 c times.
func counts(b byte, c int) byte {
	for range c {
		top := b >> 7
		b <<= 1
		if top == 1 {
			b ^= 29
		}
	}
	return b
}

// holdsAt tells whether a stripe holds at one place.
func holdsAt(columns [][]byte, place int) bool {
	atP := len(columns) - 2
	var p, q byte
	for c := range atP {
		p ^= columns[c][place]
		q ^= counts(columns[c][place], c)
	}
	return p == columns[atP][place] && q == columns[atP+1][place]
}

func stripeHolds(columns [][]byte) bool {
	for place := range api.Block {
		if !holdsAt(columns, place) {
			return false
		}
	}
	return true
}

// whole: a column of one byte, sixteen times.
func whole(b byte) []byte { return bytes.Repeat([]byte{b}, api.Block) }

// list: columns of one byte each.
func list(values ...byte) [][]byte {
	var columns [][]byte
	for _, b := range values {
		columns = append(columns, whole(b))
	}
	return columns
}

func clone(columns [][]byte) [][]byte {
	var copied [][]byte
	for _, column := range columns {
		copied = append(copied, bytes.Clone(column))
	}
	return copied
}

func equal(a, b [][]byte) bool {
	if len(a) != len(b) {
		return false
	}
	for i := range a {
		if !bytes.Equal(a[i], b[i]) {
			return false
		}
	}
	return true
}

// numbers tells one number after the other, the same ones in every run.
type numbers uint32

func (n *numbers) next() byte {
	*n = *n*1664525 + 1013904223
	return byte(*n >> 24)
}

func (n *numbers) columns(count int) [][]byte {
	columns := list(make([]byte, count)...)
	for _, column := range columns {
		for i := range column {
			column[i] = n.next()
		}
	}
	return columns
}

// withParity: the columns of the stripe that holds and has these data columns.
func withParity(data [][]byte) [][]byte {
	p, q := whole(0), whole(0)
	for c, column := range data {
		for place, b := range column {
			p[place] ^= b
			q[place] ^= counts(b, c)
		}
	}
	return append(clone(data), p, q)
}

// holding: any stripe of so many columns that holds.
func (n *numbers) holding(count int) [][]byte {
	return withParity(n.columns(count - 2))
}

// choices: every list of no, one or two different columns, in both orders.
func choices(count int) [][]int {
	all := [][]int{nil, {}}
	for x := range count {
		all = append(all, []int{x})
		for y := range count {
			if x != y {
				all = append(all, []int{x, y})
			}
		}
	}
	return all
}
