// Package stripe: the columns of one stripe, and what can be told of some of them from the others.
package stripe

import (
	"slices"

	"platter/api"
	"platter/field"
)

// Column is an array, so that a copy of it shares nothing with whatever it was taken from.
type Column [api.Block]byte

// Sector is what a disk reads or writes at once: half a column.
type Sector [api.Sector]byte

// Split tells the two sectors of a column.
func (c Column) Split() (Sector, Sector) {
	return Sector(c[:api.Sector]), Sector(c[api.Sector:])
}

// Join tells the column of two sectors.
func Join(first, second Sector) Column {
	var column Column
	copy(column[:], first[:])
	copy(column[api.Sector:], second[:])
	return column
}

// plus adds two columns, place by place.
func plus(a, b Column) Column {
	for i := range a {
		a[i] ^= b[i]
	}
	return a
}

// times multiplies each place of a column by the same number.
func times(a Column, by byte) Column {
	for i := range a {
		a[i] = field.Times(a[i], by)
	}
	return a
}

// Parity tells the columns P and Q with which the stripe of these data columns holds.
func Parity(data []Column) (Column, Column) {
	var p, q Column
	for c, column := range data {
		p = plus(p, column)
		q = plus(q, times(column, field.Power(c)))
	}
	return p, q
}

// Solve tells all columns of a stripe of which at most two are missing. What does not need to be
// found from P or Q is not held against them: they come out as the data columns ask.
func Solve(columns []Column, missing []int) []Column {
	atP := len(columns) - 2
	data := slices.Clone(columns[:atP])
	lost := blank(data, missing)
	p, q := Parity(data)
	restP, restQ := plus(p, columns[atP]), plus(q, columns[atP+1])
	switch {
	case len(lost) == 2:
		data[lost[0]], data[lost[1]] = pair(lost[0], lost[1], restP, restQ)
	case len(lost) == 1 && slices.Contains(missing, atP):
		data[lost[0]] = times(restQ, field.Inverse(field.Power(lost[0])))
	case len(lost) == 1:
		data[lost[0]] = restP
	}
	p, q = Parity(data)
	return append(data, p, q)
}

// blank sets the data columns that are missing to 0, so that they add nothing to a sum, and tells which they are.
func blank(data []Column, missing []int) []int {
	var lost []int
	for _, c := range missing {
		if c < len(data) {
			data[c] = Column{}
			lost = append(lost, c)
		}
	}
	return lost
}

// pair finds the data columns a and b, whose sum is restP, and restQ if each counts by its power.
func pair(a, b int, restP, restQ Column) (Column, Column) {
	powerA, powerB := field.Power(a), field.Power(b)
	// restQ less powerB times restP leaves of column b nothing, of column a powerA less powerB times it.
	first := times(plus(restQ, times(restP, powerB)), field.Inverse(powerA^powerB))
	return first, plus(restP, first)
}

// Locate tells the verdict over a stripe, and if it is Repaired, the column that is wrong and what it should be.
func Locate(columns []Column) (int, int, Column) {
	atP := len(columns) - 2
	p, q := Parity(columns[:atP])
	offP, offQ := plus(p, columns[atP]), plus(q, columns[atP+1])
	var none Column
	switch {
	case offP == none && offQ == none:
		return api.Clean, 0, none
	case offQ == none:
		return api.Repaired, atP, p
	case offP == none:
		return api.Repaired, atP + 1, q
	}
	for c := range atP {
		// A fault in one data column shows in P as it is, and in Q by that column's power.
		if times(offP, field.Power(c)) == offQ {
			return api.Repaired, c, plus(columns[c], offP)
		}
	}
	return api.Unrepairable, 0, none
}
