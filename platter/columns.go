package platter

import (
	"bytes"
	"slices"

	"platter/api"
	"platter/stripe"
)

// Parity tells the two parity columns of data columns (P3).
func Parity(data [][]byte) ([]byte, []byte, api.Errno) {
	if !between(len(data), api.MinDisks-2, api.MaxDisks-2) {
		return nil, nil, api.ErrArg
	}
	columns, ok := take(data, nil)
	if !ok {
		return nil, nil, api.ErrArg
	}
	p, q := stripe.Parity(columns)
	return give(p), give(q), api.OK
}

// Solve finds missing columns again (P4).
func Solve(columns [][]byte, missing []int) ([][]byte, api.Errno) {
	if !between(len(columns), api.MinDisks, api.MaxDisks) || !distinct(missing, len(columns)) {
		return nil, api.ErrArg
	}
	taken, ok := take(columns, missing)
	if !ok {
		return nil, api.ErrArg
	}
	if len(missing) > 2 {
		return nil, api.ErrLost
	}
	var answer [][]byte
	for _, column := range stripe.Solve(taken, missing) {
		answer = append(answer, give(column))
	}
	return answer, api.OK
}

// Locate finds a column that is wrong (P5).
func Locate(columns [][]byte) (int, int, []byte, api.Errno) {
	if !between(len(columns), api.MinDisks, api.MaxDisks) {
		return 0, 0, nil, api.ErrArg
	}
	taken, ok := take(columns, nil)
	if !ok {
		return 0, 0, nil, api.ErrArg
	}
	verdict, column, value := stripe.Locate(taken)
	if verdict != api.Repaired {
		return verdict, 0, nil, api.OK
	}
	return verdict, column, give(value), api.OK
}

// between tells whether a number is one of low to high.
func between(number, low, high int) bool {
	return low <= number && number <= high
}

// distinct tells whether each of the numbers is that of a column, and none stands there twice.
func distinct(numbers []int, columns int) bool {
	var seen [api.MaxDisks]bool
	for _, c := range numbers {
		if !between(c, 0, columns-1) || seen[c] {
			return false
		}
		seen[c] = true
	}
	return true
}

// take copies what the caller has, so that nothing of it is kept or written into. The columns
// that are missing are not looked at, and come out as 0. It is not ok if another has not Block bytes.
func take(lists [][]byte, missing []int) ([]stripe.Column, bool) {
	columns := make([]stripe.Column, len(lists))
	for c, list := range lists {
		if slices.Contains(missing, c) {
			continue
		}
		if len(list) != api.Block {
			return nil, false
		}
		columns[c] = stripe.Column(list)
	}
	return columns, true
}

// give makes a list of its own for the caller, who may write into it.
func give(column stripe.Column) []byte {
	return bytes.Clone(column[:])
}
