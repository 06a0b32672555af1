package stripe

import (
	"slices"
	"testing"

	"platter/api"
)

// of: columns of one byte each.
func of(values ...byte) []Column {
	columns := make([]Column, len(values))
	for c, value := range values {
		for i := range columns[c] {
			columns[c][i] = value
		}
	}
	return columns
}

func TestParityOfColumns(t *testing.T) {
	want := of(3, 5)
	if p, q := Parity(of(1, 2)); p != want[0] || q != want[1] {
		t.Errorf("P3: Parity = %v, %v, want %v", p, q, want)
	}
}

// TestSolveLeavesItsColumns: what is handed in is as it was, the columns that are missing too.
func TestSolveLeavesItsColumns(t *testing.T) {
	for _, missing := range [][]int{nil, {0}, {0, 1}, {1, 2}, {2, 3}} {
		columns := of(1, 2, 3, 5)
		for _, c := range missing {
			columns[c] = of(77)[0]
		}
		before := slices.Clone(columns)
		if got := Solve(columns, missing); !slices.Equal(got, of(1, 2, 3, 5)) {
			t.Errorf("P4: Solve with %v missing = %v", missing, got)
		}
		if !slices.Equal(columns, before) {
			t.Errorf("P2: Solve with %v missing has written into its columns: %v", missing, columns)
		}
	}
}

func TestLocateOfColumns(t *testing.T) {
	for _, c := range []struct {
		columns         []Column
		verdict, column int
		value           Column
	}{
		{of(1, 2, 3, 5), api.Clean, 0, Column{}},
		{of(1, 7, 3, 5), api.Repaired, 1, of(2)[0]},
		{of(1, 2, 9, 5), api.Repaired, 2, of(3)[0]},
		{of(1, 2, 3, 4), api.Repaired, 3, of(5)[0]},
		{of(1, 7, 3, 4), api.Unrepairable, 0, Column{}},
	} {
		if verdict, column, value := Locate(c.columns); verdict != c.verdict || column != c.column || value != c.value {
			t.Errorf("P5: Locate(%v) = %d, %d, %v", c.columns, verdict, column, value)
		}
	}
}

func TestSplitAndJoin(t *testing.T) {
	var column Column
	for i := range column {
		column[i] = byte(i + 1)
	}
	first, second := column.Split()
	if first != (Sector{1, 2, 3, 4, 5, 6, 7, 8}) || second != (Sector{9, 10, 11, 12, 13, 14, 15, 16}) {
		t.Errorf("Split = %v, %v", first, second)
	}
	if got := Join(first, second); got != column {
		t.Errorf("Join = %v", got)
	}
}
