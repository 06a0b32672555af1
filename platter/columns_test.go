package platter_test

import (
	"bytes"
	"slices"
	"testing"

	"platter/api"
	"platter/platter"
)

func TestParityExamples(t *testing.T) {
	for _, c := range []struct {
		data [][]byte
		p, q byte
	}{
		{list(1, 2), 3, 5},
		{list(0, 0, 0, 128), 128, 116},
		{list(0, 128), 128, 29},
		{list(0, 142), 142, 1},
		{list(0, 0, 0, 0, 0, 0), 0, 0},
		{list(1, 1, 1, 1, 1, 1), 0, 63},
	} {
		p, q, e := platter.Parity(c.data)
		if e != api.OK || !bytes.Equal(p, whole(c.p)) || !bytes.Equal(q, whole(c.q)) {
			t.Errorf("P3: Parity(%v) = %v, %v, %d, want %d, %d", c.data, p, q, e, c.p, c.q)
		}
	}
}

func TestParityHolds(t *testing.T) {
	var n numbers
	for count := 2; count <= 6; count++ {
		for range 50 {
			data := n.columns(count)
			p, q, e := platter.Parity(data)
			if e != api.OK || len(p) != api.Block || len(q) != api.Block || !stripeHolds(append(data, p, q)) {
				t.Fatalf("P3: Parity(%v) = %v, %v, %d", data, p, q, e)
			}
		}
	}
}

func TestParityErrors(t *testing.T) {
	for _, data := range [][][]byte{
		nil, {}, list(1), list(1, 2, 3, 4, 5, 6, 7), make([][]byte, 1000),
		{whole(1), nil}, {nil, whole(1)}, {whole(1), {}}, {whole(1)[:15], whole(2)}, {whole(1), append(whole(2), 0)},
		{whole(1), whole(2), whole(3), whole(4), whole(5), whole(6)[:15]},
	} {
		if p, q, e := platter.Parity(data); p != nil || q != nil || e != api.ErrArg {
			t.Errorf("P1, P3: Parity(%v) = %v, %v, %d, want ErrArg", data, p, q, e)
		}
	}
}

func TestSolveExamples(t *testing.T) {
	good := list(1, 2, 3, 5)
	for _, c := range []struct {
		columns [][]byte
		missing []int
		want    [][]byte
	}{
		{good, []int{0, 1}, good},
		{good, []int{0, 3}, good},
		{good, []int{2, 3}, good},
		{list(1, 2, 9, 5), nil, good},
		{list(1, 2, 9, 9), nil, good},
		{list(1, 2, 9, 9), []int{2}, good},
		{list(1, 2, 9, 9), []int{3}, good},
		{list(9, 2, 3, 9), []int{0}, good},
		{list(1, 9, 3, 9), []int{1}, good},
		{list(9, 2, 9, 5), []int{0, 2}, good},
		{list(1, 9, 9, 5), []int{2, 1}, good},
	} {
		if got, e := platter.Solve(c.columns, c.missing); e != api.OK || !equal(got, c.want) {
			t.Errorf("P4: Solve(%v, %v) = %v, %d, want %v", c.columns, c.missing, got, e, c.want)
		}
	}
}

// TestSolveFindsAgain: in stripes that hold any two columns are found, whatever stands in their place.
func TestSolveFindsAgain(t *testing.T) {
	var n numbers
	for count := 4; count <= 8; count++ {
		want := n.holding(count)
		for _, missing := range choices(count) {
			for _, instead := range [][]byte{nil, {}, {1}, whole(99), bytes.Repeat([]byte{7}, 40)} {
				columns := clone(want)
				for _, c := range missing {
					columns[c] = instead
				}
				if got, e := platter.Solve(columns, missing); e != api.OK || !equal(got, want) {
					t.Fatalf("P4: Solve(%v, %v) = %v, %d, want %v", columns, missing, got, e, want)
				}
			}
		}
	}
}

// TestSolveWhereNothingHolds: which columns of a stripe that does not hold are kept, and that the answer holds.
func TestSolveWhereNothingHolds(t *testing.T) {
	var n numbers
	for count := 4; count <= 8; count++ {
		for _, missing := range choices(count) {
			columns := n.columns(count)
			got, e := platter.Solve(columns, missing)
			if e != api.OK || len(got) != count || !stripeHolds(got) {
				t.Fatalf("P4: Solve(%v, %v) = %v, %d", columns, missing, got, e)
			}
			for _, c := range kept(count, missing) {
				if !bytes.Equal(got[c], columns[c]) {
					t.Fatalf("P4: Solve(%v, %v) = %v: column %d is another", columns, missing, got, c)
				}
			}
		}
	}
}

// kept: the columns that come out as they were. With two missing all the others; else the data columns, and P if it stands for one.
func kept(count int, missing []int) []int {
	lostData := slices.ContainsFunc(missing, func(c int) bool { return c < count-2 })
	var all []int
	for c := range count {
		switch {
		case slices.Contains(missing, c):
		case len(missing) == 2 || c < count-2 || c == count-2 && lostData:
			all = append(all, c)
		}
	}
	return all
}

func TestSolveErrors(t *testing.T) {
	good := list(1, 2, 3, 5)
	short := append(list(1, 2, 3), []byte{5})
	for _, c := range []struct {
		columns [][]byte
		missing []int
		want    api.Errno
	}{
		{good, []int{4}, api.ErrArg},
		{good, []int{1, 1}, api.ErrArg},
		{good, []int{-1}, api.ErrArg},
		{good, []int{most}, api.ErrArg},
		{good, []int{least}, api.ErrArg},
		{good, []int{0, most}, api.ErrArg},
		{nil, nil, api.ErrArg},
		{nil, []int{0, 1, 2}, api.ErrArg},
		{good[:3], nil, api.ErrArg},
		{list(1, 2, 3, 4, 5, 6, 7, 8, 9), nil, api.ErrArg},
		{list(1, 2, 3, 4, 5, 6, 7, 8, 9), []int{8}, api.ErrArg},
		{list(1, 2, 3, 4, 5, 6, 7, 8), []int{8}, api.ErrArg},
		{short, nil, api.ErrArg},
		{short, []int{0, 1}, api.ErrArg},
		{[][]byte{nil, whole(2), whole(3), whole(5)}, []int{1}, api.ErrArg},
		{[][]byte{whole(1), append(whole(2), 2), whole(3), whole(5)}, []int{0}, api.ErrArg},
		{good, []int{0, 1, 2}, api.ErrLost},
		{good, []int{3, 2, 1, 0}, api.ErrLost},
		{make([][]byte, 8), []int{0, 1, 2, 3, 4, 5, 6, 7}, api.ErrLost},
		// Where both apply, ErrArg is the one named first.
		{short, []int{0, 1, 2}, api.ErrArg},
		{good, []int{0, 1, 4}, api.ErrArg},
		{good, []int{0, 1, 2, 2}, api.ErrArg},
		{good[:3], []int{0, 1, 2}, api.ErrArg},
		{good, make([]int, 100000), api.ErrArg},
	} {
		if got, e := platter.Solve(c.columns, c.missing); got != nil || e != c.want {
			t.Errorf("P1, P4: Solve(%v, %d missing) = %v, %d, want %d", c.columns, len(c.missing), got, e, c.want)
		}
	}
	if got, e := platter.Solve(short, []int{3}); e != api.OK || !equal(got, good) {
		t.Errorf("P4: a missing column may have any length: %v, %d", got, e)
	}
}

// TestSolveErrorsEverywhere: any number of columns, any one of another length, any numbers missing.
func TestSolveErrorsEverywhere(t *testing.T) {
	for count := range 11 {
		for odd := range count + 1 {
			columns := list(make([]byte, count)...)
			if odd < count {
				columns[odd] = columns[odd][:15]
			}
			for _, missing := range lists(-1, count) {
				want := solveErrno(columns, missing)
				got, e := platter.Solve(columns, missing)
				if e != want || want != api.OK && got != nil || want == api.OK && !equal(got, list(make([]byte, count)...)) {
					t.Fatalf("P1, P4: Solve(%v, %v) = %v, %d, want %d", columns, missing, got, e, want)
				}
			}
		}
	}
}

// lists: every list of at most three numbers of low to high.
func lists(low, high int) [][]int {
	all := [][]int{nil}
	for from, length := 0, 0; length < 3; length++ {
		end := len(all)
		for _, l := range all[from:end] {
			for number := low; number <= high; number++ {
				all = append(all, append(slices.Clone(l), number))
			}
		}
		from = end
	}
	return all
}

// solveErrno: the error that the document asks for.
func solveErrno(columns [][]byte, missing []int) api.Errno {
	if len(columns) < 4 || len(columns) > 8 {
		return api.ErrArg
	}
	for i, number := range missing {
		if number < 0 || number >= len(columns) || slices.Contains(missing[:i], number) {
			return api.ErrArg
		}
	}
	for c, column := range columns {
		if len(column) != 16 && !slices.Contains(missing, c) {
			return api.ErrArg
		}
	}
	if len(missing) > 2 {
		return api.ErrLost
	}
	return api.OK
}

func TestLocateExamples(t *testing.T) {
	apart := list(1, 2, 3, 5)
	apart[0][4], apart[2][11] = 9, 9
	for _, c := range []struct {
		columns         [][]byte
		verdict, column int
		value           []byte
	}{
		{list(1, 2, 3, 5), api.Clean, 0, nil},
		{list(1, 7, 3, 5), api.Repaired, 1, whole(2)},
		{list(1, 2, 3, 4), api.Repaired, 3, whole(5)},
		{list(1, 2, 0, 5), api.Repaired, 2, whole(3)},
		{list(1, 7, 3, 4), api.Unrepairable, 0, nil},
		{apart, api.Unrepairable, 0, nil},
	} {
		verdict, column, value, e := platter.Locate(c.columns)
		if e != api.OK || verdict != c.verdict || column != c.column || !bytes.Equal(value, c.value) {
			t.Errorf("P5: Locate(%v) = %d, %d, %v, %d, want %d, %d, %v", c.columns, verdict, column, value, e, c.verdict, c.column, c.value)
		}
	}
}

// search finds a wrong column by going through all values of every place of every column.
func search(columns [][]byte) (int, int, []byte) {
	if stripeHolds(columns) {
		return api.Clean, 0, nil
	}
	for c := range columns {
		if value := searchColumn(clone(columns), c); value != nil {
			return api.Repaired, c, value
		}
	}
	return api.Unrepairable, 0, nil
}

func searchColumn(columns [][]byte, c int) []byte {
	for place := range api.Block {
		found := false
		for b := 0; b < 256 && !found; b++ {
			columns[c][place] = byte(b)
			found = holdsAt(columns, place)
		}
		if !found {
			return nil
		}
	}
	return columns[c]
}

// TestLocateFindsAll: with one place, several or all of one column changed, and with changes in two columns.
func TestLocateFindsAll(t *testing.T) {
	var n numbers
	for count := 4; count <= 8; count++ {
		good := n.holding(count)
		for x := range count {
			for _, places := range [][]int{{0}, {15}, {3, 12}, {0, 1, 2, 3, 4, 5, 6, 7, 8, 9, 10, 11, 12, 13, 14, 15}} {
				columns := clone(good)
				for _, place := range places {
					columns[x][place] ^= n.next() | 1
				}
				checkLocate(t, columns, api.Repaired)
				columns[(x+1)%count][14] ^= 1
				checkLocate(t, columns, api.Unrepairable)
			}
		}
		checkLocate(t, good, api.Clean)
		checkLocate(t, n.columns(count), api.Unrepairable)
	}
}

func checkLocate(t *testing.T, columns [][]byte, hoped int) {
	t.Helper()
	verdict, column, value := search(columns)
	if verdict != hoped {
		t.Fatalf("the test itself: %v should be %d, is %d", columns, hoped, verdict)
	}
	gotVerdict, gotColumn, gotValue, e := platter.Locate(columns)
	if e != api.OK || gotVerdict != verdict || gotColumn != column || !bytes.Equal(gotValue, value) {
		t.Errorf("P5: Locate(%v) = %d, %d, %v, %d, want %d, %d, %v", columns, gotVerdict, gotColumn, gotValue, e, verdict, column, value)
	}
}

func TestLocateErrors(t *testing.T) {
	for _, columns := range [][][]byte{
		nil, {}, list(1, 2, 3), list(1, 2, 3, 4, 5, 6, 7, 8, 9), make([][]byte, 1000), make([][]byte, 4),
		{whole(1), whole(7), whole(3), whole(5)[:15]}, {nil, whole(7), whole(3), whole(5)}, {whole(1), append(whole(7), 0), whole(3), whole(5)},
	} {
		if verdict, column, value, e := platter.Locate(columns); verdict != 0 || column != 0 || value != nil || e != api.ErrArg {
			t.Errorf("P1, P5: Locate(%v) = %d, %d, %v, %d, want ErrArg", columns, verdict, column, value, e)
		}
	}
}
