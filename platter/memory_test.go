package platter_test

import (
	"bytes"
	"slices"
	"testing"

	"platter/api"
	"platter/platter"
)

// roomy hands columns over as pieces of one memory, one directly behind the other: the spare room of each is all
// that follows it, and behind the list of them are further ones. It tells them and all the memory behind them.
func roomy(columns [][]byte) ([][]byte, [][]byte, []byte) {
	var memory []byte
	for _, column := range columns {
		memory = append(memory, column...)
	}
	memory = append(memory, whole(201)...)
	var all [][]byte
	at := 0
	for _, column := range columns {
		all = append(all, memory[at:at+len(column)])
		at += len(column)
	}
	all = append(all, whole(202), whole(203), whole(204))
	return all[:len(columns)], all, memory
}

// roomyNumbers: the same for numbers.
func roomyNumbers(l []int) ([]int, []int) {
	all := append(slices.Clone(l), 91, 92, 93)
	return all[:len(l)], all
}

// untouched makes a call and tells whether what was handed in, and all behind it, is as it was.
func untouched(t *testing.T, name string, columns [][]byte, missing []int, call func(columns [][]byte, missing []int)) {
	t.Helper()
	given, all, memory := roomy(columns)
	numbers, allNumbers := roomyNumbers(missing)
	wasAll, wasMemory, wasNumbers := clone(all), bytes.Clone(memory), slices.Clone(allNumbers)
	places := make([]*byte, len(all))
	for i := range all {
		if cap(all[i]) > 0 {
			places[i] = &all[i][:1][0]
		}
	}
	call(given, numbers)
	if !bytes.Equal(memory, wasMemory) || !equal(all, wasAll) || !slices.Equal(allNumbers, wasNumbers) {
		t.Errorf("P2: %s(%v, %v) has written into what was handed in", name, columns, missing)
	}
	for i := range all {
		if cap(all[i]) > 0 && &all[i][:1][0] != places[i] {
			t.Errorf("P2: %s(%v, %v) has put another list in place %d", name, columns, missing, i)
		}
	}
}

// apart fills each of the lists to the end of its spare room, in turn, and tells whether another one changed.
func apart(t *testing.T, name string, lists ...[]byte) {
	t.Helper()
	for i := range lists {
		lists[i] = lists[i][:cap(lists[i])]
	}
	for i, filled := range lists {
		before := clone(lists)
		for place := range filled {
			filled[place] ^= 255
		}
		for k := range lists {
			if k != i && !bytes.Equal(lists[k], before[k]) {
				t.Errorf("P2: %s: lists %d and %d share memory", name, i, k)
			}
		}
	}
}

func TestNothingHandedInIsWritten(t *testing.T) {
	parity := func(columns [][]byte, _ []int) { platter.Parity(columns) }
	solve := func(columns [][]byte, missing []int) { platter.Solve(columns, missing) }
	locate := func(columns [][]byte, _ []int) { platter.Locate(columns) }
	var n numbers
	for count := 4; count <= 8; count++ {
		untouched(t, "Parity", n.columns(count-2), nil, parity)
		for _, columns := range [][][]byte{n.holding(count), n.columns(count)} {
			for _, missing := range choices(count) {
				untouched(t, "Solve", columns, missing, solve)
			}
			untouched(t, "Locate", columns, nil, locate)
			columns[1][1] ^= 1
			untouched(t, "Locate", columns, nil, locate)
		}
	}
	wrong := append(list(1, 2, 3), []byte{5, 6})
	untouched(t, "Parity", wrong, nil, parity)
	untouched(t, "Solve", wrong, nil, solve)
	untouched(t, "Solve", wrong, []int{3, 0}, solve)
	untouched(t, "Solve", wrong, []int{0, 1, 2}, solve)
	untouched(t, "Locate", wrong, nil, locate)
}

func TestParityIsNewMemory(t *testing.T) {
	data := list(1, 2)
	p, q, _ := platter.Parity(data)
	p2, q2, _ := platter.Parity(data)
	apart(t, "Parity", p, q, p2, q2, data[0], data[1])
	// A column of data that is equal to P all the same is not it.
	data = list(7, 0)
	p, q, _ = platter.Parity(data)
	apart(t, "Parity", p, q, data[0], data[1])
}

func TestSolveIsNewMemory(t *testing.T) {
	for _, missing := range choices(4) {
		columns := list(1, 2, 3, 5)
		first, _ := platter.Solve(columns, missing)
		second, _ := platter.Solve(columns, missing)
		apart(t, "Solve", slices.Concat(first, second, columns)...)
		// The lists of columns, too: another's place stays as it is when one's is filled to the end of its room.
		first, _ = platter.Solve(list(1, 2, 3, 5), missing)
		second, _ = platter.Solve(list(1, 2, 3, 5), missing)
		first = first[:cap(first)]
		clear(first)
		if !equal(second, list(1, 2, 3, 5)) {
			t.Errorf("P2: Solve with %v missing: two answers share their list", missing)
		}
	}
}

func TestLocateIsNewMemory(t *testing.T) {
	for wrong := range 4 {
		columns := list(1, 2, 3, 5)
		columns[wrong] = whole(77)
		_, _, first, _ := platter.Locate(columns)
		_, _, second, _ := platter.Locate(columns)
		apart(t, "Locate", append(columns, first, second)...)
	}
}

// TestOneMemoryForAll: the same list may be handed in as every column.
func TestOneMemoryForAll(t *testing.T) {
	one := whole(6)
	p, q, e := platter.Parity([][]byte{one, one})
	if e != api.OK || !bytes.Equal(p, whole(0)) || !bytes.Equal(q, whole(10)) {
		t.Errorf("P3: Parity of one list twice = %v, %v, %d", p, q, e)
	}
	found, e := platter.Solve([][]byte{one, one, one, one}, []int{1})
	if e != api.OK || !equal(found, list(6, 0, 6, 6)) {
		t.Errorf("P4: Solve of one list four times = %v, %d", found, e)
	}
	apart(t, "Solve", append(found, one)...)
}

// TestAnswersHangOnNothingElse: what the caller writes into an answer changes no later one.
func TestAnswersHangOnNothingElse(t *testing.T) {
	for range 3 {
		p, q, _ := platter.Parity(list(1, 2))
		found, _ := platter.Solve(list(1, 2, 3, 5), []int{0, 1})
		_, _, value, _ := platter.Locate(list(1, 7, 3, 5))
		if !bytes.Equal(p, whole(3)) || !bytes.Equal(q, whole(5)) || !equal(found, list(1, 2, 3, 5)) || !bytes.Equal(value, whole(2)) {
			t.Fatalf("P2: Parity %v, %v, Solve %v, Locate %v", p, q, found, value)
		}
		apart(t, "all", append(found, p, q, value)...)
	}
}
