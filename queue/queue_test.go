package queue

import (
	"slices"
	"testing"
)

// drain takes all out.
func drain[T any](r *Ring[T]) []T {
	var all []T
	for {
		thing, ok := r.Take()
		if !ok {
			return all
		}
		all = append(all, thing)
	}
}

func TestEmpty(t *testing.T) {
	var r Ring[string]
	if thing, ok := r.First(); thing != "" || ok || r.Len() != 0 {
		t.Errorf("First of an empty ring: %q, %v", thing, ok)
	}
	if thing, ok := r.Take(); thing != "" || ok || r.Len() != 0 {
		t.Errorf("Take of an empty ring: %q, %v", thing, ok)
	}
	r.Keep(func(string) bool { return true })
}

// TestOrder: things come out as they came in, while the ring grows and goes round.
func TestOrder(t *testing.T) {
	var r Ring[int]
	in, out := 0, 0
	for round := range 40 {
		for range round % 7 * 3 {
			r.Put(in)
			in++
		}
		for range round % 5 * 4 {
			first, there := r.First()
			got, ok := r.Take()
			if ok != (out < in) || there != ok || ok && (got != out || first != out) {
				t.Fatalf("Take = %d, %v, First = %d, %v, want %d of %d", got, ok, first, there, out, in)
			}
			if ok {
				out++
			}
		}
		if r.Len() != in-out {
			t.Fatalf("Len = %d, want %d", r.Len(), in-out)
		}
	}
}

func TestKeep(t *testing.T) {
	for from := range 9 {
		var r Ring[int]
		for i := range from + 8 {
			r.Put(i)
		}
		for range from {
			r.Take()
		}
		r.Put(from + 8)
		r.Keep(func(i int) bool { return i%3 != 0 })
		var want []int
		for i := from; i <= from+8; i++ {
			if i%3 != 0 {
				want = append(want, i)
			}
		}
		if got := drain(&r); !slices.Equal(got, want) {
			t.Errorf("Keep from %d on left %v, want %v", from, got, want)
		}
	}
}

// TestNothingHeld: what was taken, or not kept, is not held on to.
func TestNothingHeld(t *testing.T) {
	var r Ring[*int]
	for range 5 {
		r.Put(new(int))
	}
	r.Take()
	r.Keep(func(*int) bool { return false })
	for i, p := range r.places {
		if p != nil {
			t.Errorf("place %d of an empty ring holds something", i)
		}
	}
}
