// Package queue: what waits, in the order in which it came.
package queue

// Ring is a line of things that wait. A new Ring is empty and ready.
type Ring[T any] struct {
	places []T
	first  int
	count  int
}

// Len tells how many wait.
func (r *Ring[T]) Len() int {
	return r.count
}

// Put sets a thing at the end of the line.
func (r *Ring[T]) Put(thing T) {
	if r.count == len(r.places) {
		r.grow()
	}
	r.places[(r.first+r.count)%len(r.places)] = thing
	r.count++
}

// grow makes room, and lays the line out from the first place on.
func (r *Ring[T]) grow() {
	places := make([]T, 2*r.count+1)
	for i := range r.count {
		places[i] = r.places[(r.first+i)%len(r.places)]
	}
	r.places, r.first = places, 0
}

// First tells the first of the line, which stays there; false if none waits.
func (r *Ring[T]) First() (T, bool) {
	var none T
	if r.count == 0 {
		return none, false
	}
	return r.places[r.first], true
}

// Take takes the first out of the line; false if none waits.
func (r *Ring[T]) Take() (T, bool) {
	thing, ok := r.First()
	if !ok {
		return thing, false
	}
	// What was taken belongs to whoever took it: the ring holds on to none of it.
	var none T
	r.places[r.first] = none
	r.first = (r.first + 1) % len(r.places)
	r.count--
	return thing, true
}

// Keep lets those wait on that are wanted, in their order, and forgets the others.
func (r *Ring[T]) Keep(wanted func(T) bool) {
	for range r.count {
		if thing, ok := r.Take(); ok && wanted(thing) {
			r.Put(thing)
		}
	}
}
