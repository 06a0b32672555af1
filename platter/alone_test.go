package platter_test

import (
	"bytes"
	"fmt"
	"slices"
	"testing"

	"platter/api"
)

// life: a volume that is asked this and that, step by step, and what was seen of it.
type life struct {
	*bench
	n   numbers
	log []string
}

func newLife(t *testing.T, seed numbers, disks, stripes int) *life {
	l := &life{n: seed}
	l.bench = newBench(t, disks, stripes, func(waiting []order) int { return l.n.below(len(waiting)) })
	l.seen = func(c api.Command) { l.log = append(l.log, fmt.Sprint(c)) }
	return l
}

// step submits something, if there is room, lets a disk fail or be replaced now and then, and lets some commands be done.
func (l *life) step() {
	if l.n.below(4) == 0 {
		l.trouble(&l.n)
	}
	if l.request-len(l.results) < api.MaxRequests {
		block := l.n.below(l.blocks())
		switch l.n.below(4) {
		case 0:
			l.submit(api.Flush, 0, nil)
		case 1:
			l.submit(api.Read, block, nil)
		default:
			l.submit(api.Write, block, l.n.block())
		}
	}
	l.some(l.n.below(60))
}

// end tells all that was seen.
func (l *life) end() []string {
	l.rest()
	for _, r := range l.results {
		l.log = append(l.log, fmt.Sprint(r))
	}
	for disk := range l.disks {
		standing, e := l.v.Member(disk)
		l.log = append(l.log, fmt.Sprint(l.v.State(), standing, e))
	}
	return l.log
}

func alone(t *testing.T, seed numbers, disks, stripes int) []string {
	l := newLife(t, seed, disks, stripes)
	for range 30 {
		l.step()
	}
	return l.end()
}

// TestSameAgain: a volume hangs on what Open was given, and on its calls.
func TestSameAgain(t *testing.T) {
	sizes(func(disks, stripes int) {
		if one, two := alone(t, 5, disks, stripes), alone(t, 5, disks, stripes); !slices.Equal(one, two) {
			t.Errorf("P2: %d disks: two volumes with the same calls go two ways", disks)
		}
	})
}

// TestSideBySide: volumes that live at the same time do not touch each other.
func TestSideBySide(t *testing.T) {
	one, two, three := newLife(t, 1, 4, 6), newLife(t, 2, 8, 1), newLife(t, 1, 4, 6)
	for range 30 {
		one.step()
		two.step()
		three.step()
	}
	for i, l := range []*life{one, two, three} {
		if !slices.Equal(l.end(), alone(t, []numbers{1, 2, 1}[i], l.disks, l.stripes)) {
			t.Errorf("P2: volume %d goes another way with others beside it", i)
		}
	}
}

// wrongCalls: calls that are errors at any moment.
func (l *life) wrongCalls() {
	l.t.Helper()
	l.wrongDones()
	wrong := []api.Request{{}, {Kind: -1}, {Kind: api.Read, Number: l.blocks()}, {Kind: api.Read, Data: whole(1)}, {Kind: api.Write, Number: -1, Data: whole(1)}, {Kind: api.Write, Data: whole(1)[:8]}, {Kind: api.Flush, Number: 1}, {Kind: api.Scrub, Number: l.stripes}}
	for _, r := range wrong {
		if id, e := l.v.Submit(r); id != 0 || e != api.ErrArg {
			l.t.Fatalf("P9: Submit(%+v) = %d, %d", r, id, e)
		}
	}
	l.wrong()
	if l.request-len(l.results) < api.MaxRequests {
		return
	}
	for _, r := range []api.Request{{Kind: api.Read}, {Kind: api.Write, Data: whole(99)}, {Kind: api.Flush}, {Kind: api.Scrub}} {
		if id, e := l.v.Submit(r); id != 0 || e != api.ErrBusy {
			l.t.Fatalf("P9: Submit(%+v) while six wait = %d, %d", r, id, e)
		}
	}
}

// TestAsItWas: behind an error a volume is as it was: it goes on like one that was never asked.
func TestAsItWas(t *testing.T) {
	sizes(func(disks, stripes int) {
		l := newLife(t, 9, disks, stripes)
		pick := l.pick
		l.pick = func(waiting []order) int {
			l.wrongCalls()
			return pick(waiting)
		}
		for range 30 {
			l.wrongCalls()
			l.step()
		}
		if !slices.Equal(l.end(), alone(t, 9, disks, stripes)) {
			t.Errorf("P1: %d disks: calls with errors have changed a volume", disks)
		}
	})
}

// TestVolumeAnswersAreNewMemory: no two lists that come out share a place, and what the caller writes there changes nothing.
func TestVolumeAnswersAreNewMemory(t *testing.T) {
	var n numbers
	b := newBench(t, 5, 1, anyOf(&n))
	data := n.block()
	for range 2 {
		b.submit(api.Write, 0, data)
		b.submit(api.Read, 0, nil)
	}
	var lists [][]byte
	b.seen = func(c api.Command) {
		if len(c.Data) == 0 {
			return
		}
		lists = append(lists, c.Data)
	}
	b.fail(3)
	b.replace(3)
	b.rest()
	for _, r := range b.results {
		if len(r.Data) > 0 {
			lists = append(lists, r.Data)
		}
	}
	b.seen = nil
	apart(t, "Commands and Results", lists...)
	if got := b.read(0); !bytes.Equal(got, data) {
		t.Errorf("P2: what the caller wrote into answers has changed the block to %v, it was %v", got, data)
	}
	b.stripesHold([][]byte{data, whole(0), whole(0)})
}

// TestListsAreNewMemory: the lists of commands and of results are the caller's, their spare room too.
func TestListsAreNewMemory(t *testing.T) {
	b := newBench(t, 4, 1, last)
	b.silent = true
	var commands [][]api.Command
	var results [][]api.Result
	for range 4 {
		b.submit(api.Write, 0, whole(5))
		b.submit(api.Read, 0, nil)
		for given := b.v.Commands(); len(given) > 0; given = b.v.Commands() {
			b.take(given)
			commands = append(commands, given)
			for len(b.told) > 0 {
				b.do(b.pick(b.told))
			}
		}
		results = append(results, b.v.Results())
	}
	listsApart(t, "Commands", commands, api.Command{Id: -1})
	listsApart(t, "Results", results, api.Result{Id: -1})
}

// listsApart fills each list to the end of its spare room, in turn, and tells whether one that is not filled yet changed.
func listsApart[T any](t *testing.T, name string, lists [][]T, fill T) {
	t.Helper()
	for i, list := range lists {
		before := fmt.Sprint(lists[i+1:])
		list = list[:cap(list)]
		for k := range list {
			list[k] = fill
		}
		if fmt.Sprint(lists[i+1:]) != before {
			t.Errorf("P2: the list %d of %s shares memory with a later one", i, name)
		}
	}
}
