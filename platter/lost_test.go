package platter_test

import (
	"bytes"
	"testing"

	"platter/api"
)

// TestDoneNotOk: behind a Done that is not ok the disk is gone; with two of them gone all blocks are read and written.
func TestDoneNotOk(t *testing.T) {
	var n numbers
	pairs(func(disks, one, two int) {
		b := readyBench(t, disks, 2, anyOf(&n))
		blocks := b.fill(&n)
		for _, disk := range []int{one, two} {
			b.lose(disk, true)
			b.change(&n, blocks)
			b.reads(blocks)
			b.stripesHold(blocks)
		}
		for disk, standing := range b.standings() {
			if (standing == api.Gone) != (disk == one || disk == two) {
				t.Fatalf("P11: disks %d and %d have failed: Member(%d) = %d", one, two, disk, standing)
			}
		}
	})
}

// TestLostOnTheWay: disks that fail at any moment, of the opening too, harm no block.
func TestLostOnTheWay(t *testing.T) {
	var n numbers
	for range 300 {
		b := newBench(t, 4+n.below(5), 1+n.below(3), anyOf(&n))
		blocks := blank(b.blocks())
		block := n.below(len(blocks))
		for range 2 {
			b.some(n.below(80))
			b.media[n.below(b.disks)].failed = true
			blocks[block] = n.block()
			b.submit(api.Write, block, blocks[block])
			b.submit(api.Read, block, nil)
		}
		b.rest()
		if got := b.results[3]; got.E != api.OK || !bytes.Equal(got.Data, blocks[block]) {
			t.Fatalf("P9: behind the loss of disks: %+v, want %v", got, blocks[block])
		}
		b.reads(blocks)
		b.stripesHold(blocks)
	}
}

// TestFailed: when a third disk has failed, all that waits has its result, and nothing more is asked for.
func TestFailed(t *testing.T) {
	var n numbers
	for steps := range 200 {
		for _, quiet := range []bool{false, true} {
			b := newBench(t, 4+n.below(5), 1, anyOf(&n))
			for range api.MaxRequests {
				b.submit(api.Write, n.below(b.blocks()), n.block())
			}
			b.some(steps)
			b.tell()
			had := len(b.results)
			for _, disk := range []int{0, 1, 3} {
				b.lose(disk, quiet)
			}
			for b.v.State() != api.Failed {
				had = len(b.results)
				b.tell()
				b.do(b.pick(b.told))
			}
			b.failed(had)
			for len(b.told) > 0 {
				b.do(b.pick(b.told))
				b.failed(had)
			}
			b.stays(had)
		}
	}
}

// stays lets all disks of a volume that has failed fail and be replaced: it is failed.
func (b *bench) stays(had int) {
	for disk := range b.media {
		b.wrong()
		b.lose(disk, false)
		b.failed(had)
		b.replace(disk)
		b.failed(had)
		b.wrong()
	}
	b.rest()
	b.failed(had)
	for disk, standing := range b.stood {
		if standing != api.Rebuilding {
			b.t.Fatalf("P11, P13: Member(%d) of a volume that has failed: %d", disk, standing)
		}
	}
}

// TestFailedAtTheOpening: three disks that are new, or have failed, are one too many.
func TestFailedAtTheOpening(t *testing.T) {
	var n numbers
	for disks := 4; disks <= 8; disks++ {
		for bare := range 4 {
			for moment := range 12 {
				b := readyBench(t, disks, 1, anyOf(&n))
				b.fill(&n)
				b.crash(&n)
				b.open(false)
				first := n.below(disks)
				for i := range bare {
					b.renewMedium((first + i) % disks)
				}
				for range api.MaxRequests {
					b.submit(api.Write, 0, n.block())
				}
				b.some(moment)
				for i := bare; i < 3; i++ {
					b.lose((first+i)%disks, n.below(2) == 0)
				}
				b.rest()
				had := len(b.results)
				for had > 0 && b.results[had-1].E == api.ErrFailed {
					had--
				}
				b.failed(had)
				if moment < disks && had > 0 {
					t.Fatalf("P13: %d disks, three not Current from the start: %d results", disks, had)
				}
			}
		}
	}
}

// failed holds a volume to P13 in which so many of six Writes had their results before it failed.
func (b *bench) failed(had int) {
	b.t.Helper()
	if state := b.v.State(); state != api.Failed {
		b.t.Fatalf("P13: State %d", state)
	}
	if given := b.v.Commands(); len(given) > 0 {
		b.t.Fatalf("P13: State is Failed, and there are the commands %v", given)
	}
	if len(b.results) != api.MaxRequests {
		b.t.Fatalf("P13: %d results", len(b.results))
	}
	for i, r := range b.results {
		want := api.Result{Id: i + 1}
		if i >= had {
			want.E = api.ErrFailed
		}
		if r.Id != want.Id || r.E != want.E || len(r.Data) > 0 || r.Verdict != 0 || r.Column != 0 {
			b.t.Fatalf("P13: the result %+v, want %+v", r, want)
		}
	}
	for _, r := range []api.Request{{Kind: api.Read}, {Kind: api.Flush}, {}, {Kind: api.Write, Number: least}} {
		if id, e := b.v.Submit(r); id != 0 || e != api.ErrFailed {
			b.t.Fatalf("P9: Submit(%+v) while State is Failed: %d, %d", r, id, e)
		}
	}
}

// TestAnyAnswer: whatever the disks answer, there is an end, and no panic.
func TestAnyAnswer(t *testing.T) {
	var n numbers
	for round := range 600 {
		b := newBench(t, 4+n.below(5), 1+n.below(6), anyOf(&n))
		for disk := range b.media {
			for s := range b.media[disk].cells {
				b.media[disk].cells[s].safe = n.block()[:api.Sector]
				if s < api.Own && round%3 > 0 && n.below(5) > 0 {
					b.media[disk].cells[s].safe = []byte{1, byte(n.below(50)), 0, 0, 0, 0, 0, 0}
				}
			}
		}
		b.open(round%2 == 0)
		b.rest()
		for b.v.State() == api.Ready && b.request < 24 {
			if b.request-len(b.results) > 3 {
				b.rest()
				continue
			}
			b.submit(api.Read, n.below(b.blocks()), nil)
			b.submit(api.Write, n.below(b.blocks()), n.block())
			b.submit(api.Scrub, n.below(b.stripes), nil)
			b.some(n.below(40))
			disk := n.below(b.disks)
			switch {
			case b.stood[disk] == api.Gone && !b.awaits(disk):
				b.replace(disk)
			case n.below(3) == 0:
				b.lose(disk, n.below(2) == 0)
			}
			b.some(n.below(100))
			if n.below(2) == 0 {
				b.rest()
			}
		}
	}
}
