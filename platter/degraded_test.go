package platter_test

import (
	"testing"

	"platter/api"
)

// TestScrubDegraded: with a disk gone, of which the volume knows or not yet, or with two, nothing can be told.
func TestScrubDegraded(t *testing.T) {
	var n numbers
	pairs(func(disks, one, two int) {
		b := readyBench(t, disks, 2, anyOf(&n))
		blocks := b.fill(&n)
		for _, disk := range []int{one, two} {
			b.lose(disk, n.below(2) == 0)
			for stripe := range 2 {
				b.quietly(stripe, api.ErrDegraded, 0)
			}
		}
		b.reads(blocks)
		b.renew()
		for stripe := range 2 {
			b.quietly(stripe, api.OK, api.Clean)
		}
		b.stripesHold(blocks)
	})
}

// TestScrubWhileFilling: a disk that is not filled to its end is not Current; when it is, there is a verdict again.
func TestScrubWhileFilling(t *testing.T) {
	var n numbers
	for disks := 4; disks <= 8; disks++ {
		for disk := range disks {
			b := readyBench(t, disks, 6, anyOf(&n))
			blocks := b.fill(&n)
			b.fail(disk)
			b.replace(disk)
			for degraded := 0; b.lost() > 0; degraded++ {
				had := len(b.results)
				b.submit(api.Scrub, n.below(6), nil)
				for len(b.results) == had {
					b.some(1)
				}
				if b.lost() > 0 || degraded == 0 {
					b.found(b.results[had], api.ErrDegraded, 0, 0)
				}
			}
			b.rest()
			for stripe := range 6 {
				b.quietly(stripe, api.OK, api.Clean)
			}
			b.stripesHold(blocks)
		}
	}
}

// scrubbed: how a Scrub goes that a disk is lost in.
type scrubbed struct {
	disks, wrong, lost, moment int
	quiet, replaced            bool
}

// TestLostInAScrub: at each moment of it a disk fails, with a word or without, and at once there is a new one, or not.
func TestLostInAScrub(t *testing.T) {
	var n numbers
	for _, disks := range []int{4, 7} {
		for wrong := -1; wrong < disks; wrong++ { // -1: none
			for lost := range disks {
				for way := range 4 {
					s := scrubbed{disks: disks, wrong: wrong, lost: lost, quiet: way%2 == 0, replaced: way/2 == 0}
					for s.run(t, &n) {
						s.moment++
					}
				}
			}
		}
	}
}

// run lets the disk be lost when so many commands are done; false if the Scrub was at its end by then.
func (s scrubbed) run(t *testing.T, n *numbers) bool {
	b := readyBench(t, s.disks, 1, anyOf(n))
	blocks := b.fill(n)
	had := len(b.results)
	verdict, column := api.Clean, 0
	if s.wrong >= 0 {
		verdict, column = api.Repaired, s.wrong
		b.spoil(0, b.diskOf(0, s.wrong), differences(n)[n.below(5)])
	}
	wrote := false
	b.seen = func(c api.Command) {
		wrote = wrote || c.Kind == api.WriteSector
	}
	b.submit(api.Scrub, 0, nil)
	b.some(s.moment)
	b.tell()
	under := len(b.results) == had
	b.lose(s.lost, s.quiet)
	b.doAll(s.lost)
	if s.replaced && b.stood[s.lost] == api.Gone {
		b.replace(s.lost)
	}
	known := b.stood[s.lost] != api.Current
	for before := wrote; len(b.results) == had; b.some(1) {
		if known && wrote && !before {
			t.Fatalf("P12: disks %v: a Scrub writes", b.stood)
		}
	}
	b.seen = nil
	// A disk that has failed without a word, when it had done all that it was told, is not known to have failed.
	if under && (!s.quiet || b.stood[s.lost] != api.Current) {
		b.found(b.results[had], api.ErrDegraded, 0, 0)
	} else {
		b.found(b.results[had], api.OK, verdict, column)
	}
	b.rest()
	// With the disk the column is lost that was wrong; another one may not be found again from one that is wrong.
	if verdict == api.Clean || b.diskOf(0, s.wrong) == s.lost || b.results[had].E == api.OK {
		b.reads(blocks)
		b.renew()
		b.stripesHold(blocks)
	}
	return under
}
