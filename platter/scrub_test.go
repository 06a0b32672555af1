package platter_test

import (
	"testing"

	"platter/api"
	"platter/platter"
)

// spoil changes a byte of a disk's column by itself, behind the volume's back.
func (b *bench) spoil(stripe, disk, place int) {
	c := &b.media[disk].cells[api.Own+2*stripe+place/api.Sector]
	changed := append([]byte(nil), c.now()...)
	changed[place%api.Sector] ^= 77
	*c = cell{safe: changed}
}

// scrubs carries out a Scrub, and holds its result to what it should be.
func (b *bench) scrubs(stripe int, e api.Errno, verdict, column int) {
	b.t.Helper()
	r := b.ask(api.Scrub, stripe, nil)
	if r.E != e || r.Verdict != verdict || r.Column != column || len(r.Data) != 0 {
		b.t.Fatalf("P12: %d disks: the Scrub of stripe %d: %+v, want %d, %d, %d", b.disks, stripe, r, e, verdict, column)
	}
}

// noWrites lets a test fail if something is written.
func (b *bench) noWrites() {
	b.seen = func(c api.Command) {
		if c.Kind == api.WriteSector {
			b.t.Errorf("P12: %+v, and there is nothing to write", c)
		}
	}
}

func TestScrubRepairs(t *testing.T) {
	var n numbers
	sizes(func(disks, stripes int) {
		b := readyBench(t, disks, stripes, anyOf(&n))
		blocks := b.fill(&n)
		for stripe := range stripes {
			for disk := range disks {
				column, _ := platter.Holds(disks, stripe, disk)
				b.spoil(stripe, disk, n.below(api.Block))
				b.seen = nil
				b.scrubs(stripe, api.OK, api.Repaired, column)
				b.sure(disk)
				b.stripesHold(blocks)
				b.noWrites()
				b.scrubs(stripe, api.OK, api.Clean, 0)
			}
		}
		b.reads(blocks)
	})
}

func TestScrubUnrepairable(t *testing.T) {
	var n numbers
	sizes(func(disks, stripes int) {
		b := readyBench(t, disks, stripes, anyOf(&n))
		b.fill(&n)
		b.noWrites()
		one := n.below(disks)
		b.spoil(stripes-1, one, 2)
		b.spoil(stripes-1, (one+1)%disks, 9)
		b.scrubs(stripes-1, api.OK, api.Unrepairable, 0)
		b.scrubs(stripes-1, api.OK, api.Unrepairable, 0)
		if stripes > 1 {
			b.scrubs(0, api.OK, api.Clean, 0)
		}
	})
}

// TestScrubDegraded: with a disk gone, whenever it went, nothing can be told.
func TestScrubDegraded(t *testing.T) {
	var n numbers
	for disks := 4; disks <= 8; disks++ {
		for disk := range disks {
			b := readyBench(t, disks, 1, anyOf(&n))
			blocks := b.fill(&n)
			b.media[disk].failed = true
			b.scrubs(0, api.ErrDegraded, 0, 0)
			b.noWrites()
			b.scrubs(0, api.ErrDegraded, 0, 0)
			b.reads(blocks)
		}
	}
}

// TestScrubOfADiskThatFails: the disk to be repaired fails when it is written to.
func TestScrubOfADiskThatFails(t *testing.T) {
	var n numbers
	b := readyBench(t, 5, 1, anyOf(&n))
	blocks := b.fill(&n)
	b.spoil(0, 2, 3)
	b.seen = func(c api.Command) {
		b.media[2].failed = b.media[2].failed || c.Kind == api.WriteSector
	}
	b.scrubs(0, api.ErrDegraded, 0, 0)
	b.seen = nil
	b.reads(blocks)
}
