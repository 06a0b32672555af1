package platter_test

import (
	"bytes"
	"slices"
	"testing"

	"platter/api"
)

// wrongDisks: Fail, Replace and Member of disks that there are not.
func (b *bench) wrongDisks() {
	b.t.Helper()
	for _, disk := range append(edges, b.disks) {
		if disk >= 0 && disk < b.disks {
			continue
		}
		standing, e := b.v.Member(disk)
		if f, r := b.v.Fail(disk), b.v.Replace(disk); standing != 0 || e != api.ErrArg || f != api.ErrArg || r != api.ErrArg {
			b.t.Fatalf("P11: of disk %d of %d: Member %d, %d, Fail %d, Replace %d", disk, b.disks, standing, e, f, r)
		}
	}
}

// wrongStandings: Fail of disks that are Gone, Replace of those that are not, or of which a command is not done.
func (b *bench) wrongStandings() {
	b.t.Helper()
	for disk, standing := range b.stood {
		if standing == api.Gone {
			if e := b.v.Fail(disk); e != api.ErrArg {
				b.t.Fatalf("P11: Fail(%d) of a disk that is Gone: %d", disk, e)
			}
		}
		if standing != api.Gone || b.awaits(disk) {
			if e := b.v.Replace(disk); e != api.ErrArg {
				b.t.Fatalf("P11: Replace(%d): %d; Member is %d, commands that are not done: %v", disk, e, standing, b.told)
			}
		}
		if now, e := b.v.Member(disk); now != standing || e != api.OK {
			b.t.Fatalf("P1: Member(%d) is %d, %d behind an error, it was %d", disk, now, e, standing)
		}
	}
	b.look()
}

func (b *bench) wrong() {
	b.t.Helper()
	b.wrongDisks()
	b.wrongStandings()
}

// TestFailAndReplace: a disk goes through all that it may be, while the volume opens and later.
func TestFailAndReplace(t *testing.T) {
	sizes(func(disks, stripes int) {
		for disk := range disks {
			b := newBench(t, disks, stripes, last)
			b.wrong()
			for range 3 {
				b.fail(disk)
				b.wrong()
				b.replace(disk)
				b.wrong()
				b.fail(disk)
				b.wrong()
				b.replace(disk)
				b.some(5)
				b.wrong()
				b.ready()
				if b.stood[disk] != api.Current {
					t.Fatalf("P11: a new disk of %d, at rest: Member %d", disks, b.stood[disk])
				}
				b.wrong()
			}
			b.reads(blank(b.blocks()))
		}
	})
}

// underWay: a volume whose Read and Write are under way, so many commands of them done, others told; and what its blocks will be.
func underWay(t *testing.T, n *numbers, disks, moment int) (*bench, [][]byte) {
	b := readyBench(t, disks, 1, anyOf(n))
	blocks := b.fill(n)
	b.submit(api.Read, 0, nil)
	blocks[1] = n.block()
	b.submit(api.Write, 1, blocks[1])
	b.some(moment)
	b.tell()
	return b, blocks
}

// TestReplaceWaits: what was told for the old disk comes to its end first, and for no other one.
func TestReplaceWaits(t *testing.T) {
	var n numbers
	for moment := range 60 {
		for disk := range 5 {
			for _, quiet := range []bool{false, true} {
				b, blocks := underWay(t, &n, 5, moment)
				b.lose(disk, quiet)
				for b.awaits(disk) {
					b.wrong()
					b.do(b.pick(b.told))
				}
				if b.stood[disk] == api.Gone {
					b.replace(disk)
				}
				b.rest()
				b.plain(b.results[len(b.results)-1])
				b.reads(blocks)
				b.stripesHold(blocks)
			}
		}
	}
}

// lose lets a disk fail, with or without a word.
func (b *bench) lose(disk int, quiet bool) {
	b.t.Helper()
	b.media[disk].failed = true
	if !quiet && b.stood[disk] != api.Gone {
		b.fail(disk)
	}
}

// renew sets new disks in where disks have failed, whether or not the volume knows it, and lets them be filled.
func (b *bench) renew() {
	b.t.Helper()
	for disk := range b.media {
		if !b.media[disk].failed {
			continue
		}
		b.lose(disk, false)
		b.doAll(disk)
		b.replace(disk)
	}
	b.rest()
	if b.lost() > 0 {
		b.t.Fatalf("P11: new disks, at rest: %v", b.stood)
	}
}

// TestLostAtAnyMoment: of the opening, of a Write, a Read, a Flush: a disk fails, and all goes on, and all is there.
func TestLostAtAnyMoment(t *testing.T) {
	var n numbers
	for disk := range 4 {
		for _, quiet := range []bool{false, true} {
			for _, pick := range []func([]order) int{last, anyOf(&n)} {
				for moment := 0; lostAt(t, &n, disk, moment, quiet, pick); moment++ {
				}
			}
		}
	}
}

// lostAt lets a disk fail when so many commands are done; false if there were not as many.
func lostAt(t *testing.T, n *numbers, disk, moment int, quiet bool, pick func([]order) int) bool {
	b := newBench(t, 4, 2, pick)
	blocks := [][]byte{n.block(), n.block(), whole(0), n.block()}
	for _, block := range []int{0, 3} {
		b.submit(api.Write, block, blocks[block])
		b.submit(api.Read, block, nil)
	}
	b.submit(api.Flush, 0, nil)
	b.submit(api.Write, 1, blocks[1])
	b.some(moment)
	b.tell()
	under := len(b.told) > 0
	b.lose(disk, quiet)
	b.rest()
	for i, want := range [][]byte{nil, blocks[0], nil, blocks[3], nil, nil} {
		if r := b.results[i]; r.E != api.OK || !bytes.Equal(r.Data, want) {
			t.Fatalf("P11: disk %d was lost behind %d commands: the result %+v, want %v", disk, moment, r, want)
		}
	}
	b.stripesHold(blocks)
	b.reads(blocks)
	b.renew()
	b.stripesHold(blocks)
	b.reads(blocks)
	return under
}

// TestTwoLost: any two disks are lost, and all blocks are read and written; new ones are filled, and any other two may be lost.
func TestTwoLost(t *testing.T) {
	var n numbers
	pairs(func(disks, one, two int) {
		b := readyBench(t, disks, 2, anyOf(&n))
		blocks := b.fill(&n)
		for round := range 4 {
			for _, disk := range []int{(one + round) % disks, (two + 2*round) % disks} {
				b.lose(disk, round%2 == 1)
				b.reads(blocks)
				b.change(&n, blocks)
				b.stripesHold(blocks)
			}
			if round == 2 {
				blocks = b.fill(&n)
			}
			b.reads(blocks)
			b.renew()
			b.stripesHold(blocks)
		}
	})
}

// TestNotTold: what was not told yet for a disk that fails is told no more; and it may fail, and be replaced, again and again.
func TestNotTold(t *testing.T) {
	var n numbers
	for moment := range 60 {
		for disk := range 4 {
			b, blocks := underWay(t, &n, 4, moment)
			for range 3 {
				b.fail(disk)
				b.tell()
				b.doAll(disk)
				b.replace(disk)
			}
			b.rest()
			b.stripesHold(blocks)
			if b.lost() > 0 {
				t.Fatalf("P11: at rest: %v", b.stood)
			}
		}
	}
}

// TestLateAnswers: a disk of which Fail was said may have done what it was told, and say so.
func TestLateAnswers(t *testing.T) {
	var n numbers
	for moment := range 60 {
		for disk := range 4 {
			b, blocks := underWay(t, &n, 4, moment)
			b.fail(disk)
			b.lateAnswers(&n, disk)
			b.replace(disk)
			b.rest()
			b.reads(blocks)
			b.stripesHold(blocks)
		}
	}
}

// lateAnswers says of all that a disk was told that it is done, and that it has read this and that.
func (b *bench) lateAnswers(n *numbers, disk int) {
	b.t.Helper()
	for _, o := range b.told {
		if o.Disk != disk {
			continue
		}
		if e := b.v.Done(o.Id, true, n.block()[:api.Sector]); e != api.OK {
			b.t.Fatalf("P8: Done of %+v, whose disk is Gone: %d", o.Command, e)
		}
	}
	b.told = slices.DeleteFunc(b.told, func(o order) bool { return o.Disk == disk })
}
