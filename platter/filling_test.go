package platter_test

import (
	"bytes"
	"slices"
	"testing"

	"platter/api"
)

// joins lets a test fail if a disk becomes Current that has not all columns of these blocks, all of them safe.
func (b *bench) joins(blocks *[][]byte) {
	b.joined = func(disk int) {
		b.sure(disk)
		b.stripesHold(*blocks)
	}
}

// TestFilled: one new disk, and two at once, are filled and then are Current, and all of their columns are safe.
func TestFilled(t *testing.T) {
	var n numbers
	sizes(func(disks, stripes int) {
		for one := range disks {
			for two := range disks {
				b := readyBench(t, disks, stripes, anyOf(&n))
				blocks := b.fill(&n)
				b.joins(&blocks)
				b.lose(one, false)
				b.lose(two, false)
				b.replace(one)
				if one != two {
					b.replace(two)
				}
				b.rest()
				if b.lost() > 0 {
					t.Fatalf("P11: %d disks, %d and %d are new: at rest %v", disks, one, two, b.stood)
				}
				b.stripesHold(blocks)
			}
		}
	})
}

// TestFillingWritesThere: it writes to the new disk alone, and only there is a barrier needed.
func TestFillingWritesThere(t *testing.T) {
	var n numbers
	b := readyBench(t, 6, 6, anyOf(&n))
	b.fill(&n)
	b.fail(2)
	b.seen = func(c api.Command) {
		if (c.Kind == api.ReadSector) == (c.Disk == 2) {
			t.Errorf("P11: disk 2 is filled, and there is the command %+v", c)
		}
	}
	b.replace(2)
	b.rest()
}

// TestRequestsWhileFilling: they are carried out, as ever; and the disks are filled, however many requests come.
func TestRequestsWhileFilling(t *testing.T) {
	var n numbers
	sizes(func(disks, stripes int) {
		for _, pick := range picks(&n) {
			b := readyBench(t, disks, stripes, pick)
			blocks := b.fill(&n)
			for _, disk := range []int{n.below(disks), n.below(disks)} {
				b.lose(disk, false)
				b.replace(disk)
			}
			var want [][]byte
			before := len(b.results)
			for b.lost() > 0 {
				if len(b.results)-before > 60 {
					t.Fatalf("P11: %d requests came, and disks are not filled: %v", len(b.results)-before, b.stood)
				}
				if b.request-len(b.results) == api.MaxRequests {
					b.some(1)
					continue
				}
				block := n.below(len(blocks))
				if n.below(2) == 0 {
					b.submit(api.Read, block, nil)
					want = append(want, blocks[block])
				} else {
					blocks[block] = n.block()
					b.submit(api.Write, block, blocks[block])
					want = append(want, nil)
				}
			}
			b.rest()
			for i, r := range b.results[before:] {
				if r.E != api.OK || !bytes.Equal(r.Data, want[i]) {
					t.Fatalf("P9, P11: while a disk is filled: the result %+v, want %v", r, want[i])
				}
			}
			b.stripesHold(blocks)
			b.reads(blocks)
		}
	})
}

// TestRequestsDoNotWaitForTheFilling: a request has its result while a disk has still long to be filled.
func TestRequestsDoNotWaitForTheFilling(t *testing.T) {
	b := readyBench(t, 8, 6, last)
	for _, disk := range []int{1, 6} {
		b.fail(disk)
		b.replace(disk)
	}
	b.some(1)
	b.submit(api.Write, 30, whole(4))
	b.submit(api.Read, 30, nil)
	for had := len(b.results); len(b.results) < had+2; {
		b.some(1)
	}
	if b.lost() != 2 || !bytes.Equal(b.results[1].Data, whole(4)) {
		t.Errorf("P11: the result %+v came behind the filling: %v", b.results[1], b.stood)
	}
	b.rest()
}

// TestLostWhileFilling: at any moment of the filling the new disk itself fails, or another one; with a word or without.
func TestLostWhileFilling(t *testing.T) {
	var n numbers
	for _, other := range []int{2, 0, 3} {
		for _, quiet := range []bool{false, true} {
			for moment := 0; lostWhileFilling(t, &n, other, moment, quiet); moment++ {
			}
		}
	}
}

// lostWhileFilling fills disk 2, and lets a disk fail when so many commands are done; false if there were not as many.
func lostWhileFilling(t *testing.T, n *numbers, other, moment int, quiet bool) bool {
	b := readyBench(t, 5, 2, anyOf(n))
	blocks := b.fill(n)
	b.joins(&blocks)
	b.fail(2)
	b.replace(2)
	b.some(moment)
	b.tell()
	under := len(b.told) > 0
	b.lose(other, quiet)
	b.rest()
	b.reads(blocks)
	b.change(n, blocks)
	b.stripesHold(blocks)
	if other != 2 && b.stood[2] != api.Current {
		t.Fatalf("P11: disk 2 was to be filled, disk %d was lost behind %d commands: %v", other, moment, b.stood)
	}
	b.renew()
	b.stripesHold(blocks)
	b.reads(blocks)
	return under
}

// TestReplacedWhileFilling: the disk that is filled fails, and at once one more new disk stands there, which has nothing.
func TestReplacedWhileFilling(t *testing.T) {
	var n numbers
	for _, quiet := range []bool{false, true} {
		for moment := range 80 {
			for again := range 6 {
				b := readyBench(t, 4, 3, anyOf(&n))
				blocks := b.fill(&n)
				b.joins(&blocks)
				b.fail(1)
				b.replace(1)
				b.some(moment)
				b.lose(1, quiet)
				b.doAll(1)
				if b.stood[1] == api.Gone {
					b.replace(1)
				} else {
					b.fail(1)
					b.replace(1)
				}
				b.some(again)
				b.renew()
				b.stripesHold(blocks)
			}
		}
	}
}

// TestThirdWhileFilling: a disk that is being filled is not Current: with two others it is one too many.
func TestThirdWhileFilling(t *testing.T) {
	var n numbers
	for moment := range 60 {
		b := readyBench(t, 5, 3, anyOf(&n))
		b.fill(&n)
		b.fail(4)
		b.fail(0)
		b.replace(4)
		b.some(moment)
		b.submit(api.Read, 0, nil)
		b.submit(api.Write, 0, whole(1))
		b.lose(1, moment%2 == 0)
		b.rest()
		if b.stood[4] == api.Current {
			continue
		}
		if b.state != api.Failed {
			t.Fatalf("P13: three disks are not Current: State %d", b.state)
		}
		last := len(b.results) - 1
		if b.results[last].E != api.ErrFailed {
			t.Fatalf("P13: the result %+v", b.results[last])
		}
	}
}

// TestFoundNew: disks that were replaced before the volume was opened are found to be new, and are filled.
func TestFoundNew(t *testing.T) {
	var n numbers
	pairs(func(disks, one, two int) {
		b := readyBench(t, disks, 2, anyOf(&n))
		blocks := b.fill(&n)
		b.crash(&n)
		b.renewMedium(one)
		b.renewMedium(two)
		b.open(false)
		for b.state == api.Opening {
			b.some(1)
		}
		for disk, standing := range b.stood {
			want := api.Current
			if disk == one || disk == two {
				want = api.Rebuilding
			}
			if standing != want {
				t.Fatalf("P11: %d disks, %d and %d are new: Member(%d) = %d", disks, one, two, disk, standing)
			}
		}
		b.submit(api.Read, 1, nil)
		blocks[0] = n.block()
		b.submit(api.Write, 0, blocks[0])
		b.rest()
		if r := b.results[0]; b.lost() > 0 || !bytes.Equal(r.Data, blocks[1]) {
			t.Fatalf("P11: %d disks, %d and %d were new: %v, the result %+v, want %v", disks, one, two, b.stood, r, blocks[1])
		}
		b.stripesHold(blocks)
	})
}

// trouble lets a disk fail, with or without a word, or sets a new one in, as long as at most two are harmed.
func (b *bench) trouble(n *numbers) {
	b.t.Helper()
	disk := n.below(b.disks)
	switch {
	case b.stood[disk] == api.Gone:
		if !b.awaits(disk) {
			b.replace(disk)
		}
	case b.media[disk].failed:
		b.fail(disk)
	case b.harmed() < 2 || b.media[disk].bare:
		b.lose(disk, n.below(2) == 0)
	}
}

// TestTrouble: disks fail and are replaced at any time, while requests of all kinds are carried out.
func TestTrouble(t *testing.T) {
	var n numbers
	for round := range 400 {
		b := newBench(t, 4+n.below(5), 1+n.below(6), picks(&n)[n.below(6)])
		blocks := play(b, &n, 60, func() {
			if n.below(3) == 0 {
				b.trouble(&n)
			}
		})
		b.stripesHold(blocks)
		if round%2 == 0 {
			b.renew()
			b.stripesHold(blocks)
		}
		b.reads(blocks)
	}
}

// TestCrashWhileFilling: at any moment of the filling of two disks; then the old ones, or these, are lost.
func TestCrashWhileFilling(t *testing.T) {
	var n numbers
	for moment := range 90 {
		for _, lost := range [][]int{nil, {1}, {3}, {1, 3}} {
			x := settled(t, &n, 5, 2)
			for _, disk := range []int{1, 3} {
				x.fail(disk)
				x.replace(disk)
			}
			if n.below(2) == 0 {
				x.submitWrite(n.below(6))
			}
			x.some(moment)
			filled := slices.Clone(x.stood)
			x.again()
			for _, disk := range lost {
				x.media[disk].failed = true
			}
			x.settle()
			for disk, standing := range x.stood {
				if want := slices.Contains(lost, disk); (standing == api.Current) == want {
					t.Fatalf("P11: disks %v are lost: Member(%d) = %d; at the crash: %v", lost, disk, standing, filled)
				}
			}
			x.renew()
			x.settle()
		}
	}
}
