package platter_test

import (
	"bytes"
	"testing"

	"platter/api"
	"platter/platter"
)

// spoil lets a disk change its column of a stripe by itself: the difference is added to it.
func (b *bench) spoil(stripe, disk int, difference []byte) {
	b.spoiled = true
	for half := range 2 {
		c := &b.media[disk].cells[api.Own+2*stripe+half]
		changed := bytes.Clone(c.now())
		for i := range changed {
			changed[i] ^= difference[half*api.Sector+i]
		}
		*c = cell{safe: changed}
	}
}

// differences: in one sector of a column or in both, in a byte or in all.
func differences(n *numbers) [][]byte {
	one, two := whole(0), whole(0)
	one[n.below(api.Sector)] = 1
	two[api.Sector+n.below(api.Sector)] = 128
	first, second, both := whole(200), whole(201), n.block()
	clear(first[api.Sector:])
	clear(second[:api.Sector])
	both[n.below(api.Sector)] |= 1
	both[api.Sector+n.below(api.Sector)] |= 1
	return [][]byte{one, two, first, second, both}
}

// columns tells those of a stripe, as they are written.
func (b *bench) columns(stripe int) [][]byte {
	columns := make([][]byte, b.disks)
	for disk := range b.disks {
		column, _ := platter.Holds(b.disks, stripe, disk)
		columns[column] = b.column(stripe, disk)
	}
	return columns
}

// columnsAre holds the columns of a stripe to what they should be.
func (b *bench) columnsAre(stripe int, want [][]byte) {
	for column, got := range b.columns(stripe) {
		if !bytes.Equal(got, want[column]) {
			b.broken("P12: %d disks, stripe %d: column %d is %v, want %v", b.disks, stripe, column, got, want[column])
		}
	}
}

// diskOf tells the disk of a column.
func (b *bench) diskOf(stripe, column int) int {
	for disk := range b.disks {
		if c, _ := platter.Holds(b.disks, stripe, disk); c == column {
			return disk
		}
	}
	return -1
}

// found holds the result of a Scrub to what it should be.
func (b *bench) found(r api.Result, e api.Errno, verdict, column int) {
	if r.E != e || r.Verdict != verdict || r.Column != column || len(r.Data) != 0 {
		b.broken("P12: %d disks, %v: the result of a Scrub: %+v, want %d, %d, %d", b.disks, b.stood, r, e, verdict, column)
	}
}

// scrubs carries out a Scrub.
func (b *bench) scrubs(stripe int, e api.Errno, verdict, column int) {
	b.found(b.ask(api.Scrub, stripe, nil), e, verdict, column)
}

// quietly carries out a Scrub that has nothing to write.
func (b *bench) quietly(stripe int, e api.Errno, verdict int) {
	b.seen = func(c api.Command) {
		if c.Kind == api.WriteSector {
			b.broken("P12: %+v, and there is nothing to write", c)
		}
	}
	b.scrubs(stripe, e, verdict, 0)
	b.seen = nil
}

// repairs carries out a Scrub that writes one column, and lets all get lost that is not safe then.
func (b *bench) repairs(stripe, column int) {
	disk := b.diskOf(stripe, column)
	b.seen = func(c api.Command) {
		if c.Kind == api.WriteSector && (c.Disk != disk || (c.Sector-api.Own)/2 != stripe || c.Sector < api.Own) {
			b.broken("P12: column %d of stripe %d is wrong, on disk %d, and there is the command %+v", column, stripe, disk, c)
		}
	}
	b.scrubs(stripe, api.OK, api.Repaired, column)
	b.seen = nil
	for disk := range b.media {
		b.sure(disk)
	}
}

// TestScrubClean: of stripes that hold, new ones and such as were written.
func TestScrubClean(t *testing.T) {
	var n numbers
	sizes(func(disks, stripes int) {
		b := readyBench(t, disks, stripes, anyOf(&n))
		blocks := blank(b.blocks())
		for range 4 {
			for stripe := range stripes {
				b.quietly(stripe, api.OK, api.Clean)
			}
			b.stripesHold(blocks)
			b.change(&n, blocks)
		}
		b.reads(blocks)
	})
}

// TestScrubRepairs: whichever column is wrong, in whatever, it is written anew and safe, and no other one is.
func TestScrubRepairs(t *testing.T) {
	var n numbers
	sizes(func(disks, stripes int) {
		b := readyBench(t, disks, stripes, anyOf(&n))
		blocks := b.fill(&n)
		for stripe := range stripes {
			for column := range disks {
				for _, difference := range differences(&n) {
					b.spoil(stripe, b.diskOf(stripe, column), difference)
					b.repairs(stripe, column)
					b.stripesHold(blocks)
					b.quietly(stripe, api.OK, api.Clean)
				}
			}
		}
		b.reads(blocks)
	})
}

// TestScrubOfEachStripe: each has its own column that is wrong, and a Scrub looks at the one that it is asked for.
func TestScrubOfEachStripe(t *testing.T) {
	var n numbers
	for disks := 4; disks <= 8; disks++ {
		b := readyBench(t, disks, 6, anyOf(&n))
		blocks := b.fill(&n)
		var wrong []int
		for stripe := range 6 {
			wrong = append(wrong, n.below(disks))
			b.spoil(stripe, b.diskOf(stripe, wrong[stripe]), differences(&n)[n.below(5)])
		}
		for _, stripe := range []int{3, 0, 5, 1, 2, 4} {
			b.repairs(stripe, wrong[stripe])
			b.quietly(stripe, api.OK, api.Clean)
		}
		b.stripesHold(blocks)
		b.reads(blocks)
	}
}

// TestScrubOfSeveralColumns: the verdict is Locate's, and nothing is written where it does not name a column.
func TestScrubOfSeveralColumns(t *testing.T) {
	var n numbers
	seen := map[int]int{}
	sizes(func(disks, stripes int) {
		for range 60 {
			b := readyBench(t, disks, stripes, anyOf(&n))
			b.fill(&n)
			stripe := n.below(stripes)
			for range 2 + n.below(disks-1) {
				b.spoil(stripe, n.below(disks), differences(&n)[n.below(5)])
			}
			want := b.columns(stripe)
			verdict, column, value, _ := platter.Locate(want)
			seen[verdict]++
			if verdict == api.Repaired {
				want[column] = value
				b.repairs(stripe, column)
			} else {
				b.quietly(stripe, api.OK, verdict)
			}
			b.columnsAre(stripe, want)
			if verdict == api.Unrepairable {
				b.quietly(stripe, api.OK, api.Unrepairable)
				b.columnsAre(stripe, want)
			}
		}
	})
	if seen[api.Unrepairable] == 0 || seen[api.Repaired] == 0 {
		t.Errorf("P12: the verdicts %v: not all of them were tried", seen)
	}
}

// TestScrubOfAllButOne: all columns but one were changed as if it were this one that is wrong: the verdict names it.
func TestScrubOfAllButOne(t *testing.T) {
	var n numbers
	for disks := 4; disks <= 8; disks++ {
		for right := range disks {
			b := readyBench(t, disks, 1, anyOf(&n))
			b.fill(&n)
			for column, difference := range n.holding(disks) {
				if column != right {
					b.spoil(0, b.diskOf(0, column), difference)
				}
			}
			want := b.columns(0)
			b.repairs(0, right)
			if got := b.columns(0); !stripeHolds(got) {
				t.Fatalf("P12: column %d of %v was to be repaired: %v", right, want, got)
			}
			want[right] = b.columns(0)[right]
			b.columnsAre(0, want)
		}
	}
}

// TestScrubAmongRequests: it is carried out in its turn: what comes behind it finds the stripe in order.
func TestScrubAmongRequests(t *testing.T) {
	var n numbers
	sizes(func(disks, stripes int) {
		for block := range 2 {
			for _, pick := range picks(&n) {
				b := readyBench(t, disks, stripes, pick)
				blocks := b.fill(&n)
				had := b.request
				b.spoil(0, b.diskOf(0, block), n.block())
				b.submit(api.Read, 1-block, nil)
				b.submit(api.Scrub, 0, nil)
				b.submit(api.Read, block, nil)
				was := blocks[block]
				other := bytes.Clone(blocks[1-block])
				blocks[block] = n.block()
				b.submit(api.Write, block, blocks[block])
				b.submit(api.Scrub, 0, nil)
				b.submit(api.Flush, 0, nil)
				b.rest()
				results := b.results[had:]
				b.found(results[1], api.OK, api.Repaired, block)
				b.found(results[4], api.OK, api.Clean, 0)
				b.plain(results[3])
				b.plain(results[5])
				if !bytes.Equal(results[0].Data, other) || !bytes.Equal(results[2].Data, was) {
					t.Fatalf("P9, P12: around a Scrub: the results %+v, want %v and %v", results, other, was)
				}
				b.stripesHold(blocks)
				b.reads(blocks)
			}
		}
	})
}

// TestScrubWhileOpening: it waits for the opening, of a new volume and of an old one.
func TestScrubWhileOpening(t *testing.T) {
	var n numbers
	sizes(func(disks, stripes int) {
		b := newBench(t, disks, stripes, anyOf(&n))
		b.submit(api.Scrub, stripes-1, nil)
		if len(b.results) > 0 {
			t.Fatalf("P12: while State is Opening: %+v", b.results)
		}
		b.ready()
		b.found(b.results[0], api.OK, api.Clean, 0)
		blocks := b.fill(&n)
		b.crash(&n)
		b.open(false)
		wrong := n.below(disks)
		b.spoil(stripes-1, b.diskOf(stripes-1, wrong), n.block())
		b.submit(api.Scrub, stripes-1, nil)
		b.some(n.below(disks))
		b.submit(api.Scrub, stripes-1, nil)
		b.rest()
		b.found(b.results[0], api.OK, api.Repaired, wrong)
		b.found(b.results[1], api.OK, api.Clean, 0)
		b.stripesHold(blocks)
	})
}

// TestScrubOfWrongStripes: and with Data, at any time.
func TestScrubOfWrongStripes(t *testing.T) {
	sizes(func(disks, stripes int) {
		b := newBench(t, disks, stripes, last)
		for round := range 3 { // while State is Opening, and then, and without a disk
			for _, stripe := range append(edges, stripes) {
				for length := range 18 {
					if length == 0 && stripe >= 0 && stripe < stripes {
						continue
					}
					r := api.Request{Kind: api.Scrub, Number: stripe, Data: make([]byte, length)}
					if id, e := b.v.Submit(r); id != 0 || e != api.ErrArg {
						t.Fatalf("P9: a Scrub of stripe %d of %d with %d bytes: %d, %d", stripe, stripes, length, id, e)
					}
				}
			}
			if round == 1 {
				b.fail(0)
			}
			b.ready()
		}
		b.quietly(stripes-1, api.ErrDegraded, 0)
	})
}
