package platter_test

import (
	"bytes"
	"fmt"
	"testing"

	"platter/api"
)

// TestFlushedOutlastsACrash: what was flushed is there, though nothing else is kept, and two disks are lost.
func TestFlushedOutlastsACrash(t *testing.T) {
	var n numbers
	pairs(func(disks, one, two int) {
		b := readyBench(t, disks, 1, anyOf(&n))
		for block := range b.blocks() {
			b.write(block, whole(byte(block+1)))
		}
		b.plain(b.ask(api.Flush, 0, nil))
		b.submit(api.Write, 0, whole(99))
		b.some(n.below(16 * disks))
		b.crashKeeping(func(_, _, _ int) int { return 0 })
		b.open(false)
		b.media[one].failed, b.media[two].failed = true, true
		b.ready()
		if got := b.read(0); !bytes.Equal(got, whole(1)) && !bytes.Equal(got, whole(99)) {
			t.Fatalf("P10: %d disks without %d and %d: block 0 is %v", disks, one, two, got)
		}
		for block := 1; block < b.blocks(); block++ {
			if got := b.read(block); !bytes.Equal(got, whole(byte(block+1))) {
				t.Fatalf("P10: %d disks without %d and %d: block %d is %v, and was flushed", disks, one, two, block, got)
			}
		}
	})
}

// TestAtRest: what was written and told is there when a volume is opened again, in order or not.
func TestAtRest(t *testing.T) {
	var n numbers
	sizes(func(disks, stripes int) {
		b := readyBench(t, disks, stripes, anyOf(&n))
		for range 2 {
			blocks := b.fill(&n)
			b.crash(&n)
			b.open(false)
			b.ready()
			b.reads(blocks)
			b.stripesHold(blocks)
			for disk, standing := range b.standings() {
				if standing != api.Current {
					t.Errorf("P11: Member(%d) = %d behind Open", disk, standing)
				}
			}
		}
	})
}

// undertaking: what a volume may be at when it crashes.
type undertaking struct {
	name  string
	fresh bool // it begins with a volume that is opened for the first time, else with one whose blocks were written and flushed
	begin func(x *tried)
}

var undertakings = []undertaking{
	{"the first opening", true, func(x *tried) {
		x.submitWrite(0)
	}},
	{"the first opening without a disk", true, func(x *tried) {
		x.lose(x.n.below(x.disks), false)
		x.submitWrite(0)
	}},
	{"nothing", false, func(x *tried) {}},
	{"a Write", false, func(x *tried) {
		x.submitWrite(x.n.below(x.blocks()))
	}},
	{"a Write without a disk", false, func(x *tried) {
		x.lose(x.n.below(x.disks), x.n.below(2) == 0)
		x.submitWrite(x.n.below(x.blocks()))
	}},
	{"a Write without two disks", false, func(x *tried) {
		one := x.n.below(x.disks)
		x.lose(one, false)
		x.lose((one+1+x.n.below(x.disks-1))%x.disks, x.n.below(2) == 0)
		x.submitWrite(x.n.below(x.blocks()))
	}},
	{"Writes of a block, and Flushes between", false, func(x *tried) {
		for range 2 {
			x.submitWrite(1)
			x.submitWrite(1)
			x.submit(api.Flush, 0, nil)
		}
	}},
	{"the filling of a disk", false, func(x *tried) {
		x.replaceAny()
	}},
	{"the filling of two disks, and Writes between", false, func(x *tried) {
		x.replaceAny()
		x.replaceAny()
		for range 3 {
			x.submitWrite(x.n.below(x.blocks()))
		}
	}},
	{"an opening", false, func(x *tried) {
		x.again()
		x.submitWrite(0)
	}},
	{"an opening behind a crash", false, func(x *tried) {
		x.crashWriting()
	}},
	{"an opening behind a crash, with a new disk", false, func(x *tried) {
		x.crashWriting()
		x.renewMedium(x.n.below(x.disks))
	}},
}

// replaceAny sets a new disk in somewhere.
func (x *tried) replaceAny() {
	disk := x.n.below(x.disks)
	x.lose(disk, false)
	x.doAll(disk)
	x.replace(disk)
}

// crashWriting lets the volume crash somewhere in a Write.
func (x *tried) crashWriting() {
	x.submitWrite(x.n.below(x.blocks()))
	x.some(x.n.below(16 * x.disks))
	x.again()
}

// TestCrashAtEachMoment: ahead of, in between and behind the commands of whatever is under way.
func TestCrashAtEachMoment(t *testing.T) {
	for i, u := range undertakings {
		t.Run(u.name, func(t *testing.T) {
			t.Parallel()
			n := numbers(i)
			for _, size := range [][2]int{{4, 1}, {5, 2}, {7, 1}} {
				u.crash(t, &n, size[0], size[1])
			}
		})
	}
}

func (u undertaking) crash(t *testing.T, n *numbers, disks, stripes int) {
	like := settled(t, n, disks, stripes)
	start := func() *tried {
		if u.fresh {
			return newTried(newBench(t, disks, stripes, anyOf(n)), n)
		}
		return like.twin()
	}
	for moment := 0; u.crashAt(start, moment); moment++ {
	}
}

// crashAt lets volumes crash when so many commands are done, each in its way; false if none had as many.
func (u undertaking) crashAt(start func() *tried, moment int) bool {
	under := false
	for kind := range keeps(new(numbers)) {
		x := start()
		kept := keeps(x.n)[kind]
		u.begin(x)
		x.some(moment)
		x.tell()
		under = under || len(x.told) > 0
		x.reopen(kept)
		x.harm()
		x.settle()
		x.filled()
		x.reopen(kept)
		x.harm()
		x.settle()
		x.afresh()
	}
	return under
}

// filled: at rest all disks are Current that have not failed.
func (x *tried) filled() {
	for disk, standing := range x.stood {
		if standing != api.Current && !x.media[disk].failed {
			x.broken("P11: at rest: Member(%d) = %d", disk, standing)
		}
	}
}

// afresh sets new disks in, and writes a block anew: the volume is as good as any.
func (x *tried) afresh() {
	x.renew()
	x.submitWrite(x.n.below(x.blocks()))
	x.submit(api.Flush, 0, nil)
	x.rest()
	x.again()
	x.settle()
}

// TestCrashAndAnyTwoDisks: a Write crashes at each moment, and any two disks are lost with it.
func TestCrashAndAnyTwoDisks(t *testing.T) {
	for disks := 4; disks <= 8; disks++ {
		t.Run(fmt.Sprint(disks), func(t *testing.T) {
			t.Parallel()
			n := numbers(disks)
			like := settled(t, &n, disks, 1)
			for moment := range 16 * disks {
				for one := range disks {
					for two := range one {
						x := like.twin()
						x.submitWrite(n.below(x.blocks()))
						x.some(moment)
						x.reopen(keeps(&n)[n.below(7)])
						x.media[one].failed, x.media[two].failed = true, true
						x.settle()
					}
				}
			}
		})
	}
}

// TestCrashTwice: a Write crashes at each moment, its opening again at each moment, and then up to two disks are lost.
func TestCrashTwice(t *testing.T) {
	var n numbers
	like := settled(t, &n, 4, 1)
	for first := range 66 {
		for second := range 66 {
			x := like.twin()
			x.submitWrite(n.below(2))
			x.some(first)
			x.again()
			x.some(second)
			x.again()
			one := n.below(4)
			x.media[one].failed = true
			x.media[(one+n.below(4))%4].failed = true
			x.settle()
		}
	}
}

// TestReadyIsInOrder: when State is Ready behind a crash, and no disk is to be filled, nothing is under way, and every
// stripe holds, all of it safe.
func TestReadyIsInOrder(t *testing.T) {
	var n numbers
	moments(t, &n, 2, func(x *tried, moment int) {
		x.submitWrite(n.below(x.blocks()))
		x.some(moment)
		x.reopen(keeps(&n)[n.below(7)])
		x.media[n.below(x.disks)].failed = n.below(2) == 0
		for x.state == api.Opening {
			x.some(1)
		}
		if x.tell(); len(x.told) > 0 {
			t.Fatalf("P7: State is Ready, and there are the commands %v", x.told)
		}
		for disk := range x.disks {
			x.sure(disk)
		}
		x.settle()
	})
}

// TestCrashAndThreeDisks: they were lost before, are lost with the crash or behind it, or are new: the volume is Failed,
// and so it is when it is opened once more.
func TestCrashAndThreeDisks(t *testing.T) {
	var n numbers
	moments(t, &n, 1, func(x *tried, moment int) {
		x.submitWrite(n.below(x.blocks()))
		before, lost := n.below(3), n.below(x.disks)
		for i := range before {
			x.lose((lost+i)%x.disks, n.below(2) == 0)
		}
		x.some(moment)
		x.again()
		x.submit(api.Write, 0, n.block())
		x.anew()
		for i := before; i < 3; i++ {
			x.loseOpening((lost + i) % x.disks)
		}
		x.isFailed()
		x.again()
		x.submit(api.Flush, 0, nil)
		x.anew()
		x.isFailed()
	})
}

// loseOpening lets a disk be lost, or be a new one, while the volume does not know yet what it finds.
func (x *tried) loseOpening(disk int) {
	switch x.n.below(3) {
	case 0:
		x.media[disk].failed = true
	case 1:
		x.renewMedium(disk)
	case 2:
		x.lose(disk, false)
	}
}

// isFailed holds a volume to P13 that had nothing done yet of what was asked for.
func (x *tried) isFailed() {
	x.rest()
	if x.state != api.Failed || len(x.results) != 1 || x.results[0].E != api.ErrFailed {
		x.broken("P13: State %d, disks %v, results %+v", x.state, x.stood, x.results)
	}
	if id, e := x.v.Submit(api.Request{Kind: api.Read}); id != 0 || e != api.ErrFailed {
		x.broken("P9: Submit while State is Failed: %d, %d", id, e)
	}
}

// TestCrash: behind a crash each block is whole, and as a Write left it that may be; and so behind one more, in the opening.
func TestCrash(t *testing.T) {
	var n numbers
	for range 500 {
		x := anyTried(t, &n)
		for range 4 {
			x.live(n.below(12))
			x.stumble()
			x.settle()
			x.again()
			x.settle()
		}
	}
}

// TestCrashWithLoss: the same, and with each crash, or behind it, disks are lost, up to two.
func TestCrashWithLoss(t *testing.T) {
	var n numbers
	for range 500 {
		x := anyTried(t, &n)
		x.settle()
		for lost := range 2 {
			x.live(2 + n.below(12))
			x.stumble()
			x.some(n.below(lost*60 + 1))
			x.media[n.below(x.disks)].failed = true
			x.settle()
			x.again()
			x.settle()
		}
	}
}

// TestCrashInTrouble: and disks fail and are replaced all the time; what was not filled to its end is filled again.
func TestCrashInTrouble(t *testing.T) {
	var n numbers
	for range 600 {
		x := anyTried(t, &n)
		for range 5 {
			for range n.below(12) {
				x.live(1)
				x.trouble(&n)
			}
			x.stumble()
			x.harm()
			for range n.below(4) {
				x.some(n.below(50))
				x.trouble(&n)
			}
			x.settle()
		}
	}
}
