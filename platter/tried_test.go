package platter_test

import (
	"bytes"
	"slices"
	"testing"

	"platter/api"
)

// left: a block, as something left it.
type left struct {
	data    []byte
	request int // the Write that did; 0: it was so before the volume was opened, or may have been
}

// memory: what each block may be behind a crash (P10), in the order in which it was written.
type memory [][]left

// sure: the blocks are these, and nothing else.
func sure(blocks [][]byte) memory {
	m := make(memory, len(blocks))
	for block, data := range blocks {
		m.written(block, 0, data)
	}
	return m
}

func (m memory) written(block, request int, data []byte) {
	m[block] = append(m[block], left{data, request})
}

// flushed: the result of a Flush was told. What a block was ahead of the last Write before the Flush, it is no more.
func (m memory) flushed(request int) {
	for block, may := range m {
		for i := range may {
			if may[i].request > 0 && may[i].request < request {
				m[block] = may[i:]
			}
		}
	}
}

// crashed: each block is one of those that it might have been, and a Flush to come does not tell which.
func (m memory) crashed() {
	for _, may := range m {
		for i := range may {
			may[i].request = 0
		}
	}
}

func (m memory) allows(block int, data []byte) bool {
	return slices.ContainsFunc(m[block], func(l left) bool { return bytes.Equal(l.data, data) })
}

// tried: a volume that crashes again and again.
type tried struct {
	*bench
	n      *numbers
	memory memory
}

func newTried(b *bench, n *numbers) *tried {
	return &tried{bench: b, n: n, memory: sure(blank(b.blocks()))}
}

// anyTried: one of any numbers.
func anyTried(t *testing.T, n *numbers) *tried {
	return newTried(newBench(t, 4+n.below(5), 1+n.below(2), picks(n)[n.below(6)]), n)
}

// settled: one whose blocks were written, and flushed.
func settled(t *testing.T, n *numbers, disks, stripes int) *tried {
	x := newTried(readyBench(t, disks, stripes, anyOf(n)), n)
	x.memory = sure(x.fill(n))
	return x
}

// twin opens a volume over disks like these, which are at rest.
func (x *tried) twin() *tried {
	b := &bench{t: x.t, disks: x.disks, stripes: x.stripes, pick: x.pick, once: true}
	for _, m := range x.media {
		like := newMedium(x.stripes)
		for s := range like.cells {
			like.cells[s].safe = m.cells[s].now()
		}
		b.media = append(b.media, like)
	}
	b.open(false)
	b.ready()
	twin := newTried(b, x.n)
	for block, may := range x.memory {
		twin.memory[block] = slices.Clone(may)
	}
	return twin
}

// moments calls with volumes of every number of disks, once for each command of a Write, and some times more.
func moments(t *testing.T, n *numbers, stripes int, call func(x *tried, moment int)) {
	for disks := api.MinDisks; disks <= api.MaxDisks; disks++ {
		like := settled(t, n, disks, stripes)
		for moment := range 16 * disks {
			call(like.twin(), moment)
		}
	}
}

// live submits this and that, and lets some commands be done.
func (x *tried) live(steps int) {
	for range steps {
		if x.request-len(x.results) < api.MaxRequests {
			x.want()
		}
		x.some(x.n.below(60))
	}
}

func (x *tried) want() {
	switch x.n.below(8) {
	case 0:
		x.submit(api.Flush, 0, nil)
	case 1:
		x.submit(api.Read, x.n.below(x.blocks()), nil)
	case 2:
		x.submit(api.Scrub, x.n.below(x.stripes), nil)
	default:
		x.submitWrite(x.n.below(x.blocks()))
	}
}

// submitWrite submits a Write, and keeps in mind that it may outlast a crash.
func (x *tried) submitWrite(block int) {
	data := x.n.block()
	x.submit(api.Write, block, data)
	x.memory.written(block, x.request, data)
}

// note looks at the results that were told.
func (x *tried) note() {
	for i, r := range x.results {
		degraded := x.kinds[i] == api.Scrub && r.E == api.ErrDegraded
		failed := x.state == api.Failed && r.E == api.ErrFailed
		if r.E != api.OK && !degraded && !failed || r.Verdict != api.Clean && !x.spoiled {
			x.broken("P9, P12: the result %+v of a request of kind %d", r, x.kinds[i])
		}
		if x.kinds[i] == api.Flush && r.E == api.OK {
			x.memory.flushed(r.Id)
		}
	}
}

// reopen lets the volume crash, and opens it anew.
func (x *tried) reopen(keeps keep) {
	x.note()
	x.crashKeeping(keeps)
	x.memory.crashed()
	x.open(!x.once)
}

// again: the same, whatever the crash keeps.
func (x *tried) again() {
	x.reopen(anything(x.n))
}

// stumble lets the volume crash, and crash again while it is opened, or soon behind that.
func (x *tried) stumble() {
	x.again()
	for x.n.below(2) == 0 {
		x.some(x.n.below(100))
		x.again()
	}
}

// settle reads all blocks, now and then while the volume is still being opened: what they are, they stay.
func (x *tried) settle() {
	x.note()
	if x.n.below(2) == 0 {
		x.ready()
	}
	blocks := make([][]byte, x.blocks())
	for block := range blocks {
		blocks[block] = x.read(block)
		if !x.memory.allows(block, blocks[block]) {
			x.broken("P10: %d disks, %v: block %d is %v, it may be one of %v", x.disks, x.standings(), block, blocks[block], x.memory[block])
		}
	}
	x.ready()
	x.memory = sure(blocks)
	x.stripesHold(blocks)
}

// isHarmed tells whether a disk has failed, or has come later and is not Current yet.
func (b *bench) isHarmed(disk int) bool {
	return b.media[disk].failed || b.media[disk].bare || b.stood[disk] != api.Current
}

// harmed tells how many are.
func (b *bench) harmed() int {
	harmed := 0
	for disk := range b.media {
		if b.isHarmed(disk) {
			harmed++
		}
	}
	return harmed
}

// harm: with a crash, and behind it, disks fail, or new ones stand there: no more than two in all are harmed.
func (x *tried) harm() {
	x.anew()
	var later []int
	for range 2 {
		disk := x.n.below(x.disks)
		if x.isHarmed(disk) || slices.Contains(later, disk) || x.harmed()+len(later) == 2 {
			continue
		}
		switch x.n.below(4) {
		case 0:
			x.media[disk].failed = true
		case 1:
			x.renewMedium(disk)
		case 2:
			later = append(later, disk)
		}
	}
	for _, disk := range later {
		x.some(x.n.below(60))
		x.lose(disk, x.n.below(2) == 0)
	}
}

// anew: while the volume is not there, new disks are set in where some have failed, or have come just now.
func (x *tried) anew() {
	for disk := range x.media {
		if (x.media[disk].failed || x.media[disk].bare) && x.n.below(2) == 0 {
			x.renewMedium(disk)
		}
	}
}
