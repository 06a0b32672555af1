package platter_test

import (
	"bytes"
	"testing"

	"platter/api"
)

// memory: what each block may be behind a crash (P10).
type memory struct {
	sure  [][]byte // as it was left by what is safe
	later []change // Writes that were submitted since
}

type change struct {
	request, block int
	data           []byte
}

// flushed: the result of a Flush was told.
func (m *memory) flushed(request int) {
	for len(m.later) > 0 && m.later[0].request < request {
		m.sure[m.later[0].block] = m.later[0].data
		m.later = m.later[1:]
	}
}

// allows tells whether a block may be this.
func (m *memory) allows(block int, data []byte) bool {
	if bytes.Equal(m.sure[block], data) {
		return true
	}
	for _, c := range m.later {
		if c.block == block && bytes.Equal(c.data, data) {
			return true
		}
	}
	return false
}

// tried: a volume that crashes again and again.
type tried struct {
	*bench
	n       *numbers
	memory  memory
	flushes map[int]int // the requests that are Flushes
	was     bool        // it has been ready
}

func newTried(b *bench, n *numbers) *tried {
	return &tried{bench: b, n: n, memory: memory{sure: blank(b.blocks())}, flushes: map[int]int{}}
}

// anyTried: one of any numbers.
func anyTried(t *testing.T, n *numbers) *tried {
	return newTried(newBench(t, 4+n.below(5), 1+n.below(2), picks(n)[n.below(6)]), n)
}

// live submits this and that, and lets some commands be done.
func (x *tried) live(steps int) {
	x.t.Helper()
	for range steps {
		if x.request-len(x.results) < api.MaxRequests {
			x.want()
		}
		told := len(x.results)
		x.some(x.n.below(60))
		for _, r := range x.results[told:] {
			if r.E != api.OK {
				x.t.Fatalf("P9: the result %+v", r)
			}
			if x.flushes[r.Id] > 0 {
				x.memory.flushed(r.Id)
			}
		}
		x.was = x.was || x.v.State() == api.Ready
	}
}

func (x *tried) want() {
	x.t.Helper()
	switch block := x.n.below(x.blocks()); x.n.below(6) {
	case 0:
		x.submit(api.Flush, 0, nil)
		x.flushes[x.request]++
		if len(x.results) == x.request {
			x.memory.flushed(x.request)
		}
	case 1:
		x.submit(api.Read, block, nil)
	default:
		x.submitWrite(block)
	}
}

// submitWrite submits a Write, and keeps in mind that it may outlast a crash.
func (x *tried) submitWrite(block int) {
	x.t.Helper()
	data := x.n.block()
	x.submit(api.Write, block, data)
	x.memory.later = append(x.memory.later, change{x.request, block, data})
}

// again lets the volume crash, and opens it anew.
func (x *tried) again() {
	x.t.Helper()
	x.crash(x.n)
	for i := range x.memory.later {
		x.memory.later[i].request = 0
	}
	clear(x.flushes)
	x.open(!x.was)
}

// stumble lets the volume crash, and crash again while it is opened, or soon behind that.
func (x *tried) stumble() {
	x.t.Helper()
	x.again()
	for x.n.below(2) == 0 {
		x.some(x.n.below(100))
		x.was = x.was || x.v.State() == api.Ready
		x.again()
	}
}

// settle reads all blocks: what they are, they stay.
func (x *tried) settle() {
	x.t.Helper()
	x.ready()
	x.was = true
	for block := range x.blocks() {
		got := x.read(block)
		if !x.memory.allows(block, got) {
			x.t.Fatalf("P10: %d disks, %v: block %d is %v behind a crash, it was %v, then %v", x.disks, x.standings(), block, got, x.memory.sure[block], x.memory.later)
		}
		x.memory.sure[block] = got
	}
	x.memory.later = nil
	x.stripesHold(x.memory.sure)
}

// TestCrash: behind a crash each block is whole, and as a Write left it that may be; and so behind one more, in the opening.
func TestCrash(t *testing.T) {
	var n numbers
	for range 500 {
		x := anyTried(t, &n)
		for range 4 {
			x.live(n.below(12))
			x.stumble()
			x.settle()
			x.again()
			x.settle()
		}
	}
}

// TestCrashWithLoss: the same, and with the crash, or behind it, up to two disks are lost.
func TestCrashWithLoss(t *testing.T) {
	var n numbers
	for range 500 {
		x := anyTried(t, &n)
		x.settle()
		for lost := range 2 {
			x.live(2 + n.below(12))
			x.stumble()
			x.some(n.below(lost*60 + 1))
			x.media[n.below(x.disks)].failed = true
			x.settle()
			x.again()
			x.settle()
		}
	}
}

// TestCrashTwice: a Write of a small volume that crashes, an opening that crashes, and then two disks are lost at once.
func TestCrashTwice(t *testing.T) {
	var n numbers
	for range 4000 {
		x := newTried(newBench(t, 4, 1, anyOf(&n)), &n)
		x.settle()
		x.memory.sure = x.fill(&n)
		x.submitWrite(n.below(2))
		x.some(n.below(80))
		x.again()
		x.some(n.below(80))
		x.again()
		one := n.below(4)
		x.media[one].failed = true
		x.media[(one+1+n.below(3))%4].failed = true
		x.settle()
	}
}

// TestAtRest: what was written and told is there when a volume is opened again, in order or not.
func TestAtRest(t *testing.T) {
	var n numbers
	sizes(func(disks, stripes int) {
		b := readyBench(t, disks, stripes, anyOf(&n))
		for range 2 {
			blocks := b.fill(&n)
			b.crash(&n)
			b.open(false)
			b.ready()
			b.reads(blocks)
			b.stripesHold(blocks)
			for disk, standing := range b.standings() {
				if standing != api.Current {
					t.Errorf("P11: Member(%d) = %d behind Open", disk, standing)
				}
			}
		}
	})
}
