package platter_test

import (
	"bytes"
	"testing"

	"platter/api"
)

// mayBe: P9's list of the requests that there are, for a volume of so many blocks and stripes.
func mayBe(r api.Request, blocks, stripes int) bool {
	switch r.Kind {
	case api.Read:
		return r.Number >= 0 && r.Number < blocks && len(r.Data) == 0
	case api.Write:
		return r.Number >= 0 && r.Number < blocks && len(r.Data) == 16
	case api.Flush:
		return r.Number == 0 && len(r.Data) == 0
	case api.Scrub:
		return r.Number >= 0 && r.Number < stripes && len(r.Data) == 0
	}
	return false
}

// TestSubmitEdges: every kind of request with every number and length of Data.
func TestSubmitEdges(t *testing.T) {
	sizes(func(disks, stripes int) {
		b := readyBench(t, disks, stripes, last)
		for _, kind := range []int{least, -1, 0, api.Read, api.Write, api.Flush, api.Scrub, 5, 256 + api.Read, most} {
			for _, number := range append(edges, stripes, stripes-1, b.blocks(), b.blocks()-1) {
				for _, length := range []int{0, 1, 8, 15, 16, 17, 32} {
					r := api.Request{Kind: kind, Number: number, Data: make([]byte, length)}
					if mayBe(r, b.blocks(), stripes) {
						b.submit(r.Kind, r.Number, r.Data)
						b.rest()
					} else if id, e := b.v.Submit(r); id != 0 || e != api.ErrArg {
						t.Fatalf("P9: %d disks, %d stripes: Submit(%d, %d, %d bytes) = %d, %d, want ErrArg", disks, stripes, kind, number, length, id, e)
					}
				}
			}
		}
		b.reads(blank(b.blocks()))
	})
}

// TestNilAndEmptyData: no Data may be nil or empty.
func TestNilAndEmptyData(t *testing.T) {
	b := readyBench(t, 4, 1, first)
	for _, data := range [][]byte{nil, {}, whole(1)[:0]} {
		for _, kind := range []int{api.Read, api.Flush, api.Scrub} {
			b.request++
			if id, e := b.v.Submit(api.Request{Kind: kind, Data: data}); id != b.request || e != api.OK {
				t.Errorf("P2, P9: Submit of kind %d with no Data: %d, %d", kind, id, e)
			}
			b.rest()
		}
	}
}

// TestBusy: six requests wait, a seventh may not; whether results were told does not matter.
func TestBusy(t *testing.T) {
	wrong := []api.Request{{}, {Kind: api.Read, Number: 2}, {Kind: api.Write, Data: whole(1)[:15]}, {Kind: api.Flush, Number: 1}}
	b := readyBench(t, 4, 1, first)
	b.silent = true
	for range 4 {
		for waiting := range 6 {
			b.submit([]int{api.Read, api.Scrub}[waiting%2], 0, nil)
		}
		for _, kind := range []int{api.Read, api.Flush, api.Scrub} {
			if id, e := b.v.Submit(api.Request{Kind: kind}); id != 0 || e != api.ErrBusy {
				t.Errorf("P9: a seventh request: %d, %d, want ErrBusy", id, e)
			}
		}
		for _, r := range wrong {
			if id, e := b.v.Submit(r); id != 0 || e != api.ErrArg {
				t.Errorf("P9: %+v while six wait: %d, %d, want ErrArg, which is named first", r, id, e)
			}
		}
		b.rest()
	}
	results := b.v.Results()
	for i, r := range results {
		if r.Id != i+1 || r.E != api.OK {
			t.Errorf("P9: the result %+v in place %d", r, i)
		}
	}
	if len(results) != 24 || len(b.v.Results()) != 0 {
		t.Errorf("P9: %d results, then %v", len(results), b.v.Results())
	}
}

// TestRoomAgain: as soon as one of six has its result, there is room for one more.
func TestRoomAgain(t *testing.T) {
	var n numbers
	b := readyBench(t, 5, 1, anyOf(&n))
	for range 6 {
		b.submit(api.Write, 0, n.block())
	}
	for range 20 {
		waited := len(b.results)
		for len(b.results) == waited {
			if id, e := b.v.Submit(api.Request{Kind: api.Flush}); id != 0 || e != api.ErrBusy {
				t.Fatalf("P9: a request while six wait: %d, %d", id, e)
			}
			b.some(1)
		}
		for range len(b.results) - waited {
			b.submit(api.Read, 0, nil)
		}
	}
}

// awaited: what the result of a request should be.
type awaited struct {
	kind int
	data []byte
}

// play submits requests of all kinds, so many, while others wait, and holds the results to what they should be.
// Between them it calls; if that harms disks, it may be that a Scrub can't be carried out.
func play(b *bench, n *numbers, count int, between func()) [][]byte {
	b.t.Helper()
	blocks := blank(b.blocks())
	harmed := false
	var want []awaited
	for range count {
		between()
		harmed = harmed || b.lost() > 0
		for b.request-len(b.results) == api.MaxRequests {
			b.some(1)
		}
		block := n.below(len(blocks))
		switch n.below(8) {
		case 0:
			b.submit(api.Flush, 0, nil)
			want = append(want, awaited{kind: api.Flush})
		case 1:
			b.submit(api.Scrub, n.below(b.stripes), nil)
			want = append(want, awaited{kind: api.Scrub})
		case 2, 3, 4:
			b.submit(api.Read, block, nil)
			want = append(want, awaited{api.Read, blocks[block]})
		default:
			blocks[block] = n.block()
			b.submit(api.Write, block, blocks[block])
			want = append(want, awaited{kind: api.Write})
		}
		b.some(n.below(120))
	}
	b.rest()
	for i, w := range want {
		r := b.results[i]
		if harmed && w.kind == api.Scrub && r.E == api.ErrDegraded {
			r.E = api.OK
		}
		if r.Id != i+1 || r.E != api.OK || !bytes.Equal(r.Data, w.data) || r.Verdict != api.Clean || r.Column != 0 {
			b.t.Fatalf("P9: the result %+v of a request of kind %d, want the Data %v", r, w.kind, w.data)
		}
	}
	return blocks
}

// picks: orders in which disks may do what they are told.
func picks(n *numbers) []func([]order) int {
	return []func([]order) int{first, last, anyOf(n), anyOf(n), late(0), late(3)}
}

// TestOrder: results come in the order of their requests, and a Read tells what the last Write before it left.
func TestOrder(t *testing.T) {
	var n numbers
	sizes(func(disks, stripes int) {
		for _, pick := range picks(&n) {
			b := newBench(t, disks, stripes, pick)
			blocks := play(b, &n, 40, func() {})
			b.stripesHold(blocks)
			b.reads(blocks)
		}
	})
}

// TestBehindEachWrite: at rest the disks have stripes that hold and have the blocks.
func TestBehindEachWrite(t *testing.T) {
	var n numbers
	sizes(func(disks, stripes int) {
		b := readyBench(t, disks, stripes, anyOf(&n))
		blocks := blank(b.blocks())
		for range 2 {
			for block := range blocks {
				blocks[block] = n.block()
				b.write(block, blocks[block])
				b.stripesHold(blocks)
			}
		}
		b.reads(blocks)
	})
}

// TestWritesTouchOwnStripe: no sector of another stripe is written.
func TestWritesTouchOwnStripe(t *testing.T) {
	var n numbers
	b := readyBench(t, 6, 6, anyOf(&n))
	for block := range b.blocks() {
		b.seen = func(c api.Command) {
			stripe := (c.Sector - api.Own) / 2
			if c.Kind == api.WriteSector && c.Sector >= api.Own && stripe != block/4 {
				t.Errorf("P9: a Write of block %d writes to stripe %d", block, stripe)
			}
		}
		b.write(block, n.block())
	}
}

// TestReadsWriteNothing: a Read changes no column.
func TestReadsWriteNothing(t *testing.T) {
	var n numbers
	b := readyBench(t, 5, 2, anyOf(&n))
	b.write(3, whole(8))
	b.seen = func(c api.Command) {
		if c.Kind == api.WriteSector && c.Sector >= api.Own {
			t.Errorf("P9: a Read gives %+v", c)
		}
	}
	for block := range b.blocks() {
		b.read(block)
	}
}

// TestFlush: when its result comes about, what the Writes before it left is safe on the disks.
func TestFlush(t *testing.T) {
	var n numbers
	sizes(func(disks, stripes int) {
		b := readyBench(t, disks, stripes, anyOf(&n))
		blocks := blank(b.blocks())
		for range 3 {
			for range 5 {
				block := n.below(len(blocks))
				blocks[block] = n.block()
				b.submit(api.Write, block, blocks[block])
			}
			b.plain(b.ask(api.Flush, 0, nil))
			for disk := range b.media {
				b.sure(disk)
			}
			b.stripesHold(blocks)
			b.reads(blocks)
		}
	})
}

// TestFlushWaits: a Flush has no result before the Writes that were submitted before it have theirs.
func TestFlushWaits(t *testing.T) {
	b := readyBench(t, 4, 1, last)
	b.submit(api.Write, 0, whole(1))
	b.submit(api.Write, 1, whole(2))
	b.submit(api.Flush, 0, nil)
	for len(b.results) < 3 {
		if b.tell(); len(b.told) == 0 {
			t.Fatalf("P14: %d results, and nothing is told", len(b.results))
		}
		b.do(0)
	}
	b.stripesHold([][]byte{whole(1), whole(2)})
	// With nothing before it there is nothing to wait for, but its result comes all the same.
	b.plain(b.ask(api.Flush, 0, nil))
}
