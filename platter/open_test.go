package platter_test

import (
	"bytes"
	"testing"

	"platter/api"
	"platter/platter"
)

func TestOpenEdges(t *testing.T) {
	for _, disks := range edges {
		for _, stripes := range edges {
			for _, fresh := range []bool{true, false} {
				want := api.ErrArg
				if disks >= 4 && disks <= 8 && stripes >= 1 && stripes <= 6 {
					want = api.OK
				}
				v, e := platter.Open(disks, stripes, fresh)
				if e != want || (v != nil) != (want == api.OK) {
					t.Errorf("P7: Open(%d, %d, %v) = %v, %d, want %d", disks, stripes, fresh, v, e, want)
				}
				if v != nil && v.State() != api.Opening {
					t.Errorf("P7: Open(%d, %d, %v): State %d", disks, stripes, fresh, v.State())
				}
			}
		}
	}
}

// TestNewVolume: it gets ready, all disks are current, and it has its blocks, all of them zeros, and no more.
func TestNewVolume(t *testing.T) {
	var n numbers
	for disks := 4; disks <= 8; disks++ {
		for stripes := 1; stripes <= 6; stripes++ {
			b := readyBench(t, disks, stripes, anyOf(&n))
			for disk := range disks {
				if standing, e := b.v.Member(disk); standing != api.Current || e != api.OK {
					t.Errorf("P11: Member(%d) of %d = %d, %d", disk, disks, standing, e)
				}
			}
			b.reads(blank(stripes * (disks - 2)))
			for _, block := range []int{-1, stripes * (disks - 2)} {
				if id, e := b.v.Submit(api.Request{Kind: api.Read, Number: block}); id != 0 || e != api.ErrArg {
					t.Errorf("P7: %d disks, %d stripes: Read of block %d: %d, %d", disks, stripes, block, id, e)
				}
			}
			b.stripesHold(blank(stripes * (disks - 2)))
		}
	}
}

// TestOpeningWaitsForTheDisks: nothing is ready before they have done what they were told.
func TestOpeningWaitsForTheDisks(t *testing.T) {
	b := newBench(t, 5, 2, last)
	for b.tell(); len(b.told) > 0; b.tell() {
		if state := b.v.State(); state != api.Opening {
			t.Fatalf("P7: State %d while commands of the opening are not done", state)
		}
		b.do(0)
	}
	if state := b.v.State(); state != api.Ready {
		t.Errorf("P7: State %d, want Ready", state)
	}
}

// TestFreshAgain: a new volume that crashes before it is ready, once and again, at whatever command, is a new volume.
func TestFreshAgain(t *testing.T) {
	var n numbers
	sizes(func(disks, stripes int) {
		for steps := 0; crashedFresh(t, &n, disks, stripes, steps); steps++ {
		}
	})
}

// crashedFresh lets three volumes crash that have done so many commands, and looks at a fourth; false if they were ready by then.
func crashedFresh(t *testing.T, n *numbers, disks, stripes, steps int) bool {
	b := newBench(t, disks, stripes, anyOf(n))
	for range 3 {
		b.submit(api.Write, 0, whole(9))
		if b.some(steps); b.v.State() != api.Opening {
			return false
		}
		b.crash(n)
		b.open(true)
	}
	b.ready()
	b.reads(blank(b.blocks()))
	b.write(b.blocks()-1, whole(3))
	if got := b.read(b.blocks() - 1); !bytes.Equal(got, whole(3)) {
		t.Errorf("P7: a fresh volume after a crash: the block is %v", got)
	}
	return true
}

// TestSubmitWhileOpening: requests wait for the opening, and are carried out then.
func TestSubmitWhileOpening(t *testing.T) {
	for fill := range 3 {
		b := newBench(t, 4+fill, 2, last)
		b.submit(api.Read, 1, nil)
		b.submit(api.Write, 1, whole(5))
		b.submit(api.Flush, 0, nil)
		b.submit(api.Read, 1, nil)
		b.submit(api.Write, 0, whole(6))
		b.submit(api.Read, 0, nil)
		if id, e := b.v.Submit(api.Request{Kind: api.Flush}); id != 0 || e != api.ErrBusy {
			t.Errorf("P9: a seventh request while State is Opening: %d, %d", id, e)
		}
		if len(b.results) != 0 || b.v.State() != api.Opening {
			t.Fatalf("P9: State %d, results %v", b.v.State(), b.results)
		}
		b.ready()
		want := [][]byte{whole(0), nil, nil, whole(5), nil, whole(6)}
		for i, r := range b.results {
			if r.E != api.OK || !bytes.Equal(r.Data, want[i]) {
				t.Errorf("P9: the result %+v, want the Data %v", r, want[i])
			}
		}
		if len(b.results) != 6 {
			t.Errorf("P9: %d results", len(b.results))
		}
	}
}

func TestMemberEdges(t *testing.T) {
	for disks := 4; disks <= 8; disks++ {
		b := newBench(t, disks, 1, first)
		for range 2 { // while State is Opening, and then
			for _, disk := range edges {
				want := api.ErrArg
				if disk >= 0 && disk < disks {
					want = api.OK
				}
				if standing, e := b.v.Member(disk); standing != api.Current || e != want {
					t.Errorf("P11: Member(%d) of %d = %d, %d, want 0, %d", disk, disks, standing, e, want)
				}
			}
			b.rest()
		}
	}
}
