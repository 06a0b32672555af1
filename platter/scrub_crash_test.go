package platter_test

import (
	"bytes"
	"testing"

	"platter/api"
	"platter/platter"
)

// repairsStill: behind a crash no column of a stripe but one may be otherwise than it should be, and a Scrub repairs it,
// if the crash has left anything to be repaired; then all is as it should be, and any two disks may be lost.
func (x *tried) repairsStill(stripe, wrong int, right [][]byte) {
	x.ready()
	for column, got := range x.columns(stripe) {
		if column != wrong && !bytes.Equal(got, right[column]) {
			x.broken("P12: column %d was wrong, and behind a crash column %d is %v, it was %v", wrong, column, got, right[column])
		}
	}
	if verdict, _, _, _ := platter.Locate(x.columns(stripe)); verdict == api.Clean {
		x.quietly(stripe, api.OK, api.Clean)
	} else {
		x.repairs(stripe, wrong)
	}
	x.columnsAre(stripe, right)
	x.again()
	x.harm()
	x.settle()
}

// TestCrashOfAScrub: ahead of, in between and behind the commands of a Scrub that repairs.
func TestCrashOfAScrub(t *testing.T) {
	var n numbers
	for disks := 4; disks <= 8; disks++ {
		like := settled(t, &n, disks, 2)
		for wrong := range disks {
			for kind := range keeps(&n) {
				for moment := 0; crashScrubbing(like, wrong, kind, moment); moment++ {
				}
			}
		}
	}
}

// crashScrubbing lets a Scrub crash when so many commands are done; false if it had its result by then.
func crashScrubbing(like *tried, wrong, kind, moment int) bool {
	x := like.twin()
	right := x.columns(1)
	x.spoil(1, x.diskOf(1, wrong), differences(x.n)[x.n.below(5)])
	x.submit(api.Scrub, 1, nil)
	x.some(moment)
	x.tell()
	under := len(x.results) == 0
	if !under {
		x.found(x.results[0], api.OK, api.Repaired, wrong)
	}
	x.reopen(keeps(x.n)[kind])
	if verdict, _, _, _ := platter.Locate(x.columns(1)); !under && verdict != api.Clean {
		x.broken("P12: column %d was repaired, and is lost behind a crash", wrong)
	}
	x.repairsStill(1, wrong, right)
	return under
}

// TestCrashBesideAChange: what a disk has changed by itself in one stripe, a crash leaves to be repaired, if nothing is
// under way, or a Write of another stripe.
func TestCrashBesideAChange(t *testing.T) {
	var n numbers
	for disks := 4; disks <= 8; disks++ {
		like := settled(t, &n, disks, 2)
		for wrong := range disks {
			for moment := -1; moment < 16*disks; moment++ {
				x := like.twin()
				right := x.columns(0)
				if moment >= 0 {
					x.submitWrite(disks - 2 + n.below(disks-2))
				}
				x.some(moment)
				x.spoil(0, x.diskOf(0, wrong), differences(&n)[n.below(5)])
				x.reopen(keeps(&n)[n.below(7)])
				x.repairsStill(0, wrong, right)
			}
		}
	}
}

// TestScrubBehindACrash: behind whatever crash, once all disks are Current, every stripe holds, and a Scrub says so.
func TestScrubBehindACrash(t *testing.T) {
	var n numbers
	moments(t, &n, 2, func(x *tried, moment int) {
		x.submitWrite(n.below(x.blocks()))
		x.submit(api.Scrub, 0, nil)
		x.submitWrite(n.below(x.blocks()))
		x.submit(api.Scrub, 1, nil)
		x.some(moment + n.below(150))
		x.reopen(keeps(&n)[n.below(7)])
		x.submit(api.Scrub, 0, nil)
		x.submit(api.Scrub, 1, nil)
		x.ready()
		x.found(x.results[0], api.OK, api.Clean, 0)
		x.found(x.results[1], api.OK, api.Clean, 0)
		x.settle()
		x.again()
		x.harm()
		x.settle()
		x.renew()
		x.quietly(0, api.OK, api.Clean)
		x.quietly(1, api.OK, api.Clean)
	})
}
