package platter_test

import (
	"testing"

	"platter/api"
	"platter/platter"
)

// edges: numbers at and around every bound, and far from all of them.
var edges = []int{least, least + 1, -1 << 32, -1, 0, 1, 2, 3, 4, 5, 6, 7, 8, 9, 10, 11, 12, 17, 18, 23, 24, 29, 30, 35, 36, 1 << 32, most - 1, most}

func TestFindExamples(t *testing.T) {
	for _, c := range []struct {
		disks, block int
		want         api.Place
	}{
		{4, 0, api.Place{Stripe: 0, Column: 0, Disk: 1, Sector: 17}},
		{4, 1, api.Place{Stripe: 0, Column: 1, Disk: 2, Sector: 17}},
		{4, 2, api.Place{Stripe: 1, Column: 0, Disk: 0, Sector: 19}},
		{4, 3, api.Place{Stripe: 1, Column: 1, Disk: 1, Sector: 19}},
		{5, 17, api.Place{Stripe: 5, Column: 2, Disk: 3, Sector: 27}},
	} {
		if got, e := platter.Find(c.disks, c.block); got != c.want || e != api.OK {
			t.Errorf("P6: Find(%d, %d) = %v, %d, want %v", c.disks, c.block, got, e, c.want)
		}
	}
}

func TestHoldsExamples(t *testing.T) {
	for _, c := range []struct {
		disks, stripe int
		want          []int
	}{
		{4, 0, []int{3, 0, 1, 2}},
		{4, 1, []int{0, 1, 2, 3}},
		{4, 4, []int{3, 0, 1, 2}},
		{5, 5, []int{4, 0, 1, 2, 3}},
		{8, 5, []int{4, 5, 6, 7, 0, 1, 2, 3}},
	} {
		for disk, want := range c.want {
			if got, e := platter.Holds(c.disks, c.stripe, disk); got != want || e != api.OK {
				t.Errorf("P6: Holds(%d, %d, %d) = %d, %d, want %d", c.disks, c.stripe, disk, got, e, want)
			}
		}
	}
}

// TestFindAndHoldsAgree: every block lies where Holds says that its column is, and every column of a stripe is on one disk.
func TestFindAndHoldsAgree(t *testing.T) {
	for disks := 4; disks <= 8; disks++ {
		for block := range 6 * (disks - 2) {
			place, e := platter.Find(disks, block)
			if e != api.OK || place.Stripe*(disks-2)+place.Column != block || place.Column >= disks-2 || place.Sector != 17+2*place.Stripe {
				t.Fatalf("P6: Find(%d, %d) = %v, %d", disks, block, place, e)
			}
			if column, e := platter.Holds(disks, place.Stripe, place.Disk); column != place.Column || e != api.OK {
				t.Fatalf("P6: block %d of %d disks at %v, but Holds = %d, %d", block, disks, place, column, e)
			}
		}
		for stripe := range 6 {
			var seen [8]int
			for disk := range disks {
				column, _ := platter.Holds(disks, stripe, disk)
				seen[column]++
			}
			for column := range disks {
				if seen[column] != 1 {
					t.Fatalf("P6: %d disks, stripe %d: column %d is on %d disks", disks, stripe, column, seen[column])
				}
			}
		}
	}
}

func TestFindEdges(t *testing.T) {
	for _, disks := range edges {
		for _, block := range edges {
			want := api.ErrArg
			if disks >= 4 && disks <= 8 && block >= 0 && block < 6*(disks-2) {
				want = api.OK
			}
			place, e := platter.Find(disks, block)
			if e != want || want != api.OK && place != (api.Place{}) {
				t.Errorf("P1, P6: Find(%d, %d) = %v, %d, want %d", disks, block, place, e, want)
			}
		}
	}
}

func TestHoldsEdges(t *testing.T) {
	for _, disks := range edges {
		for _, stripe := range edges {
			for _, disk := range edges {
				want := api.ErrArg
				if disks >= 4 && disks <= 8 && stripe >= 0 && stripe <= 5 && disk >= 0 && disk < disks {
					want = api.OK
				}
				column, e := platter.Holds(disks, stripe, disk)
				if e != want || want != api.OK && column != 0 {
					t.Errorf("P1, P6: Holds(%d, %d, %d) = %d, %d, want %d", disks, stripe, disk, column, e, want)
				}
			}
		}
	}
}
