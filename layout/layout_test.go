package layout

import (
	"testing"

	"platter/api"
)

// TestNeighbours: each column is on the disk behind that of the column before it; P's disk goes down by one a stripe.
func TestNeighbours(t *testing.T) {
	for disks := api.MinDisks; disks <= api.MaxDisks; disks++ {
		wantP := disks - 1
		for stripe := range api.MaxStripes {
			disk := wantP
			for _, column := range inOrder(disks) {
				if got := Disk(disks, stripe, column); got != disk {
					t.Errorf("P6: %d disks, stripe %d: column %d on disk %d, want %d", disks, stripe, column, got, disk)
				}
				if got := Column(disks, stripe, disk); got != column {
					t.Errorf("P6: %d disks, stripe %d: disk %d has column %d, want %d", disks, stripe, disk, got, column)
				}
				if disk++; disk == disks {
					disk = 0
				}
			}
			if wantP--; wantP < 0 {
				wantP = disks - 1
			}
		}
	}
}

// inOrder: the columns as they follow each other on the disks: P, Q, the data columns.
func inOrder(disks int) []int {
	order := []int{disks - 2, disks - 1}
	for c := range disks - 2 {
		order = append(order, c)
	}
	return order
}

func TestSector(t *testing.T) {
	for stripe, want := range []int{17, 19, 21, 23, 25, 27} {
		if got := Sector(stripe); got != want {
			t.Errorf("P6: stripe %d begins at sector %d, want %d", stripe, got, want)
		}
	}
}

func TestBlock(t *testing.T) {
	for disks := api.MinDisks; disks <= api.MaxDisks; disks++ {
		block := 0
		for stripe := range api.MaxStripes {
			for column := range disks - 2 {
				want := api.Place{Stripe: stripe, Column: column, Disk: Disk(disks, stripe, column), Sector: Sector(stripe)}
				if got := Block(disks, block); got != want {
					t.Errorf("P6: block %d of %d disks at %+v, want %+v", block, disks, got, want)
				}
				block++
			}
		}
	}
}
