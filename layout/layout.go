// Package layout: where the columns of the stripes lie on the disks.
// The numbers that are handed in are such as there may be; whoever calls has looked.
package layout

import "platter/api"

// diskOfP tells the disk that has the column P of a stripe.
func diskOfP(disks, stripe int) int {
	return disks - 1 - stripe%disks
}

// Disk tells the disk that has a column of a stripe.
func Disk(disks, stripe, column int) int {
	// Behind P comes Q, then the data columns: column 0 is two disks behind P.
	return (diskOfP(disks, stripe) + 2 + column) % disks
}

// Column tells the column of a stripe that a disk has: what Disk tells, the other way round.
func Column(disks, stripe, disk int) int {
	// One round is added, so that the remainder is not taken of a number below 0.
	behind := (disk - diskOfP(disks, stripe) + disks) % disks
	return (behind + disks - 2) % disks
}

// Sector tells the first sector of a stripe's column on every disk.
func Sector(stripe int) int {
	return api.Own + api.Block/api.Sector*stripe
}

// Block tells where a block lies.
func Block(disks, block int) api.Place {
	stripe, column := block/(disks-2), block%(disks-2)
	return api.Place{
		Stripe: stripe,
		Column: column,
		Disk:   Disk(disks, stripe, column),
		Sector: Sector(stripe),
	}
}
