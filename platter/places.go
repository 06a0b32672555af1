package platter

import (
	"platter/api"
	"platter/layout"
)

// Find tells where a block lies (P6).
func Find(disks int, block int) (api.Place, api.Errno) {
	if !between(disks, api.MinDisks, api.MaxDisks) || !between(block, 0, api.MaxStripes*(disks-2)-1) {
		return api.Place{}, api.ErrArg
	}
	return layout.Block(disks, block), api.OK
}

// Holds tells which column of a stripe lies on a disk (P6).
func Holds(disks int, stripe int, disk int) (int, api.Errno) {
	if !between(disks, api.MinDisks, api.MaxDisks) || !between(stripe, 0, api.MaxStripes-1) || !between(disk, 0, disks-1) {
		return 0, api.ErrArg
	}
	return layout.Column(disks, stripe, disk), api.OK
}
