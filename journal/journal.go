// Package journal: what the volume keeps in the sectors of a disk that are its own.
//
// One sector is the disk's label. It tells that the disk is a member, which a new disk, all zeros, is not;
// and whether the record behind it is to be carried out again if the volume is opened anew.
// The label is one sector, so a crash leaves it whole: it decides over the record, which a crash may tear.
package journal

import (
	"platter/api"
	"platter/stripe"
)

// Where the label and the record lie.
const (
	LabelSector = 0
	FirstSector = 1
)

// member stands first in the label of a disk that has all of its columns.
const member = 1

// Label: Block is the block of the record, if it is Pending.
type Label struct {
	Member  bool
	Pending bool
	Block   int
}

// Write tells the sector of a label.
func (l Label) Write() stripe.Sector {
	var sector stripe.Sector
	if l.Member {
		sector[0] = member
	}
	if l.Pending {
		sector[1] = byte(l.Block + 1)
	}
	return sector
}

// ReadLabel tells the label in a sector. A block that the volume has not is none: a disk may answer anything.
func ReadLabel(sector stripe.Sector, blocks int) Label {
	label := Label{Member: sector[0] == member}
	if block := int(sector[1]) - 1; label.Member && block >= 0 && block < blocks {
		label.Pending, label.Block = true, block
	}
	return label
}

// Record: what a Write leaves in its stripe. It has both columns of parity, so that the stripe can be made
// to hold again without a look at what the Write may have left of them half done.
type Record struct {
	Data, P, Q stripe.Column
}

// Sectors: so many a record has.
const Sectors = 3 * api.Block / api.Sector

// Write tells the sectors of a record.
func (r Record) Write() [Sectors]stripe.Sector {
	var sectors [Sectors]stripe.Sector
	for i, column := range [3]stripe.Column{r.Data, r.P, r.Q} {
		sectors[2*i], sectors[2*i+1] = column.Split()
	}
	return sectors
}

// ReadRecord tells the record in its sectors.
func ReadRecord(sectors [Sectors]stripe.Sector) Record {
	return Record{
		Data: stripe.Join(sectors[0], sectors[1]),
		P:    stripe.Join(sectors[2], sectors[3]),
		Q:    stripe.Join(sectors[4], sectors[5]),
	}
}
