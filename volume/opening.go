package volume

import (
	"platter/api"
	"platter/journal"
	"platter/stripe"
)

// opening finds out which disks have all of their columns, and carries out a Write again that was not brought
// to its end. New disks need no more than their labels: stripes of zeros hold.
type opening struct {
	saving
	fresh bool
	from  int // the disk whose record is read
}

func (o *opening) begin() {
	if o.fresh {
		o.writeLabels(journal.Label{Member: true})
		o.next = o.makeLabelsSafe
		return
	}
	for disk := range o.volume.disks() {
		o.read(spot{disk, journal.LabelSector})
	}
	o.next = o.lookAtLabels
}

func (o *opening) makeLabelsSafe() {
	o.makeSafe(o.volume.current())
	o.next = o.ready
}

func (o *opening) lookAtLabels() {
	for _, disk := range o.volume.current() {
		if !o.label(disk).Member {
			o.volume.rebuild(disk)
		}
	}
	if o.volume.state != api.Failed {
		o.readRecord()
	}
}

// label tells the label of a disk, as it was read.
func (o *opening) label(disk int) journal.Label {
	return journal.ReadLabel(o.heard[spot{disk, journal.LabelSector}], o.volume.blocks())
}

// readRecord reads the record of one disk that has one pending: all that are pending are of the same Write.
func (o *opening) readRecord() {
	for _, disk := range o.volume.current() {
		label := o.label(disk)
		if !label.Pending {
			continue
		}
		o.from, o.block = disk, label.Block
		for i := range journal.Sectors {
			o.read(spot{disk, journal.FirstSector + i})
		}
		o.next = o.saveAgain
		return
	}
	o.ready()
}

// saveAgain begins with the record itself: it may be on one disk alone, and that one may be lost.
func (o *opening) saveAgain() {
	if !o.volume.isCurrent(o.from) {
		o.readRecord()
		return
	}
	o.save(journal.ReadRecord(o.heardRecord()), o.ready)
}

func (o *opening) heardRecord() [journal.Sectors]stripe.Sector {
	var sectors [journal.Sectors]stripe.Sector
	for i := range sectors {
		sectors[i] = o.heard[spot{o.from, journal.FirstSector + i}]
	}
	return sectors
}

func (o *opening) ready() {
	o.volume.state = api.Ready
}
