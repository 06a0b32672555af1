package volume

import (
	"platter/api"
	"platter/journal"
	"platter/layout"
)

// filling gives a new disk its column of one stripe. One stripe is one turn: requests are carried out between.
// The disk has no label until all of its columns are safe: behind a crash it is filled from the start.
type filling struct {
	work
	disk, stripe int
}

func (f *filling) begin() {
	f.readStripe(f.stripe)
	f.next = f.fill
}

func (f *filling) fill() {
	column := layout.Column(f.volume.disks(), f.stripe, f.disk)
	f.writeColumn(f.stripe, f.disk, f.solvedStripe(f.stripe)[column])
	f.next = f.endTurn
}

func (f *filling) endTurn() {
	if f.stripe+1 < f.volume.stripes {
		f.volume.letFill(f.disk, f.stripe+1)
		return
	}
	f.makeSafe([]int{f.disk})
	f.next = f.writeLabel
}

func (f *filling) writeLabel() {
	f.write(spot{f.disk, journal.LabelSector}, journal.Label{Member: true}.Write())
	f.next = f.makeLabelSafe
}

func (f *filling) makeLabelSafe() {
	f.makeSafe([]int{f.disk})
	f.next = f.join
}

func (f *filling) join() {
	f.volume.standing[f.disk] = api.Current
}

// miss ends the turn with its disk: a newer one that may stand there soon has nothing of what was done so far.
func (f *filling) miss(disk int) {
	if disk == f.disk {
		f.next = nil
	}
}
