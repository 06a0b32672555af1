package volume

import (
	"bytes"

	"platter/api"
	"platter/layout"
	"platter/stripe"
)

// task is what a volume is at.
type task interface {
	// begin takes the first step.
	begin()
	// hear keeps what a disk has read.
	hear(at spot, sector stripe.Sector)
	// miss is told of a disk that has failed.
	miss(disk int)
	// goOn takes the next step, when the disks have answered; false if there is none.
	goOn() bool
}

// spot is a sector of a disk.
type spot struct {
	disk, sector int
}

// work is what all tasks share.
type work struct {
	volume *Volume
	heard  map[spot]stripe.Sector
	next   func() // the step that comes when the disks have answered
}

func (w *work) hear(at spot, sector stripe.Sector) {
	w.heard[at] = sector
}

// miss: what is left of a task goes on without the disk.
func (w *work) miss(disk int) {}

func (w *work) goOn() bool {
	next := w.next
	if next == nil {
		return false
	}
	w.next = nil
	next()
	return true
}

func (w *work) read(at spot) {
	w.volume.give(api.ReadSector, at.disk, at.sector, nil)
}

func (w *work) write(at spot, sector stripe.Sector) {
	w.volume.give(api.WriteSector, at.disk, at.sector, bytes.Clone(sector[:]))
}

// makeSafe gives a barrier for each of the disks: behind it, what was written there is lost no more.
func (w *work) makeSafe(disks []int) {
	for _, disk := range disks {
		w.volume.give(api.Barrier, disk, 0, nil)
	}
}

// halves tells where the two sectors of a disk's column lie.
func halves(number, disk int) (spot, spot) {
	sector := layout.Sector(number)
	return spot{disk, sector}, spot{disk, sector + 1}
}

func (w *work) readColumn(number, disk int) {
	first, second := halves(number, disk)
	w.read(first)
	w.read(second)
}

func (w *work) writeColumn(number, disk int, column stripe.Column) {
	first, second := halves(number, disk)
	one, two := column.Split()
	w.write(first, one)
	w.write(second, two)
}

// heardColumn tells a disk's column of a stripe, as it was read.
func (w *work) heardColumn(number, disk int) stripe.Column {
	first, second := halves(number, disk)
	return stripe.Join(w.heard[first], w.heard[second])
}

// readStripe reads all columns of a stripe that there are.
func (w *work) readStripe(number int) {
	for _, disk := range w.volume.current() {
		w.readColumn(number, disk)
	}
}

// heardStripe tells the columns of a stripe as they were read, and which of them are not there: a disk
// that has failed since it was read counts for nothing.
func (w *work) heardStripe(number int) ([]stripe.Column, []int) {
	disks := w.volume.disks()
	columns := make([]stripe.Column, disks)
	var missing []int
	for c := range columns {
		disk := layout.Disk(disks, number, c)
		if w.volume.isCurrent(disk) {
			columns[c] = w.heardColumn(number, disk)
		} else {
			missing = append(missing, c)
		}
	}
	return columns, missing
}

// solvedStripe tells all columns of a stripe that was read, those too that are not there.
func (w *work) solvedStripe(number int) []stripe.Column {
	columns, missing := w.heardStripe(number)
	return stripe.Solve(columns, missing)
}
