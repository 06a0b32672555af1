package volume

import (
	"platter/api"
	"platter/journal"
	"platter/layout"
)

// saving is what tasks share that change a stripe. A crash may keep any of the sectors that it writes and lose
// the others, and disks may be lost with it. So a record of the change goes first, to every disk that is
// current; it counts from when the label names it; and only when it counts on all of them, so that some disk
// keeps it whatever two are lost, the stripe itself is touched. The record ceases to count when the stripe is safe.
type saving struct {
	work
	block  int
	record journal.Record
	after  func() // the step that comes when all is safe
}

// save writes what a record says of the block's stripe.
func (s *saving) save(record journal.Record, after func()) {
	s.record, s.after = record, after
	for _, disk := range s.volume.current() {
		for i, sector := range record.Write() {
			s.write(spot{disk, journal.FirstSector + i}, sector)
		}
	}
	s.next = s.makeRecordSafe
}

func (s *saving) makeRecordSafe() {
	s.makeSafe(s.volume.current())
	s.next = s.nameRecord
}

func (s *saving) nameRecord() {
	s.writeLabels(journal.Label{Member: true, Pending: true, Block: s.block})
	s.next = s.makeNameSafe
}

func (s *saving) makeNameSafe() {
	s.makeSafe(s.volume.current())
	s.next = s.writeStripe
}

// writeStripe writes to disks, too, that are being filled: what they have already is to stay right.
func (s *saving) writeStripe() {
	disks := s.touched()
	number := s.place().Stripe
	s.writeColumn(number, disks[0], s.record.Data)
	s.writeColumn(number, disks[1], s.record.P)
	s.writeColumn(number, disks[2], s.record.Q)
	s.next = s.makeStripeSafe
}

func (s *saving) makeStripeSafe() {
	s.makeSafe(s.touched())
	s.next = s.dropRecord
}

// dropRecord goes to its end before anything else is begun: the next record is laid over this one.
func (s *saving) dropRecord() {
	s.writeLabels(journal.Label{Member: true})
	s.next = s.makeDropSafe
}

func (s *saving) makeDropSafe() {
	s.makeSafe(s.volume.current())
	s.next = s.after
}

func (s *saving) writeLabels(label journal.Label) {
	for _, disk := range s.volume.current() {
		s.write(spot{disk, journal.LabelSector}, label.Write())
	}
}

func (s *saving) place() api.Place {
	return s.volume.place(s.block)
}

// touched tells the disks of the block, of P and of Q.
func (s *saving) touched() []int {
	disks, place := s.volume.disks(), s.place()
	return []int{
		place.Disk,
		layout.Disk(disks, place.Stripe, disks-2),
		layout.Disk(disks, place.Stripe, disks-1),
	}
}
