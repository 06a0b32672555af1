package volume

import (
	"platter/api"
	"platter/layout"
	"platter/stripe"
)

// scrubbing holds the columns of a stripe against each other.
type scrubbing struct {
	work
	stripe int
	found  api.Result
}

func (s *scrubbing) begin() {
	s.readStripe(s.stripe)
	s.next = s.look
}

func (s *scrubbing) look() {
	columns, missing := s.heardStripe(s.stripe)
	if len(missing) > 0 {
		s.tell()
		return
	}
	verdict, column, value := stripe.Locate(columns)
	s.found = api.Result{Verdict: verdict, Column: column}
	if verdict != api.Repaired {
		s.tell()
		return
	}
	s.writeColumn(s.stripe, s.disk(), value)
	s.next = s.makeRepairSafe
}

// disk tells the disk of the column that was wrong.
func (s *scrubbing) disk() int {
	return layout.Disk(s.volume.disks(), s.stripe, s.found.Column)
}

func (s *scrubbing) makeRepairSafe() {
	s.makeSafe([]int{s.disk()})
	s.next = s.tell
}

// tell looks at the disks last: the one that was to be repaired may have failed at that.
func (s *scrubbing) tell() {
	if len(s.volume.current()) < s.volume.disks() {
		s.found = api.Result{E: api.ErrDegraded}
	}
	s.volume.finish(s.found)
}
