package volume

import (
	"platter/api"
	"platter/layout"
	"platter/stripe"
)

// scrubbing holds the columns of a stripe against each other. The column that is wrong is written without a record
// of it: if a crash tears it, it is still the one column that is wrong, and the next Scrub finds it.
type scrubbing struct {
	work
	stripe int
	found  api.Result
}

func (s *scrubbing) begin() {
	if s.degraded() {
		s.tell()
		return
	}
	s.readStripe(s.stripe)
	s.next = s.look
}

// degraded: with a column missing, the others can't tell which one of them is wrong.
func (s *scrubbing) degraded() bool {
	return len(s.volume.current()) < s.volume.disks()
}

// look asks for the disks anew: one may have failed since it was told to read.
func (s *scrubbing) look() {
	if s.degraded() {
		s.tell()
		return
	}
	columns, _ := s.heardStripe(s.stripe)
	verdict, column, value := stripe.Locate(columns)
	s.found = api.Result{Verdict: verdict, Column: column}
	if verdict != api.Repaired {
		s.tell()
		return
	}
	s.writeColumn(s.stripe, s.disk(), value)
	s.next = s.makeRepairSafe
}

// disk tells the disk of the column that was wrong.
func (s *scrubbing) disk() int {
	return layout.Disk(s.volume.disks(), s.stripe, s.found.Column)
}

func (s *scrubbing) makeRepairSafe() {
	s.makeSafe([]int{s.disk()})
	s.next = s.tell
}

// tell looks at the disks last: the one that was to be repaired, or another, may have failed at that.
func (s *scrubbing) tell() {
	if s.degraded() {
		s.found = api.Result{E: api.ErrDegraded}
	}
	s.volume.finish(s.found)
}
