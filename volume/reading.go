package volume

import (
	"bytes"

	"platter/api"
	"platter/stripe"
)

// reading tells a block.
type reading struct {
	work
	place api.Place
}

func (r *reading) begin() {
	if r.volume.isCurrent(r.place.Disk) {
		r.readColumn(r.place.Stripe, r.place.Disk)
	}
	r.next = r.tellRead
}

// tellRead looks at the disk anew: it may have failed since it was asked.
func (r *reading) tellRead() {
	if r.volume.isCurrent(r.place.Disk) {
		r.tell(r.heardColumn(r.place.Stripe, r.place.Disk))
		return
	}
	r.readStripe(r.place.Stripe)
	r.next = r.tellSolved
}

func (r *reading) tellSolved() {
	r.tell(r.solvedStripe(r.place.Stripe)[r.place.Column])
}

func (r *reading) tell(block stripe.Column) {
	r.volume.finish(api.Result{Data: bytes.Clone(block[:])})
}
