package volume

import (
	"platter/api"
	"platter/journal"
	"platter/stripe"
)

// writing changes a block. Its result comes about when all of it is safe.
type writing struct {
	saving
	data stripe.Column
}

func (w *writing) begin() {
	w.readStripe(w.place().Stripe)
	w.next = w.change
}

func (w *writing) change() {
	place := w.place()
	columns := w.solvedStripe(place.Stripe)
	columns[place.Column] = w.data
	p, q := stripe.Parity(columns[:w.volume.disks()-2])
	w.save(journal.Record{Data: w.data, P: p, Q: q}, w.tell)
}

func (w *writing) tell() {
	w.volume.finish(api.Result{})
}

// flushing has nothing to wait for: a Write is safe when its result comes about.
type flushing struct {
	work
}

func (f *flushing) begin() {
	f.volume.finish(api.Result{})
}
