package volume

import (
	"platter/api"
	"platter/layout"
	"platter/stripe"
)

// request: its data are a copy, so that the caller may go on with his own.
type request struct {
	id, kind, number int
	data             stripe.Column
}

// Submit asks for something.
func (v *Volume) Submit(r api.Request) (int, api.Errno) {
	if v.state == api.Failed {
		return 0, api.ErrFailed
	}
	if !v.mayBe(r) {
		return 0, api.ErrArg
	}
	if v.requests.Len() >= api.MaxRequests {
		return 0, api.ErrBusy
	}
	v.lastRequest++
	asked := request{id: v.lastRequest, kind: r.Kind, number: r.Number}
	copy(asked.data[:], r.Data)
	v.requests.Put(asked)
	v.run()
	return asked.id, api.OK
}

// mayBe tells whether a request is one that there is.
func (v *Volume) mayBe(r api.Request) bool {
	// How many numbers there are of what the request asks for, and how many bytes come with it.
	numbers, data := 0, 0
	switch r.Kind {
	case api.Read:
		numbers = v.blocks()
	case api.Write:
		numbers, data = v.blocks(), api.Block
	case api.Flush:
		numbers = 1
	case api.Scrub:
		numbers = v.stripes
	}
	return r.Number >= 0 && r.Number < numbers && len(r.Data) == data
}

// finish sets down the result of the first request that waits.
func (v *Volume) finish(result api.Result) {
	first, _ := v.requests.Take()
	result.Id = first.id
	v.results.Put(result)
}

// Results tells the results that have not been told yet.
func (v *Volume) Results() []api.Result {
	var told []api.Result
	for v.results.Len() > 0 {
		result, _ := v.results.Take()
		told = append(told, result)
	}
	return told
}

func (v *Volume) place(block int) api.Place {
	return layout.Block(v.disks(), block)
}
