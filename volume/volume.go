// Package volume: a volume and what it is at.
//
// A volume is at one task at a time: it is opened, or carries out the first request that waits, or fills a stripe
// of a new disk. A task goes step by step: a step gives commands for the disks, and the next one is taken when all
// of these are done.
package volume

import (
	"slices"

	"platter/api"
	"platter/queue"
	"platter/stripe"
)

// Volume is a volume over disks.
type Volume struct {
	standing []int // how each disk stands
	stripes  int
	state    int
	at       task // nil: at nothing

	waiting     queue.Ring[api.Command] // not told yet
	told        map[int]api.Command     // by their Ids: told, and not done
	lastCommand int

	requests    queue.Ring[request] // whose results have not come about
	results     queue.Ring[api.Result]
	lastRequest int

	fillings  queue.Ring[*filling] // of disks that are Rebuilding
	fillFirst bool                 // it is the turn of a filling
}

// Open makes a volume of numbers that there may be, and begins to open it.
func Open(disks, stripes int, fresh bool) *Volume {
	v := &Volume{
		standing: slices.Repeat([]int{api.Current}, disks),
		stripes:  stripes,
		told:     map[int]api.Command{},
	}
	v.start(&opening{saving: saving{work: v.work()}, fresh: fresh})
	return v
}

// State tells how the volume stands.
func (v *Volume) State() int {
	return v.state
}

func (v *Volume) disks() int {
	return len(v.standing)
}

func (v *Volume) blocks() int {
	return v.stripes * (v.disks() - 2)
}

// run takes steps until the disks have something to answer, or there is nothing to do.
func (v *Volume) run() {
	for v.state != api.Failed && v.waiting.Len() == 0 && len(v.told) == 0 {
		if v.at == nil && v.requests.Len() == 0 && v.fillings.Len() == 0 {
			return
		}
		if v.at == nil {
			v.start(v.choose())
		} else if !v.at.goOn() {
			v.at = nil
		}
	}
}

func (v *Volume) start(t task) {
	v.at = t
	t.begin()
}

// choose tells what comes next of what waits. Requests and fillings take turns: neither keeps the other from its end.
func (v *Volume) choose() task {
	fill := v.fillings.Len() > 0 && (v.fillFirst || v.requests.Len() == 0)
	v.fillFirst = !fill
	if fill {
		f, _ := v.fillings.Take()
		return f
	}
	return v.firstRequest()
}

// firstRequest tells the task that carries out the first request that waits.
func (v *Volume) firstRequest() task {
	r, _ := v.requests.First()
	switch r.kind {
	case api.Read:
		return &reading{work: v.work(), place: v.place(r.number)}
	case api.Write:
		return &writing{saving: saving{work: v.work(), block: r.number}, data: r.data}
	case api.Scrub:
		return &scrubbing{work: v.work(), stripe: r.number}
	}
	return &flushing{work: v.work()}
}

func (v *Volume) work() work {
	return work{volume: v, heard: map[spot]stripe.Sector{}}
}
