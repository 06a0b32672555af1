// Package volume: a volume and what it is at.
//
// A volume is at one task at a time: it is opened, or carries out the first request that waits. A task goes
// step by step: a step gives commands for the disks, and the next one is taken when all of these are done.
package volume

import (
	"slices"

	"platter/api"
	"platter/queue"
	"platter/stripe"
)

// Volume is a volume over disks.
type Volume struct {
	standing []int // how each disk stands
	stripes  int
	state    int
	at       task // nil: at nothing

	waiting     queue.Ring[api.Command] // not told yet
	told        map[int]api.Command     // by their Ids: told, and not done
	lastCommand int

	requests    queue.Ring[request] // whose results have not come about
	results     queue.Ring[api.Result]
	lastRequest int
}

// Open makes a volume of numbers that there may be, and begins to open it.
func Open(disks, stripes int, fresh bool) *Volume {
	v := &Volume{
		standing: slices.Repeat([]int{api.Current}, disks),
		stripes:  stripes,
		told:     map[int]api.Command{},
	}
	v.start(&opening{saving: saving{work: v.work()}, fresh: fresh})
	return v
}

// State tells how the volume stands.
func (v *Volume) State() int {
	return v.state
}

// Member tells how a disk stands.
func (v *Volume) Member(disk int) (int, api.Errno) {
	if disk < 0 || disk >= v.disks() {
		return 0, api.ErrArg
	}
	return v.standing[disk], api.OK
}

func (v *Volume) disks() int {
	return len(v.standing)
}

func (v *Volume) blocks() int {
	return v.stripes * (v.disks() - 2)
}

func (v *Volume) isCurrent(disk int) bool {
	return v.standing[disk] == api.Current
}

// current tells the disks that are current.
func (v *Volume) current() []int {
	var disks []int
	for disk := range v.standing {
		if v.isCurrent(disk) {
			disks = append(disks, disk)
		}
	}
	return disks
}

// degrade sets down that a disk is not current any more.
func (v *Volume) degrade(disk, standing int) {
	v.standing[disk] = standing
	if len(v.current()) < v.disks()-2 {
		v.fail()
	}
}

// lose sets down that a disk has failed. What was not told yet for it is not told any more.
func (v *Volume) lose(disk int) {
	v.waiting.Keep(func(command api.Command) bool { return command.Disk != disk })
	v.degrade(disk, api.Gone)
}

// fail ends all: what waits has its result, and nothing more is asked of the disks.
func (v *Volume) fail() {
	v.state = api.Failed
	v.at = nil
	v.waiting = queue.Ring[api.Command]{}
	for v.requests.Len() > 0 {
		v.finish(api.Result{E: api.ErrFailed})
	}
}

// run takes steps until the disks have something to answer, or there is nothing to do.
func (v *Volume) run() {
	for v.state != api.Failed && v.waiting.Len() == 0 && len(v.told) == 0 {
		if v.at == nil && v.requests.Len() == 0 {
			return
		}
		if v.at == nil {
			v.start(v.choose())
		} else if !v.at.goOn() {
			v.at = nil
		}
	}
}

func (v *Volume) start(t task) {
	v.at = t
	t.begin()
}

// choose tells the task that carries out the first request that waits.
func (v *Volume) choose() task {
	r, _ := v.requests.First()
	switch r.kind {
	case api.Read:
		return &reading{work: v.work(), place: v.place(r.number)}
	case api.Write:
		return &writing{saving: saving{work: v.work(), block: r.number}, data: r.data}
	case api.Scrub:
		return &scrubbing{work: v.work(), stripe: r.number}
	}
	return &flushing{work: v.work()}
}

func (v *Volume) work() work {
	return work{volume: v, heard: map[spot]stripe.Sector{}}
}
