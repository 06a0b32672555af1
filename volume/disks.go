package volume

import (
	"platter/api"
	"platter/queue"
)

// Member tells how a disk stands.
func (v *Volume) Member(disk int) (int, api.Errno) {
	if !v.hasDisk(disk) {
		return 0, api.ErrArg
	}
	return v.standing[disk], api.OK
}

// Fail says that a disk has failed.
func (v *Volume) Fail(disk int) api.Errno {
	if !v.hasDisk(disk) || v.standing[disk] == api.Gone {
		return api.ErrArg
	}
	v.lose(disk)
	v.run()
	return api.OK
}

// Replace says that a new disk stands where one has failed.
func (v *Volume) Replace(disk int) api.Errno {
	if !v.hasDisk(disk) || v.standing[disk] != api.Gone || v.awaits(disk) {
		return api.ErrArg
	}
	v.rebuild(disk)
	v.run()
	return api.OK
}

func (v *Volume) hasDisk(disk int) bool {
	return disk >= 0 && disk < v.disks()
}

// awaits tells whether a command that was told for a disk is not done.
func (v *Volume) awaits(disk int) bool {
	for _, command := range v.told {
		if command.Disk == disk {
			return true
		}
	}
	return false
}

func (v *Volume) isCurrent(disk int) bool {
	return v.standing[disk] == api.Current
}

// current tells the disks that are current.
func (v *Volume) current() []int {
	var disks []int
	for disk := range v.standing {
		if v.isCurrent(disk) {
			disks = append(disks, disk)
		}
	}
	return disks
}

// lose sets down that a disk has failed. What was not told yet for it is not told any more.
func (v *Volume) lose(disk int) {
	v.standing[disk] = api.Gone
	v.waiting.Keep(func(command api.Command) bool { return command.Disk != disk })
	v.fillings.Keep(func(f *filling) bool { return f.disk != disk })
	if v.at != nil {
		v.at.miss(disk)
	}
	v.failIfLost()
}

// rebuild sets down that a disk is new, and has nothing yet.
func (v *Volume) rebuild(disk int) {
	v.standing[disk] = api.Rebuilding
	v.letFill(disk, 0)
	v.failIfLost()
}

// letFill lets a disk wait to be filled from a stripe on.
func (v *Volume) letFill(disk, stripe int) {
	v.fillings.Put(&filling{work: v.work(), disk: disk, stripe: stripe})
}

// failIfLost ends all if more than two disks are not current: what waits has its result, and nothing more is
// asked of the disks.
func (v *Volume) failIfLost() {
	if len(v.current()) >= v.disks()-2 {
		return
	}
	v.state = api.Failed
	v.at = nil
	v.waiting = queue.Ring[api.Command]{}
	v.fillings = queue.Ring[*filling]{}
	for v.requests.Len() > 0 {
		v.finish(api.Result{E: api.ErrFailed})
	}
}
