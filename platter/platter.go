// Package platter: a volume over several disks: see DOC.md.
package platter

import (
	"platter/api"
	"platter/volume"
)

// Volume is a volume.
type Volume struct {
	inner *volume.Volume
}

// Open makes a volume over disks (P7).
func Open(disks int, stripes int, fresh bool) (*Volume, api.Errno) {
	if !between(disks, api.MinDisks, api.MaxDisks) || !between(stripes, 1, api.MaxStripes) {
		return nil, api.ErrArg
	}
	return &Volume{inner: volume.Open(disks, stripes, fresh)}, api.OK
}

// Commands tells the commands that have not been told yet (P8).
func (v *Volume) Commands() []api.Command { return v.inner.Commands() }

// Done tells the volume what came of a command (P8).
func (v *Volume) Done(id int, ok bool, data []byte) api.Errno { return v.inner.Done(id, ok, data) }

// Submit asks for something (P9).
func (v *Volume) Submit(r api.Request) (int, api.Errno) { return v.inner.Submit(r) }

// Results tells the results that have not been told yet (P9).
func (v *Volume) Results() []api.Result { return v.inner.Results() }

// State tells how the volume stands (P7, P13).
func (v *Volume) State() int { return v.inner.State() }

// Member tells how a disk stands (P11).
func (v *Volume) Member(disk int) (int, api.Errno) { return v.inner.Member(disk) }

// Fail tells the volume that a disk has failed (P11).
func (v *Volume) Fail(disk int) api.Errno { return v.inner.Fail(disk) }

// Replace tells the volume that a new disk stands in a failed one's place (P11).
func (v *Volume) Replace(disk int) api.Errno { return v.inner.Replace(disk) }
