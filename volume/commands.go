package volume

import (
	"platter/api"
	"platter/stripe"
)

// Commands tells the commands that have not been told yet.
func (v *Volume) Commands() []api.Command {
	var told []api.Command
	for len(v.told) < api.MaxCommands {
		command, ok := v.waiting.Take()
		if !ok {
			break
		}
		v.lastCommand++
		command.Id = v.lastCommand
		told = append(told, command)
		// The Data are the caller's from now on.
		command.Data = nil
		v.told[command.Id] = command
	}
	return told
}

// Done tells the volume what came of a command.
func (v *Volume) Done(id int, ok bool, data []byte) api.Errno {
	command, known := v.told[id]
	if !known {
		return api.ErrArg
	}
	read := ok && command.Kind == api.ReadSector
	if read && len(data) != api.Sector {
		return api.ErrArg
	}
	delete(v.told, id)
	if !ok && v.standing[command.Disk] != api.Gone {
		v.lose(command.Disk)
	}
	if read && v.at != nil {
		v.at.hear(spot{command.Disk, command.Sector}, stripe.Sector(data))
	}
	v.run()
	return api.OK
}

// give lets a command wait to be told, unless its disk has failed. The data are handed out as they are.
func (v *Volume) give(kind, disk, sector int, data []byte) {
	if v.standing[disk] == api.Gone {
		return
	}
	v.waiting.Put(api.Command{Kind: kind, Disk: disk, Sector: sector, Data: data})
}
