package volume

import (
	"testing"

	"platter/api"
)

// TestNeverMoreThanMaxCommands: however many wait to be told.
func TestNeverMoreThanMaxCommands(t *testing.T) {
	v := Open(4, 1, true)
	for sector := range 3 * api.MaxCommands {
		v.give(api.ReadSector, sector%4, 0, nil)
	}
	given, done := 0, 0
	for v.waiting.Len() > 0 {
		given += len(v.Commands())
		if given-done > api.MaxCommands || given-done < api.MaxCommands && v.waiting.Len() > 0 {
			t.Fatalf("P8: %d commands are given and not done", given-done)
		}
		for range 1 + done%5 {
			done++
			if e := v.Done(done, true, make([]byte, api.Sector)); e != api.OK {
				t.Fatalf("P8: Done(%d) = %d", done, e)
			}
		}
	}
}

// TestUntoldCommandsOfALostDisk: what was not told when its disk failed is not told any more; the Ids go on without a gap.
func TestUntoldCommandsOfALostDisk(t *testing.T) {
	v := Open(5, 1, true)
	v.lose(3)
	given := v.Commands()
	for i, c := range given {
		if c.Id != i+1 || c.Disk == 3 {
			t.Errorf("P8: the command %+v in place %d, and disk 3 has failed", c, i)
		}
	}
	if standing, _ := v.Member(3); standing != api.Gone || len(given) == 0 {
		t.Errorf("P11: disk 3 has failed: Member %d, commands %v", standing, given)
	}
}

// TestUntoldCommandsOfAFailedVolume: none is told any more.
func TestUntoldCommandsOfAFailedVolume(t *testing.T) {
	v := Open(8, 1, true)
	for _, disk := range []int{0, 4, 5} {
		v.lose(disk)
	}
	if given := v.Commands(); len(given) > 0 || v.State() != api.Failed {
		t.Errorf("P13: State %d, commands %v", v.State(), given)
	}
}
