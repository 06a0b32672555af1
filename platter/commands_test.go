package platter_test

import (
	"testing"

	"platter/api"
)

// TestCommandsAreToldOnce: what was told is not told again, and no more comes before something is done.
func TestCommandsAreToldOnce(t *testing.T) {
	sizes(func(disks, stripes int) {
		b := newBench(t, disks, stripes, first)
		for range 2 {
			b.tell()
			if again := b.v.Commands(); len(again) != 0 {
				t.Errorf("P8: told, with nothing done since: %v", again)
			}
			b.rest()
			b.submit(api.Write, 0, whole(1))
		}
	})
}

// TestNothingToDo: a volume at which nothing waits asks nothing of the disks.
func TestNothingToDo(t *testing.T) {
	b := readyBench(t, 5, 2, last)
	b.write(1, whole(2))
	if given := b.v.Commands(); len(given) != 0 || len(b.v.Results()) != 0 {
		t.Errorf("P8: nothing waits, and there are the commands %v", given)
	}
}

// untold: Ids that no command has that waits to be done.
func (b *bench) untold() []int {
	ids := []int{least, -1, 0, b.command + 1, b.command + 2, b.command + 1000, most}
	waits := map[int]int{}
	for _, o := range b.told {
		waits[o.Id]++
	}
	for id := max(1, b.command-100); id <= b.command; id++ {
		if waits[id] == 0 {
			ids = append(ids, id)
		}
	}
	return ids
}

// wrongDones: calls of Done that are ErrArg, every one of them.
func (b *bench) wrongDones() {
	b.t.Helper()
	for _, id := range b.untold() {
		for _, ok := range []bool{true, false} {
			for _, data := range [][]byte{nil, make([]byte, api.Sector)} {
				if e := b.v.Done(id, ok, data); e != api.ErrArg {
					b.t.Fatalf("P8: Done(%d, %v, %d bytes) of a command that was not told, or is done: %d", id, ok, len(data), e)
				}
			}
		}
	}
	for _, o := range b.told {
		for _, length := range []int{0, 1, 7, 9, 16} {
			if o.Kind != api.ReadSector {
				continue
			}
			if e := b.v.Done(o.Id, true, make([]byte, length)); e != api.ErrArg {
				b.t.Fatalf("P8: Done of %+v with %d bytes: %d", o.Command, length, e)
			}
		}
	}
}

// TestDoneWrong: at every moment of a volume's life, with commands that were told, and some that wait to be.
func TestDoneWrong(t *testing.T) {
	var n numbers
	sizes(func(disks, stripes int) {
		b := newBench(t, disks, stripes, anyOf(&n))
		b.wrongDones()
		b.submit(api.Write, 1, whole(4))
		b.submit(api.Read, 1, nil)
		b.submit(api.Scrub, 0, nil)
		for len(b.results) < 3 {
			b.wrongDones()
			b.tell()
			b.wrongDones()
			b.do(b.pick(b.told))
			b.wrongDones()
		}
		b.reads([][]byte{whole(0), whole(4)})
	})
}

// TestDoneBeforeTold: a command that the volume has, but has not told, can't be done.
func TestDoneBeforeTold(t *testing.T) {
	b := newBench(t, 4, 1, first)
	if e := b.v.Done(1, true, make([]byte, api.Sector)); e != api.ErrArg {
		t.Errorf("P8: Done of a command that was not told: %d", e)
	}
	b.ready()
	b.submit(api.Read, 0, nil)
	if e := b.v.Done(b.command+1, true, make([]byte, api.Sector)); e != api.ErrArg {
		t.Errorf("P8: Done of a command that was not told: %d", e)
	}
	b.rest()
}

// TestDataThatNobodyAskedFor: beside a WriteSector or a Barrier the data are not looked at.
func TestDataThatNobodyAskedFor(t *testing.T) {
	b := newBench(t, 4, 1, first)
	b.submit(api.Write, 0, whole(7))
	b.submit(api.Read, 0, nil)
	lengths := []int{0, 1, 8, 9}
	for b.tell(); len(b.told) > 0; b.tell() {
		o := b.told[0]
		if o.Kind == api.ReadSector {
			b.do(0)
			continue
		}
		b.told = b.told[1:]
		b.moment++
		b.media[o.Disk].do(o, b.moment)
		if e := b.v.Done(o.Id, true, make([]byte, lengths[o.Id%4])); e != api.OK {
			t.Fatalf("P8: Done of %+v with %d bytes: %d", o.Command, lengths[o.Id%4], e)
		}
	}
	b.reads([][]byte{whole(7), whole(0)})
	b.stripesHold([][]byte{whole(7), whole(0)})
}

// TestMostCommands: however many requests wait, and if nothing is done, no more than MaxCommands are given.
func TestMostCommands(t *testing.T) {
	var n numbers
	greatest := 0
	sizes(func(disks, stripes int) {
		b := newBench(t, disks, stripes, last)
		for block := range 6 {
			b.submit(api.Write, block%b.blocks(), n.block())
		}
		for b.waits() {
			b.tell()
			b.tell()
			greatest = max(greatest, len(b.told))
			b.do(b.pick(b.told))
		}
	})
	if greatest > api.MaxCommands {
		t.Errorf("P8: %d commands are given and not done", greatest)
	}
}

// TestEnd: whatever the order in which commands are done, something comes about in time, with no Submit between.
func TestEnd(t *testing.T) {
	var n numbers
	sizes(func(disks, stripes int) {
		for _, pick := range picks(&n) {
			b := readyBench(t, disks, stripes, pick)
			for _, kind := range []int{api.Read, api.Write, api.Flush, api.Scrub} {
				var data []byte
				if kind == api.Write {
					data = n.block()
				}
				for range api.MaxRequests {
					b.submit(kind, 0, data)
				}
				b.rest()
			}
			if len(b.results) != 24 {
				t.Errorf("P14: %d disks: %d results of 24", disks, len(b.results))
			}
		}
	})
}
