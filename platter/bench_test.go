package platter_test

import (
	"bytes"
	"fmt"
	"runtime/debug"
	"slices"
	"testing"

	"platter/api"
	"platter/platter"
)

// bench: a volume and its disks, which do what P8 says of them. At each step what the volume gives is held to P8,
// how it goes on to P14, and what is handed over to P2.
type bench struct {
	t              *testing.T
	disks, stripes int
	v              *platter.Volume
	media          []medium
	told           []order           // and not done
	pick           func([]order) int // which one of them is done next
	moment         int               // counts what is told and done
	command        int               // the Id of the last command that was told
	request        int               // the Id of the last request that was submitted
	kinds          []int             // of the requests that were submitted
	results        []api.Result      // all that were told
	silent         bool              // Results are not asked for
	state          int               // as it was last seen
	once           bool              // a volume over these disks has been Ready
	spoiled        bool              // a disk has changed a column by itself
	stood          []int             // how the disks stood
	since          int               // commands that were done since something came about
	seen           func(api.Command) // is told each command
	joined         func(disk int)    // is told each disk that has become Current
}

type order struct {
	api.Command
	told int
}

type medium struct {
	cells  []cell
	failed bool
	bare   bool // it has come later, and was not seen to be Current yet
}

// cell: a sector: what is safe of it, and what was written since, in the order in which it was done.
type cell struct {
	safe  []byte
	later []written
}

type written struct {
	data   []byte
	moment int
}

func (c *cell) now() []byte {
	if len(c.later) == 0 {
		return c.safe
	}
	return c.later[len(c.later)-1].data
}

func (c *cell) secure(before int) {
	for len(c.later) > 0 && c.later[0].moment < before {
		c.safe, c.later = c.later[0].data, c.later[1:]
	}
}

// below tells a number of 0 to limit - 1.
func (n *numbers) below(limit int) int {
	return (int(n.next())<<8 | int(n.next())) % limit
}

func first([]order) int { return 0 }

func last(waiting []order) int { return len(waiting) - 1 }

func anyOf(n *numbers) func([]order) int {
	return func(waiting []order) int { return n.below(len(waiting)) }
}

// late lets one disk do its commands when no other one has any.
func late(disk int) func([]order) int {
	return func(waiting []order) int {
		return max(0, slices.IndexFunc(waiting, func(o order) bool { return o.Disk != disk }))
	}
}

// newMedium: a new disk.
func newMedium(stripes int) medium {
	var m medium
	for range api.Own + 2*stripes {
		m.cells = append(m.cells, cell{safe: make([]byte, api.Sector)})
	}
	return m
}

// newBench opens a volume over new disks, and does none of its commands yet.
func newBench(t *testing.T, disks, stripes int, pick func([]order) int) *bench {
	b := &bench{t: t, disks: disks, stripes: stripes, pick: pick}
	for range disks {
		b.media = append(b.media, newMedium(stripes))
	}
	b.open(true)
	return b
}

// readyBench opens a volume over new disks, and lets it get ready.
func readyBench(t *testing.T, disks, stripes int, pick func([]order) int) *bench {
	b := newBench(t, disks, stripes, pick)
	b.ready()
	return b
}

// broken ends the test, and tells the way there. (Helper, called at each command, would take most of the time.)
func (b *bench) broken(format string, args ...any) {
	b.t.Helper()
	b.t.Fatalf("%s\n%s", fmt.Sprintf(format, args...), debug.Stack())
}

func (b *bench) open(fresh bool) {
	v, e := platter.Open(b.disks, b.stripes, fresh)
	if v == nil || e != api.OK {
		b.broken("P7: Open(%d, %d, %v): %d", b.disks, b.stripes, fresh, e)
	}
	if state := v.State(); state != api.Opening {
		b.broken("P7: Open(%d, %d, %v): State %d", b.disks, b.stripes, fresh, state)
	}
	b.v, b.told, b.kinds, b.results, b.command, b.request, b.since, b.state = v, nil, nil, nil, 0, 0, 0, api.Opening
	b.stood = make([]int, b.disks) // all Current
	b.look()
}

func (b *bench) ready() {
	b.rest()
	if state := b.v.State(); state != api.Ready {
		b.broken("P7: %d disks, %d stripes: State %d, want Ready", b.disks, b.stripes, state)
	}
}

func (b *bench) blocks() int { return b.stripes * (b.disks - 2) }

// tell asks for the commands.
func (b *bench) tell() {
	b.look()
	given := b.v.Commands()
	b.take(given)
	scribble(given)
	if len(b.told) == 0 && b.waits() {
		b.broken("P14: something waits, and no command is told")
	}
}

// take lets commands that were told wait to be done.
func (b *bench) take(given []api.Command) {
	b.moment++
	for _, c := range given {
		b.command++
		b.held(c)
		if b.seen != nil {
			b.seen(c)
		}
		c.Data = bytes.Clone(c.Data)
		b.told = append(b.told, order{c, b.moment})
	}
	if len(b.told) > api.MaxCommands {
		b.broken("P8: %d commands are given and not done", len(b.told))
	}
	if len(given) > 0 && b.v.State() == api.Failed {
		b.broken("P13: State is Failed, and there are the commands %v", given)
	}
}

// held holds a command to P8.
func (b *bench) held(c api.Command) {
	ok := c.Id == b.command && c.Disk >= 0 && c.Disk < b.disks && c.Sector >= 0 && c.Sector < api.Own+2*b.stripes
	switch c.Kind {
	case api.ReadSector:
		ok = ok && len(c.Data) == 0
	case api.WriteSector:
		ok = ok && len(c.Data) == api.Sector
	case api.Barrier:
		ok = ok && len(c.Data) == 0 && c.Sector == 0
	default:
		ok = false
	}
	if !ok {
		b.broken("P8: the command %+v, of %d disks with %d stripes, behind Id %d", c, b.disks, b.stripes, b.command-1)
	}
	if standing, _ := b.v.Member(c.Disk); standing == api.Gone {
		b.broken("P8: the command %+v is for a disk that has failed", c)
	}
}

// scribble writes over commands and all behind them: they are the caller's.
func scribble(given []api.Command) {
	given = given[:cap(given)]
	for i := range given {
		data := given[i].Data[:cap(given[i].Data)]
		for k := range data {
			data[k] ^= 255
		}
		given[i] = api.Command{Id: -1, Kind: -1, Disk: -1, Sector: -1}
	}
}

// waits tells whether something waits.
func (b *bench) waits() bool {
	return b.state == api.Opening || !b.silent && len(b.results) < b.request || b.state == api.Ready && slices.Contains(b.stood, api.Rebuilding)
}

// do lets a disk do the k-th of the commands that were told.
func (b *bench) do(k int) {
	o := b.told[k]
	b.told = slices.Delete(b.told, k, k+1)
	b.moment++
	m := &b.media[o.Disk]
	// What is read is handed over with spare room behind it, and is written over afterwards.
	room := []byte{201, 202, 203, 204, 205, 206, 207, 208, 209, 210, 211, 212}
	var data []byte
	if o.Kind == api.ReadSector && !m.failed {
		copy(room, m.cells[o.Sector].now())
		data = room[:api.Sector]
	}
	was := bytes.Clone(room)
	m.do(o, b.moment)
	if e := b.v.Done(o.Id, !m.failed, data); e != api.OK {
		b.broken("P8: Done of %+v: %d", o.Command, e)
	}
	if !bytes.Equal(room, was) {
		b.broken("P2: Done has written into what was handed in: %v, it was %v", room, was)
	}
	clear(room)
	b.since++
	if m.failed {
		b.stood[o.Disk] = api.Gone
	}
	b.look()
}

// do: what a disk does with a command that writes.
func (m *medium) do(o order, moment int) {
	switch {
	case m.failed:
	case o.Kind == api.WriteSector:
		c := &m.cells[o.Sector]
		c.later = append(c.later, written{o.Data, moment})
	case o.Kind == api.Barrier:
		for s := range m.cells {
			m.cells[s].secure(o.told)
		}
	}
}

// look sees what has come about.
func (b *bench) look() {
	if b.since > 400 {
		b.broken("P14: %d commands were done, and nothing came about", b.since)
	}
	b.lookAtDisks()
	b.lookAtState()
	if b.silent {
		return
	}
	for _, r := range b.v.Results() {
		if r.Id != len(b.results)+1 || r.Id > b.request {
			b.broken("P9: the result %+v behind those of %d requests out of %d", r, len(b.results), b.request)
		}
		b.results = append(b.results, r)
		b.since = 0
	}
}

// lookAtDisks holds the disks to P11: they are as they were said to be, but that the volume may find a disk new, and may fill one.
func (b *bench) lookAtDisks() {
	for disk, was := range b.stood {
		standing, _ := b.v.Member(disk)
		b.stood[disk] = standing
		switch {
		case standing == was:
		case was == api.Rebuilding && standing == api.Current && b.state == api.Ready:
			b.since = 0
			if b.joined != nil {
				b.joined(disk)
			}
		case was == api.Current && standing == api.Rebuilding && b.state == api.Opening:
		default:
			b.broken("P11: Member(%d) is %d, it was %d; State was %d", disk, standing, was, b.state)
		}
	}
}

// lookAtState holds it to P13.
func (b *bench) lookAtState() {
	state := b.v.State()
	b.once = b.once || state == api.Ready
	for disk, standing := range b.stood {
		if state == api.Ready && standing == api.Current {
			b.media[disk].bare = false
		}
	}
	if lost := b.lost(); (lost > 2) != (state == api.Failed) {
		b.broken("P13: State is %d, and %d disks are not Current", state, lost)
	}
	if state != b.state && (b.state != api.Opening && state != api.Failed || state == api.Opening) {
		b.broken("P7, P13: State is %d, it was %d", state, b.state)
	}
	if state != b.state {
		b.state, b.since = state, 0
	}
}

// standings tells how all disks stand.
func (b *bench) standings() []int {
	var all []int
	for disk := range b.disks {
		standing, _ := b.v.Member(disk)
		all = append(all, standing)
	}
	return all
}

// lost tells how many disks are not Current.
func (b *bench) lost() int {
	lost := 0
	for _, standing := range b.stood {
		if standing != api.Current {
			lost++
		}
	}
	return lost
}

// rest lets all be done.
func (b *bench) rest() {
	for b.tell(); len(b.told) > 0; b.tell() {
		b.do(b.pick(b.told))
	}
}

// some lets so many commands be done, if there are as many.
func (b *bench) some(commands int) {
	for range commands {
		if b.tell(); len(b.told) > 0 {
			b.do(b.pick(b.told))
		}
	}
}

// fail says that a disk has failed, and lets it do nothing any more.
func (b *bench) fail(disk int) {
	b.media[disk].failed = true
	if e := b.v.Fail(disk); e != api.OK {
		b.broken("P11: Fail(%d) = %d", disk, e)
	}
	b.stood[disk], b.since = api.Gone, 0
	b.look()
}

func (b *bench) renewMedium(disk int) {
	b.media[disk] = newMedium(b.stripes)
	b.media[disk].bare = true
}

// replace sets a new disk into the place of one that is Gone.
func (b *bench) replace(disk int) {
	b.renewMedium(disk)
	if e := b.v.Replace(disk); e != api.OK {
		b.broken("P11: Replace(%d) = %d", disk, e)
	}
	b.stood[disk], b.since = api.Rebuilding, 0
	b.look()
}

// awaits tells whether a command that was told for a disk is not done.
func (b *bench) awaits(disk int) bool {
	return slices.ContainsFunc(b.told, func(o order) bool { return o.Disk == disk })
}

// doAll lets a disk do all that it was told, and tells nothing new.
func (b *bench) doAll(disk int) {
	for b.awaits(disk) {
		b.do(slices.IndexFunc(b.told, func(o order) bool { return o.Disk == disk }))
	}
}

// submit asks for something that there is.
func (b *bench) submit(kind, number int, data []byte) {
	room := append(bytes.Clone(data), 211, 212, 213)
	was := bytes.Clone(room)
	b.request++
	b.kinds = append(b.kinds, kind)
	b.since = 0
	if id, e := b.v.Submit(api.Request{Kind: kind, Number: number, Data: room[:len(data)]}); id != b.request || e != api.OK {
		b.broken("P9: Submit(%d, %d, %v) = %d, %d, want %d", kind, number, data, id, e, b.request)
	}
	if !bytes.Equal(room, was) {
		b.broken("P2: Submit has written into what was handed in: %v, it was %v", room, was)
	}
	clear(room)
	b.look()
}

// ask submits a request, lets it be carried out, and tells its result.
func (b *bench) ask(kind, number int, data []byte) api.Result {
	b.submit(kind, number, data)
	b.rest()
	return b.results[len(b.results)-1]
}

// write carries out a Write.
func (b *bench) write(block int, data []byte) {
	b.plain(b.ask(api.Write, block, data))
}

// change writes any block anew.
func (b *bench) change(n *numbers, blocks [][]byte) {
	block := n.below(len(blocks))
	blocks[block] = n.block()
	b.write(block, blocks[block])
}

// plain holds a result to what that of a Write or a Flush is.
func (b *bench) plain(r api.Result) {
	if r.E != api.OK || len(r.Data) != 0 || r.Verdict != 0 || r.Column != 0 {
		b.broken("P9: the result %+v, want OK and nothing else", r)
	}
}

// read carries out a Read, and tells the block.
func (b *bench) read(block int) []byte {
	r := b.ask(api.Read, block, nil)
	if r.E != api.OK || len(r.Data) != api.Block || r.Verdict != 0 || r.Column != 0 {
		b.broken("P9: the result of a Read: %+v", r)
	}
	return r.Data
}

// reads holds all blocks to what they should be.
func (b *bench) reads(want [][]byte) {
	for block := range want {
		if got := b.read(block); !bytes.Equal(got, want[block]) {
			b.broken("P9: %d disks: block %d is %v, want %v", b.disks, block, got, want[block])
		}
	}
}

// fill writes all blocks, and flushes them.
func (b *bench) fill(n *numbers) [][]byte {
	blocks := n.columns(b.blocks())
	for block := range blocks {
		b.write(block, blocks[block])
	}
	b.plain(b.ask(api.Flush, 0, nil))
	return blocks
}

// column tells a disk's column of a stripe, as it is written.
func (b *bench) column(stripe, disk int) []byte {
	cells := b.media[disk].cells[api.Own+2*stripe:]
	return slices.Concat(cells[0].now(), cells[1].now())
}

// stripesHold holds the disks that are current, at rest, to stripes that hold and have these blocks.
func (b *bench) stripesHold(blocks [][]byte) {
	for stripe := range b.stripes {
		columns := withParity(blocks[stripe*(b.disks-2):][:b.disks-2])
		for disk := range b.disks {
			if standing, _ := b.v.Member(disk); standing != api.Current {
				continue
			}
			column, _ := platter.Holds(b.disks, stripe, disk)
			if got := b.column(stripe, disk); !bytes.Equal(got, columns[column]) {
				b.broken("P11: %d disks, stripe %d: column %d is %v, want %v", b.disks, stripe, column, got, columns[column])
			}
		}
	}
}

// sure forgets of a disk all that is not safe.
func (b *bench) sure(disk int) {
	for s := range b.media[disk].cells {
		b.media[disk].cells[s].later = nil
	}
}

// keep tells which of so many a sector keeps at a crash: 0 is what was safe, then what was written since, done or told.
type keep func(disk, sector, count int) int

func anything(n *numbers) keep {
	return func(_, _, count int) int { return n.below(count) }
}

// keeps: what a crash may leave of what was not safe.
func keeps(n *numbers) []keep {
	one := n.below(api.MinDisks)
	return []keep{
		anything(n),
		func(_, _, _ int) int { return 0 },
		func(_, _, count int) int { return count - 1 },
		// One disk was quicker than the others, or slower.
		func(disk, _, count int) int {
			if disk == one {
				return count - 1
			}
			return 0
		},
		func(disk, _, count int) int {
			if disk == one {
				return 0
			}
			return count - 1
		},
		// Every column, and all that takes more than one sector, is torn.
		func(_, sector, count int) int { return sector % 2 * (count - 1) },
		func(_, sector, count int) int { return (sector + 1) % 2 * (count - 1) },
	}
}

// crash ends the volume, and leaves of each sector whatever a crash may leave.
func (b *bench) crash(n *numbers) {
	b.crashKeeping(anything(n))
}

func (b *bench) crashKeeping(keeps keep) {
	for disk := range b.media {
		for s := range b.media[disk].cells {
			c := &b.media[disk].cells[s]
			left := [][]byte{c.safe}
			for _, w := range c.later {
				left = append(left, w.data)
			}
			for _, o := range b.told {
				if o.Kind == api.WriteSector && o.Disk == disk && o.Sector == s {
					left = append(left, o.Data)
				}
			}
			*c = cell{safe: left[keeps(disk, s, len(left))]}
		}
	}
	b.v, b.told = nil, nil
}

// blank: blocks of zeros.
func blank(count int) [][]byte { return list(make([]byte, count)...) }

// block: any block.
func (n *numbers) block() []byte { return n.columns(1)[0] }

// sizes calls with every number of disks, and some numbers of stripes.
func sizes(call func(disks, stripes int)) {
	for disks := api.MinDisks; disks <= api.MaxDisks; disks++ {
		for _, stripes := range []int{1, 2, 6} {
			call(disks, stripes)
		}
	}
}

// pairs calls with every number of disks, and every two of them, and each one twice.
func pairs(call func(disks, one, two int)) {
	for disks := api.MinDisks; disks <= api.MaxDisks; disks++ {
		for one := range disks {
			for two := range disks {
				call(disks, one, two)
			}
		}
	}
}
