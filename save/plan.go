package save

import (
	"bytes"

	"hayloft/api"
	"hayloft/chain"
	"hayloft/disk"
	"hayloft/frame"
	"hayloft/manifest"
	"hayloft/root"
	"hayloft/runs"
)

// noSector is where an error is told that was met at no sector.
const noSector = -1

// task is one thing that a checkpoint does.
type task func() error

// name is what a frame is of.
type name struct{ of, id int }

// held is a frame that a tree has: its entry, its bytes, and its chain's sectors.
type held struct {
	entry   api.Entry
	bytes   []byte
	sectors []int
}

// plan is what a checkpoint comes to.
type plan struct {
	free   *runs.Runs // the sectors that it may take
	tree   Tree
	writes []api.Write // ahead of the manifest's
}

// putAll puts frames into the tree, in order: as they are held, those that are held with the same bytes, the others freshly written.
func (p *plan) putAll(pieces []Piece, had map[name]held) error {
	for _, x := range pieces {
		h, ok := had[name{x.Type, x.Id}]
		if !ok || !bytes.Equal(h.bytes, x.Bytes) {
			sectors, err := p.lay(x.Bytes)
			if err != nil {
				return err
			}
			h = held{api.Entry{Type: x.Type, Id: x.Id, First: sectors[0], Len: len(x.Bytes)}, x.Bytes, sectors}
		}
		p.tree.Entries = append(p.tree.Entries, h.entry)
		p.tree.Frames = append(p.tree.Frames, h.bytes)
		p.tree.Sectors = append(p.tree.Sectors, h.sectors...)
	}
	return nil
}

// putRoot puts the root behind the frames, on a disk of so many sectors; what is to be written last, so that all of it counts.
func (p *plan) putRoot(top root.Root, sectors int) (api.Write, error) {
	top.Entries = p.tree.Entries
	body, e := root.Body(top, sectors)
	if e != api.OK {
		return api.Write{}, refused{e}
	}
	b, e := frame.Encode(frame.Frame{Kind: api.OfRoot, Body: body})
	if e != api.OK {
		return api.Write{}, refused{e}
	}
	own, err := p.lay(b)
	if err != nil {
		return api.Write{}, err
	}
	p.tree.Sectors = append(p.tree.Sectors, own...)
	mark, e := manifest.Bytes(manifest.Manifest{Seq: p.tree.Seq, First: own[0], Len: len(b)})
	if e != api.OK {
		return api.Write{}, refused{e}
	}
	return api.Write{Sector: manifest.Sector(p.tree.Slot, sectors), Bytes: mark}, nil
}

// lay has bytes written as a chain into sectors that are free, the least one first: these.
func (p *plan) lay(b []byte) ([]int, error) {
	sectors := make([]int, chain.Count(len(b)))
	for i := range sectors {
		at, e := p.free.Take(1)
		if e != api.OK {
			return nil, refused{api.ErrSectors}
		}
		sectors[i] = at
	}
	writes, err := chain.Lay(b, sectors)
	if err != nil {
		return nil, err
	}
	p.writes = append(p.writes, writes...)
	return sectors, nil
}

// heldBy is all frames that a tree has.
func heldBy(t Tree) map[name]held {
	all := map[name]held{}
	sectors := t.Sectors
	// a tree that no saver and no disk told may have fewer frames or sectors than its entries need
	for i, b := range t.Frames[:min(len(t.Frames), len(t.Entries))] {
		entry := t.Entries[i]
		n := min(chain.Count(len(b)), len(sectors))
		all[name{entry.Type, entry.Id}] = held{entry, b, sectors[:n]}
		sectors = sectors[n:]
	}
	return all
}

// unused is the sectors of the disk: all that are no data sectors, or that a tree has, are taken.
func (s *Saver) unused() *runs.Runs {
	sectors := s.disk.Len()
	// no disk has more sectors than there may be units
	free, _ := runs.New(sectors)
	free.Mark(0, 1)
	free.Mark(sectors-1, 1)
	for _, l := range [][]int{s.tree.Sectors, s.coming.Sectors} {
		for _, at := range l {
			// one that both trees have is marked already
			free.Mark(at, 1)
		}
	}
	return free
}

// tasksOn is all that a checkpoint does with a disk, in order.
func tasksOn(d *disk.Disk, writes []api.Write, mark api.Write) []task {
	write := func(w api.Write) task {
		return told(w.Sector, func() api.Errno { return d.Write(w.Sector, w.Bytes) })
	}
	flush := told(noSector, d.Flush)
	var todo []task
	for _, w := range writes {
		todo = append(todo, write(w))
	}
	return append(todo, flush, write(mark), flush)
}

// told does something with a disk, and tells its error at a sector.
func told(sector int, do func() api.Errno) task {
	return func() error {
		if e := do(); e != api.OK {
			return &api.Fault{Sector: sector, Err: e}
		}
		return nil
	}
}
