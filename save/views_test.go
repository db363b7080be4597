package save_test

import (
	"bytes"
	"encoding/binary"
	"slices"
	"testing"

	"hayloft/api"
	"hayloft/audit"
	"hayloft/chain"
	"hayloft/frame"
	"hayloft/heap"
	"hayloft/manifest"
	"hayloft/root"
	"hayloft/save"
)

// example is layer 14's example: two objects, of which the first one's field leads to the second.
func example() api.View {
	v := api.View{
		Base: 256, Pages: 1,
		Kinds: []api.Kind{kindOf(16, 0)},
		Rows:  []api.Row{live(1, 0, 0), live(1, 0, 16)},
		Spans: []api.Span{of(0, 0, 0, 0, 1)},
		Bytes: make([]byte, 256),
	}
	binary.LittleEndian.PutUint64(v.Bytes, 272)
	return v
}

// empty is a view of nothing.
func empty(pages int) api.View {
	return api.View{Base: 512, Pages: pages, Bytes: make([]byte, 256*pages)}
}

// large is a view of one object that has pages of its own, and whose bytes aren't alike.
func large(size int) api.View {
	v := empty((size + 255) / 256)
	v.Kinds = []api.Kind{kindOf(size)}
	v.Rows = []api.Row{live(1, 0, 0)}
	v.Spans = []api.Span{of(0, 7, size, 0)}
	for i := range v.Bytes {
		v.Bytes[i] = byte(i*i>>3 + i)
	}
	return v
}

// rowsOf are so many rows of handles that don't live.
func rowsOf(n int) []api.Row {
	var rows []api.Row
	for i := range n {
		rows = append(rows, gone(i+1))
	}
	return rows
}

// kindsOf are so many kinds.
func kindsOf(n int) []api.Kind {
	var kinds []api.Kind
	for i := range n {
		kinds = append(kinds, kindOf(24+8*i, 0, 16+8*i))
	}
	return kinds
}

// several is a view of five spans, one of them without objects, of kinds of which one is of no object.
func several() api.View {
	v := empty(12)
	v.Kinds = []api.Kind{kindOf(300, 8, 296-8), kindOf(20), kindOf(24, 0, 16), kindOf(4), kindOf(16, 8)}
	v.Spans = []api.Span{of(1, 0, 0, 0, 3, 15), of(2, 3, 0), of(4, 7, 300, 0), of(6, 1, 0, 2, 9), of(7, 2, 0)}
	v.Rows = []api.Row{
		live(3, 4, 256+48), gone(0), live(1, 0, 1024), live(65535, 3, 256+240), gone(7), live(2, 1, 1536+216), live(1, 2, 1536+48), live(9, 3, 256),
	}
	for i := range v.Bytes {
		v.Bytes[i] = byte(i*7 + i>>5)
	}
	for place, to := range map[int]uint64{256 + 48 + 8: 512 + 1024, 1024 + 8: 0, 1024 + 288: 512 + 1024, 1536 + 48: 512 + 256, 1536 + 64: 512 + 1536 + 216} {
		binary.LittleEndian.PutUint64(v.Bytes[place:], to)
	}
	return v
}

// broken are views that aren't sound, one for each of layer 14's rules.
func broken() []api.View {
	with := func(change func(v *api.View)) api.View {
		v := example()
		change(&v)
		return v
	}
	return []api.View{
		{},
		with(func(v *api.View) { v.Base++ }),
		with(func(v *api.View) { v.Bytes = v.Bytes[1:] }),
		with(func(v *api.View) { v.Kinds[0].Ptrs[0] = 4 }),
		with(func(v *api.View) { v.Spans[0].Live[1] = 16 }),
		with(func(v *api.View) { v.Rows[1].At = 8 }),
		with(func(v *api.View) { v.Rows = append(v.Rows, gone(0)) }),
		with(func(v *api.View) { v.Rows[1].At = 0 }),
		with(func(v *api.View) { v.Rows = v.Rows[:1] }),
		with(func(v *api.View) { v.Bytes[0]++ }),
	}
}

func sameKind(a, b api.Kind) bool {
	return a.Size == b.Size && slices.Equal(a.Ptrs, b.Ptrs)
}

func sameSpan(a, b api.Span) bool {
	return a.Page == b.Page && a.Class == b.Class && a.Size == b.Size && slices.Equal(a.Live, b.Live)
}

func sameView(a, b api.View) bool {
	return a.Base == b.Base && a.Pages == b.Pages && slices.EqualFunc(a.Kinds, b.Kinds, sameKind) && slices.Equal(a.Rows, b.Rows) &&
		slices.EqualFunc(a.Spans, b.Spans, sameSpan) && bytes.Equal(a.Bytes, b.Bytes)
}

// copyOfView and copyOfTree have nothing in common with what they are copies of.
func copyOfView(v api.View) api.View {
	v.Kinds, v.Rows, v.Spans, v.Bytes = slices.Clone(v.Kinds), slices.Clone(v.Rows), slices.Clone(v.Spans), slices.Clone(v.Bytes)
	for i := range v.Kinds {
		v.Kinds[i].Ptrs = slices.Clone(v.Kinds[i].Ptrs)
	}
	for i := range v.Spans {
		v.Spans[i].Live = slices.Clone(v.Spans[i].Live)
	}
	return v
}

func copyOfTree(t save.Tree) save.Tree {
	t.Entries, t.Frames, t.Sectors = slices.Clone(t.Entries), slices.Clone(t.Frames), slices.Clone(t.Sectors)
	for i := range t.Frames {
		t.Frames[i] = slices.Clone(t.Frames[i])
	}
	return t
}

// roomy puts spare room behind each list of a view, with something in it.
func roomy(v api.View) api.View {
	v = copyOfView(v)
	for i := range v.Kinds {
		v.Kinds[i].Ptrs = append(v.Kinds[i].Ptrs, 91, 92)[:len(v.Kinds[i].Ptrs)]
	}
	for i := range v.Spans {
		v.Spans[i].Live = append(v.Spans[i].Live, 93, 94)[:len(v.Spans[i].Live)]
	}
	v.Kinds = append(v.Kinds, kindOf(95))[:len(v.Kinds)]
	v.Rows = append(v.Rows, gone(96))[:len(v.Rows)]
	v.Spans = append(v.Spans, of(97, 0, 0))[:len(v.Spans)]
	v.Bytes = append(v.Bytes, 98, 99)[:len(v.Bytes)]
	return v
}

// whole is a view with all the spare room of its lists.
func whole(v api.View) api.View {
	v = copyOfHeads(v)
	for i := range v.Kinds {
		v.Kinds[i].Ptrs = v.Kinds[i].Ptrs[:cap(v.Kinds[i].Ptrs)]
	}
	for i := range v.Spans {
		v.Spans[i].Live = v.Spans[i].Live[:cap(v.Spans[i].Live)]
	}
	v.Rows, v.Bytes = v.Rows[:cap(v.Rows)], v.Bytes[:cap(v.Bytes)]
	return copyOfView(v)
}

// copyOfHeads copies the lists of a view's kinds and spans, all their room, but nothing within them.
func copyOfHeads(v api.View) api.View {
	v.Kinds = slices.Clone(v.Kinds[:cap(v.Kinds)])
	v.Spans = slices.Clone(v.Spans[:cap(v.Spans)])
	return v
}

// spoil writes over all that a view is made of.
func spoil(v api.View) {
	for i := range v.Kinds {
		fill(v.Kinds[i].Ptrs, 77)
	}
	for i := range v.Spans {
		fill(v.Spans[i].Live, 77)
	}
	fill(v.Kinds, kindOf(77))
	fill(v.Spans, of(77, 7, 777))
	fill(v.Rows, live(77, 77, 77))
	fill(v.Bytes, 77)
}

// spoilTree writes over all that a tree is made of.
func spoilTree(t save.Tree) {
	for _, b := range t.Frames {
		fill(b, 77)
	}
	fill(t.Frames, nil)
	fill(t.Entries, api.Entry{Type: 7, Id: 7, First: 7, Len: 7})
	fill(t.Sectors, 77)
}

// fill writes over a list, and over its spare room.
func fill[T any](l []T, x T) {
	l = l[:cap(l)]
	for i := range l {
		l[i] = x
	}
}

// readable holds that a tree can be read of the disk, just as it is.
func (b *bench) readable(tree save.Tree) {
	b.Helper()
	if tree.Slot < 0 {
		return
	}
	found, err := manifest.Find(b.d)
	i := slices.IndexFunc(found, func(f manifest.Found) bool { return f.Slot == tree.Slot && f.Manifest.Seq == tree.Seq })
	if err != nil || i < 0 {
		b.Fatal("no manifest:", found, err)
	}
	top, own, err := chain.Read(b.d, found[i].Manifest.First, found[i].Manifest.Len)
	if err != nil {
		b.Fatal(err)
	}
	f, _ := frame.Decode(top)
	r, e := root.Read(f.Body, b.d.Len())
	if f.Kind != api.OfRoot || e != api.OK || !slices.Equal(r.Entries, tree.Entries) {
		b.Fatal("another root:", f.Kind, r, e)
	}
	var sectors []int
	for i, e := range r.Entries {
		x, l, err := chain.Read(b.d, e.First, e.Len)
		if err != nil || !bytes.Equal(x, tree.Frames[i]) {
			b.Fatal("another frame:", e, err)
		}
		sectors = append(sectors, l...)
	}
	if !slices.Equal(append(sectors, own...), tree.Sectors) {
		b.Fatal("other sectors:", sectors, own)
	}
}

// rootOf is the root that a tree has on the disk.
func (b *bench) rootOf(tree save.Tree) root.Root {
	b.Helper()
	sector, _ := b.d.Read(manifest.Sector(tree.Slot, b.d.Len()))
	m, e := manifest.Read(sector)
	if e != api.OK {
		b.Fatal(e)
	}
	top, _, err := chain.Read(b.d, m.First, m.Len)
	if err != nil {
		b.Fatal(err)
	}
	f, _ := frame.Decode(top)
	r, e := root.Read(f.Body, b.d.Len())
	if e != api.OK {
		b.Fatal(e)
	}
	return r
}

// barn is a heap to which anything is done.
type barn struct {
	*testing.T
	chance  func(below int) int
	h       *heap.Heap
	workers int
	handles int
}

// barnOf is a heap of some size, with some kinds.
func barnOf(t *testing.T, chance func(below int) int) *barn {
	t.Helper()
	b := &barn{T: t, chance: chance, workers: 1 + chance(8), handles: 1 + chance(100)}
	h, e := heap.New(api.Config{Base: 256 * (1 + chance(5000)), Pages: 1 + chance(12), Workers: b.workers, Handles: b.handles})
	if e != api.OK {
		t.Fatal(e)
	}
	b.h = h
	for range 1 + chance(5) {
		b.define()
	}
	return b
}

// define makes a kind.
func (b *barn) define() {
	k := kindOf(1 + b.chance([]int{40, 128, 600}[b.chance(3)]))
	for p := 0; p+8 <= k.Size && len(k.Ptrs) < 16; p += 8 {
		if b.chance(3) == 0 {
			k.Ptrs = append(k.Ptrs, p)
		}
	}
	b.h.Define(k)
}

// change does some things to the heap.
func (b *barn) change(times int) {
	for range times {
		objects := audit.Objects(b.h.View())
		if len(objects) == 0 || b.chance(3) > 0 && len(objects) < 30 {
			b.h.Alloc(b.chance(b.workers), b.chance(8))
			continue
		}
		o := objects[b.chance(len(objects))]
		switch b.chance(12) {
		case 0, 1:
			b.h.Free(b.chance(b.workers), o.Handle)
		case 2, 3, 4, 5:
			b.h.Write(o.Handle, b.chance(len(o.Bytes)), []byte{byte(b.chance(256))})
		case 6, 7, 8:
			b.h.Set(o.Handle, b.chance(4), objects[b.chance(len(objects))].Handle)
		case 9:
			b.h.Flush(b.chance(b.workers))
			b.h.Scavenge()
		case 10:
			if b.chance(3) == 0 {
				b.h.Compact()
			}
		case 11:
			if b.chance(4) == 0 {
				b.define()
			}
		}
	}
}
