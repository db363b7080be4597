package load_test

import (
	"bytes"
	"encoding/binary"
	"slices"
	"testing"

	"hayloft/api"
	"hayloft/audit"
	"hayloft/heap"
	"hayloft/load"
	"hayloft/save"
)

// kindOf, of, live and gone are a kind, a span with its live slots, a row of a handle that lives, and a row without one.
func kindOf(size int, ptrs ...int) api.Kind {
	return api.Kind{Size: size, Ptrs: ptrs}
}

func of(page, class, size int, live ...int) api.Span {
	return api.Span{Page: page, Class: class, Size: size, Live: live}
}

func live(gen, kind, at int) api.Row {
	return api.Row{Gen: gen, Live: true, Kind: kind, At: at}
}

func gone(gen int) api.Row {
	return api.Row{Gen: gen}
}

// example is layer 14's example: two objects, of which the first one's field leads to the second.
func example() api.View {
	v := api.View{
		Base: 256, Pages: 1,
		Kinds: []api.Kind{kindOf(16, 0)},
		Rows:  []api.Row{live(1, 0, 0), live(1, 0, 16)},
		Spans: []api.Span{of(0, 0, 0, 0, 1)},
		Bytes: make([]byte, 256),
	}
	binary.LittleEndian.PutUint64(v.Bytes, 272)
	return v
}

// empty is a view of nothing.
func empty(pages int) api.View {
	return api.View{Base: 512, Pages: pages, Bytes: make([]byte, 256*pages)}
}

// large is a view of one object that has pages of its own, and whose bytes aren't alike.
func large(size int) api.View {
	v := empty((size + 255) / 256)
	v.Kinds = []api.Kind{kindOf(size)}
	v.Rows = []api.Row{live(1, 0, 0)}
	v.Spans = []api.Span{of(0, 7, size, 0)}
	for i := range v.Bytes {
		v.Bytes[i] = byte(i*i>>3 + i)
	}
	return v
}

// rowsOf are so many rows of handles that don't live.
func rowsOf(n int) []api.Row {
	var rows []api.Row
	for i := range n {
		rows = append(rows, gone(i+1))
	}
	return rows
}

// kindsOf are so many kinds.
func kindsOf(n int) []api.Kind {
	var kinds []api.Kind
	for i := range n {
		kinds = append(kinds, kindOf(24+8*i, 0, 16+8*i))
	}
	return kinds
}

// wide is a view with two pages of kinds, two of rows, and five spans in each of which is an object whose first field leads somewhere; all bytes that aren't fields are junk.
func wide() api.View {
	v := api.View{Base: 4096, Pages: 12, Bytes: make([]byte, 12*256)}
	v.Kinds = append([]api.Kind{kindOf(16, 0), kindOf(20, 0), kindOf(300, 8, 288), kindOf(4)}, kindsOf(13)...)
	v.Spans = []api.Span{of(0, 0, 0, 0, 1, 15), of(2, 1, 0, 3), of(3, 7, 300, 0), of(6, 1, 0, 0, 9), of(9, 7, 300, 0)}
	v.Rows = rowsOf(40)
	for row, x := range map[int]api.Row{
		0: live(1, 0, 0), 1: live(65535, 3, 16), 5: live(2, 0, 240), 31: live(3, 1, 512+72), 32: live(1, 2, 768), 33: live(7, 1, 1536), 38: live(7, 1, 1536+216), 39: live(9, 2, 2304),
	} {
		v.Rows[row] = x
	}
	for i := range v.Bytes {
		v.Bytes[i] = byte(i*7 + i>>5)
	}
	for place, to := range map[int]int{0: 1536, 240: 16, 512 + 72: 2304, 768 + 8: 0, 768 + 288: 768, 1536: 240, 1536 + 216: 1536 + 216, 2304 + 8: 0, 2304 + 288: 512 + 72} {
		binary.LittleEndian.PutUint64(v.Bytes[place:], uint64(4096+to))
	}
	binary.LittleEndian.PutUint64(v.Bytes[768+8:], 0)
	return v
}

// fields is a view of so many objects in as many spans, all of which lead to the first one.
func fields(n int) api.View {
	v := empty(n)
	v.Kinds = []api.Kind{kindOf(200, 0, 192)}
	for i := range n {
		v.Rows = append(v.Rows, live(1, 0, 256*i))
		v.Spans = append(v.Spans, of(i, 7, 200, 0))
		copy(v.Bytes[256*i:], []byte{0, 2})
	}
	return v
}

func sameKind(a, b api.Kind) bool {
	return a.Size == b.Size && slices.Equal(a.Ptrs, b.Ptrs)
}

func sameSpan(a, b api.Span) bool {
	return a.Page == b.Page && a.Class == b.Class && a.Size == b.Size && slices.Equal(a.Live, b.Live)
}

func sameView(a, b api.View) bool {
	return a.Base == b.Base && a.Pages == b.Pages && slices.EqualFunc(a.Kinds, b.Kinds, sameKind) && slices.Equal(a.Rows, b.Rows) &&
		slices.EqualFunc(a.Spans, b.Spans, sameSpan) && bytes.Equal(a.Bytes, b.Bytes)
}

func sameTree(a, b save.Tree) bool {
	return a.Seq == b.Seq && a.Slot == b.Slot && slices.Equal(a.Entries, b.Entries) &&
		slices.EqualFunc(a.Frames, b.Frames, bytes.Equal) && slices.Equal(a.Sectors, b.Sectors)
}

func sameFound(a, b load.Found) bool {
	return sameView(a.View, b.View) && a.Workers == b.Workers && a.Handles == b.Handles && sameTree(a.Tree, b.Tree)
}

// copyOfView and copyOf have nothing in common with what they are copies of.
func copyOfView(v api.View) api.View {
	v.Kinds, v.Rows, v.Spans, v.Bytes = slices.Clone(v.Kinds), slices.Clone(v.Rows), slices.Clone(v.Spans), slices.Clone(v.Bytes)
	for i := range v.Kinds {
		v.Kinds[i].Ptrs = slices.Clone(v.Kinds[i].Ptrs)
	}
	for i := range v.Spans {
		v.Spans[i].Live = slices.Clone(v.Spans[i].Live)
	}
	return v
}

func copyOf(f load.Found) load.Found {
	f.View = copyOfView(f.View)
	t := &f.Tree
	t.Entries, t.Frames, t.Sectors = slices.Clone(t.Entries), slices.Clone(t.Frames), slices.Clone(t.Sectors)
	for i := range t.Frames {
		t.Frames[i] = slices.Clone(t.Frames[i])
	}
	return f
}

// spoilers write each over one of the lists of which something that was found is made.
func spoilers(f load.Found) []func() {
	all := []func(){
		filler(f.View.Kinds, kindOf(77)), filler(f.View.Rows, live(77, 77, 77)), filler(f.View.Spans, of(77, 7, 777)), filler(f.View.Bytes, 77),
		filler(f.Tree.Entries, api.Entry{Type: 7, Id: 7, First: 7, Len: 7}), filler(f.Tree.Frames, nil), filler(f.Tree.Sectors, 77),
	}
	for _, k := range f.View.Kinds {
		all = append(all, filler(k.Ptrs, 77))
	}
	for _, d := range f.View.Spans {
		all = append(all, filler(d.Live, 77))
	}
	for _, b := range f.Tree.Frames {
		all = append(all, filler(b, 77))
	}
	return all
}

// filler writes over a list, and over its spare room.
func filler[T any](l []T, x T) func() {
	return func() {
		l = l[:cap(l)]
		for i := range l {
			l[i] = x
		}
	}
}

// barn is a heap to which anything is done.
type barn struct {
	*testing.T
	chance  func(below int) int
	h       *heap.Heap
	workers int
	handles int
}

// barnOf is a heap of some size, with some kinds.
func barnOf(t *testing.T, chance func(below int) int) *barn {
	t.Helper()
	b := &barn{T: t, chance: chance, workers: 1 + chance(8), handles: 1 + chance(100)}
	h, e := heap.New(api.Config{Base: 256 * (1 + chance(5000)), Pages: 1 + chance(12), Workers: b.workers, Handles: b.handles})
	if e != api.OK {
		t.Fatal(e)
	}
	b.h = h
	for range 1 + chance(5) {
		b.define()
	}
	return b
}

// define makes a kind.
func (b *barn) define() {
	k := kindOf(1 + b.chance([]int{40, 128, 600}[b.chance(3)]))
	for p := 0; p+8 <= k.Size && len(k.Ptrs) < 16; p += 8 {
		if b.chance(3) == 0 {
			k.Ptrs = append(k.Ptrs, p)
		}
	}
	b.h.Define(k)
}

// change does some things to the heap.
func (b *barn) change(times int) {
	for range times {
		objects := audit.Objects(b.h.View())
		if len(objects) == 0 || b.chance(3) > 0 && len(objects) < 30 {
			b.h.Alloc(b.chance(b.workers), b.chance(8))
			continue
		}
		o := objects[b.chance(len(objects))]
		switch b.chance(12) {
		case 0, 1:
			b.h.Free(b.chance(b.workers), o.Handle)
		case 2, 3, 4, 5:
			b.h.Write(o.Handle, b.chance(len(o.Bytes)), []byte{byte(b.chance(256))})
		case 6, 7, 8:
			b.h.Set(o.Handle, b.chance(4), objects[b.chance(len(objects))].Handle)
		case 9:
			b.h.Flush(b.chance(b.workers))
			b.h.Scavenge()
		case 10:
			if b.chance(3) == 0 {
				b.h.Compact()
			}
		case 11:
			if b.chance(4) == 0 {
				b.define()
			}
		}
	}
}
