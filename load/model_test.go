package load_test

import (
	"bytes"
	"encoding/binary"
	"errors"
	"fmt"
	"hash/crc32"
	"slices"
	"testing"

	"hayloft/api"
	"hayloft/audit"
	"hayloft/chain"
	"hayloft/disk"
	"hayloft/frame"
	"hayloft/image"
	"hayloft/load"
	"hayloft/manifest"
	"hayloft/page"
	"hayloft/root"
	"hayloft/save"
)

// noise is a row of numbers that look like chance, the same ones each time.
func noise(seed uint64) func(below int) int {
	return func(below int) int {
		seed = seed*6364136223846793005 + 1442695040888963407
		return int(seed>>33) % below
	}
}

// vars are numbers, one behind the other, as layer 1's Var.
func vars(numbers ...int) []byte {
	var b []byte
	for _, n := range numbers {
		b = binary.AppendUvarint(b, uint64(n))
	}
	return b
}

// sealed is bytes, and the sum of them behind.
func sealed(b []byte) []byte {
	return binary.LittleEndian.AppendUint32(slices.Clone(b), crc32.Checksum(b, crc32.MakeTable(crc32.Castagnoli)))
}

// framed is a frame's bytes.
func framed(of int, body []byte) []byte {
	return sealed(append([]byte{byte(of), byte(len(body)), byte(len(body) >> 8)}, body...))
}

// words are places, as many words behind one another.
func words(places []int) []byte {
	b := vars(len(places))
	next := 0
	for _, p := range places {
		b = append(b, vars((p-next)/8)...)
		next = p + 8
	}
	return b
}

// kindsBody and rowsBody are pages of layer 18.
func kindsBody(kinds []api.Kind) []byte {
	b := vars(len(kinds))
	for _, k := range kinds {
		b = append(b, vars(k.Size)...)
		b = append(b, words(k.Ptrs)...)
	}
	return b
}

func rowsBody(rows []api.Row) []byte {
	b := vars(len(rows))
	for _, r := range rows {
		if r.Live {
			b = append(b, vars(2*r.Gen+1, r.Kind, r.At)...)
		} else {
			b = append(b, vars(2*r.Gen)...)
		}
	}
	return b
}

// slotBytes and slotsOf are how large a span's slots are, and how many it has.
func slotBytes(d api.Span) int {
	if d.Class == 7 {
		return d.Size
	}
	return []int{16, 24, 32, 48, 64, 96, 128}[d.Class]
}

func slotsOf(d api.Span) int {
	if d.Class == 7 {
		return 1
	}
	return 256 / slotBytes(d)
}

// fieldsIn is the places, told from a live slot on, of the fields of the object in it; of a view that isn't sound there may be none.
func fieldsIn(v api.View, at int) []int {
	k := slices.IndexFunc(v.Rows, func(r api.Row) bool { return r.Live && r.At == at && r.Kind < len(v.Kinds) })
	if k < 0 {
		return nil
	}
	return v.Kinds[v.Rows[k].Kind].Ptrs
}

// roomOf is a view's bytes, and more behind them, since a span of one that isn't sound may reach behind the pages.
func roomOf(v api.View) []byte {
	return append(slices.Clone(v.Bytes), make([]byte, 5000)...)
}

// spanBody is the Body of layer 17's image of a view's span.
func spanBody(v api.View, d api.Span) []byte {
	in := make([]byte, (slotsOf(d)+7)/8)
	var offs []int
	var all []byte
	base := 0
	room := roomOf(v)
	for i, slot := range d.Live {
		size := slotBytes(d)
		at := 256*d.Page + slot*size
		in[slot/8] |= 1 << (slot % 8)
		all = append(all, room[at:at+size]...)
		for _, p := range fieldsIn(v, at) {
			if binary.LittleEndian.Uint64(room[at+p:]) != 0 {
				offs = append(offs, i*size+p)
				base = v.Base
			}
		}
	}
	return slices.Concat(vars(d.Page, d.Class, d.Size), in, vars(base/256), words(offs), all)
}

// manifestBytes is a sector with a manifest.
func manifestBytes(seq, first, n int) []byte {
	b := binary.LittleEndian.AppendUint32(nil, uint32(seq))
	b = binary.LittleEndian.AppendUint32(b, uint32(first))
	b = binary.LittleEndian.AppendUint32(b, uint32(n))
	b = sealed(append(b, make([]byte, 44)...))
	return append(b, b[:4]...)
}

// count is how many sectors a chain has.
func count(n int) int {
	return (n + 55) / 56
}

// link is a sector of a chain.
func link(piece []byte, next int) []byte {
	b := make([]byte, 56)
	copy(b, piece)
	return sealed(binary.LittleEndian.AppendUint32(b, uint32(next)))
}

// shifted is a sound view's bytes, moved to another base: noughts but for the live slots, each field that leads somewhere changed.
func shifted(v api.View, base int) []byte {
	b := make([]byte, len(v.Bytes))
	for _, d := range v.Spans {
		for _, slot := range d.Live {
			at := 256*d.Page + slot*slotBytes(d)
			copy(b[at:at+slotBytes(d)], v.Bytes[at:])
			for _, p := range fieldsIn(v, at) {
				if to := binary.LittleEndian.Uint64(b[at+p:]); to != 0 {
					binary.LittleEndian.PutUint64(b[at+p:], to+uint64(base)-uint64(v.Base))
				}
			}
		}
	}
	return b
}

// at is what is loaded of a sound view at a base.
func at(v api.View, base int) api.View {
	v = copyOfView(v)
	v.Bytes = shifted(v, base)
	v.Base = base
	return v
}

// fault is what an error must be: its number, and the sector at which it was met, if it was met at any; where no checkpoint reads well, it is ErrCorrupt, too.
type fault struct {
	err     api.Errno
	at      int
	isAt    bool
	corrupt bool
}

func refuses(e api.Errno) fault {
	return fault{err: e}
}

func meets(e api.Errno, at int) fault {
	return fault{err: e, at: at, isAt: true}
}

func corrupt(e api.Errno, at int) fault {
	return fault{err: e, at: at, isAt: true, corrupt: true}
}

// isError says what is wrong with an error.
func isError(e error, want fault) string {
	if (e == nil) != (want.err == api.OK) {
		return "an error that isn't to be there, or none"
	}
	if e == nil {
		return ""
	}
	for n := api.OK; n <= 20; n++ {
		if errors.Is(e, n) != (n == want.err || want.corrupt && n == api.ErrCorrupt) {
			return "another number by errors.Is"
		}
	}
	var number api.Errno
	if !errors.As(e, &number) || number != want.err && !want.corrupt || want.corrupt && number != api.ErrCorrupt {
		return "another number by errors.As"
	}
	if !want.corrupt && errors.Unwrap(e) == nil || e.Error() == "" {
		return "an error that wraps none, or tells nothing"
	}
	var f *api.Fault
	if errors.As(e, &f) != want.isAt {
		return "a sector that isn't to be there, or none"
	}
	if want.isAt && (f.Sector != want.at || !errors.Is(f.Err, want.err) || errors.Is(f.Err, api.ErrCorrupt)) {
		return "another sector"
	}
	return ""
}

// met is what an error of a layer below tells, which is one at a sector.
func met(err error) fault {
	var f *api.Fault
	var e api.Errno
	if !errors.As(err, &f) || !errors.As(err, &e) {
		panic("an error at no sector")
	}
	return meets(e, f.Sector)
}

// modelLoad is in the document's words what Load must answer of a disk that is there, at a base that is Good.
func modelLoad(d *disk.Disk, base int) (load.Found, fault) {
	marks, err := manifest.Find(d)
	if err != nil {
		return load.Found{}, met(err)
	}
	if len(marks) == 0 {
		return load.Found{Tree: save.Tree{Slot: -1}}, fault{}
	}
	one, wrong := modelRead(d, marks[0], base)
	if wrong.err == api.OK {
		return one, fault{}
	}
	if len(marks) > 1 {
		if other, e := modelRead(d, marks[1], base); e.err == api.OK {
			return other, fault{}
		}
	}
	wrong.corrupt = true
	return load.Found{}, wrong
}

// modelRead is the checkpoint of a manifest, or what is met first.
func modelRead(d *disk.Disk, mark manifest.Found, base int) (load.Found, fault) {
	first := mark.Manifest.First
	b, own, err := chain.Read(d, first, mark.Manifest.Len)
	if err != nil {
		return load.Found{}, met(err)
	}
	f, e := frame.Decode(b)
	if e != api.OK {
		return load.Found{}, meets(e, first)
	}
	if f.Kind != 4 {
		return load.Found{}, meets(api.ErrKind, first)
	}
	r, e := root.Read(f.Body, d.Len())
	if e != api.OK {
		return load.Found{}, meets(e, first)
	}
	found := load.Found{Workers: r.Workers, Handles: r.Handles}
	found.View = api.View{Base: base, Pages: r.Pages, Bytes: make([]byte, 256*r.Pages)}
	found.Tree = save.Tree{Seq: mark.Manifest.Seq, Slot: mark.Slot, Entries: r.Entries}
	var sectors []int
	for _, entry := range r.Entries {
		b, l, err := chain.Read(d, entry.First, entry.Len)
		if err != nil {
			return load.Found{}, met(err)
		}
		for _, s := range l {
			if slices.Contains(own, s) || slices.Contains(sectors, s) {
				return load.Found{}, meets(api.ErrTwice, entry.First)
			}
		}
		sectors = append(sectors, l...)
		if e := modelEntry(&found.View, r, entry, b); e != api.OK {
			return load.Found{}, meets(e, entry.First)
		}
		found.Tree.Frames = append(found.Tree.Frames, b)
	}
	found.Tree.Sectors = append(sectors, own...)
	if rule, _ := audit.Check(found.View); rule != 0 {
		return load.Found{}, meets(api.ErrForm, first)
	}
	return found, fault{}
}

// modelEntry takes into a view what an entry's frame tells.
func modelEntry(v *api.View, r root.Root, entry api.Entry, b []byte) api.Errno {
	f, e := frame.Decode(b)
	if e != api.OK {
		return e
	}
	if f.Kind != entry.Type {
		return api.ErrKind
	}
	switch f.Kind {
	case 1:
		l, e := page.ReadKinds(f.Body)
		if e == api.OK && len(l) != min(16, r.Kinds-16*entry.Id) {
			e = api.ErrForm
		}
		v.Kinds = append(v.Kinds, l...)
		return e
	case 2:
		l, e := page.ReadRows(f.Body)
		if e == api.OK && len(l) != min(32, r.Rows-32*entry.Id) {
			e = api.ErrForm
		}
		v.Rows = append(v.Rows, l...)
		return e
	}
	m, e := image.Read(f.Body)
	if e != api.OK {
		return e
	}
	if m.Span.Page != entry.Id {
		return api.ErrForm
	}
	v.Spans = append(v.Spans, m.Span)
	for _, off := range m.Offs {
		word := binary.LittleEndian.Uint64(m.Bytes[off:])
		if word == 0 {
			continue
		}
		place := word - uint64(m.Base)
		if place >= uint64(len(v.Bytes)) {
			return api.ErrAddr
		}
		binary.LittleEndian.PutUint64(m.Bytes[off:], place+uint64(v.Base))
	}
	for i, slot := range m.Span.Live {
		n := slotBytes(m.Span)
		copy(v.Bytes[256*m.Span.Page+n*slot:], m.Bytes[n*i:n*i+n])
	}
	return api.OK
}

// told is what Load tells of a disk at a Good base, held against the model; nothing may be done to the disk.
func told(t *testing.T, d *disk.Disk, base int) (load.Found, error) {
	t.Helper()
	ops, pending, down := d.Ops(), d.Pending(), d.Down()
	want, wrong := modelLoad(d, base)
	sure, now := d.Image(), sectorsOf(d)
	got, err := load.Load(d, base)
	if x := isError(err, wrong); x != "" || !sameFound(got, want) {
		t.Fatalf("Load: %s, %v: %s; not %s, %+v", brief(got), err, x, brief(want), wrong)
	}
	if d.Ops() != ops || d.Pending() != pending || d.Down() != down || !bytes.Equal(d.Image(), sure) || !slices.EqualFunc(sectorsOf(d), now, bytes.Equal) {
		t.Fatal("Load did something to the disk")
	}
	return got, err
}

// brief tells what was found without its bytes.
func brief(f load.Found) string {
	return fmt.Sprintf("%d pages at %d, %d kinds, %d rows, %v, %d in slot %d, %v", f.View.Pages, f.View.Base, len(f.View.Kinds), len(f.View.Rows), f.View.Spans, f.Tree.Seq, f.Tree.Slot, f.Tree.Entries)
}

// sectorsOf is what can be read of a disk.
func sectorsOf(d *disk.Disk) [][]byte {
	all := make([][]byte, d.Len())
	for i := range all {
		all[i], _ = d.Read(i)
	}
	return all
}

// fails holds that Load tells this error.
func fails(t *testing.T, d *disk.Disk, base int, want fault) {
	t.Helper()
	f, err := load.Load(d, base)
	if wrong := isError(err, want); wrong != "" || !sameFound(f, load.Found{}) {
		t.Fatalf("Load: %s, %v: %s; not %+v", brief(f), err, wrong, want)
	}
}

// finds holds that Load tells this view, and a tree of this number, in this slot.
func finds(t *testing.T, d *disk.Disk, base int, v api.View, seq, slot int) load.Found {
	t.Helper()
	f, err := told(t, d, base)
	if err != nil || !sameView(f.View, at(v, base)) || f.Tree.Seq != seq || f.Tree.Slot != slot {
		t.Fatalf("Load: %s, %v; not the view, or not %d in slot %d", brief(f), err, seq, slot)
	}
	return f
}
