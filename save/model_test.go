package save_test

import (
	"bytes"
	"encoding/binary"
	"errors"
	"hash/crc32"
	"slices"
	"testing"

	"hayloft/api"
	"hayloft/audit"
	"hayloft/disk"
	"hayloft/save"
)

// noise is a row of numbers that look like chance, the same ones each time.
func noise(seed uint64) func(below int) int {
	return func(below int) int {
		seed = seed*6364136223846793005 + 1442695040888963407
		return int(seed>>33) % below
	}
}

// kindOf, of, live and gone are a kind, a span with its live slots, a row of a handle that lives, and a row without one.
func kindOf(size int, ptrs ...int) api.Kind {
	return api.Kind{Size: size, Ptrs: ptrs}
}

func of(page, class, size int, live ...int) api.Span {
	return api.Span{Page: page, Class: class, Size: size, Live: live}
}

func live(gen, kind, at int) api.Row {
	return api.Row{Gen: gen, Live: true, Kind: kind, At: at}
}

func gone(gen int) api.Row {
	return api.Row{Gen: gen}
}

// vars are numbers, one behind the other, as layer 1's Var.
func vars(numbers ...int) []byte {
	var b []byte
	for _, n := range numbers {
		b = binary.AppendUvarint(b, uint64(n))
	}
	return b
}

// sealed is bytes, and the sum of them behind.
func sealed(b []byte) []byte {
	return binary.LittleEndian.AppendUint32(b, crc32.Checksum(b, crc32.MakeTable(crc32.Castagnoli)))
}

// framed is a frame's bytes.
func framed(of int, body []byte) []byte {
	return sealed(append([]byte{byte(of), byte(len(body)), byte(len(body) >> 8)}, body...))
}

// words are places, as many words behind one another.
func words(places []int) []byte {
	b := vars(len(places))
	next := 0
	for _, p := range places {
		b = append(b, vars((p-next)/8)...)
		next = p + 8
	}
	return b
}

// kindsBody and rowsBody are pages of layer 18.
func kindsBody(kinds []api.Kind) []byte {
	b := vars(len(kinds))
	for _, k := range kinds {
		b = append(b, vars(k.Size)...)
		b = append(b, words(k.Ptrs)...)
	}
	return b
}

func rowsBody(rows []api.Row) []byte {
	b := vars(len(rows))
	for _, r := range rows {
		if r.Live {
			b = append(b, vars(2*r.Gen+1, r.Kind, r.At)...)
		} else {
			b = append(b, vars(2*r.Gen)...)
		}
	}
	return b
}

// slotBytes and slotsOf are how large a span's slots are, and how many it has.
func slotBytes(d api.Span) int {
	if d.Class == 7 {
		return d.Size
	}
	return []int{16, 24, 32, 48, 64, 96, 128}[d.Class]
}

func slotsOf(d api.Span) int {
	if d.Class == 7 {
		return 1
	}
	return 256 / slotBytes(d)
}

// spanBody is the Body of layer 17's image of a sound view's span.
func spanBody(v api.View, d api.Span) []byte {
	in := make([]byte, (slotsOf(d)+7)/8)
	var offs []int
	var all []byte
	base := 0
	for i, slot := range d.Live {
		size := slotBytes(d)
		at := 256*d.Page + slot*size
		in[slot/8] |= 1 << (slot % 8)
		all = append(all, v.Bytes[at:at+size]...)
		k := slices.IndexFunc(v.Rows, func(r api.Row) bool { return r.Live && r.At == at })
		for _, p := range v.Kinds[v.Rows[k].Kind].Ptrs {
			if binary.LittleEndian.Uint64(v.Bytes[at+p:]) != 0 {
				offs = append(offs, i*size+p)
				base = v.Base
			}
		}
	}
	return slices.Concat(vars(d.Page, d.Class, d.Size), in, vars(base/256), words(offs), all)
}

// modelFrames is all frames of a sound view.
func modelFrames(v api.View) []save.Piece {
	var l []save.Piece
	add := func(of, id int, body []byte) {
		l = append(l, save.Piece{Type: of, Id: id, Bytes: framed(of, body)})
	}
	for i := 0; 16*i < len(v.Kinds); i++ {
		add(1, i, kindsBody(v.Kinds[16*i:min(16*i+16, len(v.Kinds))]))
	}
	for i := 0; 32*i < len(v.Rows); i++ {
		add(2, i, rowsBody(v.Rows[32*i:min(32*i+32, len(v.Rows))]))
	}
	for _, d := range v.Spans {
		add(3, d.Page, spanBody(v, d))
	}
	return l
}

// rootFrame is the root's frame.
func rootFrame(v api.View, workers, handles int, entries []api.Entry) []byte {
	b := vars(v.Base/256, v.Pages, workers, handles, len(v.Rows), len(v.Kinds), len(v.Spans))
	next := 0
	for _, e := range entries {
		if e.Type == 3 {
			b = append(b, vars(e.Id-next)...)
			next = e.Id + 1
		}
		b = append(b, vars(e.First, e.Len)...)
	}
	return framed(4, b)
}

// manifestBytes is a sector with a manifest.
func manifestBytes(seq, first, n int) []byte {
	b := binary.LittleEndian.AppendUint32(nil, uint32(seq))
	b = binary.LittleEndian.AppendUint32(b, uint32(first))
	b = binary.LittleEndian.AppendUint32(b, uint32(n))
	b = sealed(append(b, make([]byte, 44)...))
	return append(b, b[:4]...)
}

// seqIn is the number of the manifest in a sector; 0, if there is none.
func seqIn(b []byte) int {
	number := func(at int) int {
		return int(binary.LittleEndian.Uint32(b[at:]))
	}
	seq, first, n := number(0), number(4), number(8)
	if first < 1 || first > 65534 || n < 8 || n > 65542 || !bytes.Equal(b, manifestBytes(seq, first, n)) {
		return 0
	}
	return seq
}

// op is a write to a sector; a flush, if that is -1.
type op struct {
	sector int
	bytes  []byte
}

// count is how many sectors a chain has.
func count(b []byte) int {
	return (len(b) + 55) / 56
}

// laid is the writes of a chain.
func laid(b []byte, sectors []int) []op {
	var ops []op
	for i, s := range sectors {
		piece := make([]byte, 56)
		copy(piece, b[56*i:])
		next := 0
		if i+1 < len(sectors) {
			next = sectors[i+1]
		}
		ops = append(ops, op{s, sealed(binary.LittleEndian.AppendUint32(piece, uint32(next)))})
	}
	return ops
}

// fault is what an error must be: its number, and the sector at which it was met, if it was met at any.
type fault struct {
	err  api.Errno
	at   int
	isAt bool
}

func refuses(e api.Errno) fault {
	return fault{err: e}
}

func meets(e api.Errno, at int) fault {
	return fault{err: e, at: at, isAt: true}
}

// isError says what is wrong with an error.
func isError(e error, want fault) string {
	if (e == nil) != (want.err == api.OK) {
		return "an error that isn't to be there, or none"
	}
	if e == nil {
		return ""
	}
	for n := api.OK; n <= 20; n++ {
		if errors.Is(e, n) != (n == want.err) {
			return "another number by errors.Is"
		}
	}
	var number api.Errno
	if !errors.As(e, &number) || number != want.err {
		return "another number by errors.As"
	}
	if errors.Unwrap(e) == nil || e.Error() == "" {
		return "an error that wraps none, or tells nothing"
	}
	var f *api.Fault
	if errors.As(e, &f) != want.isAt {
		return "a sector that isn't to be there, or none"
	}
	if want.isAt && (f.Sector != want.at || !errors.Is(f.Err, want.err)) {
		return "another sector"
	}
	return ""
}

// model is in the document's words what a saver must answer; of its disk it reads the slots alone.
type model struct {
	disk         *disk.Disk
	tree, coming save.Tree
	todo         []op
	fresh        int
}

// refusal is the error of Begin, but for ErrSectors.
func (m *model) refusal(v api.View, workers, handles int) fault {
	if len(m.todo) > 0 {
		return refuses(api.ErrBusy)
	}
	rule, _ := audit.Check(v)
	if rule > 0 || workers < 1 || workers > 8 || handles < 1 || handles < len(v.Rows) || handles > 4096 {
		return refuses(api.ErrForm)
	}
	if m.disk.Down() {
		return meets(api.ErrDown, 0)
	}
	if m.newest() == 1<<32-1 {
		return refuses(api.ErrFull)
	}
	return fault{}
}

// newest is the greatest number of a manifest on the disk.
func (m *model) newest() int {
	a, _ := m.disk.Read(0)
	b, _ := m.disk.Read(m.disk.Len() - 1)
	return max(seqIn(a), seqIn(b))
}

// slotSector is the sector of a slot.
func (m *model) slotSector(slot int) int {
	return slot * (m.disk.Len() - 1)
}

// begin is Begin.
func (m *model) begin(v api.View, workers, handles int) fault {
	if f := m.refusal(v, workers, handles); f.err != api.OK {
		return f
	}
	coming := save.Tree{Seq: m.newest() + 1}
	if m.tree.Slot == 0 {
		coming.Slot = 1
	}
	var todo []op
	taken := map[int]bool{}
	for _, at := range m.tree.Sectors {
		taken[at] = true
	}
	next := 1
	put := func(b []byte) []int {
		var own []int
		for range count(b) {
			for taken[next] {
				next++
			}
			own = append(own, next)
			next++
		}
		todo = append(todo, laid(b, own)...)
		return own
	}
	for _, x := range modelFrames(v) {
		e, own := m.kept(x)
		if e.Type == 0 {
			own = put(x.Bytes)
			e = api.Entry{Type: x.Type, Id: x.Id, First: own[0], Len: len(x.Bytes)}
		}
		coming.Entries = append(coming.Entries, e)
		coming.Frames = append(coming.Frames, x.Bytes)
		coming.Sectors = append(coming.Sectors, own...)
	}
	top := rootFrame(v, workers, handles, coming.Entries)
	own := put(top)
	coming.Sectors = append(coming.Sectors, own...)
	// it was taken as if there were no end
	if slices.Max(coming.Sectors) > m.disk.Len()-2 {
		return refuses(api.ErrSectors)
	}
	m.fresh = len(todo)
	flush := op{sector: -1}
	mark := op{m.slotSector(coming.Slot), manifestBytes(coming.Seq, own[0], len(top))}
	m.coming, m.todo = coming, append(todo, flush, mark, flush)
	return fault{}
}

// kept is the entry and the sectors of a frame that the tree has; nothing, if it has it not.
func (m *model) kept(x save.Piece) (api.Entry, []int) {
	at := 0
	for i, e := range m.tree.Entries {
		n := count(m.tree.Frames[i])
		if e.Type == x.Type && e.Id == x.Id && bytes.Equal(m.tree.Frames[i], x.Bytes) {
			return e, m.tree.Sectors[at : at+n]
		}
		at += n
	}
	return api.Entry{}, nil
}

// step is Step, of a disk that does what is asked of it, or not.
func (m *model) step(does bool) (bool, fault) {
	if len(m.todo) == 0 {
		return false, refuses(api.ErrNone)
	}
	o := m.todo[0]
	m.todo = m.todo[1:]
	if !does {
		m.end()
		return false, meets(api.ErrDown, o.sector)
	}
	if len(m.todo) > 0 {
		return false, fault{}
	}
	m.tree = m.coming
	m.end()
	return true, fault{}
}

// drop is Drop.
func (m *model) drop() bool {
	if len(m.todo) < 2 {
		return false
	}
	m.end()
	return true
}

func (m *model) end() {
	m.coming, m.todo = save.Tree{}, nil
}

// free is Free.
func (m *model) free() int {
	taken := map[int]bool{}
	for _, at := range slices.Concat(m.tree.Sectors, m.coming.Sectors) {
		taken[at] = true
	}
	return m.disk.Len() - 2 - len(taken)
}

func samePiece(a, b save.Piece) bool {
	return a.Type == b.Type && a.Id == b.Id && bytes.Equal(a.Bytes, b.Bytes)
}

func sameTree(a, b save.Tree) bool {
	return a.Seq == b.Seq && a.Slot == b.Slot && slices.Equal(a.Entries, b.Entries) &&
		slices.EqualFunc(a.Frames, b.Frames, bytes.Equal) && slices.Equal(a.Sectors, b.Sectors)
}

// bench is a saver over a disk, and the model against which each of its answers is held.
type bench struct {
	*testing.T
	d *disk.Disk
	s *save.Saver
	m *model
	// so many Writes and Flushes until the power fails; below 1: it doesn't
	left int
}

// benchOf is a saver over a disk of so many sectors, all noughts.
func benchOf(t *testing.T, sectors int) *bench {
	t.Helper()
	d, e := disk.New(sectors)
	if e != api.OK {
		t.Fatal(e)
	}
	b := &bench{T: t, d: d}
	b.anew(save.None())
	return b
}

// anew makes another saver over the disk, on which a tree counts.
func (b *bench) anew(tree save.Tree) {
	b.Helper()
	s, e := save.New(b.d, tree)
	if e != nil || s == nil {
		b.Fatal(e)
	}
	b.s, b.m = s, &model{disk: b.d, tree: tree}
	b.holds()
}

// arm has the power fail.
func (b *bench) arm(n int) {
	b.d.Arm(n)
	b.left = n
}

// crash gives the power back.
func (b *bench) crash(keeps []int) {
	b.d.Crash(keeps)
	b.left = 0
}

// holds holds what a saver tells against the model.
func (b *bench) holds() {
	b.Helper()
	if got, want := b.s.Busy(), len(b.m.todo) > 0; got != want {
		b.Fatalf("Busy: %v", got)
	}
	if got := b.s.Tree(); !sameTree(got, b.m.tree) {
		b.Fatalf("Tree: %+v, not %+v", got, b.m.tree)
	}
	if got, want := b.s.Free(), b.m.free(); got != want {
		b.Fatalf("Free: %d, not %d", got, want)
	}
	if got := b.s.Fresh(); got != b.m.fresh {
		b.Fatalf("Fresh: %d, not %d", got, b.m.fresh)
	}
}

// begin holds that Begin tells what the model tells, and does nothing to the disk.
func (b *bench) begin(v api.View, workers, handles int) api.Errno {
	b.Helper()
	ops, pending, own := b.d.Ops(), b.d.Pending(), copyOfView(v)
	want := b.m.begin(v, workers, handles)
	e := b.s.Begin(v, workers, handles)
	if wrong := isError(e, want); wrong != "" {
		b.Fatalf("Begin: %#v: %s (%v at %d, %v)", e, wrong, want.err, want.at, want.isAt)
	}
	if b.d.Ops() != ops || b.d.Pending() != pending {
		b.Fatal("Begin did something to the disk")
	}
	if !sameView(v, own) {
		b.Fatal("Begin changed the view")
	}
	b.holds()
	return want.err
}

// begins holds that Begin tells this.
func (b *bench) begins(v api.View, workers, handles int, want api.Errno) {
	b.Helper()
	if got := b.begin(v, workers, handles); got != want {
		b.Fatalf("Begin: the model tells %v, not %v", got, want)
	}
}

// step holds that Step tells what the model tells, and does just that.
func (b *bench) step() (bool, api.Errno) {
	b.Helper()
	var todo []op
	if len(b.m.todo) > 0 {
		todo = b.m.todo[:1]
	}
	does := !b.d.Down() && b.left != 1
	ahead, ops, pending := b.sectors(), b.d.Ops(), b.d.Pending()
	down := b.d.Down()
	wantDone, want := b.m.step(does)
	done, e := b.s.Step()
	if wrong := isError(e, want); wrong != "" || done != wantDone {
		b.Fatalf("Step: %v, %#v: %s (%v, %v at %d, %v)", done, e, wrong, wantDone, want.err, want.at, want.isAt)
	}
	for _, o := range todo {
		b.left--
		switch {
		case o.sector >= 0 && !down:
			pending++
		case o.sector < 0 && does:
			pending = 0
		}
		if does {
			ops++
		}
		if o.sector >= 0 && ahead != nil {
			ahead[o.sector] = o.bytes
		}
	}
	if b.d.Ops() != ops || b.d.Pending() != pending {
		b.Fatalf("behind a Step %d were done, %d are pending; not %d and %d", b.d.Ops(), b.d.Pending(), ops, pending)
	}
	if behind := b.sectors(); behind != nil && !slices.EqualFunc(behind, ahead, bytes.Equal) {
		b.Fatalf("the disk has something else than what was to be done: %v", todo)
	}
	b.holds()
	return done, want.err
}

// sectors is what can be read of a small disk, if there is power.
func (b *bench) sectors() [][]byte {
	if b.d.Down() || b.d.Len() > 1000 {
		return nil
	}
	all := make([][]byte, b.d.Len())
	for i := range all {
		all[i], _ = b.d.Read(i)
	}
	return all
}

// drop holds that Drop tells what the model tells, and does nothing to the disk.
func (b *bench) drop() bool {
	b.Helper()
	ops, pending := b.d.Ops(), b.d.Pending()
	want := b.m.drop()
	if got := b.s.Drop(); got != want {
		b.Fatalf("Drop: %v", got)
	}
	if b.d.Ops() != ops || b.d.Pending() != pending {
		b.Fatal("Drop did something to the disk")
	}
	b.holds()
	return want
}

// steps does all steps that are left: how many.
func (b *bench) steps() int {
	b.Helper()
	for n := 1; ; n++ {
		done, e := b.step()
		if e != api.OK {
			b.Fatal(e)
		}
		if done {
			b.readable(b.m.tree)
			return n
		}
	}
}

// saves does a checkpoint from its beginning to its end: of how many steps.
func (b *bench) saves(v api.View, workers, handles int) int {
	b.Helper()
	b.begins(v, workers, handles, api.OK)
	return b.steps()
}
