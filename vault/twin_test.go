package vault_test

import (
	"bytes"
	"errors"
	"fmt"
	"slices"
	"strings"
	"testing"

	"hayloft/api"
	"hayloft/chain"
	"hayloft/frame"
	"hayloft/root"
	"hayloft/save"
	"hayloft/vault"
)

// The steps, each with what its Kind names.
func define(n int, ptrs ...int) api.Op    { return api.Op{Kind: 1, N: n, Ptrs: ptrs} }
func alloc(w, kind int) api.Op            { return api.Op{Kind: 2, Worker: w, N: kind} }
func free(w int, x api.Handle) api.Op     { return api.Op{Kind: 3, Worker: w, Handle: x} }
func read(x api.Handle, at, n int) api.Op { return api.Op{Kind: 4, Handle: x, At: at, N: n} }
func write(x api.Handle, at int, b string) api.Op {
	return api.Op{Kind: 5, Handle: x, At: at, Bytes: []byte(b)}
}
func get(x api.Handle, i int) api.Op { return api.Op{Kind: 6, Handle: x, N: i} }
func set(x api.Handle, i int, to api.Handle) api.Op {
	return api.Op{Kind: 7, Handle: x, N: i, To: to}
}
func flush(w int) api.Op        { return api.Op{Kind: 8, Worker: w} }
func scavenge() api.Op          { return api.Op{Kind: 9} }
func compact() api.Op           { return api.Op{Kind: 10} }
func begin() api.Op             { return api.Op{Kind: 11} }
func step() api.Op              { return api.Op{Kind: 12} }
func drop() api.Op              { return api.Op{Kind: 13} }
func arm(n int) api.Op          { return api.Op{Kind: 14, N: n} }
func crash(keeps ...int) api.Op { return api.Op{Kind: 15, Keeps: keeps} }
func restore(base int) api.Op   { return api.Op{Kind: 16, N: base} }

// plan is a checkpoint of the model that is under way: the world that it is of, the tree that is to be, and the sectors at which its steps write, -1 for a flush.
type plan struct {
	world *world
	tree  save.Tree
	steps []int
	done  int
}

// twin is a vault and its model: what is done is done to both, and must be answered alike and leave them alike.
type twin struct {
	*testing.T
	v       *vault.Vault
	config  api.Config
	sectors int
	now     *world    // nil: it isn't up
	saved   *world    // that the checkpoint that counts is of; nil, if none counts
	tree    save.Tree // that counts
	coming  *plan     // that is under way
	maybe   *plan     // whose manifest was written, or was being written, but isn't sure
	pending bool      // that manifest is
	kept    int       // so many bytes of it
	fails   int       // in how many writes and flushes the power fails; 0: in none
	down    bool      // there is no power
}

// fresh is a new vault, with its model.
func fresh(t *testing.T, c api.Config) *twin {
	t.Helper()
	v, err := vault.New(c)
	if err != nil || v == nil {
		t.Fatalf("New(%v): %v", c, err)
	}
	x := &twin{T: t, v: v, config: c, sectors: c.Sectors, now: emptyWorld(c), tree: save.None()}
	x.alike()
	return x
}

// opened is another vault over what is sure of this one's disk, with its model.
func (x *twin) opened(c api.Config) *twin {
	x.Helper()
	b := x.v.Image()
	v, err := vault.Open(c, b)
	if err != nil || v == nil {
		x.Fatalf("Open(%v): %v", c, err)
	}
	y := &twin{T: x.T, v: v, config: c, sectors: x.sectors, saved: x.saved, tree: x.tree}
	if !x.pending {
		y.maybe, y.kept = x.maybe, x.kept
	}
	y.alike()
	if !bytes.Equal(v.Image(), b) || v.Err() != nil {
		x.Fatalf("Open(%v): another disk, or %v", c, v.Err())
	}
	return y
}

// small is a vault of some pages, workers, handles and sectors.
func small(t *testing.T, pages, workers, handles, sectors int) *twin {
	t.Helper()
	return fresh(t, api.Config{Base: 512, Pages: pages, Workers: workers, Handles: handles, Sectors: sectors})
}

// do does a step: what is answered.
func (x *twin) do(op api.Op) api.Answer {
	x.Helper()
	given, room := copyOf(op), spare(op)
	got := x.v.Do(op)
	want, at := x.answer(given, got)
	if !sameAnswer(got, want) {
		x.Fatalf("%s: %v, not %v (%v)", told(given), got, want, x.v.Err())
	}
	if wrong := isError(x.v.Err(), want.Err, at); wrong != "" {
		x.Fatalf("%s: %v: %s", told(given), x.v.Err(), wrong)
	}
	if !sameOp(op, given) || !slices.Equal(spare(op), room) {
		x.Fatalf("%s: what was handed in has changed", told(given))
	}
	x.alike()
	return got
}

// all does some steps.
func (x *twin) all(ops ...api.Op) {
	x.Helper()
	for _, op := range ops {
		x.do(op)
	}
}

// is does a step, which must be answered with this error.
func (x *twin) is(op api.Op, want api.Errno) {
	x.Helper()
	if a := x.do(op); a.Err != want {
		x.Fatalf("%s: %v, not %v", told(op), a, want)
	}
}

// tells does a step, which must be answered with this number.
func (x *twin) tells(op api.Op, n int) {
	x.Helper()
	if a := x.do(op); a.Err != api.OK || a.N != n {
		x.Fatalf("%s: %v, not %d", told(op), a, n)
	}
}

// made is an object that must find a place.
func (x *twin) made(w, kind int) api.Handle {
	x.Helper()
	a := x.do(alloc(w, kind))
	if a.Err != api.OK {
		x.Fatalf("%v: no object", a)
	}
	return a.Handle
}

// save does a checkpoint: how many steps it took.
func (x *twin) save() int {
	x.Helper()
	x.is(begin(), api.OK)
	for n := 1; ; n++ {
		if a := x.do(step()); a.Err != api.OK || a.N == 1 {
			if a.Err != api.OK {
				x.Fatal(a)
			}
			return n
		}
	}
}

// answer is what a step must answer, and at which sector its error is met (nowhere: at none); where the document leaves something open, got tells.
func (x *twin) answer(op api.Op, got api.Answer) (a api.Answer, at int) {
	at = nowhere
	switch {
	case op.Kind < 1 || op.Kind > 16:
		a.Err = api.ErrArg
	case op.Kind <= 13 && x.now == nil:
		a.Err = api.ErrDown
	case op.Kind <= 10:
		a = x.now.answer(op, got)
	case op.Kind == 11:
		a.N, a.Err = x.begin()
	case op.Kind == 12:
		return x.step()
	case op.Kind == 13:
		a.Err = x.drop()
	case op.Kind == 14 && !x.down:
		x.fails = max(0, op.N)
	case op.Kind == 15:
		x.crash(op.Keeps)
	case op.Kind == 16:
		a.N, a.Err = x.restore(op.N, got)
	}
	return a, at
}

func (x *twin) begin() (int, api.Errno) {
	if x.coming != nil {
		return 0, api.ErrBusy
	}
	p := x.planOf(x.v.View())
	if p == nil {
		return 0, api.ErrSectors
	}
	x.coming = p
	return len(p.steps) - 3, api.OK
}

// planOf is a checkpoint of the heap as it is now; nil, if too few sectors are free.
func (x *twin) planOf(v api.View) *plan {
	p := &plan{world: x.now.at(x.now.base), tree: save.Tree{Seq: x.tree.Seq + 1}}
	if x.tree.Slot == 0 {
		p.tree.Slot = 1
	}
	var unused []int
	for s := 1; s < x.sectors-1; s++ {
		if !slices.Contains(x.tree.Sectors, s) {
			unused = append(unused, s)
		}
	}
	take := func(n int) []int {
		if len(unused) < chain.Count(n) {
			return nil
		}
		l := slices.Clone(unused[:chain.Count(n)])
		unused = unused[len(l):]
		p.steps = append(p.steps, l...)
		return l
	}
	pieces, _ := save.Frames(v)
	for _, piece := range pieces {
		entry, l := x.keptOf(piece)
		if l == nil {
			if l = take(len(piece.Bytes)); l == nil {
				return nil
			}
			entry = api.Entry{Type: piece.Type, Id: piece.Id, First: l[0], Len: len(piece.Bytes)}
		}
		p.tree.Entries, p.tree.Frames = append(p.tree.Entries, entry), append(p.tree.Frames, piece.Bytes)
		p.tree.Sectors = append(p.tree.Sectors, l...)
	}
	top := root.Root{Base: x.now.base, Pages: x.now.pages, Workers: x.now.workers, Handles: len(x.now.gens), Rows: len(v.Rows), Kinds: len(v.Kinds), Entries: p.tree.Entries}
	body, _ := root.Body(top, x.sectors)
	b, _ := frame.Encode(frame.Frame{Kind: 4, Body: body})
	l := take(len(b))
	if l == nil {
		return nil
	}
	p.tree.Sectors = append(p.tree.Sectors, l...)
	p.steps = append(p.steps, -1, p.tree.Slot*(x.sectors-1), -1)
	return p
}

// keptOf is the entry of a frame that the tree that counts has too, and its sectors; nil, if it hasn't.
func (x *twin) keptOf(piece save.Piece) (api.Entry, []int) {
	from := 0
	for i, entry := range x.tree.Entries {
		n := chain.Count(entry.Len)
		if entry.Type == piece.Type && entry.Id == piece.Id && bytes.Equal(x.tree.Frames[i], piece.Bytes) {
			return entry, x.tree.Sectors[from : from+n]
		}
		from += n
	}
	return api.Entry{}, nil
}

// powerFails says whether it does in this write or flush.
func (x *twin) powerFails() bool {
	if x.fails == 0 {
		return false
	}
	x.fails--
	x.down = x.fails == 0
	return x.down
}

func (x *twin) step() (api.Answer, int) {
	p := x.coming
	if p == nil {
		return api.Answer{Err: api.ErrNone}, nowhere
	}
	at := p.steps[p.done]
	if p.done == len(p.steps)-2 {
		x.maybe, x.pending, x.kept = p, true, 64
	}
	if x.powerFails() {
		x.now, x.coming = nil, nil
		return api.Answer{Err: api.ErrDown}, at
	}
	p.done++
	if p.done < len(p.steps) {
		return api.Answer{}, nowhere
	}
	x.count(p)
	x.coming, x.maybe, x.pending = nil, nil, false
	return api.Answer{N: 1}, nowhere
}

// count has a checkpoint count.
func (x *twin) count(p *plan) {
	x.saved, x.tree = p.world, p.tree
}

func (x *twin) drop() api.Errno {
	if x.coming == nil {
		return api.ErrNone
	}
	if x.coming.done == len(x.coming.steps)-1 {
		return api.ErrBusy
	}
	x.coming = nil
	return api.OK
}

func (x *twin) crash(keeps []int) {
	x.down, x.fails, x.now, x.coming = false, 0, nil, nil
	// behind a checkpoint's first flush nothing but its manifest is pending
	if x.pending {
		x.pending, x.kept = false, append(slices.Clone(keeps), 0)[0]
	}
}

func (x *twin) restore(base int, got api.Answer) (int, api.Errno) {
	if base < 256 || base > 1<<40 || base%256 != 0 {
		return 0, api.ErrAddr
	}
	x.now, x.coming = nil, nil
	if x.down || x.powerFails() {
		return 0, api.ErrDown
	}
	if p := x.maybe; p != nil && (x.kept >= 64 || x.kept > 0 && got.N == p.tree.Seq) {
		x.count(p)
	}
	x.maybe, x.pending = nil, false
	if x.saved == nil {
		x.now = emptyWorld(x.config).at(base)
		return 0, api.OK
	}
	x.now = x.saved.at(base)
	return x.tree.Seq, api.OK
}

// alike holds that what the vault shows is what the model does.
func (x *twin) alike() {
	x.Helper()
	v, tree := x.v.View(), x.v.Tree()
	if x.v.Up() != (x.now != nil) || x.v.Busy() != (x.coming != nil) || len(x.v.Image()) != 64*x.sectors {
		x.Fatalf("up: %v, busy: %v, %d bytes", x.v.Up(), x.v.Busy(), len(x.v.Image()))
	}
	if x.now == nil {
		if !sameView(v, api.View{}) || !sameTree(tree, save.None()) || x.v.Free() != 0 {
			x.Fatalf("it isn't up: %d pages, %v, %d free", v.Pages, tree, x.v.Free())
		}
		return
	}
	if wrong := x.now.isSeen(v); wrong != "" {
		x.Fatalf("%s: %s; not of %d pages at %d, %v, %v", wrong, brief(v), x.now.pages, x.now.base, x.now.kinds, x.now.gens)
	}
	unused := x.sectors - 2 - len(x.tree.Sectors)
	if x.coming != nil {
		unused -= len(x.coming.steps) - 3
	}
	if !sameTree(tree, x.tree) || x.v.Free() != unused {
		x.Fatalf("%d in slot %d, %v, %d free; not %d in slot %d, %v, %d", tree.Seq, tree.Slot, tree.Sectors, x.v.Free(), x.tree.Seq, x.tree.Slot, x.tree.Sectors, unused)
	}
}

// brief tells a view without its bytes.
func brief(v api.View) string {
	return fmt.Sprintf("%d pages at %d, %v, %v, %v", v.Pages, v.Base, v.Kinds, v.Rows, v.Spans)
}

// told tells a step in short.
func told(op api.Op) string {
	return fmt.Sprintf("{%d w%d h%d to%d at%d n%d, %d bytes, %v, %v}", op.Kind, op.Worker, op.Handle, op.To, op.At, op.N, len(op.Bytes), op.Ptrs, op.Keeps)
}

// copyOf is a step that has nothing in common with the other.
func copyOf(op api.Op) api.Op {
	op.Bytes, op.Ptrs, op.Keeps = slices.Clone(op.Bytes), slices.Clone(op.Ptrs), slices.Clone(op.Keeps)
	return op
}

func sameOp(a, b api.Op) bool {
	return a.Kind == b.Kind && a.Worker == b.Worker && a.Handle == b.Handle && a.To == b.To && a.At == b.At && a.N == b.N &&
		bytes.Equal(a.Bytes, b.Bytes) && slices.Equal(a.Ptrs, b.Ptrs) && slices.Equal(a.Keeps, b.Keeps)
}

// spare is what stands in the room of a step's lists.
func spare(op api.Op) []int {
	all := append(slices.Clone(op.Ptrs[:cap(op.Ptrs)]), op.Keeps[:cap(op.Keeps)]...)
	for _, b := range op.Bytes[:cap(op.Bytes)] {
		all = append(all, int(b))
	}
	return all
}

func sameTree(a, b save.Tree) bool {
	return a.Seq == b.Seq && a.Slot == b.Slot && slices.Equal(a.Entries, b.Entries) &&
		slices.EqualFunc(a.Frames, b.Frames, bytes.Equal) && slices.Equal(a.Sectors, b.Sectors)
}

// nowhere is the sector of an error that was met at none.
const nowhere = -2

// isError is "", if an error is just these numbers, the first one by errors.As, at that sector; else what is otherwise.
func isError(err error, number api.Errno, at int, others ...api.Errno) string {
	if number == api.OK {
		if err != nil {
			return "an error"
		}
		return ""
	}
	var n api.Errno
	var fault *api.Fault
	switch {
	case err == nil:
		return "no error"
	case !errors.As(err, &n) || n != number:
		return "another number"
	case errors.As(err, &fault) != (at != nowhere):
		return "a sector, or none"
	case fault != nil && fault.Sector != at:
		return "another sector"
	case !strings.HasPrefix(err.Error(), "hayloft: "):
		return "no words"
	}
	for i := range api.Errno(20) {
		if errors.Is(err, i) != (i == number || slices.Contains(others, i)) {
			return "is " + i.Error() + ", or isn't"
		}
	}
	return ""
}
