package vault_test

import (
	"maps"
	"slices"

	"hayloft/api"
	"hayloft/audit"
	"hayloft/class"
)

// thing is an object of the model.
type thing struct {
	kind  int
	bytes []byte
	to    []api.Handle
}

// world is in the document's words what can be seen of a heap: a map from handles to objects, its kinds, and the last generation of each index from 1 on; it knows of no places.
type world struct {
	base, pages, workers int
	kinds                []api.Kind
	gens                 []int
	things               map[api.Handle]*thing
	tight                bool // nothing has taken or given a place since it was compacted
}

// emptyWorld is the world of a heap without anything.
func emptyWorld(c api.Config) *world {
	return &world{base: c.Base, pages: c.Pages, workers: c.Workers, gens: make([]int, c.Handles), things: map[api.Handle]*thing{}}
}

// at is the same world at another base; it has nothing in common with this one.
func (w *world) at(base int) *world {
	other := *w
	other.base, other.tight = base, false
	other.kinds, other.gens, other.things = slices.Clone(w.kinds), slices.Clone(w.gens), maps.Clone(w.things)
	for x, o := range w.things {
		other.things[x] = &thing{o.kind, slices.Clone(o.bytes), slices.Clone(o.to)}
	}
	return &other
}

// last is the last handle that was given out with an index.
func (w *world) last(index int) api.Handle {
	return api.Handle(index + 65536*w.gens[index-1])
}

// next is the index that is given out next; 0, if none can be.
func (w *world) next() int {
	for index := 1; index <= len(w.gens); index++ {
		if w.things[w.last(index)] == nil && w.gens[index-1] < 65535 {
			return index
		}
	}
	return 0
}

func (w *world) hasWorker(n int) bool {
	return n >= 0 && n < w.workers
}

// define makes a kind known.
func (w *world) define(size int, ptrs []int) (int, api.Errno) {
	if size < 1 || size > 4096 {
		return 0, api.ErrArg
	}
	if len(ptrs) > 16 {
		return 0, api.ErrLong
	}
	for i, p := range ptrs {
		if p%8 != 0 || p < 0 || p > size-8 || i > 0 && p <= ptrs[i-1] {
			return 0, api.ErrKind
		}
	}
	if len(w.kinds) == 64 {
		return 0, api.ErrFull
	}
	w.kinds = append(w.kinds, kindOf(size, slices.Clone(ptrs)...))
	return len(w.kinds) - 1, api.OK
}

// refusal is the error of an alloc, but for ErrMemory.
func (w *world) refusal(worker, of int) api.Errno {
	switch {
	case !w.hasWorker(worker):
		return api.ErrArg
	case of < 0 || of >= len(w.kinds):
		return api.ErrKind
	case w.next() == 0:
		return api.ErrFull
	}
	return api.OK
}

// alloc makes an object, if a place is found, which it can't tell: only that there is none, or must be one.
func (w *world) alloc(worker, of int, found bool) (api.Handle, api.Errno) {
	if e := w.refusal(worker, of); e != api.OK {
		return 0, e
	}
	if !w.fits(w.kinds[of].Size) || !w.tight && !found {
		return 0, api.ErrMemory
	}
	index := w.next()
	w.gens[index-1]++
	x, k := w.last(index), w.kinds[of]
	w.things[x] = &thing{of, make([]byte, k.Size), make([]api.Handle, len(k.Ptrs))}
	w.tight = false
	return x, api.OK
}

// fits says whether the objects and one of that size need no more pages than there are.
func (w *world) fits(size int) bool {
	sizes := []int{size}
	for _, o := range w.things {
		sizes = append(sizes, len(o.bytes))
	}
	return class.Need(sizes) <= w.pages
}

func (w *world) free(worker int, x api.Handle) api.Errno {
	if !w.hasWorker(worker) {
		return api.ErrArg
	}
	if w.things[x] == nil {
		return api.ErrStale
	}
	delete(w.things, x)
	for _, o := range w.things {
		for i, to := range o.to {
			if to == x {
				o.to[i] = 0
			}
		}
	}
	w.tight = false
	return api.OK
}

// part is the bytes of an object, its own.
func (w *world) part(x api.Handle, at, n int) ([]byte, api.Errno) {
	o := w.things[x]
	if o == nil {
		return nil, api.ErrStale
	}
	if n < 0 || at < 0 || at > len(o.bytes) || n > len(o.bytes)-at {
		return nil, api.ErrArg
	}
	for i := at; i < at+n; i++ {
		for _, p := range w.kinds[o.kind].Ptrs {
			if i >= p && i < p+8 {
				return nil, api.ErrKind
			}
		}
	}
	return o.bytes[at : at+n], api.OK
}

func (w *world) get(x api.Handle, i int) (api.Handle, api.Errno) {
	o := w.things[x]
	if o == nil {
		return 0, api.ErrStale
	}
	if i < 0 || i >= len(o.to) {
		return 0, api.ErrArg
	}
	return o.to[i], api.OK
}

func (w *world) set(x api.Handle, i int, to api.Handle) api.Errno {
	if _, e := w.get(x, i); e != api.OK {
		return e
	}
	if to != 0 && w.things[to] == nil {
		return api.ErrStale
	}
	w.things[x].to[i] = to
	return api.OK
}

// answer is what a step of the heap alone must answer; whether a place is found, got tells.
func (w *world) answer(op api.Op, got api.Answer) (a api.Answer) {
	switch op.Kind {
	case 1:
		a.N, a.Err = w.define(op.N, op.Ptrs)
	case 2:
		a.Handle, a.Err = w.alloc(op.Worker, op.N, got.Err != api.ErrMemory)
	case 3:
		a.Err = w.free(op.Worker, op.Handle)
	case 4:
		a.Bytes, a.Err = w.part(op.Handle, op.At, op.N)
		a.Bytes = slices.Clone(a.Bytes)
	case 5:
		var own []byte
		own, a.Err = w.part(op.Handle, op.At, len(op.Bytes))
		copy(own, op.Bytes)
	case 6:
		a.Handle, a.Err = w.get(op.Handle, op.N)
	case 7:
		a.Err = w.set(op.Handle, op.N, op.To)
	case 8:
		if !w.hasWorker(op.Worker) {
			a.Err = api.ErrArg
		}
	case 10:
		w.tight = true
	}
	return a
}

// handles are all that live, by rising indexes.
func (w *world) handles() []api.Handle {
	var all []api.Handle
	for i := range w.gens {
		if x := w.last(i + 1); w.things[x] != nil {
			all = append(all, x)
		}
	}
	return all
}

// objects is what layer 14 must see of it.
func (w *world) objects() []audit.Object {
	var all []audit.Object
	for _, x := range w.handles() {
		o := w.things[x]
		all = append(all, audit.Object{Handle: x, Kind: o.kind, Bytes: o.bytes, To: o.to})
	}
	return all
}

// rowsAre says whether rows have just the world's generations and live handles.
func (w *world) rowsAre(rows []api.Row) bool {
	greatest := len(w.gens)
	for greatest > 0 && w.gens[greatest-1] == 0 {
		greatest--
	}
	if len(rows) != greatest {
		return false
	}
	for i, r := range rows {
		if r.Gen != w.gens[i] || r.Live != (w.things[w.last(i+1)] != nil) {
			return false
		}
	}
	return true
}

// isSeen is "", if a view is sound and shows just this world; else what is otherwise.
func (w *world) isSeen(v api.View) string {
	rule, _ := audit.Check(v)
	switch {
	case rule != 0:
		return "the view isn't sound"
	case v.Base != w.base || v.Pages != w.pages:
		return "another base, or other pages"
	case !slices.EqualFunc(v.Kinds, w.kinds, sameKind):
		return "other kinds"
	case !w.rowsAre(v.Rows):
		return "other rows"
	case !slices.EqualFunc(audit.Objects(v), w.objects(), sameObject):
		return "other objects"
	}
	return ""
}

// noise is a row of numbers that look like chance, the same ones each time.
func noise(seed uint64) func(below int) int {
	return func(below int) int {
		seed = seed*6364136223846793005 + 1442695040888963407
		return int(seed>>33) % below
	}
}

// kindOf is a kind.
func kindOf(size int, ptrs ...int) api.Kind {
	return api.Kind{Size: size, Ptrs: ptrs}
}

// name is a handle of an index and a generation.
func name(index, gen int) api.Handle {
	return api.Handle(index + 65536*gen)
}

func sameKind(a, b api.Kind) bool {
	return a.Size == b.Size && slices.Equal(a.Ptrs, b.Ptrs)
}

func sameSpan(a, b api.Span) bool {
	return a.Page == b.Page && a.Class == b.Class && a.Size == b.Size && slices.Equal(a.Live, b.Live)
}

func sameView(a, b api.View) bool {
	return a.Base == b.Base && a.Pages == b.Pages && slices.EqualFunc(a.Kinds, b.Kinds, sameKind) && slices.Equal(a.Rows, b.Rows) &&
		slices.EqualFunc(a.Spans, b.Spans, sameSpan) && slices.Equal(a.Bytes, b.Bytes)
}

func sameObject(a, b audit.Object) bool {
	return a.Handle == b.Handle && a.Kind == b.Kind && slices.Equal(a.Bytes, b.Bytes) && slices.Equal(a.To, b.To)
}

func sameAnswer(a, b api.Answer) bool {
	return a.Err == b.Err && a.N == b.N && a.Handle == b.Handle && slices.Equal(a.Bytes, b.Bytes)
}
