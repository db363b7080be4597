package heap_test

import (
	"math"
	"slices"
	"testing"

	"hayloft/api"
	"hayloft/audit"
	"hayloft/cache"
	"hayloft/class"
	"hayloft/heap"
	"hayloft/slide"
)

// thing is an object of the model.
type thing struct {
	kind  int
	bytes []byte
	to    []api.Handle
}

// model is in the document's words what a heap must answer: a map from handles to objects, and the last generation of each index from 1 on; it knows of no places.
type model struct {
	workers int
	kinds   []api.Kind
	gens    []int
	things  map[api.Handle]*thing
}

// modelOf is the model of a sound view.
func modelOf(v api.View, workers, handles int) *model {
	m := &model{workers: workers, gens: make([]int, handles), things: map[api.Handle]*thing{}}
	for _, k := range v.Kinds {
		m.kinds = append(m.kinds, kindOf(k.Size, slices.Clone(k.Ptrs)...))
	}
	for i, r := range v.Rows {
		m.gens[i] = r.Gen
	}
	for _, o := range audit.Objects(v) {
		m.things[o.Handle] = &thing{o.Kind, o.Bytes, o.To}
	}
	return m
}

// last is the last handle that was given out with an index.
func (m *model) last(index int) api.Handle {
	return api.Handle(index + 65536*m.gens[index-1])
}

// next is the index that is given out next; 0, if none can be.
func (m *model) next() int {
	for index := 1; index <= len(m.gens); index++ {
		if m.things[m.last(index)] == nil && m.gens[index-1] < 65535 {
			return index
		}
	}
	return 0
}

func (m *model) hasWorker(w int) bool {
	return w >= 0 && w < m.workers
}

// refusal is the error of Alloc, but for ErrMemory.
func (m *model) refusal(w, of int) api.Errno {
	if !m.hasWorker(w) {
		return api.ErrArg
	}
	if of < 0 || of >= len(m.kinds) {
		return api.ErrKind
	}
	if m.next() == 0 {
		return api.ErrFull
	}
	return api.OK
}

// alloc makes an object for which there is a place, and which nothing refuses.
func (m *model) alloc(of int) api.Handle {
	index := m.next()
	m.gens[index-1]++
	x, k := m.last(index), m.kinds[of]
	m.things[x] = &thing{of, make([]byte, k.Size), make([]api.Handle, len(k.Ptrs))}
	return x
}

func (m *model) free(w int, x api.Handle) api.Errno {
	if !m.hasWorker(w) {
		return api.ErrArg
	}
	if m.things[x] == nil {
		return api.ErrStale
	}
	delete(m.things, x)
	for _, o := range m.things {
		for i, to := range o.to {
			if to == x {
				o.to[i] = 0
			}
		}
	}
	return api.OK
}

func (m *model) kindOf(x api.Handle) (int, api.Errno) {
	if m.things[x] == nil {
		return 0, api.ErrStale
	}
	return m.things[x].kind, api.OK
}

// part is the bytes of an object, its own; n below 0, and bytes behind it, are ErrArg, one in a pointer field ErrKind.
func (m *model) part(x api.Handle, at, n int) ([]byte, api.Errno) {
	o := m.things[x]
	if o == nil {
		return nil, api.ErrStale
	}
	if n < 0 || at < 0 || at > len(o.bytes) || n > len(o.bytes)-at {
		return nil, api.ErrArg
	}
	for i := at; i < at+n; i++ {
		for _, p := range m.kinds[o.kind].Ptrs {
			if i >= p && i < p+8 {
				return nil, api.ErrKind
			}
		}
	}
	return o.bytes[at : at+n], api.OK
}

func (m *model) get(x api.Handle, i int) (api.Handle, api.Errno) {
	o := m.things[x]
	if o == nil {
		return 0, api.ErrStale
	}
	if i < 0 || i >= len(o.to) {
		return 0, api.ErrArg
	}
	return o.to[i], api.OK
}

func (m *model) set(x api.Handle, i int, to api.Handle) api.Errno {
	if _, e := m.get(x, i); e != api.OK {
		return e
	}
	if to != 0 && m.things[to] == nil {
		return api.ErrStale
	}
	m.things[x].to[i] = to
	return api.OK
}

// handles are all that live, by rising indexes.
func (m *model) handles() []api.Handle {
	var all []api.Handle
	for i := range m.gens {
		if x := m.last(i + 1); m.things[x] != nil {
			all = append(all, x)
		}
	}
	return all
}

// objects is what layer 14 must see of it.
func (m *model) objects() []audit.Object {
	var all []audit.Object
	for _, x := range m.handles() {
		o := m.things[x]
		all = append(all, audit.Object{Handle: x, Kind: o.kind, Bytes: o.bytes, To: o.to})
	}
	return all
}

// sizes are the bytes of all objects.
func (m *model) sizes() []int {
	var all []int
	for _, o := range m.things {
		all = append(all, len(o.bytes))
	}
	return all
}

// rowsAre says whether rows have just the model's generations and live handles.
func (m *model) rowsAre(rows []api.Row) bool {
	greatest := len(m.gens)
	for greatest > 0 && m.gens[greatest-1] == 0 {
		greatest--
	}
	if len(rows) != greatest {
		return false
	}
	for i, r := range rows {
		if r.Gen != m.gens[i] || r.Live != (m.things[m.last(i+1)] != nil) {
			return false
		}
	}
	return true
}

// both is a heap and its model: what is done is done to both, and must be answered alike and leave them alike. Whether a place is found says a cache (layer 11) that is given the same places.
type both struct {
	t           *testing.T
	h           *heap.Heap
	m           *model
	base, pages int
	places      *cache.Cache
}

// of is a heap of a sound view, with its model.
func of(t *testing.T, v api.View, workers, handles int) *both {
	t.Helper()
	h, e := heap.Of(v, workers, handles)
	if h == nil || e != api.OK {
		t.Fatalf("Of(%d pages, %d, %d): %v", v.Pages, workers, handles, e)
	}
	places, _ := cache.From(v.Pages, workers, v.Spans)
	x := &both{t, h, modelOf(v, workers, handles), v.Base, v.Pages, places}
	x.alike()
	return x
}

// fresh is a heap without objects, of these kinds, with its model.
func fresh(t *testing.T, pages, workers, handles int, kinds ...api.Kind) *both {
	t.Helper()
	h, e := heap.New(api.Config{Base: 512, Pages: pages, Workers: workers, Handles: handles})
	if h == nil || e != api.OK {
		t.Fatalf("New of %d pages, %d workers, %d handles: %v", pages, workers, handles, e)
	}
	places, _ := cache.New(pages, workers)
	x := &both{t, h, modelOf(api.View{}, workers, handles), 512, pages, places}
	for i, k := range kinds {
		if id, e := x.define(k); id != i || e != api.OK {
			t.Fatalf("Define(%v): %d, %v", k, id, e)
		}
	}
	x.alike()
	return x
}

// alike holds that the heap's view is sound, and tells what the model does.
func (x *both) alike() {
	x.t.Helper()
	v := x.h.View()
	if rule, at := audit.Check(v); rule != 0 || at != 0 {
		x.t.Fatalf("the view breaks rule %d at %d: %v", rule, at, v)
	}
	if v.Base != x.base || v.Pages != x.pages {
		x.t.Fatalf("the view is of %d pages at %d", v.Pages, v.Base)
	}
	if !slices.EqualFunc(v.Kinds, x.m.kinds, sameKind) {
		x.t.Fatalf("the view's kinds: %v, not %v", v.Kinds, x.m.kinds)
	}
	if !x.m.rowsAre(v.Rows) {
		x.t.Fatalf("the view's rows: %v; the generations are %v", v.Rows, x.m.gens)
	}
	if l, want := audit.Objects(v), x.m.objects(); !slices.EqualFunc(l, want, sameObject) {
		x.t.Fatalf("the view's objects: %v, not %v", l, want)
	}
}

func (x *both) define(k api.Kind) (int, api.Errno) {
	x.t.Helper()
	id, e := x.h.Define(k)
	if e == api.OK {
		if id != len(x.m.kinds) {
			x.t.Fatalf("Define(%v): %d, not %d", k, id, len(x.m.kinds))
		}
		x.m.kinds = append(x.m.kinds, kindOf(k.Size, slices.Clone(k.Ptrs)...))
	}
	return id, e
}

func (x *both) alloc(w, of int) (api.Handle, api.Errno) {
	x.t.Helper()
	got, e := x.h.Alloc(w, of)
	want, wantE := api.Handle(0), x.m.refusal(w, of)
	if wantE == api.OK {
		_, wantE = x.places.Take(w, x.m.kinds[of].Size)
	}
	if wantE == api.OK {
		want = x.m.alloc(of)
	}
	if got != want || e != wantE {
		x.t.Fatalf("Alloc(%d, %d): %d, %v, not %d, %v", w, of, got, e, want, wantE)
	}
	x.alike()
	return got, e
}

func (x *both) free(w int, o api.Handle) api.Errno {
	x.t.Helper()
	rows := x.h.View().Rows
	e := x.h.Free(w, o)
	if want := x.m.free(w, o); e != want {
		x.t.Fatalf("Free(%d, %d): %v, not %v", w, o, e, want)
	}
	if e == api.OK {
		x.places.Give(w, rows[o%65536-1].At)
	}
	x.alike()
	return e
}

func (x *both) kind(o api.Handle) (int, api.Errno) {
	x.t.Helper()
	id, e := x.h.Kind(o)
	if want, wantE := x.m.kindOf(o); id != want || e != wantE {
		x.t.Fatalf("Kind(%d): %d, %v, not %d, %v", o, id, e, want, wantE)
	}
	return id, e
}

func (x *both) read(o api.Handle, at, n int) ([]byte, api.Errno) {
	x.t.Helper()
	b, e := x.h.Read(o, at, n)
	if want, wantE := x.m.part(o, at, n); !slices.Equal(b, want) || e != wantE {
		x.t.Fatalf("Read(%d, %d, %d): %v, %v, not %v, %v", o, at, n, b, e, want, wantE)
	}
	return b, e
}

func (x *both) write(o api.Handle, at int, b []byte) api.Errno {
	x.t.Helper()
	e := x.h.Write(o, at, b)
	own, want := x.m.part(o, at, len(b))
	if e != want {
		x.t.Fatalf("Write(%d, %d, %d bytes): %v, not %v", o, at, len(b), e, want)
	}
	copy(own, b)
	x.alike()
	return e
}

func (x *both) get(o api.Handle, i int) (api.Handle, api.Errno) {
	x.t.Helper()
	to, e := x.h.Get(o, i)
	if want, wantE := x.m.get(o, i); to != want || e != wantE {
		x.t.Fatalf("Get(%d, %d): %d, %v, not %d, %v", o, i, to, e, want, wantE)
	}
	return to, e
}

func (x *both) set(o api.Handle, i int, to api.Handle) api.Errno {
	x.t.Helper()
	e := x.h.Set(o, i, to)
	if want := x.m.set(o, i, to); e != want {
		x.t.Fatalf("Set(%d, %d, %d): %v, not %v", o, i, to, e, want)
	}
	x.alike()
	return e
}

func (x *both) flush(w int) api.Errno {
	x.t.Helper()
	e := x.h.Flush(w)
	if want := x.places.Flush(w); e != want {
		x.t.Fatalf("Flush(%d): %v, not %v", w, e, want)
	}
	x.alike()
	return e
}

func (x *both) scavenge() {
	x.t.Helper()
	x.h.Scavenge()
	x.places.Scavenge()
	x.alike()
}

// compact holds, too, that nothing is left to be slid together, and that no more pages are taken than the objects need.
func (x *both) compact() {
	x.t.Helper()
	x.h.Compact()
	x.alike()
	spans := x.h.View().Spans
	behind, moves, e := slide.Plan(x.pages, spans)
	if len(moves) != 0 || e != api.OK || !slices.EqualFunc(behind, spans, sameSpan) {
		x.t.Fatalf("behind Compact: Plan(%d, %v): %v, %v, %v", x.pages, spans, behind, moves, e)
	}
	taken := 0
	for _, d := range spans {
		taken += max(1, (d.Size+255)/256)
	}
	if need := class.Need(x.m.sizes()); taken != need {
		x.t.Fatalf("behind Compact %d pages are taken, not %d", taken, need)
	}
	x.places, _ = cache.From(x.pages, x.m.workers, spans)
}

// fits says whether layer 6's Need of all objects and one of that kind isn't above the pages.
func (x *both) fits(of int) bool {
	return class.Need(append(x.m.sizes(), x.m.kinds[of].Size)) <= x.pages
}

// made is an object that must find a place.
func (x *both) made(w, of int) api.Handle {
	x.t.Helper()
	o, e := x.alloc(w, of)
	if e != api.OK {
		x.t.Fatalf("Alloc(%d, %d): %v", w, of, e)
	}
	return o
}

// noMemory holds that there is no place for an object of that kind.
func (x *both) noMemory(w, of int) {
	x.t.Helper()
	if o, e := x.alloc(w, of); o != 0 || e != api.ErrMemory {
		x.t.Fatalf("Alloc(%d, %d): %d, %v, not ErrMemory", w, of, o, e)
	}
}

// is holds that a call answered this error.
func (x *both) is(what string, got, want api.Errno) {
	x.t.Helper()
	if got != want {
		x.t.Fatalf("%s: %v, not %v", what, got, want)
	}
}

// anyInts are numbers at the edges of what there is.
var anyInts = []int{math.MinInt, math.MinInt + 1, -256, -8, -2, -1, 0, 1, 2, 7, 8, 9, 15, 16, 17, 256, 4096, 65536, math.MaxInt - 8, math.MaxInt - 1, math.MaxInt}

// noise is a row of numbers that look like chance, the same ones each time.
func noise(seed uint64) func(below int) int {
	return func(below int) int {
		seed = seed*6364136223846793005 + 1442695040888963407
		return int(seed>>33) % below
	}
}

// kindOf, spanOf, live and gone are a kind, a span with its live slots, a row of a handle that lives, and a row without one.
func kindOf(size int, ptrs ...int) api.Kind {
	return api.Kind{Size: size, Ptrs: ptrs}
}

func spanOf(page, class, size int, live ...int) api.Span {
	return api.Span{Page: page, Class: class, Size: size, Live: live}
}

func live(gen, kind, at int) api.Row {
	return api.Row{Gen: gen, Live: true, Kind: kind, At: at}
}

func gone(gen int) api.Row {
	return api.Row{Gen: gen}
}

// name is a handle of an index and a generation.
func name(index, gen int) api.Handle {
	return api.Handle(index + 65536*gen)
}

// word and putWord are the number of eight bytes of a view, the lowest first.
func word(v api.View, at int) uint64 {
	n := uint64(0)
	for i := range 8 {
		n += uint64(v.Bytes[at+i]) << (8 * i)
	}
	return n
}

func putWord(v api.View, at int, n uint64) {
	for i := range 8 {
		v.Bytes[at+i] = byte(n >> (8 * i))
	}
}

// copyOf is a view that has nothing in common with the other.
func copyOf(v api.View) api.View {
	v.Kinds, v.Rows, v.Spans, v.Bytes = slices.Clone(v.Kinds), slices.Clone(v.Rows), slices.Clone(v.Spans), slices.Clone(v.Bytes)
	for i := range v.Kinds {
		v.Kinds[i].Ptrs = slices.Clone(v.Kinds[i].Ptrs)
	}
	for i := range v.Spans {
		v.Spans[i].Live = slices.Clone(v.Spans[i].Live)
	}
	return v
}

func sameKind(a, b api.Kind) bool {
	return a.Size == b.Size && slices.Equal(a.Ptrs, b.Ptrs)
}

func sameSpan(a, b api.Span) bool {
	return a.Page == b.Page && a.Class == b.Class && a.Size == b.Size && slices.Equal(a.Live, b.Live)
}

func sameView(a, b api.View) bool {
	return a.Base == b.Base && a.Pages == b.Pages && slices.EqualFunc(a.Kinds, b.Kinds, sameKind) && slices.Equal(a.Rows, b.Rows) &&
		slices.EqualFunc(a.Spans, b.Spans, sameSpan) && slices.Equal(a.Bytes, b.Bytes)
}

func sameObject(a, b audit.Object) bool {
	return a.Handle == b.Handle && a.Kind == b.Kind && slices.Equal(a.Bytes, b.Bytes) && slices.Equal(a.To, b.To)
}
