package heap_test

import (
	"bytes"
	"math"
	"slices"
	"testing"

	"hayloft/api"
	"hayloft/audit"
	"hayloft/heap"
	"hayloft/slide"
)

// P15.1, P15.2, P15.3: the chapter's examples.
func TestExamples(t *testing.T) {
	h, e := heap.New(api.Config{Base: 256, Pages: 1, Workers: 1, Handles: 2})
	if h == nil || e != api.OK {
		t.Fatal(e)
	}
	if id, e := h.Define(kindOf(16, 0)); id != 0 || e != api.OK {
		t.Error(id, e)
	}
	for _, want := range []struct {
		x api.Handle
		e api.Errno
	}{{65537, api.OK}, {65538, api.OK}, {0, api.ErrFull}} {
		if x, e := h.Alloc(0, 0); x != want.x || e != want.e {
			t.Errorf("Alloc: %d, %v, not %v", x, e, want)
		}
	}
	if e := h.Set(65537, 0, 65538); e != api.OK {
		t.Error(e)
	}
	if x, e := h.Get(65537, 0); x != 65538 || e != api.OK {
		t.Error(x, e)
	}
	if e := h.Free(0, 65538); e != api.OK {
		t.Error(e)
	}
	if x, e := h.Get(65537, 0); x != 0 || e != api.OK {
		t.Error(x, e)
	}
	if b, e := h.Read(65537, 0, 9); len(b) != 0 || e != api.ErrKind {
		t.Error(b, e)
	}
	if b, e := h.Read(65537, 8, 9); len(b) != 0 || e != api.ErrArg {
		t.Error(b, e)
	}
	// the second of the ten examples of the whole goes on so
	if x, e := h.Alloc(0, 0); x != 131074 || e != api.OK {
		t.Error(x, e)
	}
}

// edges are the numbers around those from 1 to most, and the ends of the numbers.
func edges(most int) []int {
	return []int{math.MinInt, -1, 0, 1, most, most + 1, math.MaxInt}
}

func within(n, most int) bool {
	return n >= 1 && n <= most
}

var (
	goodBases = []int{256, 512, 1 << 30, api.MaxBase - 256, api.MaxBase}
	badBases  = []int{math.MinInt, -256, -1, 0, 1, 100, 255, 257, 384, api.MaxBase - 1, api.MaxBase + 1, api.MaxBase + 256, math.MaxInt - 255, math.MaxInt}
)

// P15.1: each argument of New at its edges, and which error is told where several would be.
func TestNew(t *testing.T) {
	for _, pages := range edges(api.MaxPages) {
		for _, workers := range edges(api.MaxWorkers) {
			for _, handles := range edges(api.MaxHandles) {
				right := within(pages, api.MaxPages) && within(workers, api.MaxWorkers) && within(handles, api.MaxHandles)
				for _, base := range slices.Concat(goodBases, badBases) {
					want := api.OK
					if !right {
						want = api.ErrArg
					} else if slices.Contains(badBases, base) {
						want = api.ErrAddr
					}
					isNew(t, api.Config{Base: base, Pages: pages, Workers: workers, Handles: handles}, want)
				}
			}
		}
	}
	for _, sectors := range anyInts {
		isNew(t, api.Config{Base: 256, Pages: 1, Workers: 1, Handles: 1, Sectors: sectors}, api.OK)
	}
}

// isNew holds that New answers this error, or a heap without anything.
func isNew(t *testing.T, c api.Config, want api.Errno) {
	t.Helper()
	h, e := heap.New(c)
	if e != want || (h == nil) != (want != api.OK) {
		t.Fatalf("New(%v): %v, %v, not %v", c, h != nil, e, want)
	}
	if h == nil {
		return
	}
	empty := api.View{Base: c.Base, Pages: c.Pages, Bytes: make([]byte, 256*c.Pages)}
	if v := h.View(); !sameView(v, empty) {
		t.Fatalf("New(%v): the view has %d kinds, %d rows, %d spans, %d bytes", c, len(v.Kinds), len(v.Rows), len(v.Spans), len(v.Bytes))
	}
}

// P15.1, P15.2: there are just as many workers and handles as New was told.
func TestNewHasItsWorkersAndHandles(t *testing.T) {
	for _, workers := range []int{1, 2, api.MaxWorkers} {
		for _, handles := range []int{1, 2, 5} {
			x := fresh(t, 4, workers, handles, kindOf(16))
			for _, w := range []int{math.MinInt, -1, workers, workers + 1, math.MaxInt} {
				_, e := x.alloc(w, 0)
				x.is("Alloc", e, api.ErrArg)
				x.is("Flush", x.flush(w), api.ErrArg)
			}
			for i := range handles {
				x.made((workers-1)*(i%2), 0)
			}
			_, e := x.alloc(0, 0)
			x.is("one more", e, api.ErrFull)
		}
	}
	h, _ := heap.New(api.Config{Base: 256, Pages: api.MaxPages, Workers: 1, Handles: api.MaxHandles})
	h.Define(kindOf(16))
	for i := range api.MaxHandles {
		if o, e := h.Alloc(0, 0); o != name(i+1, 1) || e != api.OK {
			t.Fatal(i, o, e)
		}
	}
	if o, e := h.Alloc(0, 0); o != 0 || e != api.ErrFull {
		t.Error(o, e)
	}
}

// rich is a sound view with objects of several kinds, a Large one too, with rows that aren't live, an index that was never given out, spans without live slots, one of them Large, and free pages; all bytes outside of fields are something.
func rich() api.View {
	v := api.View{
		Base:  1024,
		Pages: 12,
		Kinds: []api.Kind{kindOf(16, 0), kindOf(20, 8), kindOf(300, 0, 288), kindOf(48), kindOf(301), kindOf(17)},
		Rows: []api.Row{
			live(1, 0, 0), gone(3), live(65535, 1, 304), gone(0), live(2, 2, 768), live(1, 0, 16),
			live(4, 3, 1472), live(7, 5, 472), live(1, 0, 240), gone(65535),
		},
		Spans: []api.Span{spanOf(0, 0, 0, 0, 1, 15), spanOf(1, 1, 0, 2, 9), spanOf(3, 7, 300, 0), spanOf(5, 3, 0, 4), spanOf(8, 6, 0), spanOf(9, 7, 300)},
		Bytes: make([]byte, 12*256),
	}
	for i := range v.Bytes {
		v.Bytes[i] = byte(i%251 + 1)
	}
	// to itself, to a Large one, from it to none and to the last one, to none, and back
	putWord(v, 0, 1024)
	putWord(v, 304+8, 1024+768)
	putWord(v, 768, 0)
	putWord(v, 768+288, 1024+240)
	putWord(v, 16, 0)
	putWord(v, 240, 1024+472)
	return v
}

// changed is the rich view, with something changed.
func changed(change func(v *api.View)) api.View {
	v := rich()
	change(&v)
	return v
}

// isRefused holds that Of answers this error.
func isRefused(t *testing.T, what any, v api.View, workers, handles int, want api.Errno) {
	t.Helper()
	if h, e := heap.Of(v, workers, handles); h != nil || e != want {
		t.Errorf("%v: Of(.., %d, %d): %v, %v, not %v", what, workers, handles, h != nil, e, want)
	}
}

// P15.1: each number that Of is given at its edges, whatever the view is.
func TestOfNumbers(t *testing.T) {
	unsound := changed(func(v *api.View) { v.Base++ })
	for _, workers := range edges(api.MaxWorkers) {
		for _, handles := range edges(api.MaxHandles) {
			switch {
			case !within(workers, api.MaxWorkers) || !within(handles, api.MaxHandles):
				isRefused(t, "sound", rich(), workers, handles, api.ErrArg)
				isRefused(t, "unsound", unsound, workers, handles, api.ErrArg)
				isRefused(t, "zero", api.View{}, workers, handles, api.ErrArg)
			case handles < len(rich().Rows):
				isRefused(t, "too many rows", rich(), workers, handles, api.ErrForm)
			default:
				of(t, rich(), workers, handles)
				isRefused(t, "unsound", unsound, workers, handles, api.ErrForm)
				isRefused(t, "zero", api.View{}, workers, handles, api.ErrForm)
			}
		}
	}
}

// P15.1: as many rows as handles, and one row more; rows of which none lives are rows.
func TestOfRows(t *testing.T) {
	for _, handles := range []int{10, 11, 100} {
		of(t, rich(), 2, handles)
	}
	for handles := 1; handles < 10; handles++ {
		isRefused(t, "rich", rich(), 2, handles, api.ErrForm)
	}
	v := api.View{Base: 256, Pages: 1, Bytes: make([]byte, 256)}
	for n := 1; n < 4; n++ {
		v.Rows = slices.Insert(v.Rows, 0, gone(n-1))
		v.Rows[n-1].Gen = 1
		of(t, v, 1, n)
		if n > 1 {
			isRefused(t, n, v, 1, n-1, api.ErrForm)
		}
	}
	for len(v.Rows) < api.MaxHandles {
		v.Rows = append(v.Rows, gone(1))
	}
	of(t, v, 1, api.MaxHandles)
	isRefused(t, "all rows", v, 1, api.MaxHandles-1, api.ErrForm)
	v.Rows = append(v.Rows, gone(1))
	isRefused(t, "one row more", v, 1, api.MaxHandles, api.ErrForm)
}

// P15.1: views that break each rule of layer 14.
func TestOfUnsoundViews(t *testing.T) {
	for i, x := range []struct {
		rule   int
		change func(v *api.View)
	}{
		{1, func(v *api.View) { v.Base = 0 }}, {1, func(v *api.View) { v.Base = api.MaxBase + 256 }}, {1, func(v *api.View) { v.Pages = 0 }}, {1, func(v *api.View) { v.Pages = math.MinInt }},
		{1, func(v *api.View) { v.Pages = api.MaxPages + 1; v.Bytes = make([]byte, 256*(api.MaxPages+1)) }}, {1, func(v *api.View) { v.Bytes = v.Bytes[1:] }}, {1, func(v *api.View) { v.Bytes = append(v.Bytes, 0) }}, {1, func(v *api.View) { v.Bytes = nil }},
		{1, func(v *api.View) { v.Kinds = append(v.Kinds, slices.Repeat([]api.Kind{kindOf(8)}, 59)...) }}, {1, func(v *api.View) { v.Rows = append(v.Rows, slices.Repeat([]api.Row{gone(1)}, 5000)...) }},
		{2, func(v *api.View) { v.Kinds[4].Size = 0 }}, {2, func(v *api.View) { v.Kinds[0].Ptrs = []int{4} }}, {2, func(v *api.View) { v.Kinds = append(v.Kinds, kindOf(api.MaxSize+1)) }},
		{3, func(v *api.View) { v.Spans[4].Class = 8 }}, {3, func(v *api.View) { v.Spans[4].Page = 5 }}, {3, func(v *api.View) { v.Spans[5].Page = 11 }}, {3, func(v *api.View) { v.Spans[4].Live = []int{2} }},
		{4, func(v *api.View) { v.Rows[1].Gen = -1 }}, {4, func(v *api.View) { v.Rows[1].At = 16 }}, {4, func(v *api.View) { v.Rows[9].Gen = 0 }}, {4, func(v *api.View) { v.Rows[0].Gen = 0 }}, {4, func(v *api.View) { v.Rows[0].Kind = 6 }},
		{4, func(v *api.View) { v.Rows[0].At = 32 }}, {4, func(v *api.View) { v.Rows[4].Kind = 4 }}, {4, func(v *api.View) { v.Rows[0].At = math.MinInt }}, {4, func(v *api.View) { v.Spans[0].Live = []int{0, 15} }},
		{5, func(v *api.View) { v.Rows[7].At = 304 }}, {5, func(v *api.View) { v.Rows[1] = live(4, 0, 0) }},
		{6, func(v *api.View) { v.Rows[6] = gone(2) }}, {6, func(v *api.View) { v.Spans[4].Live = []int{0} }}, {6, func(v *api.View) { v.Rows = nil }},
		{7, func(v *api.View) { putWord(*v, 0, 1025) }}, {7, func(v *api.View) { putWord(*v, 0, 16) }}, {7, func(v *api.View) { putWord(*v, 768, math.MaxUint64) }}, {7, func(v *api.View) { v.Base = 512 }},
	} {
		v := changed(x.change)
		if rule, _ := audit.Check(v); rule != x.rule {
			t.Errorf("the view %d breaks rule %d, not %d", i, rule, x.rule)
		}
		isRefused(t, i, v, 2, api.MaxHandles, api.ErrForm)
		isRefused(t, i, v, 2, 1, api.ErrForm)
	}
}

// P15.1: View of what Of has made tells the view's kinds, rows and objects.
func TestOfTellsItsView(t *testing.T) {
	chance := noise(15)
	views := []api.View{rich(), {Base: 256, Pages: 1, Bytes: make([]byte, 256)}, {Base: api.MaxBase, Pages: api.MaxPages, Bytes: make([]byte, 256*api.MaxPages)}}
	for range 300 {
		x := anyHeap(t, chance)
		views = append(views, x.h.View())
	}
	for _, v := range views {
		h, e := heap.Of(v, 1, api.MaxHandles)
		if e != api.OK {
			t.Fatal(e)
		}
		// twice, since telling it changes nothing
		for range 2 {
			got := h.View()
			if got.Base != v.Base || got.Pages != v.Pages || !slices.EqualFunc(got.Kinds, v.Kinds, sameKind) || !slices.EqualFunc(audit.Objects(got), audit.Objects(v), sameObject) {
				t.Fatalf("%v, not %v", got, v)
			}
			if !slices.EqualFunc(got.Rows, v.Rows, func(a, b api.Row) bool { return a.Gen == b.Gen && a.Live == b.Live && a.Kind == b.Kind }) {
				t.Fatalf("%v, not %v", got.Rows, v.Rows)
			}
		}
	}
}

// P15.1, P15.2, P15.3: a heap that Of has made goes on from where the view was.
func TestOfGoesOn(t *testing.T) {
	x := of(t, rich(), 2, 12)
	for i, r := range rich().Rows {
		o := name(i+1, r.Gen)
		x.kind(o)
		for f := -1; f < 3; f++ {
			x.get(o, f)
		}
		for at := range 304 {
			x.read(o, at, 1)
		}
	}
	x.is("Write", x.write(name(5, 2), 8, []byte("a Large one's bytes")), api.OK)
	x.is("Set", x.set(name(9, 1), 0, name(3, 65535)), api.OK)
	// the indexes 2, 4, 11 and 12 are left: 10 has had its last generation, and so has 3 once it is free
	x.is("Free", x.free(1, name(3, 65535)), api.OK)
	for _, want := range []api.Handle{name(2, 4), name(4, 1), name(11, 1), name(12, 1)} {
		if o := x.made(0, 3); o != want {
			t.Errorf("Alloc: %d, not %d", o, want)
		}
	}
	_, e := x.alloc(0, 3)
	x.is("Alloc", e, api.ErrFull)
	x.compact()
}

// wrongKinds are kinds that layer 9 refuses, with its errors.
func wrongKinds() map[api.Errno][]api.Kind {
	long, longer := kindOf(api.MaxSize), kindOf(api.MaxSize)
	for p := range 18 {
		longer.Ptrs = append(longer.Ptrs, 8*p)
	}
	long.Ptrs = longer.Ptrs[:17]
	return map[api.Errno][]api.Kind{
		api.ErrArg:  {{}, kindOf(-1), kindOf(api.MaxSize + 1), kindOf(math.MinInt), kindOf(math.MaxInt), kindOf(0, 0), kindOf(0, longer.Ptrs...), kindOf(-1, 3)},
		api.ErrLong: {long, longer, kindOf(8, long.Ptrs...), kindOf(16, make([]int, 17)...)},
		api.ErrKind: {kindOf(16, -8), kindOf(16, 4), kindOf(16, 16), kindOf(15, 8), kindOf(7, 0), kindOf(16, 8, 0), kindOf(16, 0, 0), kindOf(16, math.MinInt), kindOf(16, math.MaxInt-7)},
	}
}

// P15.2
func TestDefine(t *testing.T) {
	x := fresh(t, 1, 1, 1)
	refuses := func() {
		t.Helper()
		for want, kinds := range wrongKinds() {
			for _, k := range kinds {
				if id, e := x.define(k); id != 0 || e != want {
					t.Errorf("Define(%v): %d, %v, not %v", k, id, e, want)
				}
				x.alike()
			}
		}
	}
	refuses()
	most := kindOf(api.MaxSize)
	for p := range api.MaxPtrs {
		most.Ptrs = append(most.Ptrs, api.MaxSize-8*(api.MaxPtrs-p))
	}
	right := []api.Kind{kindOf(1), kindOf(8, 0), kindOf(16, 0), kindOf(16, 0), kindOf(api.MaxSize), most}
	for i := range api.MaxKinds {
		if id, e := x.define(right[i%len(right)]); id != i || e != api.OK {
			t.Errorf("Define: %d, %v, not %d", id, e, i)
		}
		x.alike()
	}
	for range 2 {
		if id, e := x.define(kindOf(16)); id != 0 || e != api.ErrFull {
			t.Errorf("Define: %d, %v, not ErrFull", id, e)
		}
		x.alike()
	}
	// of a full table, too, what is wrong with a kind is told first
	refuses()
}

// P15.2: which error is told where several would be.
func TestAllocErrors(t *testing.T) {
	x := fresh(t, 1, 2, 1, kindOf(16), kindOf(300))
	refused := func(w, of int, want api.Errno) {
		t.Helper()
		if o, e := x.alloc(w, of); o != 0 || e != want {
			t.Errorf("Alloc(%d, %d): %d, %v, not %v", w, of, o, e, want)
		}
	}
	for _, w := range []int{math.MinInt, -1, 2, 3, 8, math.MaxInt} {
		for _, kind := range anyInts {
			refused(w, kind, api.ErrArg)
		}
	}
	for _, kind := range []int{math.MinInt, -1, 2, 3, 64, math.MaxInt} {
		refused(0, kind, api.ErrKind)
		refused(1, kind, api.ErrKind)
	}
	// no place: nothing has changed, and no generation is used up
	refused(0, 1, api.ErrMemory)
	refused(1, 1, api.ErrMemory)
	if o := x.made(1, 0); o != 65537 {
		t.Errorf("Alloc: %d", o)
	}
	// full, and no place
	refused(0, 1, api.ErrFull)
	refused(0, 0, api.ErrFull)
	refused(0, 2, api.ErrKind)
	refused(2, 0, api.ErrArg)
	x.free(0, 65537)
	if o := x.made(1, 0); o != 131073 {
		t.Errorf("Alloc: %d", o)
	}
	// without a kind
	x = fresh(t, 1, 1, 1)
	refused(0, 0, api.ErrKind)
	refused(0, -1, api.ErrKind)
	refused(1, 0, api.ErrArg)
	// with as many kinds as there may be
	x = fresh(t, 1, 1, 1, slices.Repeat([]api.Kind{kindOf(24)}, api.MaxKinds)...)
	refused(0, api.MaxKinds, api.ErrKind)
	refused(0, -1, api.ErrKind)
	if id, e := x.kind(x.made(0, api.MaxKinds-1)); id != api.MaxKinds-1 || e != api.OK {
		t.Errorf("Kind: %d, %v", id, e)
	}
}

// P15.2: generations that are used up.
func TestAllocGenerations(t *testing.T) {
	v := api.View{Base: 256, Pages: 2, Kinds: []api.Kind{kindOf(16, 0)}, Rows: []api.Row{gone(65535)}, Bytes: make([]byte, 512)}
	x := of(t, v, 1, 1)
	_, e := x.alloc(0, 0)
	x.is("Alloc", e, api.ErrFull)
	x = of(t, v, 1, 2)
	if o := x.made(0, 0); o != name(2, 1) {
		t.Errorf("Alloc: %d", o)
	}
	v.Rows[0] = gone(65534)
	x = of(t, v, 1, 1)
	if o := x.made(0, 0); o != name(1, 65535) {
		t.Errorf("Alloc: %d", o)
	}
	_, e = x.alloc(0, 0)
	x.is("Alloc", e, api.ErrFull)
	x.is("Free", x.free(0, name(1, 65535)), api.OK)
	_, e = x.alloc(0, 0)
	x.is("Alloc", e, api.ErrFull)
	x.compact()
	_, e = x.alloc(0, 0)
	x.is("Alloc", e, api.ErrFull)
}

// P15.2: each handle but once, up to the last generation.
func TestNeverTwice(t *testing.T) {
	h, _ := heap.New(api.Config{Base: 256, Pages: 1, Workers: 1, Handles: 1})
	h.Define(kindOf(16, 0))
	for gen := 1; gen <= api.MaxGen; gen++ {
		o, e := h.Alloc(0, 0)
		if o != name(1, gen) || e != api.OK || h.Free(0, o) != api.OK || h.Free(0, o) != api.ErrStale {
			t.Fatal(gen, o, e)
		}
	}
	if o, e := h.Alloc(0, 0); o != 0 || e != api.ErrFull {
		t.Error(o, e)
	}
}

// filled writes something into all plain bytes of an object, and makes all of its fields lead to it.
func (x *both) filled(o api.Handle) {
	x.t.Helper()
	k := x.m.kinds[x.m.things[o].kind]
	for i := range k.Ptrs {
		x.is("Set", x.set(o, i, o), api.OK)
	}
	for at := range k.Size {
		if _, e := x.m.part(o, at, 1); e == api.OK {
			x.is("Write", x.write(o, at, []byte{byte(at%255 + 1)}), api.OK)
		}
	}
}

// P15.2: a new object has noughts, and leads to none, where another one lay, also one of another kind.
func TestNewObjectsAreNoughts(t *testing.T) {
	kinds := []api.Kind{kindOf(24, 0, 16), kindOf(20, 8), kindOf(24), kindOf(17, 0, 8), kindOf(300, 0, 8, 288), kindOf(300), kindOf(300, 16)}
	for before := range kinds {
		for behind := range kinds {
			x := fresh(t, 2, 1, 9, kinds...)
			first := x.made(0, before)
			x.filled(first)
			x.free(0, first)
			x.flush(0)
			x.scavenge()
			o := x.made(0, behind)
			zero(x, o)
			// a second time, once all was slid together over something else
			x.filled(o)
			x.compact()
			x.free(0, o)
			x.compact()
			zero(x, x.made(0, before))
		}
	}
	// bytes that nothing of a view is in
	x := of(t, rich(), 1, 40)
	x.scavenge()
	for i := range x.m.kinds {
		zero(x, x.made(0, i))
	}
}

// zero holds that an object's bytes are noughts, and that its fields lead to none.
func zero(x *both, o api.Handle) {
	x.t.Helper()
	k := x.m.kinds[x.m.things[o].kind]
	for i := range k.Ptrs {
		if to, e := x.h.Get(o, i); to != 0 || e != api.OK {
			x.t.Errorf("Get(%d, %d): %d, %v", o, i, to, e)
		}
	}
	for at := range k.Size {
		if b, e := x.h.Read(o, at, 1); e == api.OK && b[0] != 0 {
			x.t.Errorf("Read(%d, %d, 1): %v", o, at, b)
		}
	}
}

// P15.2, P15.3: handles of nothing that lives.
func TestStale(t *testing.T) {
	x := fresh(t, 3, 2, 5, kindOf(16, 0), kindOf(24))
	a, b, c := x.made(0, 0), x.made(1, 1), x.made(0, 0)
	x.free(0, b)
	again := x.made(0, 0)
	x.free(0, c)
	for _, o := range []api.Handle{
		0, 1, 2, 3, 4, 5, 6, b, c, name(0, 1), name(4, 1), name(5, 1), name(6, 1), name(1, 2), name(2, 3), name(1, 65535), name(1, 65536), name(1, 65537), name(4097, 1), name(65535, 1),
		a + 1<<32, a + 1<<48, a + 1<<63, again + 1<<32, 1 << 63, math.MaxUint64, math.MaxUint64 - 1, math.MaxUint64 - 65534, math.MaxInt64,
	} {
		x.is("Free", x.free(0, o), api.ErrStale)
		// no worker: that is told first
		for _, w := range []int{math.MinInt, -1, 2, math.MaxInt} {
			x.is("Free", x.free(w, o), api.ErrArg)
		}
		_, e := x.kind(o)
		x.is("Kind", e, api.ErrStale)
		for _, n := range anyInts {
			_, e = x.read(o, n, n)
			x.is("Read", e, api.ErrStale)
			x.is("Write", x.write(o, n, []byte("ab")), api.ErrStale)
			_, e = x.get(o, n)
			x.is("Get", e, api.ErrStale)
			x.is("Set", x.set(o, n, a), api.ErrStale)
		}
		// as what a field is to lead to: of none but 0
		want := api.ErrStale
		if o == 0 {
			want = api.OK
		}
		x.set(a, 0, again)
		x.is("Set", x.set(a, 0, o), want)
		// a field that isn't there is told first
		x.is("Set", x.set(a, 1, o), api.ErrArg)
		x.is("Set", x.set(a, -1, o), api.ErrArg)
	}
	for _, w := range []int{math.MinInt, -1, 2, math.MaxInt} {
		x.is("Free", x.free(w, a), api.ErrArg)
	}
	x.is("Free", x.free(1, a), api.OK)
}

// P15.2: each field that led to what is freed leads to none, its own and those of others, and no other one.
func TestFreeUnlinks(t *testing.T) {
	kinds := []api.Kind{kindOf(16, 0), kindOf(32, 8, 24), kindOf(600, 0, 8, 592), kindOf(24)}
	for victim := range 8 {
		for _, slid := range []bool{false, true} {
			x := fresh(t, 20, 2, 20, kinds...)
			var all []api.Handle
			for i := range 8 {
				all = append(all, x.made(i%2, i%4))
			}
			// each field leads to the one, or to the next one, itself too
			for i, o := range all {
				for f := range kinds[i%4].Ptrs {
					x.is("Set", x.set(o, f, all[(victim+(i+f)%3)%8]), api.OK)
				}
			}
			if slid {
				x.compact()
			}
			x.is("Free", x.free(1, all[victim]), api.OK)
			for i, o := range all {
				for f := range kinds[i%4].Ptrs {
					x.get(o, f)
				}
			}
			// what comes to lie there isn't led to
			x.made(1, victim%4)
			for i, o := range all {
				for f := range kinds[i%4].Ptrs {
					x.get(o, f)
				}
			}
		}
	}
}

// P15.2: bytes that look like an address of what is freed stay as they are.
func TestFreeLeavesPlainBytes(t *testing.T) {
	x := fresh(t, 2, 1, 4, kindOf(24, 8), kindOf(40, 0))
	a, b := x.made(0, 0), x.made(0, 1)
	x.set(a, 0, b)
	x.set(b, 0, b)
	at := x.h.View().Rows[1].At
	v := api.View{Bytes: make([]byte, 8)}
	putWord(v, 0, uint64(512+at))
	for _, p := range []int{0, 16} {
		x.is("Write", x.write(a, p, v.Bytes), api.OK)
	}
	x.is("Free", x.free(0, b), api.OK)
	for _, p := range []int{0, 16} {
		if got, _ := x.read(a, p, 8); !bytes.Equal(got, v.Bytes) {
			t.Errorf("Read: %v", got)
		}
	}
	// nor do they go along with what is moved
	c := x.made(0, 0)
	d := x.made(0, 1)
	at = x.h.View().Rows[d%65536-1].At
	putWord(v, 0, uint64(512+at))
	x.write(a, 0, v.Bytes)
	x.free(0, c)
	x.compact()
	if got, _ := x.read(a, 0, 8); !bytes.Equal(got, v.Bytes) {
		t.Errorf("Read: %v", got)
	}
}

// P15.3: all bytes of some kinds, and the ends of the numbers.
func TestReadAndWriteEdges(t *testing.T) {
	kinds := []api.Kind{kindOf(1), kindOf(8, 0), kindOf(16, 0), kindOf(16, 8), kindOf(40, 8, 24), kindOf(41), kindOf(256, 0, 248), kindOf(300, 8, 16)}
	for i, k := range kinds {
		x := fresh(t, 6, 1, 3, kinds...)
		// one on either side, so that a byte too many would show
		x.made(0, i)
		o := x.made(0, i)
		x.made(0, i)
		numbers := slices.Clone(anyInts)
		for _, p := range append(slices.Clone(k.Ptrs), k.Size) {
			numbers = append(numbers, p-1, p, p+1, p+7, p+8, p+9)
		}
		for _, at := range numbers {
			for _, n := range numbers {
				b, e := x.read(o, at, n)
				if e == api.OK && len(b) != n {
					t.Errorf("Read(%d, %d): %d bytes", at, n, len(b))
				}
				if n >= 0 && n <= 5000 {
					x.write(o, at, bytes.Repeat([]byte{byte(at + n)}, n))
				}
			}
		}
	}
}

// P15.3: the edges that the chapter names, one by one.
func TestReadAndWriteErrors(t *testing.T) {
	x := fresh(t, 2, 1, 2, kindOf(32, 8), kindOf(256, 0))
	a, end := x.made(0, 0), x.made(0, 1)
	for _, c := range []struct {
		at, n int
		want  api.Errno
	}{
		{0, 8, api.OK}, {0, 9, api.ErrKind}, {7, 1, api.OK}, {7, 2, api.ErrKind}, {8, 1, api.ErrKind}, {15, 1, api.ErrKind}, {15, 2, api.ErrKind}, {16, 1, api.OK}, {16, 16, api.OK}, {8, 8, api.ErrKind}, {0, 32, api.ErrKind},
		{0, 0, api.OK}, {8, 0, api.OK}, {12, 0, api.OK}, {32, 0, api.OK}, {33, 0, api.ErrArg}, {-1, 0, api.ErrArg}, {math.MinInt, 0, api.ErrArg}, {math.MaxInt, 0, api.ErrArg},
		{31, 1, api.OK}, {31, 2, api.ErrArg}, {32, 1, api.ErrArg}, {16, 17, api.ErrArg}, {-1, 1, api.ErrArg}, {-1, 2, api.ErrArg}, {-8, 16, api.ErrArg},
		// in a pointer field, and behind the object
		{8, 25, api.ErrArg}, {0, 33, api.ErrArg}, {12, 21, api.ErrArg}, {-1, 12, api.ErrArg},
	} {
		_, e := x.read(a, c.at, c.n)
		x.is("Read", e, c.want)
		x.is("Write", x.write(a, c.at, bytes.Repeat([]byte{7}, c.n)), c.want)
	}
	for _, n := range []int{math.MinInt, math.MinInt + 1, -32, -1, 33, math.MaxInt - 1, math.MaxInt} {
		for _, at := range []int{math.MinInt, -1, 0, 8, 16, 32, 33, math.MaxInt} {
			_, e := x.read(a, at, n)
			x.is("Read", e, api.ErrArg)
		}
	}
	// the bytes behind the last one of the arena's last page
	if v := x.h.View(); v.Rows[1].At != 256 {
		t.Fatalf("the second object lies at %d", v.Rows[1].At)
	}
	b, e := x.read(end, 256, 0)
	if len(b) != 0 || e != api.OK {
		t.Errorf("Read: %v, %v", b, e)
	}
	x.is("Write", x.write(end, 256, nil), api.OK)
	x.is("Write", x.write(end, 255, []byte{1}), api.OK)
	x.is("Write", x.write(end, 255, []byte{1, 2}), api.ErrArg)
}

// P15.3
func TestGetAndSetEdges(t *testing.T) {
	most := kindOf(api.MaxSize)
	for p := range api.MaxPtrs {
		most.Ptrs = append(most.Ptrs, 256*p+8)
	}
	kinds := []api.Kind{kindOf(16), kindOf(16, 0), kindOf(24, 0, 16), most}
	x := fresh(t, 40, 1, 9, kinds...)
	var all []api.Handle
	for i := range kinds {
		all = append(all, x.made(0, i))
	}
	dropped := x.made(0, 1)
	x.free(0, dropped)
	for i, o := range all {
		fields := len(kinds[i].Ptrs)
		for _, f := range append(slices.Clone(anyInts), fields-1, fields, fields+1) {
			want := api.ErrArg
			if f >= 0 && f < fields {
				want = api.OK
			}
			_, e := x.get(o, f)
			x.is("Get", e, want)
			for _, to := range []api.Handle{0, o, all[0], all[3], 0, all[1]} {
				x.is("Set", x.set(o, f, to), want)
				x.get(o, f)
			}
			if want == api.OK {
				want = api.ErrStale
			}
			for _, to := range []api.Handle{dropped, 1, 65536, math.MaxUint64} {
				x.is("Set", x.set(o, f, to), want)
				x.get(o, f)
			}
		}
	}
	// each field of its own
	for f := range api.MaxPtrs {
		x.is("Set", x.set(all[3], f, all[f%4]), api.OK)
	}
	for f := range api.MaxPtrs {
		if to, e := x.get(all[3], f); to != all[f%4] || e != api.OK {
			t.Errorf("Get(%d): %d, %v", f, to, e)
		}
	}
}

// P15.4: what a worker keeps is given back by Flush, of that worker alone.
func TestFlush(t *testing.T) {
	x := fresh(t, 1, 3, 9, kindOf(128), kindOf(16))
	for _, w := range []int{math.MinInt, -1, 3, 8, math.MaxInt} {
		x.is("Flush", x.flush(w), api.ErrArg)
	}
	// the worker 0 keeps the second of the page's two slots
	x.made(0, 0)
	x.noMemory(1, 0)
	x.is("Flush", x.flush(1), api.OK)
	x.is("Flush", x.flush(2), api.OK)
	x.noMemory(1, 0)
	x.is("Flush", x.flush(0), api.OK)
	b := x.made(1, 0)
	x.noMemory(0, 0)
	// what is freed is kept by whom it was freed
	x.free(0, b)
	x.noMemory(1, 0)
	x.noMemory(2, 0)
	x.is("Flush", x.flush(0), api.OK)
	x.made(2, 0)
}

// P15.4: spans without objects are given back by Scavenge, if nothing of them is kept.
func TestScavenge(t *testing.T) {
	x := fresh(t, 1, 2, 9, kindOf(128), kindOf(16))
	a := x.made(0, 0)
	x.scavenge()
	x.noMemory(0, 1)
	x.free(0, a)
	x.scavenge()
	x.noMemory(0, 1)
	x.flush(0)
	x.noMemory(0, 1)
	x.scavenge()
	b := x.made(0, 1)
	x.flush(0)
	x.scavenge()
	x.noMemory(0, 0)
	x.free(1, b)
	x.flush(0)
	x.scavenge()
	x.noMemory(0, 0)
	x.flush(1)
	x.scavenge()
	x.made(0, 0)
	// a Large span without its object, as a view may have one
	v := api.View{Base: 256, Pages: 2, Kinds: []api.Kind{kindOf(16)}, Spans: []api.Span{spanOf(0, 7, 300)}, Bytes: make([]byte, 512)}
	x = of(t, v, 1, 4)
	x.scavenge()
	if spans := x.h.View().Spans; len(spans) != 0 {
		t.Errorf("Spans: %v", spans)
	}
	x.made(0, 0)
}

// P15.4, P15.5: Compact flushes all workers, gives empty spans back, and slides together.
func TestCompact(t *testing.T) {
	x := fresh(t, 1, 2, 9, kindOf(128), kindOf(16))
	a := x.made(0, 0)
	x.compact()
	b := x.made(1, 0)
	x.compact()
	x.noMemory(0, 0)
	x.free(0, a)
	x.free(1, b)
	x.compact()
	if spans := x.h.View().Spans; len(spans) != 0 {
		t.Errorf("Spans: %v", spans)
	}
	x.made(0, 1)
	// the third of the ten examples of the whole: half of the objects freed
	x = fresh(t, 6, 2, 99, kindOf(32, 0, 24), kindOf(700, 8))
	var all []api.Handle
	for i := range 40 {
		all = append(all, x.made(i%2, 0))
	}
	for i, o := range all {
		x.set(o, 0, all[(i*7+3)%40])
		x.set(o, 1, o)
		x.write(o, 8, []byte{byte(i), 1, 2, 3})
	}
	for i, o := range all {
		if i%2 == 0 {
			x.free(0, o)
		}
	}
	x.noMemory(0, 1)
	x.compact()
	large := x.made(0, 1)
	x.set(large, 0, all[39])
	x.set(all[39], 0, large)
	// again, with a Large object that moves, over itself too
	for i, o := range all[:36] {
		if i%2 == 1 {
			x.free(1, o)
		}
	}
	x.filled(large)
	x.compact()
	if to, e := x.get(all[39], 0); to != large || e != api.OK {
		t.Errorf("Get: %d, %v", to, e)
	}
	if to, e := x.get(large, 0); to != large || e != api.OK {
		t.Errorf("Get: %d, %v", to, e)
	}
}

// P15.5: the fields that are in the arena are addresses at the heap's base, behind each call.
func TestFieldsAreAddresses(t *testing.T) {
	for _, base := range goodBases {
		h, _ := heap.New(api.Config{Base: base, Pages: 4, Workers: 1, Handles: 9})
		h.Define(kindOf(24, 8))
		h.Define(kindOf(300))
		first, _ := h.Alloc(0, 1)
		a, _ := h.Alloc(0, 0)
		b, _ := h.Alloc(0, 0)
		h.Set(a, 0, b)
		leads := func() {
			t.Helper()
			v := h.View()
			if n := word(v, v.Rows[1].At+8); n != uint64(base+v.Rows[2].At) {
				t.Errorf("%d: the field has %d, the object lies at %d", base, n, v.Rows[2].At)
			}
		}
		leads()
		h.Free(0, first)
		leads()
		h.Compact()
		leads()
		if v := h.View(); v.Rows[1].At != 0 || v.Rows[2].At != 24 {
			t.Errorf("they lie at %d and at %d", v.Rows[1].At, v.Rows[2].At)
		}
	}
}

// anyKinds are some kinds that are right, at least one.
func anyKinds(chance func(below int) int) []api.Kind {
	var kinds []api.Kind
	for range 1 + chance(6) {
		k := kindOf(1 + chance(128))
		if chance(4) == 0 {
			k.Size = 129 + chance(700)
		}
		for p := 8 * chance(4); p <= k.Size-8 && len(k.Ptrs) < 16; p += 8 + 8*chance(5) {
			k.Ptrs = append(k.Ptrs, p)
		}
		kinds = append(kinds, k)
	}
	return kinds
}

// anyHeap is a heap of any kinds with which something was done.
func anyHeap(t *testing.T, chance func(below int) int) *both {
	t.Helper()
	x := fresh(t, 1+chance(14), 1+chance(3), 1+chance(60), anyKinds(chance)...)
	for range chance(120) {
		x.step(chance)
	}
	return x
}

// some is a handle that lives, mostly; else one that lived, or may live some day, or 0.
func (x *both) some(chance func(below int) int) api.Handle {
	all := x.m.handles()
	if len(all) == 0 || chance(12) == 0 {
		return name(chance(len(x.m.gens)+2), chance(4))
	}
	return all[chance(len(all))]
}

// near is a number from 0 to most, mostly; else one beside these.
func near(chance func(below int) int, most int) int {
	if chance(10) == 0 {
		return anyInts[chance(len(anyInts))]
	}
	return chance(most + 1)
}

// anyBytes are at most so many bytes.
func anyBytes(chance func(below int) int, most int) []byte {
	b := make([]byte, chance(most+1))
	for i := range b {
		b[i] = byte(chance(256))
	}
	return b
}

// step does something.
func (x *both) step(chance func(below int) int) {
	x.t.Helper()
	o := x.some(chance)
	k := kindOf(20, 0, 8)
	if chance(20) > 0 && x.m.things[o] != nil {
		k = x.m.kinds[x.m.things[o].kind]
	}
	switch chance(40) {
	case 0:
		x.define(kindOf(1+chance(200), 8*chance(3)))
	case 1:
		x.flush(near(chance, x.m.workers))
	case 2:
		x.scavenge()
	case 3:
		x.compact()
	case 4, 5, 6, 7, 8, 9, 10, 11:
		x.free(near(chance, x.m.workers-1), o)
	case 12:
		x.kind(o)
	case 13, 14, 15, 16:
		x.read(o, near(chance, k.Size), near(chance, 12))
	case 17, 18, 19, 20:
		x.write(o, near(chance, k.Size), anyBytes(chance, 12))
	case 21, 22, 23:
		x.get(o, near(chance, len(k.Ptrs)))
	case 24, 25, 26, 27, 28, 29:
		x.set(o, near(chance, len(k.Ptrs)), x.some(chance))
	default:
		x.alloc(near(chance, x.m.workers-1), near(chance, len(x.m.kinds)-1))
	}
}

// P15.1 to P15.6: whatever is done, each answer is that of a map from handles to objects.
func TestAnySteps(t *testing.T) {
	chance := noise(2)
	for range 60 {
		x := anyHeap(t, chance)
		for range 300 {
			x.step(chance)
		}
		// and so it is of a heap that is made of its view, at another base, for other workers
		v := atBase(x.h.View(), goodBases[chance(len(goodBases))])
		y := of(t, v, 1+chance(8), len(x.m.gens)+chance(20))
		for range 100 {
			y.step(chance)
		}
	}
}

// atBase is a view at another base, the difference added to each field that isn't 0.
func atBase(v api.View, base int) api.View {
	to := copyOf(v)
	to.Base = base
	for _, r := range to.Rows {
		if !r.Live {
			continue
		}
		for _, p := range to.Kinds[r.Kind].Ptrs {
			if n := word(to, r.At+p); n != 0 {
				putWord(to, r.At+p, n+uint64(base)-uint64(v.Base))
			}
		}
	}
	return to
}

// P15.5: right behind Compact ErrMemory is told just if layer 6's Need is above Pages.
func TestTightBehindCompact(t *testing.T) {
	chance := noise(5)
	told := map[bool]int{}
	for range 80 {
		x := anyHeap(t, chance)
		for range 80 {
			// mostly more and more, so that the pages are used up
			of := chance(len(x.m.kinds))
			x.compact()
			if x.m.refusal(0, of) != api.OK {
				x.free(0, x.some(chance))
				continue
			}
			fits := x.fits(of)
			told[fits]++
			o, e := x.alloc(chance(x.m.workers), of)
			if fits != (e == api.OK) || !fits && e != api.ErrMemory {
				t.Fatalf("Alloc(%d): %d, %v; it fits: %v", of, o, e, fits)
			}
			if chance(3) == 0 {
				x.free(chance(x.m.workers), x.some(chance))
			}
		}
	}
	if told[true] < 500 || told[false] < 500 {
		t.Errorf("%v", told)
	}
}

// P15.5: filled to the last slot of the last page, of each class, whichever worker does it.
func TestFullToTheLastSlot(t *testing.T) {
	for i, size := range []int{16, 24, 32, 48, 64, 96, 128, 129, 256, 257, 512, api.MaxSize} {
		each := []int{16, 10, 8, 5, 4, 2, 2, 1, 1, 1, 1, 1}[i]
		pages := []int{1, 1, 1, 1, 1, 1, 1, 1, 1, 2, 2, 16}[i]
		x := fresh(t, 3*pages, 3, 99, kindOf(size))
		for j := range 3 * each {
			x.compact()
			x.made(j%3, 0)
		}
		x.compact()
		x.noMemory(0, 0)
		x.free(1, name(2, 1))
		x.compact()
		x.made(2, 0)
		x.compact()
		x.noMemory(0, 0)
		_, e := x.h.Alloc(3, 0)
		x.is("Alloc", e, api.ErrArg)
		_, e = x.h.Alloc(0, 1)
		x.is("Alloc", e, api.ErrKind)
	}
}

// call is a call of a heap, but for the worker.
type call struct {
	what, of, at, n int
	x, to           api.Handle
	bytes           []byte
}

// answer is what a call answered.
type answer struct {
	e     api.Errno
	n     int
	x     api.Handle
	bytes string
}

// do does a call for a worker.
func do(h *heap.Heap, c call, w int) answer {
	var a answer
	var b []byte
	switch c.what {
	case 0:
		a.n, a.e = h.Define(kindOf(c.n, c.at))
	case 1:
		a.x, a.e = h.Alloc(w, c.of)
	case 2:
		a.e = h.Free(w, c.x)
	case 3:
		a.n, a.e = h.Kind(c.x)
	case 4:
		b, a.e = h.Read(c.x, c.at, c.n)
		a.bytes = string(b)
	case 5:
		a.e = h.Write(c.x, c.at, c.bytes)
	case 6:
		a.x, a.e = h.Get(c.x, c.n)
	case 7:
		a.e = h.Set(c.x, c.n, c.to)
	}
	return a
}

// script is so many calls, of handles that may live by then.
func script(chance func(below int) int, calls int) []call {
	x := func() api.Handle { return name(1+chance(30), 1+chance(3)) }
	l := []call{{what: 0, n: 16, at: 0}, {what: 0, n: 20, at: 8}, {what: 0, n: 200, at: 192}, {what: 0, n: 600, at: 0}}
	for range calls {
		c := call{what: []int{0, 1, 1, 1, 2, 3, 4, 4, 5, 5, 6, 6, 7, 7}[chance(14)], of: chance(5), at: 8 * chance(3), n: chance(3), x: x(), to: x(), bytes: anyBytes(chance, 8)}
		if c.what == 0 {
			c.n = 8 * chance(20)
		}
		l = append(l, c)
	}
	return l
}

// run is the answers of a script; ahead of each call something may be done that no answer is of.
func run(t *testing.T, h *heap.Heap, l []call, worker func(i int) int, ahead func(i int)) []answer {
	t.Helper()
	var all []answer
	for i, c := range l {
		ahead(i)
		all = append(all, do(h, c, worker(i)))
	}
	if rule, at := audit.Check(h.View()); rule != 0 {
		t.Fatalf("the view breaks rule %d at %d", rule, at)
	}
	return all
}

// P15.4, P15.5: a script is answered alike at two bases, whichever worker does a step, and whatever is flushed, scavenged, compacted and viewed.
func TestScripts(t *testing.T) {
	chance := noise(9)
	nothing := func(int) {}
	errors := map[api.Errno]int{}
	for range 60 {
		l := script(chance, 400)
		// as many pages as all objects need at most, so that a place is always found
		heapAt := func(base, workers int) *heap.Heap {
			h, e := heap.New(api.Config{Base: base, Pages: 1000, Workers: workers, Handles: 30})
			if e != api.OK {
				t.Fatal(e)
			}
			return h
		}
		want := run(t, heapAt(256, 1), l, func(int) int { return 0 }, nothing)
		for _, a := range want {
			errors[a.e]++
		}
		for _, base := range []int{256, 1 << 20, api.MaxBase} {
			h := heapAt(base, 8)
			if got := run(t, h, l, func(i int) int { return i * i % 8 }, nothing); !slices.Equal(got, want) {
				t.Fatalf("at %d: %v, not %v", base, got, want)
			}
			g := heapAt(base, 3)
			meanwhile := func(i int) {
				switch chance(6) {
				case 0:
					g.Flush(chance(3))
				case 1:
					g.Scavenge()
				case 2:
					g.Compact()
				case 3:
					g.View()
				}
			}
			if got := run(t, g, l, func(i int) int { return chance(3) }, meanwhile); !slices.Equal(got, want) {
				t.Fatalf("at %d, flushed, scavenged, compacted, viewed: %v, not %v", base, got, want)
			}
			if a, b := audit.Objects(h.View()), audit.Objects(g.View()); !slices.EqualFunc(a, b, sameObject) {
				t.Fatalf("at %d: %v, and %v", base, a, b)
			}
		}
	}
	if errors[api.ErrMemory] != 0 || errors[api.OK] < 2000 || errors[api.ErrStale] < 1000 || errors[api.ErrFull] < 10 {
		t.Errorf("so many answers have each error: %v", errors)
	}
}

// P15.5: in few pages, too, where ErrMemory is told, a base makes no difference.
func TestBasesInFewPages(t *testing.T) {
	chance := noise(10)
	memory := 0
	for range 60 {
		l := script(chance, 400)
		var answers [][]answer
		var views []api.View
		for _, base := range []int{256, 1 << 30, api.MaxBase} {
			h, _ := heap.New(api.Config{Base: base, Pages: 5, Workers: 3, Handles: 30})
			ahead := func(i int) {
				if i%40 == 39 {
					h.Compact()
				}
			}
			answers = append(answers, run(t, h, l, func(i int) int { return i % 3 }, ahead))
			views = append(views, h.View())
		}
		for i := range views {
			if !slices.Equal(answers[i], answers[0]) || !sameView(atBase(views[i], 256), atBase(views[0], 256)) {
				t.Fatalf("%v, not %v", answers[i], answers[0])
			}
		}
		memory += len(slices.DeleteFunc(answers[0], func(a answer) bool { return a.e != api.ErrMemory }))
	}
	if memory < 100 {
		t.Errorf("ErrMemory was told %d times", memory)
	}
}

// P15.6
func TestNil(t *testing.T) {
	var h *heap.Heap
	for _, n := range anyInts {
		x := api.Handle(n)
		if id, e := h.Define(kindOf(n)); id != 0 || e != api.ErrNil {
			t.Error(id, e)
		}
		if o, e := h.Alloc(n, n); o != 0 || e != api.ErrNil {
			t.Error(o, e)
		}
		if e := h.Free(n, x); e != api.ErrNil {
			t.Error(e)
		}
		if id, e := h.Kind(x); id != 0 || e != api.ErrNil {
			t.Error(id, e)
		}
		if b, e := h.Read(x, n, n); len(b) != 0 || e != api.ErrNil {
			t.Error(b, e)
		}
		if e := h.Write(x, n, []byte("ab")); e != api.ErrNil {
			t.Error(e)
		}
		if o, e := h.Get(x, n); o != 0 || e != api.ErrNil {
			t.Error(o, e)
		}
		if e := h.Set(x, n, x); e != api.ErrNil {
			t.Error(e)
		}
		if e := h.Flush(n); e != api.ErrNil {
			t.Error(e)
		}
	}
	h.Scavenge()
	h.Compact()
	if v := h.View(); !sameView(v, api.View{}) {
		t.Error(v)
	}
}

// The sixth rule of the document: of a heap that no maker answered the calls end, too.
func TestZeroHeap(t *testing.T) {
	h := new(heap.Heap)
	for _, n := range anyInts {
		x := api.Handle(n)
		h.Define(kindOf(n))
		h.Define(kindOf(16))
		h.Alloc(n, n)
		h.Free(n, x)
		h.Kind(x)
		h.Read(x, n, n)
		h.Write(x, n, nil)
		h.Get(x, n)
		h.Set(x, n, x)
		h.Flush(n)
		h.Scavenge()
		h.Compact()
		h.View()
	}
}

// roomy is a list with spare room behind it, which is filled with something.
func roomy[T any](list []T, with T) []T {
	all := append(slices.Clone(list), with, with, with)
	return all[:len(list)]
}

// roomyView is a view alike, with spare room behind each list.
func roomyView(v api.View) api.View {
	v = copyOf(v)
	for i := range v.Kinds {
		v.Kinds[i].Ptrs = roomy(v.Kinds[i].Ptrs, -7)
	}
	for i := range v.Spans {
		v.Spans[i].Live = roomy(v.Spans[i].Live, -7)
	}
	v.Kinds, v.Rows, v.Spans, v.Bytes = roomy(v.Kinds, kindOf(-7)), roomy(v.Rows, gone(-7)), roomy(v.Spans, spanOf(-7, -7, -7)), roomy(v.Bytes, 7)
	return v
}

// withRoom is a view, and the spare room that roomyView gave it as if that were part of it.
func withRoom(v api.View) api.View {
	v.Kinds, v.Rows, v.Spans, v.Bytes = v.Kinds[:len(v.Kinds)+3], v.Rows[:len(v.Rows)+3], v.Spans[:len(v.Spans)+3], v.Bytes[:len(v.Bytes)+3]
	v.Kinds, v.Spans = slices.Clone(v.Kinds), slices.Clone(v.Spans)
	for i := range len(v.Kinds) - 3 {
		v.Kinds[i].Ptrs = v.Kinds[i].Ptrs[:len(v.Kinds[i].Ptrs)+3]
	}
	for i := range len(v.Spans) - 3 {
		v.Spans[i].Live = v.Spans[i].Live[:len(v.Spans[i].Live)+3]
	}
	return v
}

// spoil changes a list, and its spare room.
func spoil[T any](list []T, with T) {
	list = list[:cap(list)]
	for i := range list {
		list[i] = with
	}
}

// spoilView changes all of a view's lists, and their spare room.
func spoilView(v api.View) {
	for _, k := range v.Kinds {
		spoil(k.Ptrs, -9)
	}
	for _, d := range v.Spans {
		spoil(d.Live, -9)
	}
	spoil(v.Kinds, kindOf(-9))
	spoil(v.Rows, live(-9, -9, -9))
	spoil(v.Spans, spanOf(-9, -9, -9))
	spoil(v.Bytes, 99)
}

// The fourth rule of the document: what is handed in is neither changed nor kept.
func TestHandedIn(t *testing.T) {
	v := roomyView(rich())
	before := copyOf(withRoom(v))
	x := of(t, v, 2, 20)
	if !sameView(withRoom(v), before) {
		t.Error("Of changed its view")
	}
	chance := noise(4)
	for range 100 {
		x.step(chance)
	}
	if !sameView(withRoom(v), before) {
		t.Error("a call changed what Of was handed")
	}
	spoilView(v)
	x.alike()
	for range 100 {
		x.step(chance)
	}

	k := kindOf(24, roomy([]int{0, 16}, -7)...)
	id, e := x.define(k)
	x.is("Define", e, api.OK)
	if !slices.Equal(k.Ptrs[:5], []int{0, 16, -7, -7, -7}) {
		t.Error("Define changed its kind")
	}
	spoil(k.Ptrs, -9)
	x.compact()
	o := x.made(0, id)

	b := roomy([]byte("abc"), 7)
	x.is("Write", x.write(o, 8, b), api.OK)
	if string(b[:6]) != "abc\x07\x07\x07" {
		t.Error("Write changed its bytes")
	}
	spoil(b, 99)
	if got, _ := x.read(o, 8, 4); string(got) != "abc\x00" {
		t.Errorf("Read: %q", got)
	}
	x.alike()
}

// The fourth rule of the document: what is handed out has nothing in common with the heap, or with another answer.
func TestHandedOut(t *testing.T) {
	x := of(t, rich(), 2, 20)
	v, w := x.h.View(), x.h.View()
	kept := copyOf(w)
	spoilView(v)
	if !sameView(w, kept) {
		t.Error("two views have something in common")
	}
	x.alike()
	v = x.h.View()
	kept = copyOf(v)
	chance := noise(6)
	for range 200 {
		x.step(chance)
	}
	if !sameView(v, kept) {
		t.Error("a view changed with the heap")
	}
	// within one view no two lists share memory: each is changed, with its spare room, and the others stay
	v = x.h.View()
	for i := range v.Spans {
		before := copyOf(v)
		spoil(v.Spans[i].Live, -9)
		before.Spans[i].Live = slices.Clone(v.Spans[i].Live)
		if !sameView(v, before) {
			t.Error("a span's slots are another list's, too")
		}
	}
	for i := range v.Kinds {
		before := copyOf(v)
		spoil(v.Kinds[i].Ptrs, -9)
		before.Kinds[i].Ptrs = slices.Clone(v.Kinds[i].Ptrs)
		if !sameView(v, before) {
			t.Error("a kind's fields are another list's, too")
		}
	}
	x.alike()

	x = of(t, rich(), 2, 20)
	o := name(7, 4)
	b, _ := x.read(o, 0, 48)
	c, _ := x.read(o, 0, 48)
	spoil(b, 99)
	x.alike()
	if want, _ := x.read(o, 0, 48); !slices.Equal(c, want) {
		t.Error("two Reads have something in common")
	}
	x.is("Write", x.write(o, 0, []byte("abc")), api.OK)
	if bytes.HasPrefix(c, []byte("abc")) {
		t.Error("what was read changed with the heap")
	}
	spoil(c, 98)
	x.alike()
}

// P1: each call ends at all arguments, and P15.6: the view is sound behind each.
func TestAnyArguments(t *testing.T) {
	x := of(t, rich(), 2, 12)
	handles := append(x.m.handles(), 0, 1, 65536, math.MaxUint64)
	for _, o := range handles {
		for _, n := range anyInts {
			x.kind(o)
			x.get(o, n)
			x.set(o, n, handles[(n%5+5)%5])
			x.write(o, n, make([]byte, 3))
			for _, m := range anyInts {
				x.read(o, n, m)
			}
		}
	}
	for _, n := range anyInts {
		if n != 0 && n != 1 {
			x.flush(n)
			for _, m := range anyInts {
				x.alloc(n, m)
				x.free(n, api.Handle(m))
			}
		}
	}
	x.compact()
}

// P15.2, P15.4: as many objects, fields and pages as there may be.
func TestGreatest(t *testing.T) {
	h, e := heap.New(api.Config{Base: api.MaxBase, Pages: api.MaxPages, Workers: api.MaxWorkers, Handles: api.MaxHandles})
	if e != api.OK {
		t.Fatal(e)
	}
	k := kindOf(128)
	for p := range api.MaxPtrs {
		k.Ptrs = append(k.Ptrs, 8*p)
	}
	h.Define(k)
	h.Define(kindOf(256, 0))
	for i := range api.MaxHandles {
		// every second one has a page of its own
		if x, e := h.Alloc(i%api.MaxWorkers, i%2); x != name(i+1, 1) || e != api.OK {
			t.Fatal(i, x, e)
		}
	}
	to := func(i, f int) int { return (i*7 + f*f + 1) % api.MaxHandles }
	for i := range api.MaxHandles {
		for f := range []int{api.MaxPtrs, 1}[i%2] {
			if e := h.Set(name(i+1, 1), f, name(to(i, f)+1, 1)); e != api.OK {
				t.Fatal(e)
			}
		}
	}
	freed := func(i int) bool { return i%16 == 3 }
	for i := range api.MaxHandles {
		if freed(i) {
			if e := h.Free(i%api.MaxWorkers, name(i+1, 1)); e != api.OK {
				t.Fatal(e)
			}
		}
	}
	h.Compact()
	v := h.View()
	if rule, at := audit.Check(v); rule != 0 {
		t.Fatal(rule, at)
	}
	if _, moves, e := slide.Plan(v.Pages, v.Spans); len(moves) != 0 || e != api.OK {
		t.Fatal(len(moves), e)
	}
	for i := range api.MaxHandles {
		if freed(i) {
			continue
		}
		for f := range []int{api.MaxPtrs, 1}[i%2] {
			want := name(to(i, f)+1, 1)
			if freed(to(i, f)) {
				want = 0
			}
			if x, e := h.Get(name(i+1, 1), f); x != want || e != api.OK {
				t.Fatalf("Get(%d, %d): %d, %v, not %d", i, f, x, e, want)
			}
		}
	}
}
