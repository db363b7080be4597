package audit_test

import (
	"math"
	"slices"
	"testing"

	"hayloft/api"
	"hayloft/audit"
	"hayloft/slide"
)

// example is the chapter's view.
func example() api.View {
	v := api.View{Base: 256, Pages: 1, Kinds: []api.Kind{kindOf(16, 0)}, Rows: []api.Row{live(1, 0, 0), live(1, 0, 16)}, Spans: []api.Span{of(0, 0, 0, 0, 1)}, Bytes: make([]byte, 256)}
	putWord(v, 0, 272)
	return v
}

// P14.1, P14.2: the chapter's examples.
func TestExamples(t *testing.T) {
	v := example()
	isSound(t, "the example", v, []audit.Object{
		{Handle: 65537, Bytes: make([]byte, 16), To: []api.Handle{65538}},
		{Handle: 65538, Bytes: make([]byte, 16), To: []api.Handle{0}},
	})
	putWord(v, 0, 273)
	breaksAt(t, "273", v, 7, 0)
	v = example()
	v.Rows = v.Rows[:1]
	breaksAt(t, "without the second row", v, 6, 0)
}

// rich is a sound view with objects of several kinds, a Large one too, with rows that aren't live, an index that was never given out, a span without live slots, and free pages.
func rich() api.View {
	v := api.View{
		Base:  1024,
		Pages: 9,
		Kinds: []api.Kind{kindOf(16, 0), kindOf(20, 8), kindOf(300, 0, 288), kindOf(48), kindOf(301), kindOf(17)},
		Rows: []api.Row{
			live(1, 0, 0), gone(3), live(65535, 1, 304), gone(0), live(2, 2, 768), live(1, 0, 16),
			live(4, 3, 1472), live(7, 5, 472), live(1, 0, 240), gone(65535),
		},
		Spans: []api.Span{of(0, 0, 0, 0, 1, 15), of(1, 1, 0, 2, 9), of(3, 7, 300, 0), of(5, 3, 0, 4), of(8, 6, 0)},
		Bytes: make([]byte, 9*256),
	}
	for i := range v.Bytes {
		v.Bytes[i] = byte(i%251 + 1)
	}
	// to itself, to a Large one, from it to none and to the last one, to none, and back
	putWord(v, 0, 1024)
	putWord(v, 304+8, 1024+768)
	putWord(v, 768, 0)
	putWord(v, 768+288, 1024+240)
	putWord(v, 16, 0)
	putWord(v, 240, 1024+472)
	return v
}

// changed is the rich view, with something changed.
func changed(change func(v *api.View)) api.View {
	v := rich()
	change(&v)
	return v
}

// P14.1, P14.2
func TestRich(t *testing.T) {
	v := rich()
	cut := func(at, n int, noughts ...int) []byte {
		b := slices.Clone(v.Bytes[at : at+n])
		for _, p := range noughts {
			clear(b[p : p+8])
		}
		return b
	}
	name := func(index, gen int) api.Handle { return api.Handle(index + 65536*gen) }
	isSound(t, "rich", v, []audit.Object{
		{Handle: name(1, 1), Kind: 0, Bytes: cut(0, 16, 0), To: []api.Handle{name(1, 1)}},
		{Handle: name(3, 65535), Kind: 1, Bytes: cut(304, 20, 8), To: []api.Handle{name(5, 2)}},
		{Handle: name(5, 2), Kind: 2, Bytes: cut(768, 300, 0, 288), To: []api.Handle{0, name(9, 1)}},
		{Handle: name(6, 1), Kind: 0, Bytes: cut(16, 16, 0), To: []api.Handle{0}},
		{Handle: name(7, 4), Kind: 3, Bytes: cut(1472, 48)},
		{Handle: name(8, 7), Kind: 5, Bytes: cut(472, 17)},
		{Handle: name(9, 1), Kind: 0, Bytes: cut(240, 16, 0), To: []api.Handle{name(8, 7)}},
	})
	isSound(t, "rich", v, modelObjects(v))
}

// P14.1, P14.2: without kinds, rows and spans; what then lies in the bytes is nothing's.
func TestEmptyViews(t *testing.T) {
	for _, pages := range []int{1, 2, 9, api.MaxPages} {
		v := api.View{Base: 256, Pages: pages, Bytes: make([]byte, 256*pages)}
		isSound(t, "without anything", v, nil)
		v.Kinds, v.Rows, v.Spans = []api.Kind{}, []api.Row{}, []api.Span{}
		isSound(t, "with empty lists", v, nil)
		v.Bytes[0], v.Bytes[len(v.Bytes)-1] = 77, 78
		isSound(t, "with bytes", v, nil)
		v.Kinds = []api.Kind{kindOf(16, 0), {Size: 1, Ptrs: []int{}}}
		isSound(t, "with kinds alone", v, nil)
		v.Rows = []api.Row{gone(0), gone(1), gone(65535)}
		isSound(t, "with rows of which none lives", v, nil)
		v.Spans = []api.Span{of(pages-1, 3, 0)}
		isSound(t, "with a span without live slots", v, nil)
		v.Spans = []api.Span{{Page: 0, Class: 7, Size: 200, Live: []int{}}}
		isSound(t, "with a Large span without a live slot", v, nil)
	}
	breaksAt(t, "the zero view", api.View{}, 1, 0)
}

// P14.1: rule 1
func TestRule1(t *testing.T) {
	for _, pages := range []int{1, 2, api.MaxPages - 1, api.MaxPages} {
		isSound(t, pages, api.View{Base: 256, Pages: pages, Bytes: make([]byte, 256*pages)}, nil)
		for _, more := range []int{-256 * pages, -256, -1, 1, 256} {
			breaksAt(t, pages, api.View{Base: 256, Pages: pages, Bytes: make([]byte, 256*pages+more)}, 1, 0)
		}
	}
	// 256 times some of these is a small number again, once it has come round
	for _, pages := range []int{math.MinInt, math.MinInt + 1, -api.MaxPages, -1, 0, api.MaxPages + 1, 1 << 56, 1<<56 + 1, -1<<56 + 1, math.MaxInt - 1, math.MaxInt} {
		for _, bytes := range []int{0, 256, 256 * api.MaxPages, 256 * (api.MaxPages + 1)} {
			breaksAt(t, pages, api.View{Base: 256, Pages: pages, Bytes: make([]byte, bytes)}, 1, 0)
		}
		breaksAt(t, pages, changed(func(v *api.View) { v.Pages = pages }), 1, 0)
	}
	for _, base := range []int{256, 512, 1 << 30, api.MaxBase - 256, api.MaxBase} {
		isSound(t, base, api.View{Base: base, Pages: 1, Bytes: make([]byte, 256)}, nil)
	}
	for _, base := range []int{math.MinInt, -256, -1, 0, 1, 100, 128, 255, 257, 511, 1000, api.MaxBase - 1, api.MaxBase + 1, api.MaxBase + 256, 2 * api.MaxBase, math.MaxInt - 255, math.MaxInt} {
		breaksAt(t, base, api.View{Base: base, Pages: 1, Bytes: make([]byte, 256)}, 1, 0)
		breaksAt(t, base, changed(func(v *api.View) { v.Base = base }), 1, 0)
	}
	for _, more := range []int{-2304, -2303, -256, -1, 1, 256, 2304} {
		breaksAt(t, more, changed(func(v *api.View) { v.Bytes = append(v.Bytes, make([]byte, 2304)...)[:2304+more] }), 1, 0)
	}
}

// P14.1: rule 1, as many kinds and rows as there may be, and one more.
func TestRule1OfLongLists(t *testing.T) {
	v := rich()
	for len(v.Kinds) < api.MaxKinds {
		v.Kinds = append(v.Kinds, kindOf(16, 8))
	}
	isSound(t, "MaxKinds", v, modelObjects(v))
	for range 3 {
		v.Kinds = append(v.Kinds, kindOf(16, 8))
		breaksAt(t, len(v.Kinds), v, 1, 0)
	}
	v = rich()
	for len(v.Rows) < api.MaxHandles {
		v.Rows = append(v.Rows, gone(1))
	}
	isSound(t, "MaxHandles", v, modelObjects(v))
	for range 3 {
		v.Rows = append(v.Rows, gone(1))
		breaksAt(t, len(v.Rows), v, 1, 0)
	}
	breaksAt(t, "many rows", changed(func(v *api.View) { v.Rows = make([]api.Row, 1000000) }), 1, 0)
	breaksAt(t, "many kinds", changed(func(v *api.View) { v.Kinds = make([]api.Kind, 1000000) }), 1, 0)
}

// wrongKinds are kinds that layer 9 refuses, for each of its errors.
func wrongKinds() []api.Kind {
	long := kindOf(4096)
	for p := range 17 {
		long.Ptrs = append(long.Ptrs, 8*p)
	}
	return []api.Kind{
		{}, kindOf(0), kindOf(-1), kindOf(api.MaxSize + 1), kindOf(math.MinInt), kindOf(math.MaxInt), kindOf(0, 0), long,
		kindOf(16, -8), kindOf(16, 4), kindOf(16, 1), kindOf(16, 16), kindOf(15, 8), kindOf(7, 0), kindOf(16, 8, 0), kindOf(16, 0, 0), kindOf(16, 0, 8, 8), kindOf(24, 16, 8),
		kindOf(16, math.MinInt), kindOf(16, math.MaxInt-7), kindOf(16, 0, math.MinInt),
	}
}

// P14.1: rule 2
func TestRule2(t *testing.T) {
	for _, k := range wrongKinds() {
		for i := range rich().Kinds {
			breaksAt(t, k, changed(func(v *api.View) { v.Kinds[i] = k }), 2, i)
		}
		breaksAt(t, k, changed(func(v *api.View) { v.Kinds = append(v.Kinds, k) }), 2, 6)
		breaksAt(t, k, changed(func(v *api.View) { v.Kinds[1], v.Kinds[4] = k, k }), 2, 1)
		v := api.View{Base: 256, Pages: 1, Kinds: []api.Kind{k}, Bytes: make([]byte, 256)}
		breaksAt(t, k, v, 2, 0)
		for len(v.Kinds) < api.MaxKinds {
			v.Kinds = slices.Insert(v.Kinds, 0, kindOf(8, 0))
		}
		breaksAt(t, k, v, 2, api.MaxKinds-1)
	}
	for _, k := range []api.Kind{kindOf(1), kindOf(8, 0), kindOf(api.MaxSize, 0, api.MaxSize-8), kindOf(4096, 0, 8, 16, 24, 32, 40, 48, 56, 64, 72, 80, 88, 96, 104, 112, 120)} {
		v := changed(func(v *api.View) { v.Kinds = append(v.Kinds, k) })
		isSound(t, k, v, modelObjects(v))
	}
}

// wrongSpans are spans that layer 10's Of refuses, for each of its errors.
func wrongSpans() []api.Span {
	return []api.Span{
		// ErrKind
		of(8, -1, 0), of(8, 8, 0), of(8, 8, 300), of(8, math.MinInt, 0), of(8, math.MaxInt, 0),
		// ErrArg
		of(8, 0, 1), of(8, 6, 128), of(8, 6, -1), of(8, 3, math.MinInt), of(8, 3, math.MaxInt), of(8, 7, 0), of(8, 7, 128), of(8, 7, -300), of(8, 7, api.MaxSize+1), of(8, 7, math.MinInt), of(8, 7, math.MaxInt),
		// ErrAddr
		of(-1, 0, 0), of(-2, 7, 300), of(math.MinInt, 0, 0), of(math.MinInt, 7, api.MaxSize), of(api.MaxPages, 0, 0), of(api.MaxPages-1, 7, 257), of(math.MaxInt, 0, 0), of(math.MaxInt, 7, api.MaxSize), of(math.MaxInt-15, 7, api.MaxSize),
		// ErrForm
		of(8, 0, 0, 16), of(8, 0, 0, -1), of(8, 0, 0, 1, 1), of(8, 0, 0, 2, 1), of(8, 0, 0, math.MinInt), of(8, 0, 0, math.MaxInt), of(8, 1, 0, 10), of(8, 3, 0, 5), of(8, 6, 0, 2), of(8, 6, 0, 1, 0),
		of(8, 7, 200, 1), of(8, 7, 200, -1), of(8, 7, 200, 0, 0), of(8, 1, 0, make([]int, 1000)...),
	}
}

// P14.1: rule 3
func TestRule3(t *testing.T) {
	for _, d := range wrongSpans() {
		breaksAt(t, d, changed(func(v *api.View) { v.Spans[4] = d }), 3, 4)
		breaksAt(t, d, changed(func(v *api.View) { v.Spans[0] = d }), 3, 0)
		breaksAt(t, d, changed(func(v *api.View) { v.Spans[2], v.Spans[3] = d, d }), 3, 2)
		breaksAt(t, d, api.View{Base: 256, Pages: 9, Spans: []api.Span{d}, Bytes: make([]byte, 2304)}, 3, 0)
		breaksAt(t, d, api.View{Base: 256, Pages: api.MaxPages, Spans: []api.Span{d}, Bytes: make([]byte, 256*api.MaxPages)}, 3, 0)
	}
	free := func(spans ...api.Span) api.View {
		return api.View{Base: 256, Pages: 9, Spans: spans, Bytes: make([]byte, 2304)}
	}
	for _, x := range []struct {
		spans []api.Span
		at    int
	}{
		// ahead of the end of the one ahead, at the same page, ahead of it, and over one another
		{[]api.Span{of(3, 0, 0), of(3, 0, 0)}, 1}, {[]api.Span{of(3, 0, 0), of(2, 0, 0)}, 1}, {[]api.Span{of(3, 0, 0), of(0, 0, 0)}, 1}, {[]api.Span{of(3, 0, 0), of(2, 7, 300)}, 1},
		{[]api.Span{of(3, 7, 257), of(4, 0, 0)}, 1}, {[]api.Span{of(3, 7, 800), of(6, 0, 0)}, 1}, {[]api.Span{of(0, 0, 0), of(2, 0, 0), of(1, 0, 0)}, 2}, {[]api.Span{of(0, 0, 0), of(0, 0, 0), of(0, 0, 0)}, 1},
		{[]api.Span{of(0, 0, 0), of(5, 7, 300), of(6, 0, 0), of(7, 0, 0)}, 2}, {[]api.Span{of(1, 0, 0), of(4, 0, 0), of(3, 0, 0), of(2, 0, 0)}, 2},
		// behind the pages
		{[]api.Span{of(9, 0, 0)}, 0}, {[]api.Span{of(10, 0, 0)}, 0}, {[]api.Span{of(api.MaxPages-1, 0, 0)}, 0}, {[]api.Span{of(8, 7, 257)}, 0}, {[]api.Span{of(8, 0, 0), of(9, 0, 0)}, 1}, {[]api.Span{of(0, 7, 2305)}, 0}, {[]api.Span{of(0, 7, 300), of(6, 7, 800)}, 1},
	} {
		breaksAt(t, x.spans, free(x.spans...), 3, x.at)
	}
	for _, spans := range [][]api.Span{
		{of(0, 0, 0), of(1, 0, 0)}, {of(8, 0, 0)}, {of(8, 7, 256)}, {of(7, 7, 257)}, {of(0, 7, 2304)}, {of(3, 7, 256), of(4, 0, 0)}, {of(3, 7, 257), of(5, 0, 0)}, {of(0, 7, 2048), of(8, 6, 0)}, {of(2, 0, 0), of(5, 0, 0), of(7, 7, 512)},
	} {
		isSound(t, spans, free(spans...), nil)
	}
	v := api.View{Base: 256, Pages: api.MaxPages, Spans: []api.Span{of(api.MaxPages-16, 7, api.MaxSize)}, Bytes: make([]byte, 256*api.MaxPages)}
	isSound(t, "at the last pages", v, nil)
	v.Pages, v.Bytes = v.Pages-1, v.Bytes[256:]
	breaksAt(t, "one page too few", v, 3, 0)
}

// P14.1: rule 4, of rows whatever they lead to.
func TestRule4OfGenerations(t *testing.T) {
	for i, r := range rich().Rows {
		for _, gen := range []int{math.MinInt, -65536, -1, 65536, 65537, 1 << 32, math.MaxInt} {
			breaksAt(t, gen, changed(func(v *api.View) { v.Rows[i].Gen = gen }), 4, i)
		}
		for _, gen := range []int{1, 2, 65534, 65535} {
			v := changed(func(v *api.View) { v.Rows[i].Gen = gen })
			isSound(t, gen, v, modelObjects(v))
		}
		v := changed(func(v *api.View) { v.Rows[i].Gen = 0 })
		if r.Live || i == len(v.Rows)-1 {
			breaksAt(t, "Gen 0", v, 4, i)
		} else {
			isSound(t, "Gen 0", v, modelObjects(v))
		}
		if r.Live {
			continue
		}
		// what isn't live leads nowhere, be it to an object that there is
		for _, to := range [][2]int{{1, 0}, {0, 16}, {-1, 0}, {0, -1}, {5, 5}, {0, math.MinInt}, {math.MinInt, 0}, {0, math.MaxInt}, {math.MaxInt, 0}, {0, 240}, {2, 768}} {
			breaksAt(t, to, changed(func(v *api.View) { v.Rows[i].Kind, v.Rows[i].At = to[0], to[1] }), 4, i)
		}
	}
	// the last row, once others stand behind it or it stands alone
	breaksAt(t, "a nought behind all", changed(func(v *api.View) { v.Rows = append(v.Rows, gone(0)) }), 4, 10)
	v := changed(func(v *api.View) { v.Rows = append(v.Rows, gone(0), gone(1)) })
	isSound(t, "a nought ahead of the last", v, modelObjects(v))
	v = api.View{Base: 256, Pages: 1, Rows: []api.Row{gone(0)}, Bytes: make([]byte, 256)}
	breaksAt(t, "one nought", v, 4, 0)
	v.Rows = []api.Row{gone(0), gone(0)}
	breaksAt(t, "two noughts", v, 4, 1)
	v.Rows = []api.Row{gone(0), gone(1)}
	isSound(t, "one nought ahead", v, nil)
	v.Rows = []api.Row{live(0, 0, 0), gone(1)}
	breaksAt(t, "live with Gen 0", v, 4, 0)
}

// P14.1: rule 4, of kinds and places.
func TestRule4OfObjects(t *testing.T) {
	for i, r := range rich().Rows {
		if !r.Live {
			continue
		}
		for _, kind := range []int{math.MinInt, -64, -1, 6, 7, 64, math.MaxInt} {
			breaksAt(t, kind, changed(func(v *api.View) { v.Rows[i].Kind = kind }), 4, i)
		}
		for _, at := range []int{
			math.MinInt, math.MinInt + r.At, -1024, -256, -16, -1, 2303, 2304, 2304 + r.At, 1 << 32, 1<<32 + r.At, math.MaxInt - 255, math.MaxInt,
			// between two slots, in one, at one that isn't live, and where no span is
			r.At + 1, r.At - 1, r.At + 8, 32, 224, 17, 256, 280, 496, 500, 511, 1024, 1068, 1280, 1328, 1520, 512, 1792, 2048, 2176,
			// the place as an address
			1024 + r.At,
		} {
			breaksAt(t, at, changed(func(v *api.View) { v.Rows[i].At = at }), 4, i)
		}
		// a live slot, but of another class
		for _, o := range rich().Rows {
			if o.Live && classOf(rich().Kinds[o.Kind].Size) != classOf(rich().Kinds[r.Kind].Size) {
				breaksAt(t, o, changed(func(v *api.View) { v.Rows[i].At = o.At }), 4, i)
				breaksAt(t, o, changed(func(v *api.View) { v.Rows[i].Kind = o.Kind }), 4, i)
			}
		}
	}
	// a Large object of another size, of the same pages too
	for _, size := range []int{129, 256, 299, 301, 512, 513, api.MaxSize} {
		breaksAt(t, size, changed(func(v *api.View) { v.Kinds[2] = kindOf(size) }), 4, 4)
		breaksAt(t, size, changed(func(v *api.View) { v.Kinds = append(v.Kinds, kindOf(size)); v.Rows[4].Kind = 6 }), 4, 4)
	}
	breaksAt(t, "301", changed(func(v *api.View) { v.Rows[4].Kind = 4 }), 4, 4)
	breaksAt(t, "a lesser span", changed(func(v *api.View) { v.Spans[2].Size = 299 }), 4, 4)
	breaksAt(t, "a greater span", changed(func(v *api.View) { v.Spans[2].Size = 301 }), 4, 4)
	breaksAt(t, "no live slot", changed(func(v *api.View) { v.Spans[2].Live = nil }), 4, 4)
	breaksAt(t, "the other slot", changed(func(v *api.View) { v.Spans[0].Live = []int{0, 2, 15} }), 4, 5)
	breaksAt(t, "no span", changed(func(v *api.View) { v.Spans = nil }), 4, 0)
	breaksAt(t, "no kind", changed(func(v *api.View) { v.Kinds = nil }), 4, 0)
	breaksAt(t, "without the last span but one", changed(func(v *api.View) { v.Spans = slices.Delete(v.Spans, 3, 4) }), 4, 6)
	breaksAt(t, "on another page", changed(func(v *api.View) { v.Spans[3].Page = 6 }), 4, 6)
	breaksAt(t, "of another class", changed(func(v *api.View) { v.Spans[0].Class = 1; v.Spans[0].Live = []int{0} }), 4, 0)
}

// P14.1: rule 4, of a kind of each size: just the spans of its class have its objects.
func TestRule4OfSizes(t *testing.T) {
	for size := 1; size <= 260; size++ {
		for class := range 8 {
			d := of(1, class, 0, 0)
			if class == 7 {
				d.Size = max(129, size)
			}
			v := api.View{Base: 512, Pages: 3, Kinds: []api.Kind{kindOf(size)}, Rows: []api.Row{live(1, 0, 256)}, Spans: []api.Span{d}, Bytes: make([]byte, 768)}
			if class == classOf(size) {
				isSound(t, size, v, modelObjects(v))
			} else {
				breaksAt(t, size, v, 4, 0)
			}
		}
	}
}

// P14.1: rule 5
func TestRule5(t *testing.T) {
	// the row 5 tells what the row 0 does; then the row 8, and both
	breaksAt(t, "the second", changed(func(v *api.View) { v.Rows[5].At = 0 }), 5, 5)
	breaksAt(t, "the third", changed(func(v *api.View) { v.Rows[8].At = 0 }), 5, 8)
	breaksAt(t, "both", changed(func(v *api.View) { v.Rows[5].At, v.Rows[8].At = 0, 0 }), 5, 5)
	breaksAt(t, "the first", changed(func(v *api.View) { v.Rows[0].At = 16 }), 5, 5)
	breaksAt(t, "two pairs", changed(func(v *api.View) { v.Rows[8].At = 16; v.Rows[7].At = 304 }), 5, 7)
	breaksAt(t, "of another kind", changed(func(v *api.View) { v.Rows[7] = live(1, 1, 304) }), 5, 7)
	breaksAt(t, "of Large", changed(func(v *api.View) { v.Rows[9] = live(1, 2, 768) }), 5, 9)
	breaksAt(t, "no slot without a row", changed(func(v *api.View) { v.Rows[1] = live(4, 0, 0) }), 5, 1)
	breaksAt(t, "the last one", changed(func(v *api.View) { v.Rows[9] = live(65535, 0, 240) }), 5, 9)
	// what isn't live has the place 0, as the row 0 has
	v := rich()
	isSound(t, "rich", v, modelObjects(v))
}

// P14.1: rule 6
func TestRule6(t *testing.T) {
	for i, x := range []struct {
		row, span int
	}{{0, 0}, {2, 1}, {4, 2}, {5, 0}, {6, 3}, {7, 1}, {8, 0}} {
		breaksAt(t, i, changed(func(v *api.View) { v.Rows[x.row] = gone(1) }), 6, x.span)
		breaksAt(t, i, changed(func(v *api.View) { v.Rows[x.row] = gone(0) }), 6, x.span)
	}
	breaksAt(t, "a slot more", changed(func(v *api.View) { v.Spans[0].Live = []int{0, 1, 2, 15} }), 6, 0)
	breaksAt(t, "a slot of the last span", changed(func(v *api.View) { v.Spans[4].Live = []int{1} }), 6, 4)
	breaksAt(t, "slots of two spans", changed(func(v *api.View) { v.Spans[1].Live = []int{0, 2, 9}; v.Spans[3].Live = []int{3, 4} }), 6, 1)
	breaksAt(t, "a Large span more", changed(func(v *api.View) { v.Spans[4] = of(7, 7, 300, 0) }), 6, 4)
	breaksAt(t, "no rows", changed(func(v *api.View) { v.Rows = nil }), 6, 0)
	breaksAt(t, "no rows for a Large one", changed(func(v *api.View) { v.Rows, v.Spans = nil, v.Spans[2:] }), 6, 0)
	breaksAt(t, "a span behind", changed(func(v *api.View) { v.Rows = nil; v.Spans[0].Live = nil }), 6, 1)
	v := changed(func(v *api.View) { v.Spans[4] = of(7, 7, 300) })
	isSound(t, "a Large span without a live slot", v, modelObjects(v))
}

// P14.1, P14.2: rule 7, of each field of each object.
func TestRule7(t *testing.T) {
	v := rich()
	good := map[uint64]bool{0: true}
	var numbers []uint64
	for _, r := range v.Rows {
		if r.Live {
			good[uint64(1024+r.At)] = true
		}
	}
	for n := range uint64(1024 + 2304 + 300) {
		numbers = append(numbers, n)
	}
	for _, high := range []uint64{1 << 32, 1 << 40, 1 << 62, 1 << 63, math.MaxUint64 - 4095} {
		// the base and a place, but for the highest bits
		for n := range uint64(4096) {
			numbers = append(numbers, high+n)
		}
	}
	fields := 0
	for i, r := range v.Rows {
		if !r.Live {
			continue
		}
		for _, p := range v.Kinds[r.Kind].Ptrs {
			fields++
			before := word(v, r.At+p)
			for _, n := range numbers {
				putWord(v, r.At+p, n)
				rule, at := audit.Check(v)
				if good[n] && rule != 0 || !good[n] && (rule != 7 || at != i) {
					t.Fatalf("the row %d's field at %d: %d: %d, %d", i, p, n, rule, at)
				}
			}
			putWord(v, r.At+p, math.MaxUint64)
			breaksAt(t, "the greatest number", v, 7, i)
			for n := range good {
				putWord(v, r.At+p, n)
				isSound(t, n, v, modelObjects(v))
			}
			putWord(v, r.At+p, before)
		}
	}
	if fields != 6 || len(good) != 8 {
		t.Errorf("%d fields, %d numbers", fields, len(good))
	}
}

// P14.1: rule 7; bytes that are in no field of an object may be any, those of free slots and pages, and those behind an object in its slot too.
func TestBytesOutsideOfFields(t *testing.T) {
	v := rich()
	held := map[int]bool{}
	for _, r := range v.Rows {
		if !r.Live {
			continue
		}
		for _, p := range v.Kinds[r.Kind].Ptrs {
			for i := range 8 {
				held[r.At+p+i] = true
			}
		}
	}
	for at := range v.Bytes {
		if held[at] {
			continue
		}
		v.Bytes[at] ^= 255
		if rule, n := audit.Check(v); rule != 0 || n != 0 {
			t.Fatalf("the byte %d: %d, %d", at, rule, n)
		}
	}
	isSound(t, "turned", v, modelObjects(v))
}

// breakers break just one rule of the rich view each, by its number from 1 on; each at the number beside it, and none is in the way of another.
func breakers() []struct {
	at     int
	change func(v *api.View)
} {
	return []struct {
		at     int
		change func(v *api.View)
	}{
		{0, func(v *api.View) { v.Base++ }},
		{4, func(v *api.View) { v.Kinds[4].Size = 0 }},
		{4, func(v *api.View) { v.Spans[4].Live = []int{2} }},
		{1, func(v *api.View) { v.Rows[1].Gen = -1 }},
		{7, func(v *api.View) { v.Rows[7].At = 304 }},
		{3, func(v *api.View) { v.Rows[6] = gone(2) }},
		{0, func(v *api.View) { putWord(*v, 0, 1025) }},
	}
}

// P14.1: of several rules that are broken the least one is told, with its own number.
func TestLeastRule(t *testing.T) {
	all := breakers()
	for some := 1; some < 1<<len(all); some++ {
		v := rich()
		least := 0
		for i := len(all) - 1; i >= 0; i-- {
			if some>>i&1 == 1 {
				all[i].change(&v)
				least = i
			}
		}
		breaksAt(t, some, v, least+1, all[least].at)
	}
}

// P14.1: of several numbers at which a rule is broken the least one is told.
func TestLeastNumber(t *testing.T) {
	for first := range 10 {
		for second := range 10 {
			least := min(first, second)
			if first < 6 && second < 6 {
				breaksAt(t, least, changed(func(v *api.View) { v.Kinds[first].Size, v.Kinds[second].Size = -1, -1 }), 2, least)
			}
			if first < 5 && second < 5 {
				breaksAt(t, least, changed(func(v *api.View) { v.Spans[first].Class, v.Spans[second].Class = -1, 9 }), 3, least)
			}
			breaksAt(t, least, changed(func(v *api.View) { v.Rows[first].Gen, v.Rows[second].Gen = -1, 65536 }), 4, least)
		}
	}
	rows := []int{0, 2, 4, 8}
	fields := []int{0, 304 + 8, 768 + 288, 240}
	for i := range rows {
		for j := range rows {
			breaksAt(t, i, changed(func(v *api.View) { putWord(*v, fields[i], 1); putWord(*v, fields[j], 1023) }), 7, min(rows[i], rows[j]))
		}
	}
}

// P14.1, P14.2
func TestAnyViews(t *testing.T) {
	chance := noise(14)
	objects := 0
	for i := range 2000 {
		v := anyView(chance, 12)
		want := modelObjects(v)
		objects += len(want)
		isSound(t, i, v, want)
	}
	if objects < 10000 {
		t.Errorf("only %d objects", objects)
	}
}

// damage changes something of a view, so that it may be sound still, or not.
func damage(chance func(below int) int, v *api.View) {
	numbers := []int{math.MinInt, -256, -1, 0, 1, 2, 7, 8, 16, 24, 256, 272, 300, 512, 4096, 4097, 65535, 65536, math.MaxInt}
	number := func(n int) int {
		if chance(2) == 0 {
			return n + chance(5) - 2
		}
		return numbers[chance(len(numbers))]
	}
	which := chance(40)
	if which == 0 {
		v.Base = number(v.Base)
	}
	if which == 1 {
		v.Pages = number(v.Pages)
	}
	if which == 2 {
		v.Bytes = append(v.Bytes, 0)[chance(2):]
	}
	if which < 8 {
		k := &v.Kinds[chance(len(v.Kinds))]
		if len(k.Ptrs) > 0 && chance(2) == 0 {
			k.Ptrs[chance(len(k.Ptrs))] += 8*chance(5) - 16
		} else {
			k.Size = number(k.Size)
		}
	}
	if which >= 8 && which < 16 && len(v.Spans) > 0 {
		d := &v.Spans[chance(len(v.Spans))]
		damageSpan(chance, number, d)
	}
	if which >= 16 && which < 30 && len(v.Rows) > 0 {
		damageRow(chance, number, v)
	}
	if which >= 30 && len(v.Bytes) > 16 {
		at := 8 * chance(len(v.Bytes)/8-1)
		putWord(*v, at, uint64(number(int(word(*v, at)))))
	}
}

func damageSpan(chance, number func(int) int, d *api.Span) {
	switch chance(5) {
	case 0:
		d.Page = number(d.Page)
	case 1:
		d.Class = number(d.Class)
	case 2:
		d.Size = number(d.Size)
	case 3:
		d.Live = append(d.Live, number(len(d.Live)))
	case 4:
		d.Live = d.Live[:len(d.Live)/2]
	}
}

func damageRow(chance, number func(int) int, v *api.View) {
	r, o := &v.Rows[chance(len(v.Rows))], v.Rows[chance(len(v.Rows))]
	switch chance(6) {
	case 0:
		r.Gen = number(r.Gen)
	case 1:
		r.Live = !r.Live
	case 2:
		r.Kind = number(r.Kind)
	case 3:
		r.At = number(r.At)
	case 4:
		r.At = o.At
	case 5:
		*r = gone(r.Gen)
	}
}

// P14.1, P14.2: views that were damaged, held against the document's words.
func TestDamagedViews(t *testing.T) {
	chance := noise(77)
	var told [8]int
	for i := range 30000 {
		v := anyView(chance, 6)
		for range 1 + chance(3) {
			damage(chance, &v)
		}
		rule, at := modelCheck(v)
		told[rule]++
		if rule > 0 {
			breaksAt(t, i, v, rule, at)
		} else {
			isSound(t, i, v, modelObjects(v))
		}
		if t.Failed() {
			t.Fatal(v)
		}
	}
	if slices.Min(told[:]) < 100 {
		t.Errorf("so many views break each rule: %v", told)
	}
}

// P14.1, P14.2: as many rows, kinds, pages and fields as there may be.
func TestGreatest(t *testing.T) {
	v := api.View{Base: api.MaxBase, Pages: api.MaxPages, Bytes: make([]byte, 256*api.MaxPages)}
	for i := range api.MaxKinds {
		v.Kinds = append(v.Kinds, kindOf(128-i%32, 0, 8, 16, 24, 32, 40, 48, 56, 64, 72, 80))
	}
	for i := range api.MaxPages / 2 {
		v.Spans = append(v.Spans, of(2*i+1, 6, 0, 0, 1))
	}
	for i := range api.MaxHandles {
		d := v.Spans[(i*5)%len(v.Spans)]
		v.Rows = append(v.Rows, live(65535-i, i%api.MaxKinds, placeOf(d, i/len(v.Spans))))
	}
	for i, r := range v.Rows {
		for _, p := range v.Kinds[r.Kind].Ptrs {
			putWord(v, r.At+p, uint64(v.Base+v.Rows[(i*7+p)%api.MaxHandles].At))
		}
	}
	if rule, at := audit.Check(v); rule != 0 || at != 0 {
		t.Fatal(rule, at)
	}
	l := audit.Objects(v)
	if len(l) != api.MaxHandles {
		t.Fatalf("%d objects", len(l))
	}
	for i, o := range l {
		k := v.Kinds[i%api.MaxKinds]
		if o.Handle != api.Handle(i+1+65536*(65535-i)) || o.Kind != i%api.MaxKinds || len(o.Bytes) != k.Size || len(o.To) != 11 {
			t.Fatalf("the object %d: %v", i, o)
		}
		for f, to := range o.To {
			if j := (i*7 + k.Ptrs[f]) % api.MaxHandles; to != api.Handle(j+1+65536*(65535-j)) {
				t.Fatalf("the object %d: its field %d leads to %d", i, f, to)
			}
		}
	}
	v.Rows[api.MaxHandles-1].At = v.Rows[0].At
	if rule, at := audit.Check(v); rule != 5 || at != api.MaxHandles-1 {
		t.Error(rule, at)
	}
}

// atBase is a view at another base, the difference added to each field that isn't 0.
func atBase(v api.View, base int) api.View {
	to := copyOf(v)
	to.Base = base
	for _, r := range to.Rows {
		if !r.Live {
			continue
		}
		for _, p := range to.Kinds[r.Kind].Ptrs {
			if n := word(to, r.At+p); n != 0 {
				putWord(to, r.At+p, n+uint64(base)-uint64(v.Base))
			}
		}
	}
	return to
}

// slid is a view that was slid together, its rows and fields with it.
func slid(t *testing.T, v api.View) (api.View, []api.Move) {
	t.Helper()
	to := copyOf(v)
	spans, moves, e := slide.Plan(v.Pages, v.Spans)
	if e != api.OK {
		t.Fatalf("Plan(%d, %v): %v", v.Pages, v.Spans, e)
	}
	to.Spans = spans
	for _, m := range moves {
		copy(to.Bytes[m.To:m.To+m.Len], slices.Clone(to.Bytes[m.From:m.From+m.Len]))
	}
	for i := range to.Rows {
		r := &to.Rows[i]
		if !r.Live {
			continue
		}
		r.At = slide.Where(r.At, moves)
		for _, p := range to.Kinds[r.Kind].Ptrs {
			if n := word(to, r.At+p); n != 0 {
				putWord(to, r.At+p, uint64(v.Base+slide.Where(int(n)-v.Base, moves)))
			}
		}
	}
	return to, moves
}

// toMove are views to be brought elsewhere.
func toMove() []api.View {
	chance := noise(143)
	views := []api.View{example(), rich(), {Base: 256, Pages: 1, Bytes: make([]byte, 256)}}
	for range 400 {
		views = append(views, anyView(chance, 15))
	}
	return views
}

// P14.3
func TestOtherBases(t *testing.T) {
	for i, v := range toMove() {
		want := audit.Objects(v)
		for _, base := range []int{256, 512, 768, v.Base + 256, 1 << 16, 1 << 30, 1 << 32, api.MaxBase - 256, api.MaxBase} {
			isSound(t, i, atBase(v, base), want)
			isSound(t, i, atBase(atBase(v, base), v.Base), want)
		}
		for _, base := range []int{0, v.Base + 1, api.MaxBase + 256, -256} {
			breaksAt(t, base, atBase(v, base), 1, 0)
		}
	}
	// just the base, or just the fields: the fields lead elsewhere
	v := rich()
	v.Base = 512
	breaksAt(t, "another base alone", v, 7, 0)
	v = atBase(rich(), 512)
	v.Base = 1024
	breaksAt(t, "other fields alone", v, 7, 0)
}

// P14.3
func TestSlidTogether(t *testing.T) {
	moved := 0
	for i, v := range toMove() {
		want := audit.Objects(v)
		to, moves := slid(t, v)
		moved += len(moves)
		isSound(t, i, to, want)
		isSound(t, i, atBase(to, 1<<30), want)
		back, _ := slid(t, atBase(v, api.MaxBase))
		isSound(t, i, back, want)
	}
	if moved < 1000 {
		t.Errorf("only %d moves", moved)
	}
}

// spoil changes a list, and its spare room.
func spoil[T any](list []T, with T) {
	list = list[:cap(list)]
	for i := range list {
		list[i] = with
	}
}

// roomy is a list with spare room behind it, which is filled with something.
func roomy[T any](list []T, with T) []T {
	all := append(slices.Clone(list), with, with, with)
	return all[:len(list)]
}

// roomyView is a view alike, with spare room behind each list.
func roomyView(v api.View) api.View {
	v = copyOf(v)
	for i := range v.Kinds {
		v.Kinds[i].Ptrs = roomy(v.Kinds[i].Ptrs, -7)
	}
	for i := range v.Spans {
		v.Spans[i].Live = roomy(v.Spans[i].Live, -7)
	}
	v.Kinds, v.Rows, v.Spans, v.Bytes = roomy(v.Kinds, kindOf(-7)), roomy(v.Rows, gone(-7)), roomy(v.Spans, of(-7, -7, -7)), roomy(v.Bytes, 7)
	return v
}

// withRoom is a view, and its spare room as if that were part of it.
func withRoom(v api.View) api.View {
	v.Kinds, v.Rows, v.Spans, v.Bytes = v.Kinds[:len(v.Kinds)+3], v.Rows[:len(v.Rows)+3], v.Spans[:len(v.Spans)+3], v.Bytes[:len(v.Bytes)+3]
	v.Kinds, v.Spans = slices.Clone(v.Kinds), slices.Clone(v.Spans)
	for i := range len(v.Kinds) - 3 {
		v.Kinds[i].Ptrs = v.Kinds[i].Ptrs[:len(v.Kinds[i].Ptrs)+3]
	}
	for i := range len(v.Spans) - 3 {
		v.Spans[i].Live = v.Spans[i].Live[:len(v.Spans[i].Live)+3]
	}
	return v
}

// spoilObjects changes all that was seen.
func spoilObjects(l []audit.Object) {
	for _, o := range l {
		spoil(o.Bytes, 77)
		spoil(o.To, 77)
	}
	spoil(l, audit.Object{Handle: 77, Kind: 77})
}

// spoilView changes all that a view has.
func spoilView(v api.View) {
	for _, k := range v.Kinds {
		spoil(k.Ptrs, 77)
	}
	for _, d := range v.Spans {
		spoil(d.Live, 77)
	}
	spoil(v.Kinds, kindOf(77))
	spoil(v.Rows, gone(77))
	spoil(v.Spans, of(77, 77, 77))
	spoil(v.Bytes, 77)
}

// toShare are sound views, and one for each rule that is broken.
func toShare() []api.View {
	views := toMove()[:40]
	for _, b := range breakers() {
		views = append(views, changed(b.change))
	}
	return views
}

// Rule 4
func TestArgumentsStayAsTheyAre(t *testing.T) {
	for i, v := range toShare() {
		given, want := roomyView(v), withRoom(roomyView(v))
		audit.Check(given)
		if !sameView(withRoom(given), want) {
			t.Fatalf("the view %d has changed by Check: %v", i, given)
		}
		l := audit.Objects(given)
		if !sameView(withRoom(given), want) {
			t.Fatalf("the view %d has changed by Objects: %v", i, given)
		}
		spoilObjects(l)
		if !sameView(withRoom(given), want) {
			t.Fatalf("the view %d has changed with its objects: %v", i, given)
		}
	}
}

// Rule 4
func TestAnswersShareNothing(t *testing.T) {
	for i, v := range toMove()[:40] {
		want := modelObjects(v)
		given := roomyView(v)
		l, others := audit.Objects(given), audit.Objects(given)
		spoilView(given)
		spoilObjects(others)
		if !sameObjects(l, want) {
			t.Fatalf("the view %d: %v, once others were changed", i, l)
		}
		// each list is its own, and ends where no other one begins
		for j := range l {
			spoil(l[j].Bytes, 77)
			if !slices.Equal(l[j].To, want[j].To) || !sameObjects(l[j+1:], want[j+1:]) {
				t.Fatalf("the view %d: %v, once the bytes of the object %d were changed", i, l, j)
			}
			spoil(l[j].To, 77)
			if !sameObjects(l[j+1:], want[j+1:]) {
				t.Fatalf("the view %d: %v, once the handles of the object %d were changed", i, l, j)
			}
		}
	}
}

// Rule 5
func TestSameAnswersEachTime(t *testing.T) {
	for i, v := range toShare() {
		rule, at := audit.Check(v)
		l := audit.Objects(v)
		for range 3 {
			if againRule, againAt := audit.Check(v); againRule != rule || againAt != at {
				t.Errorf("the view %d: %d, %d, then %d, %d", i, rule, at, againRule, againAt)
			}
			if again := audit.Objects(v); !sameObjects(again, l) {
				t.Errorf("the view %d: %v, then %v", i, l, again)
			}
		}
	}
}
