package root_test

import (
	"bytes"
	"math"
	"slices"
	"testing"

	"hayloft/api"
	"hayloft/arena"
	"hayloft/chain"
	"hayloft/page"
	"hayloft/root"
)

// wild are numbers that are far from all bounds, some of which wrap round to small ones.
var wild = []int{math.MinInt, math.MinInt + 1, math.MinInt + 2, -1 << 62, -1 << 40, -1 << 32, -1<<32 + 1, -65536, -256, 1 << 32, 1<<32 + 1, 1<<40 + 256, 1 << 41, 1 << 56, 1<<56 + 1, 1 << 62, math.MaxInt - 255, math.MaxInt - 1, math.MaxInt}

// P20.1, P20.2: the chapter's example.
func TestExample(t *testing.T) {
	want := []byte{1, 1, 1, 2, 1, 1, 1, 1, 11, 2, 10, 0, 3, 40}
	if b, e := root.Body(example(), 5); e != api.OK || !bytes.Equal(b, want) {
		t.Error(b, e)
	}
	for _, sectors := range []int{5, 6, 8, 65536} {
		isRead(t, want, sectors, example())
	}
	for _, sectors := range []int{-1, 0, 2, 3, 4} {
		unread(t, want, sectors, api.ErrForm)
	}
	if !root.Right(example(), 5) || root.Right(example(), 4) {
		t.Error("on which disks is it right?")
	}
	if l := root.List(1, 1, []int{0}); !slices.Equal(l, []api.Entry{{Type: 1}, {Type: 2}, {Type: 3}}) {
		t.Error(l)
	}
}

// P20.1
func TestListOfPages(t *testing.T) {
	for _, x := range []struct{ kinds, rows, pagesOfKinds, pagesOfRows int }{
		{0, 0, 0, 0}, {-1, -1, 0, 0}, {math.MinInt, math.MinInt, 0, 0}, {math.MinInt, 1, 0, 1}, {1, math.MinInt, 1, 0}, {-16, -32, 0, 0},
		{1, 0, 1, 0}, {0, 1, 0, 1}, {1, 1, 1, 1}, {15, 31, 1, 1}, {16, 32, 1, 1}, {17, 33, 2, 2}, {32, 64, 2, 2}, {33, 65, 3, 3}, {48, 96, 3, 3}, {49, 97, 4, 4},
		{64, 4096, 4, 128}, {65, 4097, 5, 129}, {16, 33, 1, 2}, {17, 32, 2, 1}, {100000, 100000, 6250, 3125},
	} {
		for _, pages := range [][]int{nil, {}, {0}, {4095}, {0, 1, 2}, {4, 2}, {7, 7, 7}, {-1, math.MinInt, math.MaxInt, 4096}} {
			l := root.List(x.kinds, x.rows, pages)
			if len(l) != x.pagesOfKinds+x.pagesOfRows+len(pages) {
				t.Fatalf("List(%d, %d, %v) has %d entries", x.kinds, x.rows, pages, len(l))
			}
			for i, e := range l {
				want := ofKinds(i, 0, 0)
				if i >= x.pagesOfKinds {
					want = ofRows(i-x.pagesOfKinds, 0, 0)
				}
				if k := i - x.pagesOfKinds - x.pagesOfRows; k >= 0 {
					want = ofSpan(pages[k], 0, 0)
				}
				if e != want {
					t.Fatalf("List(%d, %d, %v): %v at %d, not %v", x.kinds, x.rows, pages, e, i, want)
				}
			}
		}
	}
	for kinds := range 70 {
		for rows := range 140 {
			pages := []int{rows, kinds, rows}[:kinds%4]
			if l := root.List(kinds, rows, pages); !slices.Equal(l, modelList(kinds, rows, pages)) {
				t.Fatalf("List(%d, %d, %v): %v", kinds, rows, pages, l)
			}
		}
	}
}

// P20.1: what List tells is what a root has whose spans rise, once each frame has its place.
func TestWhatIsListedIsRight(t *testing.T) {
	for kinds := range 65 {
		for _, rows := range []int{0, 1, 32, 33, 199, 200} {
			r := root.Root{Base: 256, Pages: 9, Workers: 1, Handles: 200, Rows: rows, Kinds: kinds, Entries: root.List(kinds, rows, []int{0, 3, 8})}
			if root.Right(r, 8) {
				t.Fatalf("%+v is right, though no frame has a place", r)
			}
			for i := range r.Entries {
				r.Entries[i].First, r.Entries[i].Len = 1, 8
			}
			if !writes(t, r, 3) {
				t.Fatalf("%+v isn't right", r)
			}
		}
	}
}

// aSize is one of a root's sizes, and what it may be at least and at most; one further than so much isn't.
type aSize struct {
	name             string
	least, most, far int
	of               func(r *root.Root) *int
}

func sizes() []aSize {
	return []aSize{
		{"Base", 256, 1 << 40, 256, func(r *root.Root) *int { return &r.Base }},
		{"Pages", 1, 4096, 1, func(r *root.Root) *int { return &r.Pages }},
		{"Workers", 1, 8, 1, func(r *root.Root) *int { return &r.Workers }},
		{"Handles", 1, 4096, 1, func(r *root.Root) *int { return &r.Handles }},
		{"Rows", 0, 50, 1, func(r *root.Root) *int { return &r.Rows }},
		{"Kinds", 0, 64, 1, func(r *root.Root) *int { return &r.Kinds }},
	}
}

// filled has the entries that its kinds, its rows and these pages need.
func filled(r root.Root, pages ...int) root.Root {
	r.Entries = modelList(r.Kinds, r.Rows, pages)
	for i := range r.Entries {
		r.Entries[i].First, r.Entries[i].Len = i%6+1, 8+i
	}
	return r
}

// P20.1, P20.2
func TestSizesOfRight(t *testing.T) {
	for _, s := range sizes() {
		// a root that stays right whatever the one size is
		plain := root.Root{Base: 512, Pages: 2, Workers: 2, Handles: 50, Rows: 0, Kinds: 2}
		for _, x := range []struct {
			n    int
			want bool
		}{{s.least, true}, {s.most, true}, {s.least + s.far, true}, {s.most - s.far, true}, {s.least - s.far, false}, {s.most + s.far, false}, {s.least - 1, false}, {s.most + 1, false}} {
			r := plain
			*s.of(&r) = x.n
			if got := writes(t, filled(r), 8); got != x.want {
				t.Errorf("with %s %d: %v", s.name, x.n, got)
			}
		}
		for _, n := range wild {
			r := plain
			*s.of(&r) = n
			r.Entries = filled(plain).Entries
			if got := writes(t, r, 8); got != (s.name == "Base" && n == 1<<32) {
				t.Errorf("with %s %d: %v", s.name, n, got)
			}
		}
	}
	for _, base := range []int{0, 1, 100, 255, 257, 300, 511, 384, -256, 1<<40 - 1, 1<<40 + 1, 1<<40 - 128, 1<<40 + 256} {
		if r := changed(example(), func(r *root.Root) { r.Base = base }); writes(t, r, 8) || arena.Good(base) {
			t.Error("with the Base", base, "it is right")
		}
	}
}

// P20.1, P20.2: there are no more rows than handles.
func TestRowsAndHandles(t *testing.T) {
	for _, handles := range []int{1, 2, 31, 32, 33, 63, 64, 65, 4095, 4096} {
		for _, rows := range []int{-1, 0, 1, handles - 1, handles, handles + 1, handles + 32, 4096, 4097} {
			r := filled(root.Root{Base: 256, Pages: 1, Workers: 1, Handles: handles, Rows: rows})
			if got := writes(t, r, 8); got != (rows >= 0 && rows <= handles) {
				t.Errorf("%d rows of %d handles: %v", rows, handles, got)
			}
		}
	}
}

// P20.1, P20.2: entries that are too few, too many, in another order, or of something else.
func TestEntriesOfRight(t *testing.T) {
	for _, r := range []root.Root{example(), larger()} {
		if !writes(t, r, 300) {
			t.Fatalf("%+v isn't right", r)
		}
		tables := len(modelList(r.Kinds, r.Rows, nil))
		for i := range r.Entries {
			// a span isn't missed, but a page of a table is
			less := changed(r, func(r *root.Root) { r.Entries = slices.Delete(r.Entries, i, i+1) })
			if got := writes(t, less, 300); got != (i >= tables) {
				t.Errorf("without the entry %d of %d: %v", i, len(r.Entries), got)
			}
			twice := changed(r, func(r *root.Root) { r.Entries = slices.Insert(r.Entries, i, r.Entries[i]) })
			if writes(t, twice, 300) {
				t.Errorf("with the entry %d twice it is right", i)
			}
			for k := range i {
				swapped := changed(r, func(r *root.Root) { r.Entries[i], r.Entries[k] = r.Entries[k], r.Entries[i] })
				if writes(t, swapped, 300) {
					t.Errorf("with the entries %d and %d changed about it is right", k, i)
				}
			}
			for _, of := range append([]int{-1, 0, 1, 2, 3, 4, 5}, wild...) {
				if of == r.Entries[i].Type {
					continue
				}
				if writes(t, changed(r, func(r *root.Root) { r.Entries[i].Type = of }), 300) {
					t.Errorf("with the entry %d of the Type %d it is right", i, of)
				}
			}
			for _, id := range append([]int{-2, -1, 0, 1, 2, 3, 4, 128, 129, 130, 298, 299, 300, 301}, wild...) {
				writes(t, changed(r, func(r *root.Root) { r.Entries[i].Id = id }), 300)
				if i < tables && id != r.Entries[i].Id && root.Right(changed(r, func(r *root.Root) { r.Entries[i].Id = id }), 300) {
					t.Errorf("with the Id %d of the entry %d it is right", id, i)
				}
			}
		}
		for _, e := range []api.Entry{{}, ofKinds(0, 1, 8), ofKinds(2, 1, 8), ofRows(1, 1, 8), ofRows(3, 1, 8), {Type: 4, First: 1, Len: 8}} {
			if writes(t, changed(r, func(r *root.Root) { r.Entries = append(r.Entries, e) }), 300) {
				t.Errorf("with %v behind them it is right", e)
			}
		}
		for n := range tables {
			if writes(t, changed(r, func(r *root.Root) { r.Entries = r.Entries[:n] }), 300) {
				t.Errorf("with %d entries it is right", n)
			}
		}
	}
}

// P20.1, P20.2: each page of kinds and of rows wants its entry, and no more than these.
func TestPagesOfRight(t *testing.T) {
	for _, x := range [][2]int{{0, 0}, {1, 0}, {0, 1}, {16, 32}, {17, 33}, {32, 64}, {33, 65}, {64, 4096}} {
		r := filled(root.Root{Base: 256, Pages: 4, Workers: 1, Handles: 4096, Rows: x[1], Kinds: x[0]}, 1, 3)
		if !writes(t, r, 8) {
			t.Fatalf("%+v isn't right", r)
		}
		for _, change := range []func(r *root.Root){
			func(r *root.Root) { r.Kinds += 16 },
			func(r *root.Root) { r.Kinds -= 16 },
			func(r *root.Root) { r.Rows += 32 },
			func(r *root.Root) { r.Rows -= 32 },
		} {
			if wrong := changed(r, change); writes(t, wrong, 8) {
				t.Errorf("with %d kinds and %d rows it is right, as with %d and %d", wrong.Kinds, wrong.Rows, r.Kinds, r.Rows)
			}
		}
	}
}

// P20.1, P20.2
func TestSpansOfRight(t *testing.T) {
	for _, x := range []struct {
		pages int
		ids   []int
		want  bool
	}{
		{1, nil, true}, {1, []int{0}, true}, {1, []int{1}, false}, {1, []int{-1}, false}, {1, []int{0, 0}, false}, {1, []int{0, 1}, false}, {1, []int{-1, 0}, false},
		{5, []int{4}, true}, {5, []int{5}, false}, {5, []int{0, 1, 2, 3, 4}, true}, {5, []int{0, 1, 2, 3, 4, 5}, false}, {5, []int{0, 1, 2, 3, 5}, false}, {5, []int{0, 4}, true},
		{5, []int{3, 2}, false}, {5, []int{2, 2}, false}, {5, []int{0, 3, 1}, false}, {5, []int{1, 4, 4}, false}, {5, []int{4, 0}, false}, {5, []int{0, -1}, false}, {5, []int{3, 4, 5}, false},
		{4096, []int{4095}, true}, {4096, []int{4096}, false}, {4096, []int{0, 4095}, true}, {4096, []int{math.MaxInt}, false}, {4096, []int{math.MinInt}, false}, {4096, []int{0, math.MaxInt}, false}, {4096, []int{math.MaxInt, math.MinInt}, false}, {4096, []int{math.MinInt, 0}, false},
	} {
		for _, kinds := range []int{0, 17} {
			r := filled(root.Root{Base: 256, Pages: x.pages, Workers: 1, Handles: 64, Rows: 2 * kinds, Kinds: kinds}, x.ids...)
			if got := writes(t, r, 8); got != x.want {
				t.Errorf("spans at %v of %d pages: %v", x.ids, x.pages, got)
			}
		}
	}
}

// P20.1, P20.2: the first sectors that a disk has room for, and bytes of frames.
func TestPlacesOfRight(t *testing.T) {
	for _, sectors := range []int{-1, 0, 1, 2, 3, 4, 7, 8, 9, 1000, 65535, 65536, math.MinInt, math.MinInt + 1, -1 << 62} {
		for i := range example().Entries {
			for _, first := range append([]int{-1, 0, 1, 2, 3, sectors - 3, sectors - 2, sectors - 1, sectors, sectors + 1, 65534, 65535, 65536}, wild...) {
				r := changed(example(), func(r *root.Root) {
					for k := range r.Entries {
						r.Entries[k].First = 1
					}
					r.Entries[i].First = first
				})
				want := sectors >= 3 && first >= 1 && first <= sectors-2
				if got := writes(t, r, sectors); got != want {
					t.Errorf("First %d of the entry %d, %d sectors: %v", first, i, sectors, got)
				}
			}
		}
		// without an entry no sector is wanted
		if !writes(t, root.Root{Base: 256, Pages: 1, Workers: 1, Handles: 1}, sectors) {
			t.Errorf("a root without entries isn't right on a disk of %d sectors", sectors)
		}
	}
	for i := range example().Entries {
		for _, n := range append([]int{-1, 0, 1, 7, 8, 9, 65535, 65541, 65542, 65543}, wild...) {
			r := changed(example(), func(r *root.Root) { r.Entries[i].Len = n })
			if got := writes(t, r, 8); got != (n >= 8 && n <= chain.Most) {
				t.Errorf("Len %d of the entry %d: %v", n, i, got)
			}
		}
	}
}

// P20.2
func TestBodiesBytes(t *testing.T) {
	for _, x := range []struct {
		r    root.Root
		want []byte
	}{
		{root.Root{Base: 256, Pages: 1, Workers: 1, Handles: 1}, []byte{1, 1, 1, 1, 0, 0, 0}},
		{root.Root{Base: 1 << 40, Pages: 4096, Workers: 8, Handles: 4096}, []byte{0x80, 0x80, 0x80, 0x80, 16, 0x80, 32, 8, 0x80, 32, 0, 0, 0}},
		{root.Root{Base: 256 * 300, Pages: 128, Workers: 2, Handles: 127, Rows: 1, Entries: []api.Entry{ofRows(0, 6, 8)}}, []byte{0xac, 2, 0x80, 1, 2, 127, 1, 0, 0, 6, 8}},
		{root.Root{Base: 512, Pages: 3, Workers: 1, Handles: 1, Kinds: 1, Entries: []api.Entry{ofKinds(0, 2, 128)}}, []byte{2, 3, 1, 1, 0, 1, 0, 2, 0x80, 1}},
		// side by side, far apart, at the first page and not
		{root.Root{Base: 256, Pages: 200, Workers: 1, Handles: 1, Entries: []api.Entry{ofSpan(0, 1, 8), ofSpan(1, 1, 8), ofSpan(2, 1, 8)}}, []byte{1, 0xc8, 1, 1, 1, 0, 0, 3, 0, 1, 8, 0, 1, 8, 0, 1, 8}},
		{root.Root{Base: 256, Pages: 200, Workers: 1, Handles: 1, Entries: []api.Entry{ofSpan(5, 6, 8), ofSpan(7, 5, 9), ofSpan(199, 4, 65542)}}, []byte{1, 0xc8, 1, 1, 1, 0, 0, 3, 5, 6, 8, 1, 5, 9, 0xbf, 1, 4, 0x86, 0x80, 4}},
		{root.Root{Base: 256, Pages: 2, Workers: 1, Handles: 33, Rows: 33, Kinds: 17, Entries: []api.Entry{ofKinds(0, 1, 8), ofKinds(1, 2, 9), ofRows(0, 3, 10), ofRows(1, 4, 11), ofSpan(1, 5, 12)}}, []byte{1, 2, 1, 33, 33, 17, 1, 1, 8, 2, 9, 3, 10, 4, 11, 1, 5, 12}},
	} {
		if b, e := root.Body(x.r, 8); e != api.OK || !bytes.Equal(b, x.want) {
			t.Errorf("Body of %+v: % x, %v, not % x", x.r, b, e, x.want)
		}
		isRead(t, x.want, 8, x.r)
	}
	for _, r := range []root.Root{{}, {Entries: []api.Entry{{}}}, {Base: 256}} {
		if b, e := root.Body(r, 8); e != api.ErrForm || len(b) != 0 {
			t.Errorf("Body of %+v: % x, %v", r, b, e)
		}
	}
}

// P20.2: bytes that end within each of the numbers, and bytes behind them.
func TestBodiesThatAreCutOrLonger(t *testing.T) {
	chance := noise(20)
	roots := []root.Root{example(), larger(), {Base: 256, Pages: 1, Workers: 1, Handles: 1}}
	for range 60 {
		roots = append(roots, someRoot(chance, 300))
	}
	for _, r := range roots {
		b, e := root.Body(r, 300)
		if e != api.OK {
			t.Fatal(r, e)
		}
		for n := range b {
			unread(t, b[:n], 300, api.ErrShort)
		}
		isRead(t, b, 300, r)
		for _, tail := range [][]byte{{0}, {1}, {0x80}, {0xff}, {0x80, 0}, b} {
			unread(t, slices.Concat(b, tail), 300, api.ErrLong)
		}
	}
	unread(t, nil, 300, api.ErrShort)
	unread(t, []byte{}, 0, api.ErrShort)
}

// withNumber is a Body's bytes up to its i-th number, in whose place these bytes stand, and those behind it.
func withNumber(all []bounded, i int, b []byte) (ends, whole []byte) {
	for _, x := range all[:i] {
		ends = append(ends, bytesOf(x.n)...)
	}
	ends = append(ends, b...)
	whole = slices.Clone(ends)
	for _, x := range all[i+1:] {
		whole = append(whole, bytesOf(x.n)...)
	}
	return ends, whole
}

// P20.2: each number that is too small or too great is told at once, whatever follows, or doesn't; none that isn't.
func TestEachNumberThatIsRead(t *testing.T) {
	for _, r := range []root.Root{example(), larger()} {
		all := numbersOf(r, 300)
		for i, x := range all {
			wrong := []uint64{x.most + 1, x.most + 2, 2*x.most + 9, 1 << 33, 1 << 56, 1 << 62, math.MaxInt64, 1 << 63, math.MaxUint64}
			for n := range x.least {
				wrong = append(wrong, n)
			}
			for _, n := range wrong {
				ends, whole := withNumber(all, i, bytesOf(n))
				unread(t, ends, 300, api.ErrForm)
				unread(t, whole, 300, api.ErrForm)
				unread(t, append(whole, 0), 300, api.ErrForm)
			}
			for _, n := range []uint64{x.least, x.least + 1, x.n, x.most - 1, x.most} {
				if n < x.least || n > x.most {
					continue
				}
				ends, whole := withNumber(all, i, bytesOf(n))
				if i < len(all)-1 {
					unread(t, ends, 300, api.ErrShort)
				}
				reads(t, whole, 300)
			}
		}
	}
}

// P20.2, P20.3: a number that is written with more bytes than it needs, or with more than any number has.
func TestNumbersThatAreLonger(t *testing.T) {
	tenth := bytes.Repeat([]byte{255}, 9)
	for _, r := range []root.Root{example(), larger()} {
		all := numbersOf(r, 300)
		for i, x := range all {
			longer := bytesOf(x.n)
			for range 9 {
				longer[len(longer)-1] |= 0x80
				ends, _ := withNumber(all, i, longer)
				if len(longer) < 10 {
					unread(t, ends, 300, api.ErrShort)
				}
				longer = append(longer, 0)
				ends, whole := withNumber(all, i, longer)
				unread(t, ends, 300, api.ErrForm)
				unread(t, whole, 300, api.ErrForm)
			}
			for _, last := range []byte{1, 2, 0x80, 0xff} {
				ends, whole := withNumber(all, i, append(slices.Clone(tenth), last))
				unread(t, ends, 300, api.ErrForm)
				unread(t, whole, 300, api.ErrForm)
			}
			ends, _ := withNumber(all, i, tenth)
			unread(t, ends, 300, api.ErrShort)
		}
	}
}

// P20.2: of several errors the one that is met first.
func TestWhichErrorIsTold(t *testing.T) {
	for _, x := range []struct {
		b    []byte
		want api.Errno
	}{
		{[]byte{0, 0}, api.ErrForm},
		{[]byte{1, 0}, api.ErrForm},
		{[]byte{1, 0x81, 32, 0}, api.ErrForm},
		{[]byte{1, 1, 0}, api.ErrForm},
		{[]byte{1, 1, 9, 0x80}, api.ErrForm},
		{[]byte{1, 1, 1, 0}, api.ErrForm},
		{[]byte{1, 1, 1, 2, 3}, api.ErrForm},
		{[]byte{1, 1, 1, 2, 2}, api.ErrShort},
		{[]byte{1, 1, 1, 2, 2, 65}, api.ErrForm},
		{[]byte{1, 1, 1, 2, 2, 64}, api.ErrShort},
		{[]byte{1, 1, 1, 2, 2, 64, 2}, api.ErrForm},
		{[]byte{1, 1, 1, 2, 2, 64, 1}, api.ErrShort},
		{[]byte{1, 1, 1, 2, 0, 0, 0}, api.OK},
		{[]byte{1, 1, 1, 2, 0, 0, 0, 0}, api.ErrLong},
		{[]byte{1, 1, 1, 2, 0, 0, 1}, api.ErrShort},
		{[]byte{1, 1, 1, 2, 0, 0, 1, 1}, api.ErrForm},
		{[]byte{1, 1, 1, 2, 0, 0, 1, 0}, api.ErrShort},
		{[]byte{1, 1, 1, 2, 0, 0, 1, 0, 0}, api.ErrForm},
		{[]byte{1, 1, 1, 2, 0, 0, 1, 0, 7, 7}, api.ErrForm},
		{[]byte{1, 1, 1, 2, 0, 0, 1, 0, 7}, api.ErrForm},
		{[]byte{1, 1, 1, 2, 0, 0, 1, 0, 6}, api.ErrShort},
		{[]byte{1, 1, 1, 2, 0, 0, 1, 0, 6, 7, 0}, api.ErrForm},
		{[]byte{1, 1, 1, 2, 0, 0, 1, 0, 6, 0x87, 0x80, 4}, api.ErrForm},
		{[]byte{1, 1, 1, 2, 0, 0, 1, 0, 6, 0x86, 0x80, 4}, api.OK},
		{[]byte{1, 1, 1, 2, 0, 0, 1, 0, 6, 0x86, 0x80}, api.ErrShort},
		// a frame of the table's, ahead of a wrong span
		{[]byte{1, 1, 1, 2, 0, 1, 1, 7, 8, 9, 9, 9}, api.ErrForm},
		{[]byte{1, 1, 1, 2, 0, 1, 1, 6, 8, 1}, api.ErrForm},
		{[]byte{1, 1, 1, 2, 0, 1, 1, 6, 8}, api.ErrShort},
		{[]byte{1, 1, 1, 2, 0, 1, 1, 6}, api.ErrShort},
		// two spans: the second one's page is one that there isn't, however it is told
		{[]byte{1, 5, 1, 2, 0, 0, 2, 4, 1, 8}, api.ErrShort},
		{[]byte{1, 5, 1, 2, 0, 0, 2, 4, 1, 8, 0}, api.ErrForm},
		{[]byte{1, 5, 1, 2, 0, 0, 2, 4, 1, 8, 0, 1, 8}, api.ErrForm},
		{[]byte{1, 5, 1, 2, 0, 0, 2, 4, 1, 8, 1, 1, 8}, api.ErrForm},
		{[]byte{1, 5, 1, 2, 0, 0, 2, 3, 1, 8, 0, 1, 8}, api.OK},
		{[]byte{1, 5, 1, 2, 0, 0, 2, 3, 1, 8, 1, 1, 8}, api.ErrForm},
		{[]byte{1, 5, 1, 2, 0, 0, 2, 0, 1, 8, 3, 1, 8}, api.OK},
		{[]byte{1, 5, 1, 2, 0, 0, 2, 0, 1, 8, 4}, api.ErrForm},
		{[]byte{1, 5, 1, 2, 0, 0, 2, 4, 0, 0}, api.ErrForm},
		{[]byte{1, 5, 1, 2, 0, 0, 1, 5, 0x80}, api.ErrForm},
		{[]byte{1, 5, 1, 2, 0, 0, 5, 0, 1, 8, 0, 1, 8, 0, 1, 8, 0, 1, 8, 0, 1, 8}, api.OK},
		{[]byte{1, 5, 1, 2, 0, 0, 6, 0, 1, 8, 0, 1, 8, 0, 1, 8, 0, 1, 8, 0, 1, 8, 0, 1, 8}, api.ErrForm},
	} {
		if e := reads(t, x.b, 8); e != x.want {
			t.Errorf("Read of % x: %v, not %v", x.b, e, x.want)
		}
	}
}

// P20.2: what a disk of so many sectors has room for; where there is no data sector at all, each First is too great.
func TestSectorsOfRead(t *testing.T) {
	span := func(first uint64) []byte { return bytesOf(1, 1, 1, 1, 0, 0, 1, 0, first, 8) }
	for _, sectors := range []int{math.MinInt, math.MinInt + 1, math.MinInt + 2, -65536, -1, 0, 1, 2} {
		isRead(t, bytesOf(1, 1, 1, 1, 0, 0, 0), sectors, root.Root{Base: 256, Pages: 1, Workers: 1, Handles: 1})
		for _, first := range []uint64{0, 1, 2, 65534, 1 << 62, 1<<63 - 2, 1<<63 - 1, 1 << 63, math.MaxUint64 - 1, math.MaxUint64} {
			unread(t, span(first), sectors, api.ErrForm)
			unread(t, bytesOf(1, 1, 1, 1, 0, 0, 1, 0, first), sectors, api.ErrForm)
			unread(t, bytesOf(1, 1, 1, 1, 1, 1, 1, first, 8, first, 8, 0, first, 8), sectors, api.ErrForm)
		}
		unread(t, bytesOf(1, 1, 1, 1, 0, 0, 1, 0), sectors, api.ErrShort)
		unread(t, bytesOf(1, 1, 1, 1, 1, 0, 0), sectors, api.ErrShort)
	}
	for _, sectors := range []int{3, 4, 8, 129, 130, 131, 65535, 65536} {
		for _, first := range []int{1, sectors - 2} {
			isRead(t, span(uint64(first)), sectors, root.Root{Base: 256, Pages: 1, Workers: 1, Handles: 1, Entries: []api.Entry{ofSpan(0, first, 8)}})
		}
		for _, first := range []int{0, sectors - 1, sectors, sectors + 1, math.MaxInt} {
			unread(t, span(uint64(first)), sectors, api.ErrForm)
		}
	}
}

// P20.3: the greatest root there is.
func TestGreatestRoot(t *testing.T) {
	pages := []int{}
	for p := range 4096 {
		pages = append(pages, p)
	}
	r := root.Root{Base: 1 << 40, Pages: 4096, Workers: 8, Handles: 4096, Rows: 4096, Kinds: 64, Entries: root.List(64, 4096, pages)}
	if len(r.Entries) != page.Count(64, page.PerKinds)+page.Count(4096, page.PerRows)+4096 {
		t.Fatal(len(r.Entries))
	}
	for i := range r.Entries {
		r.Entries[i].First, r.Entries[i].Len = 65534-i, 65542-i
	}
	if !writes(t, r, 65536) || writes(t, r, 65535) {
		t.Error("on which disks is it right?")
	}
	b, _ := root.Body(r, 65536)
	for n := 0; n < len(b); n += 97 {
		unread(t, b[:n], 65536, api.ErrShort)
	}
	unread(t, append(b, 0), 65536, api.ErrLong)
}

// P20.2, P20.3: all rows of few small numbers.
func TestAllRowsOfSmallNumbers(t *testing.T) {
	met := map[api.Errno]int{}
	var through func(b []byte, left int)
	through = func(b []byte, left int) {
		e := reads(t, b, 4)
		met[e]++
		// what follows a fault that isn't that the bytes end changes nothing
		if left == 0 || e == api.ErrForm || e == api.ErrLong {
			return
		}
		for _, c := range []byte{0, 1, 2, 3, 8, 0x80} {
			through(append(slices.Clip(b), c), left-1)
		}
	}
	through(nil, 7)
	through([]byte{1, 1, 1, 1}, 8)
	through([]byte{1, 2, 1, 1, 0, 0, 2}, 7)
	through([]byte{1, 3, 1, 1, 0, 0}, 7)
	through([]byte{1, 2, 1, 33, 33, 17, 1, 1, 8}, 6)
	for _, e := range []api.Errno{api.OK, api.ErrShort, api.ErrForm, api.ErrLong} {
		if met[e] < 100 {
			t.Errorf("%v was told %d times", e, met[e])
		}
	}
}

// P20.2, P20.3: right roots by chance, and their Bodies with some bytes changed, put in or left out.
func TestChangedBodies(t *testing.T) {
	chance := noise(203)
	met := map[api.Errno]int{}
	for range 3000 {
		sectors := 3 + chance(1+chance(65534))
		r := someRoot(chance, sectors)
		if !writes(t, r, sectors) {
			t.Fatalf("%+v isn't right", r)
		}
		b, _ := root.Body(r, sectors)
		for range 20 {
			x := slices.Clone(b)
			for range 1 + chance(2) {
				at := chance(len(x))
				if chance(3) > 0 {
					at = chance(min(len(x), 24))
				}
				switch chance(6) {
				case 0:
					x = slices.Insert(x, at, byte(chance(256)))
				case 1:
					x = slices.Delete(x, at, at+1)
				case 2:
					x[at] ^= 1 << chance(8)
				case 3:
					x = x[:at+1]
				case 4:
					x[at]++
				case 5:
					x[at]--
				}
				if len(x) == 0 {
					x = []byte{0}
				}
			}
			met[reads(t, x, sectors)]++
			reads(t, b, sectors-1)
		}
	}
	for _, e := range []api.Errno{api.OK, api.ErrShort, api.ErrForm, api.ErrLong} {
		if met[e] < 500 {
			t.Errorf("%v was told %d times", e, met[e])
		}
	}
}

// P20.1, P20.2: right roots with something changed about them.
func TestChangedRoots(t *testing.T) {
	chance := noise(204)
	right, wrong := 0, 0
	for range 20000 {
		sectors := 3 + chance(300)
		r := someRoot(chance, sectors)
		by := []int{-1, 1, 2, -16, 16, 32, 256}[chance(7)]
		if n := len(r.Entries); n > 0 && chance(2) == 0 {
			e := &r.Entries[chance(n)]
			*[]*int{&e.Type, &e.Id, &e.First, &e.Len}[chance(4)] += by
		} else {
			*sizes()[chance(6)].of(&r) += by
		}
		if writes(t, r, sectors) {
			right++
		} else {
			wrong++
		}
	}
	if right < 1000 || wrong < 1000 {
		t.Error(right, wrong)
	}
}

// P20.3: two roots that aren't the same have two Bodies.
func TestNoTwoRootsHaveOneBody(t *testing.T) {
	whose := map[string]root.Root{}
	chance := noise(205)
	for range 5000 {
		r := someRoot(chance, 3+chance(5))
		b, _ := root.Body(r, 8)
		if other, ok := whose[string(b)]; ok && !sameRoot(other, r) {
			t.Fatalf("%+v and %+v have one Body", other, r)
		}
		whose[string(b)] = r
	}
}

// Rule 3: a list that is nil and one that is empty are one.
func TestNilAndEmptyAreOne(t *testing.T) {
	r := root.Root{Base: 256, Pages: 1, Workers: 1, Handles: 1}
	for _, l := range [][]api.Entry{nil, {}, make([]api.Entry, 0, 9)} {
		r.Entries = l
		if !writes(t, r, 8) {
			t.Error("a root without entries isn't right")
		}
	}
	if l := root.List(0, 0, []int{}); len(l) != 0 {
		t.Error(l)
	}
}

// Rule 4: nothing that is handed in changes, nor what lies in its spare room.
func TestNothingHandedInChanges(t *testing.T) {
	for _, x := range []root.Root{larger(), changed(larger(), func(r *root.Root) { r.Entries[8].Id = 300 })} {
		room := append(slices.Clone(x.Entries), ofSpan(300, 5, 55), ofSpan(301, 6, 66))
		was := slices.Clone(room)
		r := x
		r.Entries = room[:len(x.Entries)]
		root.Right(r, 300)
		root.Body(r, 300)
		if !slices.Equal(room, was) {
			t.Error("entries that were handed in have changed")
		}
	}
	b, _ := root.Body(larger(), 300)
	for n := range len(b) + 1 {
		room := append(slices.Clone(b), 1, 2, 3)
		was := slices.Clone(room)
		root.Read(room[:n], 300)
		if !bytes.Equal(room, was) {
			t.Error("bytes that were handed in have changed")
		}
	}
	pages := []int{4, 2, 7, 9}
	root.List(17, 33, pages[:2])
	if !slices.Equal(pages, []int{4, 2, 7, 9}) {
		t.Error("pages that were handed in have changed")
	}
}

// spoil overwrites all memory of a list.
func spoil[T any](l []T, with T) {
	l = l[:cap(l)]
	for i := range l {
		l[i] = with
	}
}

// Rule 4: what is answered has nothing in common with what was handed in, nor with another answer.
func TestAnswersAreNewMemory(t *testing.T) {
	r := larger()
	b, e := root.Body(r, 300)
	if e != api.OK {
		t.Fatal(e)
	}
	want := slices.Clone(b)
	spoil(r.Entries, api.Entry{Type: 9})
	if !bytes.Equal(b, want) {
		t.Error("a Body changes with its root")
	}
	again, _ := root.Body(larger(), 300)
	spoil(again, 0xee)
	if !bytes.Equal(b, want) {
		t.Error("two Bodies share memory")
	}
	one, _ := root.Read(b, 300)
	two, _ := root.Read(b, 300)
	spoil(b, 0xee)
	if !sameRoot(one, larger()) {
		t.Error("a root changes with the bytes it was read of")
	}
	spoil(two.Entries, api.Entry{Type: 9})
	if !sameRoot(one, larger()) {
		t.Error("two roots share memory")
	}
	pages := []int{4, 2}
	first, second := root.List(17, 33, pages), root.List(17, 33, pages)
	spoil(pages, -7)
	spoil(second, api.Entry{Type: 9})
	if !slices.Equal(first, modelList(17, 33, []int{4, 2})) {
		t.Error("a list of entries shares memory")
	}
}

// P1: all calls end, whatever they are given.
func TestWhateverIsGiven(t *testing.T) {
	numbers := append([]int{-2, -1, 0, 1, 2, 3, 7, 8, 64, 256, 4096, 65536, 1 << 40}, wild...)
	chance := noise(206)
	some := func() int { return numbers[chance(len(numbers))] }
	for range 50000 {
		r := root.Root{Base: 256, Pages: some(), Workers: 1, Handles: some(), Rows: some(), Kinds: some()}
		for range chance(5) {
			r.Entries = append(r.Entries, api.Entry{Type: chance(5), Id: some(), First: some(), Len: some()})
		}
		writes(t, r, some())
		var b []byte
		for range chance(20) {
			b = append(b, bytesOf(uint64(some()))...)
		}
		reads(t, b, some())
		root.List(min(some(), 500), min(some(), 500), []int{some(), some()})
	}
}
