package load_test

import (
	"bytes"
	"encoding/binary"
	"fmt"
	"slices"
	"testing"

	"hayloft/api"
	"hayloft/disk"
)

// P23.2: what is forged here is right, as long as nothing is done to it.
func TestForgedRight(t *testing.T) {
	for _, v := range []api.View{example(), empty(1), empty(4096), large(129), large(4096), wide(), fields(30)} {
		for slot := range 2 {
			d := on(t, 400, forge(v, 7, slot, 1))
			f := finds(t, d, 4096, v, 7, slot)
			if f.Workers != 2 || f.Handles != len(v.Rows)+1 {
				t.Error(f.Workers, f.Handles)
			}
		}
	}
}

// metFirst holds that of a checkpoint that was forged this is met; where there is another one, that one is told.
func metFirst(t *testing.T, make func() *forgery, e api.Errno, at int) {
	t.Helper()
	fails(t, on(t, 200, make()), 512, corrupt(e, at))
	for slot := range 2 {
		f := make()
		f.seq, f.slot = 9, slot
		other := forge(example(), 8, 1-slot, 150)
		d := on(t, 200, f, other)
		finds(t, d, 1024, example(), 8, 1-slot)
		other.seq = 10
		other.lay(t, d)
		finds(t, d, 1024, example(), 10, 1-slot)
		// the other one doesn't read well, either: what is told is told of the newer one
		turn(d, other.root().first(), 8)
		fails(t, d, 512, corrupt(api.ErrSum, other.root().first()))
		other.seq = 8
		write(t, d, (1-slot)*199, manifestBytes(8, other.root().first(), other.root().size()))
		fails(t, d, 512, corrupt(e, at))
	}
}

// P23.2, 1: the root.
func TestForgedRoot(t *testing.T) {
	for _, v := range []api.View{example(), empty(3), wide()} {
		for _, x := range commonTroubles() {
			at := forge(v, 7, 0, 20).top.first()
			t.Run(x.name, func(t *testing.T) {
				metFirst(t, func() *forgery {
					f := forge(v, 7, 0, 20)
					x.apply(f, f.top)
					return f
				}, x.err, at)
			})
		}
	}
}

// P23.2, 1: a root whose chain isn't one, and that has several sectors.
func TestForgedRootChain(t *testing.T) {
	make := func(change func(f *forgery)) func() *forgery {
		return func() *forgery {
			f := forge(wide(), 7, 0, 20)
			f.top.body = append(f.rootBody(), 1, 2, 3, 4, 5, 6, 7, 8, 9, 10, 11, 12, 13, 14, 15, 16, 17, 18, 19, 20, 21, 22, 23, 24, 25, 26, 27, 28, 29, 30, 31, 32, 33, 34)
			change(f)
			return f
		}
	}
	f := make(func(*forgery) {})()
	l := f.root().sectors()
	if len(l) != 2 {
		t.Fatal(l, len(f.root().bytes()))
	}
	metFirst(t, make(func(*forgery) {}), api.ErrLong, l[0])
	for i, s := range l {
		metFirst(t, make(func(f *forgery) {
			f.then(func(d *disk.Disk) { turn(d, s, 8*59+i) })
		}), api.ErrSum, s)
	}
	for _, next := range []int{199, 200, 65534, 1 << 31} {
		metFirst(t, make(func(f *forgery) {
			f.then(func(d *disk.Disk) { d.Write(l[0], link([]byte("x"), next)) })
		}), api.ErrForm, next)
	}
	// the manifest says how long it is, and where it begins
	for n, x := range map[int]fault{56: corrupt(api.ErrForm, l[0]), 55: corrupt(api.ErrForm, l[0]), 57: corrupt(api.ErrForm, l[1]), 113: corrupt(api.ErrForm, 0), 65542: corrupt(api.ErrForm, 0)} {
		metFirst(t, make(func(f *forgery) { f.top.n = n }), x.err, x.at)
	}
	for _, first := range []int{199, 200, 65534} {
		d := on(t, 200, f)
		write(t, d, 0, manifestBytes(7, first, 60))
		fails(t, d, 512, corrupt(api.ErrForm, first))
	}
}

// P23.2, 1: numbers in the root that may not be there.
func TestForgedRootNumbers(t *testing.T) {
	for i, change := range []func(f *forgery){
		func(f *forgery) { f.base = 0 },
		func(f *forgery) { f.base = 1<<40 + 256 },
		func(f *forgery) { f.pages = 0 },
		func(f *forgery) { f.pages = 4097 },
		func(f *forgery) { f.pages = 9 },
		func(f *forgery) { f.workers = 0 },
		func(f *forgery) { f.workers = 9 },
		func(f *forgery) { f.handles = 0 },
		func(f *forgery) { f.handles = 4097 },
		func(f *forgery) { f.handles = f.rows - 1 },
		func(f *forgery) { f.kinds = 65 },
		func(f *forgery) { f.pieces[0].room = []int{0, 20, 21, 22} },
		func(f *forgery) { f.pieces[8].n = 7 },
		func(f *forgery) { f.pieces[8].n = 65543 },
	} {
		at := forge(wide(), 7, 0, 20).top.first()
		t.Run(fmt.Sprint(i), func(t *testing.T) {
			metFirst(t, func() *forgery {
				f := forge(wide(), 7, 0, 20)
				change(f)
				for _, p := range f.pieces {
					p.foreign = true
				}
				return f
			}, api.ErrForm, at)
		})
	}
	// the last data sector of this disk, and the first one that isn't
	for from, want := range map[int]api.Errno{198: api.ErrSum, 199: api.ErrForm} {
		f := forge(wide(), 7, 0, 20)
		f.pieces[0].room[0], f.pieces[0].foreign = from, true
		at := from
		if want == api.ErrForm {
			at = f.top.first()
		}
		fails(t, on(t, 200, f), 512, corrupt(want, at))
	}
	// what the root tells of the workers and handles is what is told
	for _, x := range [][2]int{{1, 40}, {8, 4096}, {3, 41}} {
		f := forge(wide(), 7, 0, 20)
		f.workers, f.handles = x[0], x[1]
		if found := finds(t, on(t, 200, f), 512, wide(), 7, 0); found.Workers != x[0] || found.Handles != x[1] {
			t.Error(found.Workers, found.Handles)
		}
	}
}

// P23.2, 2: each entry, whatever goes against it.
func TestForgedEntries(t *testing.T) {
	for _, v := range []api.View{wide(), example()} {
		for i := range forge(v, 7, 0, 20).pieces {
			for _, x := range troublesOf(v, forge(v, 7, 0, 20), i) {
				at := forge(v, 7, 0, 20).pieces[i].first()
				t.Run(fmt.Sprint(i, " ", x.name), func(t *testing.T) {
					metFirst(t, func() *forgery {
						f := forge(v, 7, 0, 20)
						x.apply(f, f.pieces[i])
						return f
					}, x.err, at)
				})
			}
		}
	}
}

// P23.2, 2: an address that is 0 is none, and stays so; one of the last byte there is moves, but leads to no object.
func TestForgedAddresses(t *testing.T) {
	for i := range wide().Spans {
		f := forge(wide(), 7, 0, 20)
		p := f.pieces[4+i]
		p.leads(0)
		if found, err := told(t, on(t, 200, f), 512); err != nil || bytes.Equal(found.View.Bytes, shifted(wide(), 512)) {
			t.Error(err)
		}
		metFirst(t, func() *forgery {
			f := forge(wide(), 7, 0, 20)
			f.pieces[4+i].leads(f.base + 256*f.pages - 1)
			return f
		}, api.ErrForm, f.top.first())
	}
}

// P23.2, 2: chains that aren't any, at whichever of their sectors.
func TestForgedChains(t *testing.T) {
	for i := range forge(wide(), 7, 0, 20).pieces {
		own := forge(wide(), 7, 0, 20).pieces[i]
		for k, s := range own.sectors() {
			metFirst(t, func() *forgery {
				f := forge(wide(), 7, 0, 20)
				f.then(func(d *disk.Disk) { turn(d, s, 8*k+7, 3, 31) })
				return f
			}, api.ErrSum, s)
			if s == own.last() {
				continue
			}
			for next, at := range map[int]int{0: 0, 199: 199, 1 << 30: 1 << 30, s: s, own.first(): own.first()} {
				metFirst(t, func() *forgery {
					f := forge(wide(), 7, 0, 20)
					f.then(func(d *disk.Disk) { d.Write(s, link([]byte("junk"), next)) })
					return f
				}, api.ErrForm, at)
			}
		}
		// one byte fewer ends ahead of the last one of the sum, one that isn't 0; a sector more isn't there
		for n, at := range map[int]int{own.size() - 1: own.last(), 56*len(own.sectors()) + 1: 0} {
			metFirst(t, func() *forgery {
				f := forge(wide(), 7, 0, 20)
				f.pieces[i].n = n
				return f
			}, api.ErrForm, at)
		}
	}
}

// P23.2, 2: the whole chain of an entry is the root's, or an earlier entry's.
func TestForgedTwice(t *testing.T) {
	for i := range forge(wide(), 7, 0, 20).pieces {
		metFirst(t, func() *forgery {
			f := forge(wide(), 7, 0, 20)
			p := f.pieces[i]
			for range 3 {
				p.foreign, p.room, p.n = true, f.root().sectors(), f.root().size()
			}
			return f
		}, api.ErrTwice, forge(wide(), 7, 0, 20).top.first())
		for k := range i {
			metFirst(t, func() *forgery {
				f := forge(wide(), 7, 0, 20)
				p, other := f.pieces[i], f.pieces[k]
				p.foreign, p.room, p.n = true, other.sectors(), other.size()
				return f
			}, api.ErrTwice, forge(wide(), 7, 0, 20).pieces[k].first())
		}
	}
	// of two checkpoints each may have the other one's sectors
	one, two := forge(example(), 1, 0, 20), forge(example(), 2, 1, 20)
	two.top.room = []int{40}
	d := on(t, 50, one, two)
	finds(t, d, 512, example(), 2, 1)
	turn(d, 40, 0)
	finds(t, d, 512, example(), 1, 0)
}

// P23.2: which is told where two of them would be: that which stands first in the chapter's order; what is made of all frames isn't sound, either.
func TestForgedOrder(t *testing.T) {
	odd := unsound()[3]
	of := func(f *forgery, i int) *piece {
		if i < 0 {
			return f.top
		}
		return f.pieces[i]
	}
	meets := func(i int, a trouble, k int, b trouble) {
		t.Run(fmt.Sprint(i, " ", a.name, ", ", k, " ", b.name), func(t *testing.T) {
			f := forge(odd, 7, 0, 20)
			at := of(f, i).first()
			b.apply(f, of(f, k))
			a.apply(f, of(f, i))
			fails(t, on(t, 200, f), 512, corrupt(a.err, at))
		})
	}
	var troubles [][]trouble
	for i := range forge(odd, 7, 0, 20).pieces {
		troubles = append(troubles, troublesOf(odd, forge(odd, 7, 0, 20), i))
	}
	for i, own := range append([][]trouble{commonTroubles()}, troubles...) {
		for _, a := range own {
			// no trouble but that the view isn't sound
			meets(i-1, a, i-1, trouble{apply: func(*forgery, *piece) {}})
			for _, b := range own {
				if a.rank < b.rank {
					meets(i-1, a, i-1, b)
				}
			}
		}
		for k, others := range troubles[i:] {
			for _, a := range oneOfEach(own) {
				for _, b := range oneOfEach(others) {
					meets(i-1, a, i+k, b)
				}
			}
		}
	}
}

// oneOfEach is one trouble of each rank.
func oneOfEach(all []trouble) []trouble {
	var l []trouble
	for rank := range inMove + 1 {
		i := slices.IndexFunc(all, func(x trouble) bool { return x.rank == rank })
		if i >= 0 {
			l = append(l, all[i])
		}
	}
	return l
}

// unsound are views that aren't sound, but of which each frame is right.
func unsound() []api.View {
	with := func(change func(v *api.View)) api.View {
		v := wide()
		change(&v)
		return v
	}
	return []api.View{
		with(func(v *api.View) { v.Spans[1].Page, v.Spans[2].Page = 2, 1 }),
		with(func(v *api.View) { v.Spans[4].Page = 11 }),
		with(func(v *api.View) { v.Pages, v.Bytes = 10, v.Bytes[:2560] }),
		with(func(v *api.View) { v.Rows[20] = live(1, 3, 32) }),
		with(func(v *api.View) { v.Rows[0].Kind = 17 }),
		with(func(v *api.View) { v.Rows[0].Kind = 1 }),
		with(func(v *api.View) { v.Rows[0].At = 8 }),
		with(func(v *api.View) { v.Rows[39] = gone(0) }),
		with(func(v *api.View) { v.Rows[38] = live(1, 1, 1536) }),
		with(func(v *api.View) { v.Rows[5] = gone(1) }),
		with(func(v *api.View) { v.Spans[1].Live = nil }),
		with(func(v *api.View) { v.Bytes[0]++ }),
		with(func(v *api.View) { binary.LittleEndian.PutUint64(v.Bytes[240:], 4096+12*256-1) }),
	}
}

// P23.2, 2: the root says that there is one kind, or one row, more or fewer; the last page isn't as it says.
func TestForgedCounts(t *testing.T) {
	for n := 1; n <= 33; n++ {
		kinds, rows := empty(3), empty(3)
		kinds.Kinds, rows.Rows = kindsOf(n), rowsOf(2*n)
		for _, more := range []int{-1, 1} {
			counts(t, kinds, 16, n, func(f *forgery) { f.kinds += more }, more)
			counts(t, rows, 32, 2*n, func(f *forgery) { f.rows += more }, more)
		}
	}
}

// counts holds what is met of a view's only sort of pages, as long as so many more need as many of them.
func counts(t *testing.T, v api.View, per, n int, change func(f *forgery), more int) {
	t.Helper()
	if n+more < 1 || (n+more-1)/per != (n-1)/per {
		return
	}
	f := forge(v, 7, 0, 20)
	change(f)
	f.handles++
	last := f.pieces[len(f.pieces)-1]
	fails(t, on(t, 200, f), 512, corrupt(api.ErrForm, last.first()))
}

// P23.2, 3: each frame is right, but what they make isn't sound.
func TestForgedUnsound(t *testing.T) {
	for i, v := range unsound() {
		// the spans' pages must rise for the root
		if v.Spans[1].Page > v.Spans[2].Page {
			v.Spans[1], v.Spans[2] = v.Spans[2], v.Spans[1]
		}
		t.Run(fmt.Sprint(i), func(t *testing.T) {
			metFirst(t, func() *forgery { return forge(v, 7, 0, 20) }, api.ErrForm, forge(v, 7, 0, 20).top.first())
		})
	}
	// a kind that has a field where its objects have none
	metFirst(t, func() *forgery {
		f := forge(wide(), 7, 0, 20)
		kinds := wide().Kinds
		kinds[1].Ptrs = []int{8}
		f.pieces[0].body = kindsBody(kinds[:16])
		return f
	}, api.ErrForm, forge(wide(), 7, 0, 20).top.first())
}

// P23.2, 3: an image that doesn't tell of its address can be read at the base that it was written at, and at no other one.
func TestForgedWithoutAddress(t *testing.T) {
	f := forge(wide(), 7, 0, 20)
	p := f.pieces[5]
	if !bytes.Equal(p.body[3:8], []byte{8, 0, 16, 1, 0}) {
		t.Fatal(p.body)
	}
	p.body = slices.Concat(p.body[:5], vars(0, 0), p.body[8:])
	d := on(t, 200, f)
	finds(t, d, 4096, wide(), 7, 0)
	for _, base := range []int{256, 4096 - 256, 4096 + 256, 1 << 40} {
		fails(t, d, base, corrupt(api.ErrForm, f.top.first()))
	}
}

// P23.2, P23.3: the images' own bases count, not the root's.
func TestForgedBases(t *testing.T) {
	for _, base := range []int{256, 4096, 1 << 40} {
		f := forge(at(wide(), base), 7, 0, 20)
		for _, other := range []int{256, 512, 1<<40 - 256, 1 << 40} {
			f.base = other
			f.top.room = []int{100}
			finds(t, on(t, 200, f), 2048, wide(), 7, 0)
		}
	}
	// two spans at two bases
	f, other := forge(wide(), 7, 0, 20), forge(at(wide(), 1<<30), 7, 0, 20)
	f.pieces[5], f.pieces[7] = other.pieces[5], other.pieces[7]
	for i, p := range f.pieces {
		p.room = []int{10 * i, 10*i + 1, 10*i + 2, 10*i + 3, 10*i + 4, 10*i + 5, 10*i + 6, 10*i + 7}
		p.room[0]++
		p.room[1]++
		p.room = append(p.room[:1], p.room[2:]...)
	}
	f.top.room = []int{150}
	finds(t, on(t, 200, f), 2048, wide(), 7, 0)
}
