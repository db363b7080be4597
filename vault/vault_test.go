package vault_test

import (
	"bytes"
	"errors"
	"math"
	"slices"
	"testing"

	"hayloft/api"
	"hayloft/disk"
	"hayloft/heap"
	"hayloft/load"
	"hayloft/save"
	"hayloft/vault"
)

// P24.1, P24.2: the chapter's example.
func TestExample(t *testing.T) {
	v, err := vault.New(api.Config{Base: 256, Pages: 2, Workers: 1, Handles: 8, Sectors: 32})
	if err != nil {
		t.Fatal(err)
	}
	does := func(op api.Op, want api.Answer) {
		t.Helper()
		if a := v.Do(op); !sameAnswer(a, want) {
			t.Errorf("%s: %v, not %v", told(op), a, want)
		}
	}
	does(define(16, 0), api.Answer{})
	does(alloc(0, 0), api.Answer{Handle: 65537})
	does(begin(), api.Answer{N: 4})
	for i := range 7 {
		does(step(), api.Answer{N: i / 6})
	}
	does(alloc(0, 0), api.Answer{Handle: 65538})
	does(crash(), api.Answer{})
	does(alloc(0, 0), api.Answer{Err: api.ErrDown})
	does(restore(512), api.Answer{N: 1})
	does(free(0, 65538), api.Answer{Err: api.ErrStale})
	does(alloc(0, 0), api.Answer{Handle: 65538})
}

// numbers are those around least and most, and the ends of the numbers.
func numbers(least, most int) []int {
	return []int{math.MinInt, -1, least - 1, least, most, most + 1, math.MaxInt}
}

func within(n, least, most int) bool {
	return n >= least && n <= most
}

var (
	goodBases = []int{256, 512, 1 << 30, 1<<40 - 256, 1 << 40}
	badBases  = []int{math.MinInt, -256, -1, 0, 1, 100, 255, 257, 511, 1<<40 - 1, 1<<40 + 1, 1<<40 + 256, math.MaxInt - 255, math.MaxInt}
)

// configError is the error of layer 15's New.
func configError(c api.Config) api.Errno {
	switch {
	case !within(c.Pages, 1, 4096), !within(c.Workers, 1, 8), !within(c.Handles, 1, 4096):
		return api.ErrArg
	case slices.Contains(badBases, c.Base):
		return api.ErrAddr
	}
	return api.OK
}

// configs are all that have one of these numbers each.
func configs(pages, workers, handles, sectors, bases []int) []api.Config {
	var all []api.Config
	for _, p := range pages {
		for _, w := range workers {
			for _, h := range handles {
				for _, s := range sectors {
					for _, b := range bases {
						all = append(all, api.Config{Base: b, Pages: p, Workers: w, Handles: h, Sectors: s})
					}
				}
			}
		}
	}
	return all
}

// edges are configs at the edges of what may be, one number at a time, and all of them together.
func edges() []api.Config {
	return slices.Concat(
		configs(numbers(1, 4096), []int{1}, []int{1}, []int{8}, []int{256, 100}),
		configs([]int{1}, numbers(1, 8), []int{1}, []int{8}, []int{256, 100}),
		configs([]int{1}, []int{1}, numbers(1, 4096), []int{8}, []int{256, 100}),
		configs([]int{1}, []int{1}, []int{1}, []int{8, 9}, append(goodBases, badBases...)),
		configs([]int{1, 0}, []int{8, 9}, []int{4096, 4097}, numbers(8, 65536), []int{1 << 40, 1<<40 + 256}),
		configs([]int{2, 0}, []int{1, -1}, []int{1, 0}, []int{7, 8, 65537}, []int{512, 511}),
	)
}

// P24.1: New's config, each number at its edges, and which error is told where several would be.
func TestNew(t *testing.T) {
	for _, c := range edges() {
		want := configError(c)
		if !within(c.Sectors, 8, 65536) {
			want = api.ErrArg
		}
		v, err := vault.New(c)
		if wrong := isError(err, want, nowhere); wrong != "" || (v == nil) != (want != api.OK) {
			t.Fatalf("New(%v): %v, %v: %s; not %v", c, v != nil, err, wrong, want)
		}
		if v == nil {
			continue
		}
		if v.Err() != nil || !v.Up() || v.Busy() || v.Free() != c.Sectors-2 || !sameTree(v.Tree(), save.None()) {
			t.Fatalf("New(%v): %v, %v, %v, %d free, %v", c, v.Err(), v.Up(), v.Busy(), v.Free(), v.Tree())
		}
		if x := v.View(); !sameView(x, api.View{Base: c.Base, Pages: c.Pages, Bytes: make([]byte, 256*c.Pages)}) {
			t.Fatalf("New(%v): %s", c, brief(x))
		}
		if !bytes.Equal(v.Image(), make([]byte, 64*c.Sectors)) {
			t.Fatalf("New(%v): a disk of %d bytes, or not noughts", c, len(v.Image()))
		}
	}
}

// P24.1: Open's config, whose Sectors isn't looked at, behind its image.
func TestOpen(t *testing.T) {
	for _, n := range []int{0, 1, 64, 447, 7 * 64, 8*64 - 1, 8 * 64, 8*64 + 1, 65536 * 64, 65536*64 + 1, 65537 * 64} {
		image := bytes.Repeat([]byte{1, 2, 3, 4, 5}, n/5+1)[:n]
		good := n%64 == 0 && within(n/64, 8, 65536)
		all := edges()
		if n > 9999 {
			all = configs([]int{1, 0}, []int{1}, []int{1}, []int{0}, []int{256, 1})
		}
		for _, c := range all {
			want := configError(c)
			if !good {
				want = api.ErrArg
			}
			opens(t, c, image, want)
		}
	}
	opens(t, api.Config{Base: 256, Pages: 1, Workers: 1, Handles: 1}, nil, api.ErrArg)
}

// opens holds that Open answers this error, or a vault that isn't up, over just these bytes.
func opens(t *testing.T, c api.Config, image []byte, want api.Errno) {
	t.Helper()
	v, err := vault.Open(c, image)
	if wrong := isError(err, want, nowhere); wrong != "" || (v == nil) != (want != api.OK) {
		t.Fatalf("Open(%v, %d bytes): %v, %v: %s; not %v", c, len(image), v != nil, err, wrong, want)
	}
	if v != nil && (v.Err() != nil || !isDown(v) || !bytes.Equal(v.Image(), image)) {
		t.Fatalf("Open(%v, %d bytes): %v, %v, or other bytes", c, len(image), v.Err(), v.Up())
	}
}

// isDown says whether a vault shows nothing of a heap.
func isDown(v *vault.Vault) bool {
	return !v.Up() && !v.Busy() && v.Free() == 0 && sameTree(v.Tree(), save.None()) && sameView(v.View(), api.View{})
}

// P24.1: a vault has just the pages, workers, handles and sectors of its config.
func TestConfig(t *testing.T) {
	for _, workers := range []int{1, 2, 8} {
		for _, handles := range []int{1, 2, 5} {
			x := small(t, 3, workers, handles, 20)
			x.tells(define(1), 0)
			x.is(alloc(workers, 0), api.ErrArg)
			x.is(alloc(-1, 0), api.ErrArg)
			x.is(flush(workers), api.ErrArg)
			for i := range handles {
				x.made((i*3)%workers, 0)
			}
			x.is(alloc(workers-1, 0), api.ErrFull)
		}
	}
	x := small(t, 3, 1, 9, 20)
	x.all(define(129), define(513))
	x.is(alloc(0, 1), api.OK)
	x.is(alloc(0, 0), api.ErrMemory)
}

// P24.1, P24.2: of an opened disk on which nothing counts a restore makes the empty heap of the config.
func TestOpenEmpty(t *testing.T) {
	for _, sectors := range []int{8, 9, 100} {
		c := api.Config{Base: 1024, Pages: 3, Workers: 2, Handles: 4, Sectors: -5}
		v, err := vault.Open(c, bytes.Repeat([]byte{7}, 64*sectors))
		if err != nil {
			t.Fatal(err)
		}
		x := &twin{T: t, v: v, config: c, sectors: sectors, tree: save.None()}
		x.is(alloc(0, 0), api.ErrDown)
		x.tells(restore(2048), 0)
		x.all(define(300), alloc(1, 0), alloc(2, 0), alloc(0, 0))
		x.tells(restore(256), 0)
		x.all(define(16), alloc(1, 0), begin(), crash(), restore(4096), define(8, 0))
	}
}

// P24.3, P24.4, P1: no vault.
func TestNoVault(t *testing.T) {
	var v *vault.Vault
	for kind := -1; kind < 20; kind++ {
		op := api.Op{Kind: kind, N: 256, Handle: 65537, Bytes: []byte{1}, Keeps: []int{1}}
		if a := v.Do(op); !sameAnswer(a, api.Answer{Err: api.ErrNil}) {
			t.Errorf("%d: %v", kind, a)
		}
		if wrong := isError(v.Err(), api.ErrNil, nowhere); wrong != "" {
			t.Errorf("%d: %v: %s", kind, v.Err(), wrong)
		}
	}
	if !isDown(v) || len(v.Image()) != 0 {
		t.Error(v.Up(), v.View(), v.Tree(), v.Busy(), v.Free(), v.Image())
	}
}

// P1: the calls of a vault that no maker has made end.
func TestZeroVault(t *testing.T) {
	v := &vault.Vault{}
	for range 2 {
		for kind := -1; kind < 20; kind++ {
			v.Do(api.Op{Kind: kind, N: 256, Handle: 65537, Bytes: []byte{1}, Keeps: []int{1}})
			_, _, _, _, _, _, _ = v.Err(), v.Up(), v.View(), v.Tree(), v.Busy(), v.Free(), v.Image()
		}
	}
}

// P24.3: Err is of the last step alone, and stays till the next one.
func TestErr(t *testing.T) {
	x := small(t, 2, 1, 2, 32)
	for _, s := range []struct {
		op   api.Op
		want api.Errno
	}{
		{define(0), api.ErrArg}, {define(16, 0), api.OK}, {define(16, 1), api.ErrKind}, {alloc(0, 0), api.OK}, {alloc(0, 1), api.ErrKind},
		{scavenge(), api.OK}, {step(), api.ErrNone}, {drop(), api.ErrNone}, {begin(), api.OK}, {begin(), api.ErrBusy}, {step(), api.OK},
		{free(0, 1), api.ErrStale}, {compact(), api.OK}, {restore(1), api.ErrAddr}, {flush(0), api.OK}, {flush(1), api.ErrArg}, {arm(0), api.OK},
		{api.Op{Kind: 17}, api.ErrArg}, {crash(), api.OK}, {compact(), api.ErrDown}, {restore(256), api.OK}, {api.Op{}, api.ErrArg}, {restore(256), api.OK},
	} {
		x.is(s.op, s.want)
		for range 2 {
			_, _, _, _, _, _ = x.v.Up(), x.v.View(), x.v.Tree(), x.v.Busy(), x.v.Free(), x.v.Image()
			if wrong := isError(x.v.Err(), s.want, nowhere); wrong != "" {
				t.Errorf("%s: %v: %s", told(s.op), x.v.Err(), wrong)
			}
		}
	}
}

// P24.4: what the vault shows is what layers 5, 15 and 22 show, to which the same was done.
func TestShown(t *testing.T) {
	c := api.Config{Base: 768, Pages: 6, Workers: 2, Handles: 30, Sectors: 60}
	v, _ := vault.New(c)
	h, _ := heap.New(c)
	d, _ := disk.New(c.Sectors)
	s, _ := save.New(d, save.None())
	shows := func(what string) {
		t.Helper()
		if !v.Up() || !sameView(v.View(), h.View()) || !sameTree(v.Tree(), s.Tree()) || v.Busy() != s.Busy() || v.Free() != s.Free() || !bytes.Equal(v.Image(), d.Image()) {
			t.Fatalf("%s: %s, not %s", what, brief(v.View()), brief(h.View()))
		}
	}
	v.Do(define(40, 8))
	h.Define(kindOf(40, 8))
	shows("a kind")
	var chance = noise(2401)
	for i := range 200 {
		w, x, y := chance(2), name(1+chance(30), 1), name(1+chance(30), 1)
		v.Do(alloc(w, 0))
		h.Alloc(w, 0)
		v.Do(free(1-w, x))
		h.Free(1-w, x)
		v.Do(set(x, 0, y))
		h.Set(x, 0, y)
		v.Do(write(y, 16, "some bytes"))
		h.Write(y, 16, []byte("some bytes"))
		shows("objects")
		if i%20 == 19 {
			v.Do(compact())
			h.Compact()
			shows("compacted")
			v.Do(begin())
			s.Begin(h.View(), 2, 30)
			shows("begun")
		}
		v.Do(step())
		s.Step()
		shows("a step")
	}
	f, _ := load.Load(d, 4096)
	if a := v.Do(restore(4096)); a.N != f.Tree.Seq || !sameView(v.View(), f.View) || !sameTree(v.Tree(), f.Tree) {
		t.Error(a, f.Tree.Seq)
	}
}

// P24.1, P24.2: what was handed in may be written over behind the call, and what was handed out, too.
func TestNothingInCommon(t *testing.T) {
	x := small(t, 3, 1, 8, 40)
	kind := define(40, 0, 16)
	x.do(kind)
	clear(kind.Ptrs)
	o := x.made(0, 0)
	text := write(o, 24, "hay")
	x.do(text)
	clear(text.Bytes)
	x.all(set(o, 1, o), read(o, 24, 3))
	for range 2 {
		x.save()
		spoil(x)
		x.alike()
		x.all(arm(3), begin(), step())
		spoil(x)
		x.alike()
		keeps := crash(5, 6, 7)
		x.do(keeps)
		clear(keeps.Keeps)
		x.do(restore(1024))
		spoil(x)
		x.alike()
		x.all(get(o, 1), read(o, 24, 16), write(o, 25, "x"))
	}
	b := x.v.Image()
	y := x.opened(x.config)
	clear(b)
	y.all(restore(256), get(o, 1))
	image := x.v.Image()
	z, _ := vault.Open(x.config, image)
	clear(image[:cap(image)])
	if !bytes.Equal(z.Image(), x.v.Image()) {
		t.Error("Open keeps what was handed in")
	}
}

// spoil writes over all that a vault hands out, its spare room too.
func spoil(x *twin) {
	over(x.v.Image(), 77)
	for _, o := range x.now.handles() {
		over(x.v.Do(read(o, 24, 8)).Bytes, 77)
	}
	v, tree := x.v.View(), x.v.Tree()
	for _, k := range v.Kinds {
		over(k.Ptrs, 77)
	}
	for _, d := range v.Spans {
		over(d.Live, 77)
	}
	for _, b := range tree.Frames {
		over(b, 77)
	}
	over(v.Kinds, kindOf(77))
	over(v.Rows, api.Row{Gen: 77})
	over(v.Spans, api.Span{Page: 77})
	over(v.Bytes, 77)
	over(tree.Entries, api.Entry{First: 77})
	over(tree.Frames, nil)
	over(tree.Sectors, 77)
}

// over writes over a list, and over its spare room.
func over[T any](l []T, x T) {
	l = l[:cap(l)]
	for i := range l {
		l[i] = x
	}
}

// P24.3: an error of the layers 19 to 23 is told as it is: its number, and its sector.
func TestErrors(t *testing.T) {
	x := small(t, 2, 1, 4, 12)
	x.all(define(16), alloc(0, 0))
	x.save()
	for n := 1; ; n++ {
		y := x.opened(x.config)
		y.all(restore(256), write(65537, 0, "other"), arm(n), begin())
		for y.v.Up() && y.v.Busy() {
			y.do(step()) // which holds its sector against the model
		}
		if y.v.Up() {
			break
		}
		var fault *api.Fault
		if !errors.As(y.v.Err(), &fault) || !errors.Is(y.v.Err(), api.ErrDown) {
			t.Fatal(n, y.v.Err())
		}
		y.is(restore(256), api.ErrDown)
		if errors.As(y.v.Err(), &fault) {
			t.Fatal("the flush is at no sector")
		}
	}
}
