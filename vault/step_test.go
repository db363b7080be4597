package vault_test

import (
	"math"
	"slices"
	"strings"
	"testing"

	"hayloft/api"
	"hayloft/disk"
	"hayloft/heap"
	"hayloft/load"
	"hayloft/manifest"
	"hayloft/save"
	"hayloft/vault"
)

// anyInts are numbers at the edges of what there is.
var anyInts = []int{math.MinInt, math.MinInt + 1, -256, -8, -2, -1, 0, 1, 2, 7, 8, 9, 15, 16, 17, 256, 4096, 65536, math.MaxInt - 8, math.MaxInt - 1, math.MaxInt}

// heapSteps are steps of the heap alone, of which each layer 15 either does, or refuses for one of its reasons.
func heapSteps() []api.Op {
	ops := []api.Op{
		define(0), define(4097), define(4096), define(16, 0), define(24, 0, 16), define(24, 16, 0), define(24, 1), define(24, 24), define(128, slices.Repeat([]int{0}, 17)...),
		alloc(0, 0), alloc(0, 1), alloc(1, 2), alloc(2, 1), alloc(-1, 1), alloc(0, 3), alloc(0, -1), alloc(1, 1), alloc(0, 1), alloc(0, 0),
		set(name(1, 1), 0, name(2, 1)), set(name(2, 1), 0, name(1, 1)), set(name(2, 1), 1, name(2, 1)), set(name(2, 1), 2, 0), set(name(2, 1), -1, 0), set(name(9, 1), 0, 0),
		set(name(1, 1), 0, name(9, 1)), set(name(1, 1), 0, name(1, 2)), get(name(2, 1), 1), get(name(2, 1), 0), get(name(2, 1), 2), get(name(1, 2), 0), get(0, 0),
		write(name(1, 1), 8, "12345678"), write(name(1, 1), 9, "12345678"), write(name(1, 1), 7, "1"), write(name(1, 1), 16, ""), write(name(1, 1), 17, ""), write(name(7, 1), 8, "1"),
		read(name(1, 1), 8, 8), read(name(1, 1), 10, 3), read(name(1, 1), 8, 0), read(name(1, 1), 8, 9), read(name(1, 1), 7, 2), read(name(1, 1), -1, 1), read(name(1, 1), 8, -1), read(name(7, 1), 8, 1),
		free(2, name(2, 1)), free(0, name(2, 2)), free(1, name(2, 1)), free(1, name(2, 1)), get(name(1, 1), 0), alloc(0, 1), free(0, name(2, 1)),
		flush(0), flush(1), flush(2), flush(-1), scavenge(), compact(), read(name(1, 1), 8, 8), alloc(0, 1), alloc(0, 1), alloc(0, 1), alloc(0, 1), alloc(0, 1), alloc(0, 1),
	}
	for range 70 {
		ops = append(ops, define(9))
	}
	// behind these there are spans without objects, till they are given back
	for index := 1; index <= 6; index++ {
		ops = append(ops, free(0, name(index, 1)), free(1, name(index, 2)))
	}
	return append(ops, flush(0), flush(1), scavenge(), alloc(1, 1))
}

// busied fills what an op's Kind doesn't name.
func busied(op api.Op) api.Op {
	named := [][]string{
		1: {"n", "ptrs"}, 2: {"worker", "n"}, 3: {"worker", "handle"}, 4: {"handle", "at", "n"}, 5: {"handle", "at", "bytes"}, 6: {"handle", "n"}, 7: {"handle", "n", "to"},
		8: {"worker"}, 14: {"n"}, 15: {"keeps"}, 16: {"n"},
	}[op.Kind]
	junk := map[string]func(){
		"worker": func() { op.Worker = 1 << 40 }, "handle": func() { op.Handle = 1<<64 - 1 }, "to": func() { op.To = 65537 }, "at": func() { op.At = -7 }, "n": func() { op.N = math.MinInt },
		"bytes": func() { op.Bytes = []byte{7} }, "ptrs": func() { op.Ptrs = []int{3} }, "keeps": func() { op.Keeps = []int{64} },
	}
	for field, fill := range junk {
		if !slices.Contains(named, field) {
			fill()
		}
	}
	return op
}

// P24.2: each step of the heap alone is answered as layer 15 answers it, whatever stands in what its Kind doesn't name; its refusals, too; nothing else is told.
func TestHeap(t *testing.T) {
	for _, pages := range []int{1, 17, 40} {
		c := api.Config{Base: 512, Pages: pages, Workers: 2, Handles: 6, Sectors: 8}
		x := fresh(t, c)
		h, _ := heap.New(c)
		met := map[api.Errno]int{}
		for _, op := range heapSteps() {
			want := straight(h, op)
			if got := x.do(busied(op)); !sameAnswer(got, want) {
				t.Fatalf("%s: %v, not %v", told(op), got, want)
			}
			if !sameView(x.v.View(), h.View()) {
				t.Fatalf("%s: another view", told(op))
			}
			met[want.Err]++
		}
		for _, e := range []api.Errno{api.OK, api.ErrArg, api.ErrLong, api.ErrKind, api.ErrFull, api.ErrStale} {
			if met[e] == 0 {
				t.Error(e)
			}
		}
		if (met[api.ErrMemory] > 0) != (pages < 40) {
			t.Error(pages, met)
		}
	}
}

// straight does a step of the heap alone to a heap.
func straight(h *heap.Heap, op api.Op) (a api.Answer) {
	switch op.Kind {
	case 1:
		a.N, a.Err = h.Define(api.Kind{Size: op.N, Ptrs: op.Ptrs})
	case 2:
		a.Handle, a.Err = h.Alloc(op.Worker, op.N)
	case 3:
		a.Err = h.Free(op.Worker, op.Handle)
	case 4:
		a.Bytes, a.Err = h.Read(op.Handle, op.At, op.N)
	case 5:
		a.Err = h.Write(op.Handle, op.At, op.Bytes)
	case 6:
		a.Handle, a.Err = h.Get(op.Handle, op.N)
	case 7:
		a.Err = h.Set(op.Handle, op.N, op.To)
	case 8:
		a.Err = h.Flush(op.Worker)
	case 9:
		h.Scavenge()
	case 10:
		h.Compact()
	}
	return a
}

// P24.2: of a vault that isn't up the steps of the heap and of checkpoints are ErrDown, and do nothing; OpArm, OpCrash and OpRestore are done.
func TestDown(t *testing.T) {
	for _, how := range downs() {
		x := small(t, 4, 2, 6, 30)
		x.all(define(16, 0), alloc(0, 0))
		x.save()
		how(x)
		if x.v.Up() {
			t.Fatal("it is up")
		}
		for _, op := range append(heapSteps(), begin(), step(), drop()) {
			x.is(op, api.ErrDown)
			x.is(busied(op), api.ErrDown)
		}
		x.is(restore(1), api.ErrAddr)
		x.all(arm(1), arm(0), crash())
		x.tells(restore(1024), 1)
		x.is(get(65537, 0), api.OK)
	}
}

// downs are the ways in which a vault stops being up.
func downs() []func(x *twin) {
	return []func(x *twin){
		func(x *twin) { x.do(crash()) },
		func(x *twin) { x.do(crash(64, 64)) },
		func(x *twin) { x.all(begin(), step(), crash(1)) },
		func(x *twin) { x.all(arm(1), begin(), step()) },
		func(x *twin) { x.all(write(65537, 8, "x"), arm(3), begin(), step(), step(), step()) },
		func(x *twin) { x.all(arm(1), restore(256)) },
		func(x *twin) { x.all(arm(1), begin(), step(), restore(256)) },
		func(x *twin) { x.all(begin(), step(), arm(1), restore(256)) },
	}
}

// P24.2: OpBegin, OpStep and OpDrop with no checkpoint under way, with one ahead of its manifest, and with one whose manifest is written.
func TestCheckpoint(t *testing.T) {
	for _, sectors := range []int{8, 9, 30} {
		x := small(t, 4, 2, 6, sectors)
		x.all(define(16, 0), alloc(0, 0))
		for _, n := range []int{4, 1, 1, 1} {
			if x.tree.Seq > 0 && sectors == 8 && n == 4 {
				break
			}
			x.is(step(), api.ErrNone)
			x.is(drop(), api.ErrNone)
			x.tells(busied(begin()), n)
			x.is(busied(begin()), api.ErrBusy)
			for i := range n + 2 {
				x.tells(busied(step()), 0)
				x.is(begin(), api.ErrBusy)
				if i == n+1 {
					// its manifest may be sure already
					x.is(busied(drop()), api.ErrBusy)
					x.is(drop(), api.ErrBusy)
				}
			}
			x.tells(busied(step()), 1)
			x.is(step(), api.ErrNone)
			x.is(drop(), api.ErrNone)
		}
	}
}

// P24.2: OpDrop at each step, after which another checkpoint can be begun, and ends well.
func TestDrop(t *testing.T) {
	for n := range 9 {
		x := small(t, 4, 2, 6, 30)
		x.all(define(16, 0), alloc(0, 0))
		for range 3 {
			fresh := x.do(begin()).N
			for range min(n, fresh+2) {
				x.do(step())
			}
			want := api.OK
			if n >= fresh+2 {
				want = api.ErrBusy
			}
			x.is(drop(), want)
			if want == api.OK {
				x.is(drop(), api.ErrNone)
				x.is(step(), api.ErrNone)
				x.do(write(65537, 8, "other"))
				x.save()
			} else {
				x.tells(step(), 1)
			}
			x.do(write(65537, 9, "than"))
		}
		x.do(restore(256))
	}
}

// P24.2, P22.3: while a checkpoint is under way anything may be done to the heap; the checkpoint has it as it was.
func TestBeginTakesAllAtOnce(t *testing.T) {
	for n := range 9 {
		x := small(t, 6, 2, 9, 40)
		x.all(define(16, 0), define(300), alloc(0, 0), alloc(1, 1), write(65538, 0, strings.Repeat("hay", 100)), set(65537, 0, 65538))
		x.do(begin())
		for range n {
			x.do(step())
		}
		x.all(free(0, 65538), write(65537, 8, "other"), alloc(0, 0), define(8), alloc(1, 2), compact())
		for x.coming != nil {
			x.do(step())
		}
		x.tells(restore(1<<20), 1)
		x.is(read(65538, 299, 1), api.OK)
		x.is(alloc(0, 2), api.ErrKind)
	}
}

// P24.2: too few free sectors: the heap goes on, and what counts does.
func TestSectors(t *testing.T) {
	x := small(t, 20, 1, 60, 16)
	x.all(define(100, 0), define(700), alloc(0, 0))
	x.save()
	for range 4 {
		x.made(0, 1)
		x.is(begin(), api.ErrSectors)
		x.is(step(), api.ErrNone)
		x.is(drop(), api.ErrNone)
	}
	x.all(write(65537, 8, "goes on"), crash())
	x.tells(restore(256), 1)
	x.is(read(65538, 0, 1), api.ErrStale)
	x.do(write(65537, 8, "fits"))
	x.save()
}

// P24.2, P8: behind the last checkpoint's number there is none; the heap goes on.
func TestLastNumber(t *testing.T) {
	x := small(t, 2, 1, 4, 20)
	x.all(define(16), alloc(0, 0))
	x.save()
	for _, seq := range []int{1<<32 - 2, 1<<32 - 1} {
		y := withNumber(x, seq)
		y.tells(restore(512), seq)
		if seq < 1<<32-1 {
			y.do(write(65537, 0, "x"))
			y.save()
			y.do(crash())
			y.tells(restore(256), 1<<32-1)
		}
		for range 2 {
			a := y.v.Do(begin())
			if wrong := isError(y.v.Err(), api.ErrFull, nowhere); wrong != "" || !sameAnswer(a, api.Answer{Err: api.ErrFull}) {
				t.Fatalf("%v, %v: %s", a, y.v.Err(), wrong)
			}
			y.alike()
			y.all(write(65537, 1, "y"), alloc(0, 0), step(), drop())
		}
		y.tells(restore(256), 1<<32-1)
	}
}

// withNumber is another vault over the disk of one in whose slot 0 is a checkpoint, which has that number there.
func withNumber(x *twin, seq int) *twin {
	x.Helper()
	b := x.v.Image()
	m, _ := manifest.Read(b[:64])
	m.Seq = seq
	other, e := manifest.Bytes(m)
	if e != api.OK {
		x.Fatal(e)
	}
	copy(b, other)
	v, err := vault.Open(x.config, b)
	if err != nil {
		x.Fatal(err)
	}
	y := &twin{T: x.T, v: v, config: x.config, sectors: x.sectors, saved: x.saved, tree: x.tree}
	y.tree.Seq = seq
	return y
}

// P24.2: OpArm counts writes and flushes from then on; of a disk without power it does nothing.
func TestArm(t *testing.T) {
	for _, n := range anyInts {
		x := small(t, 2, 1, 4, 20)
		x.all(define(16), alloc(0, 0), arm(2), busied(arm(n)), begin())
		for x.now != nil && x.coming != nil {
			x.do(step())
		}
		if x.v.Up() != (n < 1 || n > 7) {
			t.Error(n)
		}
		x.all(arm(1), restore(256), arm(0), restore(256), crash(), restore(256), alloc(0, 0), arm(1), crash())
		x.is(restore(256), api.OK)
	}
}

// P24.2: another Kind.
func TestOtherKinds(t *testing.T) {
	x := small(t, 2, 1, 4, 20)
	x.all(define(16), alloc(0, 0), begin(), step())
	for _, kind := range []int{math.MinInt, -16, -1, 0, 17, 18, 1 << 32, 1<<32 + 1, math.MaxInt} {
		x.is(api.Op{Kind: kind}, api.ErrArg)
		x.is(api.Op{Kind: kind, N: 256, Handle: 65537, Keeps: []int{64}, Bytes: []byte{1}, Ptrs: []int{0}}, api.ErrArg)
	}
	x.do(crash())
	x.is(api.Op{Kind: 17}, api.ErrArg)
	x.is(api.Op{}, api.ErrArg)
}

// P24.2: a base that isn't Good does nothing at all; the errors of OpRestore come in their order.
func TestRestoreRefused(t *testing.T) {
	for _, base := range badBases {
		x := small(t, 2, 1, 4, 20)
		x.all(define(16), alloc(0, 0), begin(), step(), step())
		// on one that is up, with a checkpoint under way, which isn't touched, nor is the disk
		before := x.v.Image()
		x.is(restore(base), api.ErrAddr)
		if x.coming == nil || !slices.Equal(before, x.v.Image()) {
			t.Fatal(base)
		}
		for x.coming != nil {
			x.do(step())
		}
		x.all(arm(1), begin(), step())
		// without power
		x.is(restore(base), api.ErrAddr)
		x.is(restore(256), api.ErrDown)
		x.is(restore(base), api.ErrAddr)
		x.do(crash())
		x.is(restore(base), api.ErrAddr)
		x.all(arm(1))
		x.is(restore(base), api.ErrAddr)
		x.is(restore(512), api.ErrDown)
	}
}

// P24.2: a restore lower, higher, and where it is, of one that is up, of one that isn't, with a checkpoint under way, on an empty disk, and on one with checkpoints.
func TestRestore(t *testing.T) {
	for checkpoints := range 4 {
		for _, base := range goodBases {
			for under := range 10 {
				for _, up := range []bool{true, false} {
					x := fresh(t, api.Config{Base: 1 << 20, Pages: 3, Workers: 2, Handles: 9, Sectors: 40})
					x.all(define(16, 0), define(40, 8, 32), alloc(0, 0), alloc(1, 1), set(65537, 0, 65538), set(65538, 1, 65537), write(65538, 0, "hay"))
					for i := range checkpoints {
						x.do(write(65538, 16, strings.Repeat("x", i)))
						x.save()
					}
					x.all(write(65538, 16, "behind it"), begin())
					for i := range under - 1 {
						if i < 8 && x.coming != nil {
							x.do(step())
						}
					}
					if !up {
						x.do(crash(64 * (under % 2)))
					}
					x.do(restore(base))
					if x.v.View().Base != base {
						t.Fatal(base)
					}
					x.all(get(65537, 0), get(65538, 1), read(65538, 16, 9), alloc(0, 0), alloc(1, 1))
					if base < 1<<40 {
						x.do(restore(base + 256))
					}
				}
			}
		}
	}
}

// P24.2, P24.3: of checkpoints none of which reads a restore tells ErrCorrupt, and what was met first of the newest one; it isn't up then.
func TestCorrupt(t *testing.T) {
	x := small(t, 6, 2, 9, 60)
	x.all(define(40, 0, 8), define(700), alloc(0, 0), alloc(1, 1), set(65537, 1, 65538))
	x.save()
	x.do(write(65538, 5, "another"))
	x.save()
	for _, sector := range x.tree.Sectors {
		y := turned(x, sector)
		d, _ := disk.Lay(y.v.Image())
		found, err := load.Load(d, 512)
		for range 2 {
			a := y.v.Do(restore(512))
			if err == nil {
				if a.Err != api.OK || a.N != 1 || found.Tree.Seq != 1 || !sameView(y.v.View(), found.View) || !sameTree(y.v.Tree(), found.Tree) {
					t.Fatal(sector, a, y.v.Err())
				}
				continue
			}
			if wrong := isError(y.v.Err(), api.ErrCorrupt, sector, api.ErrSum); wrong != "" || !sameAnswer(a, api.Answer{Err: api.ErrCorrupt}) || !isDown(y.v) {
				t.Fatal(sector, a, y.v.Err(), wrong)
			}
			for _, op := range []api.Op{alloc(0, 0), begin(), step(), drop()} {
				if a := y.v.Do(op); a.Err != api.ErrDown {
					t.Fatal(a)
				}
			}
			if a := y.v.Do(crash()); a.Err != api.OK || y.v.Err() != nil {
				t.Fatal(a)
			}
		}
	}
}

// turned is a vault over a disk in one of whose sectors a bit is turned.
func turned(x *twin, sector int) *twin {
	x.Helper()
	b := x.v.Image()
	b[64*sector+sector%60] ^= 4
	v, err := vault.Open(x.config, b)
	if err != nil {
		x.Fatal(err)
	}
	return &twin{T: x.T, v: v, config: x.config, sectors: x.sectors, tree: save.None()}
}

// P24.2: a vault that was up loses its heap when the restore fails.
func TestRestoreThatFails(t *testing.T) {
	b := func() []byte {
		x := small(t, 2, 1, 4, 12)
		x.do(define(16))
		x.save()
		return x.v.Image()
	}()
	b[64*2] ^= 1
	v, _ := vault.Open(api.Config{Base: 256, Pages: 2, Workers: 1, Handles: 4}, b)
	if a := v.Do(restore(256)); a.Err != api.ErrCorrupt || v.Up() {
		t.Error(a)
	}
	x := small(t, 2, 1, 4, 12)
	x.all(define(16), begin(), step(), arm(1))
	x.is(restore(256), api.ErrDown)
	x.is(restore(256), api.ErrDown)
	x.do(crash(64))
	x.tells(restore(256), 0)
}

// P24.2: with the heap that is found come its own pages, workers and handles, whatever the config has; the next checkpoint has them, too.
func TestWhoseConfig(t *testing.T) {
	x := small(t, 5, 3, 7, 30)
	x.all(define(700), alloc(2, 0))
	x.save()
	y := x.opened(api.Config{Base: 256, Pages: 1, Workers: 1, Handles: 1, Sectors: 9})
	y.tells(restore(256), 1)
	y.is(alloc(2, 0), api.ErrMemory)
	y.is(alloc(3, 0), api.ErrArg)
	y.do(define(1))
	for i := range 6 {
		y.made(i%3, 1)
	}
	y.is(alloc(2, 1), api.ErrFull)
	y.is(free(2, name(2, 1)), api.OK)
	y.save()
	y.all(crash())
	y.tells(restore(2048), 2)
	y.is(alloc(3, 1), api.ErrArg)
	y.is(alloc(2, 1), api.OK)
	y.is(alloc(2, 1), api.ErrFull)
	y.save()
}
