package load_test

import (
	"bytes"
	"encoding/binary"
	"math"
	"slices"
	"testing"

	"hayloft/api"
	"hayloft/disk"
	"hayloft/load"
	"hayloft/save"
)

// diskOf is a disk of so many sectors, all noughts.
func diskOf(t *testing.T, sectors int) *disk.Disk {
	t.Helper()
	d, e := disk.New(sectors)
	if e != api.OK {
		t.Fatal(e)
	}
	return d
}

// saves saves a view behind a tree: the tree that counts then.
func saves(t *testing.T, d *disk.Disk, tree save.Tree, v api.View, workers, handles int) save.Tree {
	t.Helper()
	s, err := save.New(d, tree)
	if err == nil {
		err = s.Begin(v, workers, handles)
	}
	for done := false; err == nil && !done; {
		done, err = s.Step()
	}
	if err != nil {
		t.Fatal(err)
	}
	return s.Tree()
}

// saved is a disk with these views, one saved behind the other.
func saved(t *testing.T, sectors int, views ...api.View) (*disk.Disk, save.Tree) {
	t.Helper()
	d, tree := diskOf(t, sectors), save.None()
	for _, v := range views {
		tree = saves(t, d, tree, v, 1, max(2, len(v.Rows)))
	}
	return d, tree
}

// withoutPower takes a disk its power.
func withoutPower(d *disk.Disk) {
	d.Arm(1)
	d.Flush()
}

// P23.1, P23.3: the chapter's examples.
func TestExamples(t *testing.T) {
	d, tree := saved(t, 16, example())
	f, err := load.Load(d, 512)
	want := example()
	want.Base = 512
	binary.LittleEndian.PutUint64(want.Bytes, 528)
	if err != nil || !sameView(f.View, want) || f.Workers != 1 || f.Handles != 2 || !sameTree(f.Tree, tree) {
		t.Error(f, err)
	}
	for bit := range 512 {
		turn(d, 3, bit)
		fails(t, d, 512, corrupt(api.ErrSum, 3))
		turn(d, 3, bit)
	}
}

// badBases aren't Good.
var badBases = []int{math.MinInt, -256, -1, 0, 1, 100, 255, 257, 511, 1<<40 - 1, 1<<40 + 1, 1<<40 + 256, math.MaxInt - 255, math.MaxInt}

// P23.1: ErrNil, ErrAddr, and the error of Find, in this order.
func TestRefused(t *testing.T) {
	for _, base := range append(badBases, 256, 512, 1<<40) {
		fails(t, nil, base, refuses(api.ErrNil))
	}
	for _, d := range []*disk.Disk{diskOf(t, 8), on(t, 200, forge(wide(), 7, 0, 20))} {
		for _, base := range badBases {
			fails(t, d, base, refuses(api.ErrAddr))
		}
		withoutPower(d)
		for _, base := range badBases {
			fails(t, d, base, refuses(api.ErrAddr))
		}
		for _, base := range []int{256, 512, 1 << 40} {
			fails(t, d, base, meets(api.ErrDown, 0))
		}
	}
	d, _ := saved(t, 16, example())
	withoutPower(d)
	fails(t, d, 512, meets(api.ErrDown, 0))
	d.Crash(nil)
	finds(t, d, 512, example(), 1, 0)
}

// findsNothing holds that no checkpoint is told of a disk.
func findsNothing(t *testing.T, d *disk.Disk) {
	t.Helper()
	for _, base := range []int{256, 512, 1 << 40} {
		f, err := load.Load(d, base)
		if err != nil || !sameFound(f, load.Found{Tree: save.None()}) || f.Tree.Slot != -1 {
			t.Error(brief(f), err)
		}
	}
}

// P23.1: nothing is found.
func TestNothing(t *testing.T) {
	for _, sectors := range []int{8, 9, 16, 65536} {
		findsNothing(t, diskOf(t, sectors))
	}
	d := diskOf(t, 16)
	for s := range 16 {
		d.Write(s, bytes.Repeat([]byte{byte(17 * s)}, 64))
	}
	findsNothing(t, d)
	// all but its manifest
	d, _ = saved(t, 16, example())
	d.Write(0, nil)
	findsNothing(t, d)
	for sector := range 16 {
		// a manifest where none is looked for
		if sector != 0 && sector != 15 {
			write(t, d, sector, manifestBytes(1, 4, 30))
		}
	}
	findsNothing(t, d)
	for bit := range 512 {
		d, _ = saved(t, 16, example())
		turn(d, 0, bit)
		findsNothing(t, d)
	}
}

// P23.1: one manifest, or two of them.
func TestSlots(t *testing.T) {
	v := wide()
	for _, x := range []struct {
		seqs      [2]int // of slot 0 and 1; 0: none
		slot, seq int
	}{
		{[2]int{1, 0}, 0, 1}, {[2]int{0, 1}, 1, 1}, {[2]int{1, 2}, 1, 2}, {[2]int{2, 1}, 0, 2}, {[2]int{3, 9}, 1, 9}, {[2]int{9, 3}, 0, 9},
		{[2]int{5, 5}, 0, 5}, {[2]int{1<<32 - 1, 1}, 0, 1<<32 - 1}, {[2]int{1<<32 - 2, 1<<32 - 1}, 1, 1<<32 - 1}, {[2]int{256, 255}, 0, 256},
	} {
		var l []*forgery
		views := []api.View{example(), v}
		for slot, seq := range x.seqs {
			if seq > 0 {
				l = append(l, forge(views[slot], seq, slot, 1+100*slot))
			}
		}
		d := on(t, 200, l...)
		finds(t, d, 4096, views[x.slot], x.seq, x.slot)
		// where the first one found doesn't read well, the other one is told, if there is any
		newest := l[len(l)-1]
		if newest.seq != x.seq || newest.slot != x.slot {
			newest = l[0]
		}
		turn(d, newest.top.first(), 77)
		if len(l) == 1 {
			fails(t, d, 4096, corrupt(api.ErrSum, newest.top.first()))
			continue
		}
		other := 1 - x.slot
		finds(t, d, 4096, views[other], x.seqs[other], other)
		older := l[other]
		turn(d, older.pieces[1].first(), 77)
		fails(t, d, 4096, corrupt(api.ErrSum, newest.top.first()))
		// the same one once more: now what is told of the older one isn't ErrCorrupt any more
		turn(d, newest.top.first(), 77)
		finds(t, d, 4096, views[x.slot], x.seq, x.slot)
	}
}

// P23.3: heaps of each size, at each base.
func TestSizes(t *testing.T) {
	views := []api.View{empty(1), empty(2), empty(4096), example(), wide(), large(129), large(4096), fields(1), fields(70)}
	for _, n := range []int{1, 15, 16, 17, 32, 33, 48, 49, 63, 64} {
		v := empty(3)
		v.Kinds = kindsOf(n)
		views = append(views, v)
	}
	for _, n := range []int{1, 31, 32, 33, 63, 64, 65, 96, 97, 4095, 4096} {
		v := empty(3)
		v.Rows = rowsOf(n)
		views = append(views, v)
	}
	v := wide()
	v.Spans, v.Rows = nil, nil
	views = append(views, v)
	for i, v := range views {
		d, tree := saved(t, 1500, v)
		for _, base := range []int{256, v.Base, v.Base + 256, 1 << 20, 1<<40 - 256, 1 << 40} {
			if f := finds(t, d, base, v, 1, 0); !sameTree(f.Tree, tree) || f.Workers != 1 || f.Handles != max(2, len(v.Rows)) {
				t.Error(i, brief(f))
			}
		}
	}
}

// P23.3: lower and higher, from any base to any other one.
func TestBases(t *testing.T) {
	bases := []int{256, 512, 4096, 1 << 16, 1<<31 - 256, 1 << 32, 1<<40 - 256, 1 << 40}
	for _, from := range bases {
		d, _ := saved(t, 100, at(wide(), from))
		for _, to := range bases {
			f := finds(t, d, to, wide(), 1, 0)
			// saved there, it comes back from there
			there, _ := saved(t, 100, f.View)
			for _, back := range bases {
				finds(t, there, back, wide(), 1, 0)
			}
		}
	}
}

// P23.3: the live slots' bytes are all of them told, behind their objects, too; what lies elsewhere is nought.
func TestBytes(t *testing.T) {
	v := wide()
	v.Kinds[1].Size, v.Kinds[3].Size = 17, 1
	d, _ := saved(t, 100, v)
	f := finds(t, d, 4096, v, 1, 0)
	same := 0
	for i, b := range f.View.Bytes {
		if b == v.Bytes[i] && b != 0 {
			same++
		}
	}
	own := 3*16 + 24 + 300 + 2*24 + 300
	if same > own || same < own-80 || !bytes.Equal(f.View.Bytes[16:32], v.Bytes[16:32]) || !bytes.Equal(f.View.Bytes[592:608], v.Bytes[592:608]) || f.View.Bytes[32] != 0 || f.View.Bytes[608] != 0 {
		t.Error(same, own)
	}
}

// P23.3: what is told of the workers and the handles.
func TestWorkersAndHandles(t *testing.T) {
	for _, x := range [][2]int{{1, 2}, {8, 4096}, {3, 77}, {8, 2}, {1, 4096}} {
		d := diskOf(t, 16)
		saves(t, d, save.None(), example(), x[0], x[1])
		f := finds(t, d, 512, example(), 1, 0)
		if f.Workers != x[0] || f.Handles != x[1] {
			t.Error(x, f.Workers, f.Handles)
		}
	}
}

// P23.3: the tree is the saver's own, and a saver goes on from it as from that.
func TestTree(t *testing.T) {
	changed := wide()
	changed.Kinds = append(changed.Kinds, kindOf(9))
	changed.Bytes[30]++
	dead := wide()
	dead.Rows[39], dead.Spans[4].Live = gone(9), nil
	binary.LittleEndian.PutUint64(dead.Bytes[584:], 0)
	views := []api.View{example(), wide(), wide(), changed, dead, large(1000), empty(2), example(), at(wide(), 512), changed}
	one, two := diskOf(t, 120), diskOf(t, 120)
	tree := save.None()
	for i, v := range views {
		f, err := told(t, two, 256)
		if err != nil || !sameTree(f.Tree, tree) {
			t.Fatal(i, err, f.Tree, tree)
		}
		tree = saves(t, one, tree, v, 2, 100)
		if again := saves(t, two, f.Tree, v, 2, 100); !sameTree(again, tree) || !bytes.Equal(one.Image(), two.Image()) {
			t.Fatal(i, again, tree)
		}
		f = finds(t, two, 1<<20, v, i+1, i%2)
		// all that was saved is in the tree, so that, back at its own base, the root alone is to be written
		s, _ := save.New(two, f.Tree)
		if err := s.Begin(at(f.View, v.Base), 2, 100); err != nil || s.Fresh() != 1 {
			t.Error(i, err, s.Fresh())
		}
	}
}

// What is handed out has nothing in common with what else is handed out, or with the disk.
func TestWhatIsHandedOut(t *testing.T) {
	d, _ := saved(t, 100, wide())
	want, _ := told(t, d, 512)
	want = copyOf(want)
	for i := range spoilers(want) {
		got, _ := load.Load(d, 512)
		own := copyOf(got)
		spoilers(got)[i]()
		spoilers(own)[i]()
		if !sameFound(got, own) {
			t.Errorf("the list %d shares memory with another one", i)
		}
	}
	got, _ := load.Load(d, 512)
	other, _ := load.Load(d, 512)
	for _, spoil := range spoilers(got) {
		spoil()
	}
	if again, _ := told(t, d, 512); !sameFound(other, want) || !sameFound(again, want) {
		t.Error("two answers share memory, or an answer and the disk")
	}
	nothing, _ := load.Load(diskOf(t, 8), 512)
	for _, spoil := range spoilers(nothing) {
		spoil()
	}
	findsNothing(t, diskOf(t, 8))
}

// P23.1: what is pending is read as what is sure is.
func TestPending(t *testing.T) {
	d := diskOf(t, 60)
	s, _ := save.New(d, save.None())
	if err := s.Begin(wide(), 1, 40); err != nil {
		t.Fatal(err)
	}
	for n := s.Fresh() + 2; n > 0; n-- {
		findsNothing(t, d)
		s.Step()
	}
	if d.Pending() != 1 {
		t.Fatal(d.Pending())
	}
	finds(t, d, 512, wide(), 1, 0)
	s.Step()
	finds(t, d, 512, wide(), 1, 0)
}

// A disk that was made by nobody ends in an error.
func TestNoDisk(t *testing.T) {
	if f, err := load.Load(&disk.Disk{}, 512); err == nil || !sameFound(f, load.Found{}) {
		t.Error(f, err)
	}
}

// P23.1: the greatest disk, and a heap of many frames.
func TestMany(t *testing.T) {
	d, tree := saved(t, 65536, example(), fields(300))
	f, err := load.Load(d, 1<<30)
	if err != nil || !sameView(f.View, at(fields(300), 1<<30)) || !sameTree(f.Tree, tree) {
		t.Error(brief(f), err)
	}
	last := slices.Max(tree.Sectors)
	turn(d, last, 5)
	finds(t, d, 512, example(), 1, 0)
}
