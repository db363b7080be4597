package save_test

import (
	"bytes"
	"math"
	"slices"
	"testing"

	"hayloft/api"
	"hayloft/disk"
	"hayloft/manifest"
	"hayloft/save"
)

// P22.4: nothing is under way: at first, behind the last step, behind Drop.
func TestStepOfNothing(t *testing.T) {
	b := benchOf(t, 16)
	none := func() {
		t.Helper()
		for range 2 {
			if done, e := b.step(); done || e != api.ErrNone {
				t.Error(done, e)
			}
		}
	}
	none()
	b.begins(example(), 0, 2, api.ErrForm)
	none()
	b.saves(example(), 1, 2)
	none()
	b.begins(example(), 1, 2, api.OK)
	b.drop()
	none()
	// it is asked ahead of the disk
	b.arm(1)
	b.d.Flush()
	none()
}

// P22.4: each step of the order: what it answers, and what is pending and sure behind it.
func TestStepOrder(t *testing.T) {
	b := benchOf(t, 32)
	v := large(100 + 29)
	b.begins(v, 1, 1, api.OK)
	tree := b.m.coming
	if want := []int{1, 2, 3, 4, 5, 6}; !slices.Equal(tree.Sectors, want) {
		t.Fatal(tree.Sectors)
	}
	for i, s := range tree.Sectors {
		if done, e := b.step(); done || e != api.OK || b.d.Pending() != i+1 {
			t.Fatal(i, s, done, e)
		}
		written, _ := b.d.Read(s)
		if bytes.Equal(written, make([]byte, 64)) {
			t.Errorf("nothing is written to the sector %d", s)
		}
	}
	for i, x := range []struct {
		done    bool
		pending int
		marks   int
	}{{false, 0, 0}, {false, 1, 1}, {true, 0, 1}} {
		done, e := b.step()
		found, _ := manifest.Find(b.d)
		if e != api.OK || done != x.done || b.d.Pending() != x.pending || len(found) != x.marks {
			t.Error(i, done, e, b.d.Pending(), found)
		}
	}
	b.readable(tree)
}

// P22.4: the power fails at each of the steps, of the first checkpoint and of later ones.
func TestStepPower(t *testing.T) {
	second, third := several(), several()
	second.Kinds = append(second.Kinds, kindOf(1))
	third.Rows[4].Gen++
	for ahead := range 3 {
		for n := 1; ; n++ {
			b := benchOf(t, 60)
			for _, v := range []api.View{example(), second}[:ahead] {
				b.saves(v, 1, 8)
			}
			old := b.s.Tree()
			b.begins(third, 2, 9, api.OK)
			todo, fresh := b.m.todo, b.s.Fresh()
			if n > len(todo) {
				break
			}
			b.arm(n)
			for range n - 1 {
				if done, e := b.step(); done || e != api.OK {
					t.Fatal(done, e)
				}
			}
			at := todo[n-1].sector
			if wantAt := sectorAt(b, fresh, n); at != wantAt {
				t.Errorf("the step %d is to be at %d, not %d", n, wantAt, at)
			}
			// that it is told at that sector, and what else is told then, is held by the bench
			if done, e := b.step(); done || e != api.ErrDown {
				t.Fatal(done, e)
			}
			if b.s.Busy() || b.s.Drop() || !sameTree(b.s.Tree(), old) || b.s.Fresh() != fresh {
				t.Error(n, b.s.Tree())
			}
			if done, e := b.step(); done || e != api.ErrNone {
				t.Error(done, e)
			}
			b.begins(third, 2, 9, api.ErrDown)
			b.crash(nil)
			b.readable(old)
			b.saves(third, 2, 9)
		}
	}
}

// sectorAt is where an error of the n-th step is told, of a checkpoint that is under way.
func sectorAt(b *bench, fresh, n int) int {
	if n == fresh+1 || n == fresh+3 {
		return -1
	}
	if n == fresh+2 {
		return []int{0, b.d.Len() - 1}[b.m.coming.Slot]
	}
	own := slices.DeleteFunc(slices.Clone(b.m.coming.Sectors), func(s int) bool { return slices.Contains(b.m.tree.Sectors, s) })
	return own[n-1]
}

// P22.4: the power went between two steps.
func TestStepWithoutPower(t *testing.T) {
	for n := range 7 {
		b := benchOf(t, 16)
		b.begins(example(), 1, 2, api.OK)
		for range n {
			b.step()
		}
		b.arm(1)
		b.d.Flush()
		if done, e := b.step(); done || e != api.ErrDown || b.s.Busy() {
			t.Error(n, done, e)
		}
	}
}

// P22.5: Drop behind each step, and a checkpoint that is begun anew behind it.
func TestDrop(t *testing.T) {
	for ahead := range 3 {
		for n := 0; ; n++ {
			b := benchOf(t, 60)
			if b.drop() {
				t.Error("nothing was under way")
			}
			for range ahead {
				b.saves(example(), 1, 2)
			}
			if b.drop() {
				t.Error("nothing is under way any more")
			}
			old, free := b.s.Tree(), b.s.Free()
			b.begins(several(), 1, 8, api.OK)
			steps, fresh := len(b.m.todo), b.s.Fresh()
			if n == steps {
				break
			}
			for range n {
				b.step()
			}
			if got := b.drop(); got != (n < steps-1) {
				t.Errorf("Drop behind %d of %d steps: %v", n, steps, got)
			}
			if n == steps-1 {
				if !b.s.Busy() || b.drop() {
					t.Error("the manifest may be sure")
				}
				b.steps()
				continue
			}
			if b.drop() || b.s.Busy() || !sameTree(b.s.Tree(), old) || b.s.Free() != free || b.s.Fresh() != fresh {
				t.Error(n, b.s.Tree(), b.s.Free(), b.s.Fresh())
			}
			b.readable(old)
			b.begins(several(), 1, 8, api.OK)
			if b.s.Fresh() != fresh {
				t.Error(b.s.Fresh())
			}
			b.steps()
		}
	}
}

// P22.5: what is told ahead of Begin, while a checkpoint is under way, and behind it.
func TestWhatIsTold(t *testing.T) {
	b := benchOf(t, 20)
	tells := func(busy bool, seq, free, fresh int) {
		t.Helper()
		if b.s.Busy() != busy || b.s.Tree().Seq != seq || b.s.Free() != free || b.s.Fresh() != fresh {
			t.Error(b.s.Busy(), b.s.Tree().Seq, b.s.Free(), b.s.Fresh())
		}
	}
	tells(false, 0, 18, 0)
	b.begins(example(), 1, 1, api.ErrForm)
	tells(false, 0, 18, 0)
	b.begins(example(), 1, 2, api.OK)
	for range 6 {
		tells(true, 0, 14, 4)
		b.step()
	}
	tells(true, 0, 14, 4)
	b.step()
	tells(false, 1, 14, 4)
	v := example()
	v.Bytes[9] = 9
	b.begins(v, 1, 2, api.OK)
	tells(true, 1, 12, 2)
	b.drop()
	tells(false, 1, 14, 2)
	b.begins(large(4096), 1, 1, api.ErrSectors)
	tells(false, 1, 14, 2)
	b.begins(large(129), 1, 1, api.OK)
	tells(true, 1, 8, 6)
	b.begins(v, 1, 2, api.ErrBusy)
	tells(true, 1, 8, 6)
	b.arm(2)
	b.step()
	b.step()
	tells(false, 1, 14, 6)
	b.begins(v, 1, 2, api.ErrDown)
	tells(false, 1, 14, 6)
	b.crash(nil)
	b.saves(v, 1, 2)
	tells(false, 2, 14, 2)
	b.saves(v, 1, 2)
	tells(false, 3, 14, 1)
}

// P22.6: until the last Flush the tree that counts stays as it is on the disk, whatever of what was pending is kept, and however it is torn.
func TestOldTreeStays(t *testing.T) {
	keeps := [][]int{nil, slices.Repeat([]int{64}, 40), slices.Repeat([]int{63}, 40), slices.Repeat([]int{1}, 40), slices.Repeat([]int{0, 64}, 20), slices.Repeat([]int{64, 0, 33}, 14), {0, 0, 0, 64}}
	for _, views := range [][]api.View{{example(), several()}, {several(), example()}, {example(), example()}, {several(), empty(1), large(1000)}} {
		for n := 1; ; n++ {
			done := 0
			for _, keep := range keeps {
				b := benchOf(t, 80)
				for _, v := range views[:len(views)-1] {
					b.saves(v, 1, 8)
				}
				old := b.s.Tree()
				b.begins(views[len(views)-1], 1, 8, api.OK)
				if n > len(b.m.todo) {
					done++
					continue
				}
				coming := b.m.coming
				b.arm(n)
				for range n {
					b.step()
				}
				b.crash(keep)
				b.readable(old)
				b.isOneOf(old, coming)
			}
			if done == len(keeps) {
				break
			}
		}
	}
}

// isOneOf holds that the newest manifest is one of these trees', and leads to all of it.
func (b *bench) isOneOf(old, coming save.Tree) {
	b.Helper()
	found, err := manifest.Find(b.d)
	if err != nil || len(found) == 0 {
		b.Fatal(found, err)
	}
	switch found[0].Manifest.Seq {
	case old.Seq:
	case coming.Seq:
		b.readable(coming)
	default:
		b.Fatal(found)
	}
}

// P22.6: nothing is written to a sector of the tree that counts, or to its slot, whatever is written there; of each checkpoint, the one ahead of it can be read.
func TestNothingOfTheTreeIsWritten(t *testing.T) {
	chance := noise(2206)
	for range 10 {
		b := benchOf(t, 150)
		x := barnOf(t, chance)
		for range 10 {
			x.change(10)
			if b.begin(x.h.View(), x.workers, x.handles) == api.OK {
				b.leavesTheTree()
			}
		}
	}
}

// leavesTheTree does all steps, and holds that none but the last one does anything to the tree that counts.
func (b *bench) leavesTheTree() {
	b.Helper()
	old := b.s.Tree()
	own := slices.Clone(old.Sectors)
	if old.Slot >= 0 {
		own = append(own, b.m.slotSector(old.Slot))
	}
	for len(b.m.todo) > 1 {
		if o := b.m.todo[0]; slices.Contains(own, o.sector) {
			b.Fatal(o.sector, old)
		}
		b.step()
		b.readable(old)
	}
	b.steps()
}

// P22.6: of a view that was saved, the root alone is written again.
func TestSavedAgain(t *testing.T) {
	for _, v := range []api.View{example(), several(), large(4096), empty(5), fields(60)} {
		b := benchOf(t, 700)
		b.saves(v, 1, 4096)
		for range 5 {
			ops := b.d.Ops()
			own := count(rootFrame(v, 1, 4096, b.s.Tree().Entries))
			n := b.saves(roomy(v), 1, 4096)
			if n != own+3 || b.s.Fresh() != own || b.d.Ops() != ops+n {
				t.Error(n, b.s.Fresh(), own)
			}
		}
		// what isn't in a frame but the root's
		b.saves(v, 8, 4095+len(v.Rows)/4096)
		if own := count(rootFrame(v, 8, 4096, b.s.Tree().Entries)); b.s.Fresh() != own {
			t.Error(b.s.Fresh(), own)
		}
	}
}

// What was handed in isn't changed, its spare room included.
func TestNothingHandedInIsChanged(t *testing.T) {
	for _, v := range append(broken(), example(), several(), empty(2), large(777)) {
		v = roomy(v)
		own := whole(v)
		b := benchOf(t, 100)
		save.Frames(v)
		e := b.begin(v, 1, 8)
		for e == api.OK && len(b.m.todo) > 0 {
			b.step()
		}
		b.begin(v, 1, 8)
		if !sameView(whole(v), own) {
			t.Error("the view was changed")
		}
	}
	b := saved(t)
	tree := b.s.Tree()
	tree.Entries = append(tree.Entries, api.Entry{Type: 9})[:3]
	tree.Frames = append(tree.Frames, []byte{9, 9})[:3]
	tree.Sectors = append(tree.Sectors, 9, 9)[:4]
	for i := range tree.Frames {
		tree.Frames[i] = append(tree.Frames[i], 9, 9)[:len(tree.Frames[i])]
	}
	s, _ := save.New(b.d, tree)
	v := example()
	v.Bytes[8] = 1
	for range 3 {
		s.Begin(v, 1, 2)
		for range 7 {
			s.Step()
		}
		v.Kinds = append(v.Kinds, kindOf(5))
	}
	for i, f := range tree.Frames {
		if room := f[:len(f)+2]; room[len(f)] != 9 || room[len(f)+1] != 9 || !bytes.Equal(f, b.s.Tree().Frames[i]) {
			t.Error("a frame was changed")
		}
	}
	if !sameTree(tree, b.s.Tree()) || tree.Entries[:4][3].Type != 9 || len(tree.Frames[:4][3]) != 2 || tree.Sectors[:6][4] != 9 || tree.Sectors[:6][5] != 9 {
		t.Error("the tree was changed")
	}
}

// What is handed out has nothing in common with what was handed in, with what is kept, or with another answer.
func TestWhatIsHandedOut(t *testing.T) {
	v := several()
	l, _ := save.Frames(v)
	other, _ := save.Frames(v)
	want := modelFrames(v)
	for i := range l {
		fill(l[i].Bytes, 77)
		for k := range l {
			if k > i && !samePiece(l[k], want[k]) {
				t.Fatal("pieces share memory", i, k)
			}
		}
	}
	fill(l, save.Piece{})
	if !slices.EqualFunc(other, want, samePiece) || !sameView(v, several()) {
		t.Error("two answers share memory, or an answer and a view")
	}

	b := benchOf(t, 100)
	b.saves(v, 1, 8)
	tree := copyOfTree(b.s.Tree())
	spoilTree(b.s.Tree())
	b.holds()
	one := b.s.Tree()
	for i := range one.Frames {
		fill(one.Frames[i], 77)
		for k := i + 1; k < len(one.Frames); k++ {
			if !bytes.Equal(one.Frames[k], tree.Frames[k]) {
				t.Fatal("frames share memory", i, k)
			}
		}
	}
	// a checkpoint that is under way, and the one that keeps its frames
	b.begins(v, 1, 8, api.OK)
	spoilTree(b.s.Tree())
	b.steps()
	spoilTree(b.s.Tree())
	b.holds()
	b.saves(v, 1, 8)
	spoilTree(save.None())
	if !sameTree(save.None(), save.Tree{Slot: -1}) {
		t.Error(save.None())
	}
}

// P22.3 to P22.6: any heaps, any steps, any failures of the power.
func TestAnything(t *testing.T) {
	chance := noise(2203)
	for range 60 {
		b := benchOf(t, 8+chance(250))
		x := barnOf(t, chance)
		for range 60 {
			x.change(chance(8))
			v, workers, handles := x.h.View(), x.workers, x.handles
			if chance(10) == 0 {
				workers, handles = chance(11)-1, chance(4)*chance(2000)
			}
			if chance(20) == 0 {
				v.Bytes[chance(len(v.Bytes))]++
			}
			b.begin(v, workers, handles)
			b.goesOn(chance)
		}
	}
}

// goesOn does some steps, perhaps the last one, and perhaps something else.
func (b *bench) goesOn(chance func(below int) int) {
	b.Helper()
	if chance(4) == 0 {
		b.arm(chance(30))
	}
	for range 1 + chance(60) {
		old, coming := b.m.tree, b.m.coming
		left := len(b.m.todo)
		if _, e := b.step(); e != api.ErrDown {
			if chance(40) == 0 {
				b.drop()
			}
			continue
		}
		b.begin(example(), 1, 2)
		var keeps []int
		for range b.d.Pending() {
			keeps = append(keeps, chance(70)-3)
		}
		// the manifest, which is the last that is pending, may be sure, but only whole
		if marked := left == 1 || left == 2; marked && len(keeps) > 0 && chance(2) == 0 {
			keeps[len(keeps)-1] = math.MaxInt
			b.crash(keeps)
			b.anew(coming)
		} else {
			if marked && len(keeps) > 0 {
				keeps[len(keeps)-1] = 0
			}
			b.crash(keeps)
			if chance(2) == 0 {
				b.anew(old)
			}
		}
		b.readable(b.m.tree)
		return
	}
}

// What a call answers doesn't hang on the saver that made the tree, or on what another saver does.
func TestSaversApart(t *testing.T) {
	one, _ := disk.New(64)
	two, _ := disk.New(64)
	a, _ := save.New(one, save.None())
	b, _ := save.New(two, save.None())
	for i, v := range []api.View{example(), several(), example(), large(500), several()} {
		if e, f := a.Begin(v, 1, 8), b.Begin(v, 1, 8); e != nil || f != nil {
			t.Fatal(e, f)
		}
		for a.Busy() {
			a.Step()
			b.Step()
		}
		if !sameTree(a.Tree(), b.Tree()) || !bytes.Equal(one.Image(), two.Image()) || a.Free() != b.Free() {
			t.Error(i, a.Tree(), b.Tree())
		}
	}
}
