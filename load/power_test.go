package load_test

import (
	"slices"
	"testing"

	"hayloft/api"
	"hayloft/audit"
	"hayloft/disk"
	"hayloft/heap"
	"hayloft/load"
	"hayloft/save"
)

// sequences are views that are saved one behind the other.
func sequences() [][]api.View {
	changed, dead := wide(), wide()
	changed.Bytes[30]++
	dead.Rows[1], dead.Spans[0].Live = gone(65535), []int{0, 15}
	// what led to that object leads to none
	clear(dead.Bytes[240:248])
	return [][]api.View{
		{example()}, {wide()}, {example(), wide()}, {wide(), changed}, {wide(), wide()}, {wide(), example(), dead}, {empty(2), large(700), large(701), empty(1)},
	}
}

// P23.4: the power fails at each step of a checkpoint, whatever is kept, and however it is torn.
func TestPower(t *testing.T) {
	chance := noise(2304)
	for _, views := range sequences() {
		old, coming := views[:len(views)-1], views[len(views)-1]
		for n := 1; ; n++ {
			steps := 0
			for i := range 20 {
				d, _ := saved(t, 150, old...)
				steps = failing(t, d, coming, n)
				if n > steps {
					break
				}
				keeps := keepsOf(i, chance)
				d.Crash(keeps)
				isOneOf(t, d, views, n < steps-1 || keeps[0] <= 0, n >= steps-1 && keeps[0] >= 64)
			}
			if n > steps {
				break
			}
		}
	}
}

// failing does a checkpoint up to its n-th step, at which the power fails: how many steps it has.
func failing(t *testing.T, d *disk.Disk, v api.View, n int) int {
	t.Helper()
	ahead, err := load.Load(d, 256)
	if err != nil {
		t.Fatal(err)
	}
	s, _ := save.New(d, ahead.Tree)
	if err := s.Begin(v, 1, max(2, len(v.Rows))); err != nil {
		t.Fatal(err)
	}
	steps := s.Fresh() + 3
	d.Arm(n)
	for err == nil && s.Busy() {
		_, err = s.Step()
	}
	return steps
}

// keepsOf is how much is kept of what was pending.
func keepsOf(i int, chance func(below int) int) []int {
	all := []int{-1, 0, 1, 4, 8, 12, 56, 60, 61, 63, 64, 1000}
	if i < len(all) {
		return slices.Repeat(all[i:i+1], 200)
	}
	var keeps []int
	for range 200 {
		keeps = append(keeps, chance(70)-3)
	}
	return keeps
}

// isOneOf holds that a disk has the last of some views, or the one ahead of it; that one, if it must be the old one, or the last one, if it must be the new one.
func isOneOf(t *testing.T, d *disk.Disk, views []api.View, mustBeOld, mustBeNew bool) {
	t.Helper()
	n := len(views)
	f, err := told(t, d, 2048)
	if err != nil {
		t.Fatal(err)
	}
	switch {
	case f.Tree.Seq == n && !mustBeOld:
		finds(t, d, 1<<20, views[n-1], n, (n-1)%2)
	case f.Tree.Seq == n-1 && !mustBeNew && n > 1:
		finds(t, d, 1<<20, views[n-2], n-1, n%2)
	case f.Tree.Seq == 0 && !mustBeNew && n == 1:
		findsNothing(t, d)
	default:
		t.Fatal(brief(f), mustBeOld, mustBeNew)
	}
	// it goes on from there
	saves(t, d, f.Tree, views[n-1], 1, 100)
	finds(t, d, 512, views[n-1], f.Tree.Seq+1, f.Tree.Seq%2)
}

// P23.4: some bits turned within 32 side by side, in each sector of a disk.
func TestTurnedBits(t *testing.T) {
	chance := noise(2305)
	for _, views := range sequences() {
		d, tree := saved(t, 70, views...)
		newest := finds(t, d, 512, views[len(views)-1], len(views), (len(views)-1)%2)
		var older load.Found
		if len(views) > 1 {
			write(t, d, 69*tree.Slot, nil)
			older, _ = told(t, d, 512)
			write(t, d, 69*tree.Slot, manifestBytes(tree.Seq, firstOf(tree), lenOf(tree, views[len(views)-1])))
			if f, _ := told(t, d, 512); !sameFound(f, newest) {
				t.Fatal(brief(f))
			}
		} else {
			older.Tree = save.None()
		}
		for sector := range d.Len() {
			for i := range 64 {
				from := min(8*i+chance(8), 512-32)
				bits := []int{chance(32), chance(32), chance(32), 31}[:chance(5)]
				bits = slices.DeleteFunc(slices.Compact(slices.Sorted(slices.Values(bits))), func(b int) bool { return b == 0 })
				turn(d, sector, from, bits...)
				isTold(t, d, sector, newest, older)
				turn(d, sector, from, bits...)
			}
		}
	}
}

// firstOf and lenOf are where a tree's root begins, and how long it is.
func firstOf(tree save.Tree) int {
	n := 0
	for _, e := range tree.Entries {
		n += count(e.Len)
	}
	return tree.Sectors[n]
}

func lenOf(tree save.Tree, v api.View) int {
	f := forge(v, 1, 0, 1)
	f.workers, f.handles = 1, max(2, len(v.Rows))
	for i, p := range f.pieces {
		p.foreign, p.room, p.n = true, []int{tree.Entries[i].First}, tree.Entries[i].Len
	}
	return f.root().size()
}

// isTold holds that of a disk, of one of whose sectors some bits are turned, the checkpoint is told that hasn't got that sector; an error, if both have it.
func isTold(t *testing.T, d *disk.Disk, sector int, newest, older load.Found) {
	t.Helper()
	has := func(f load.Found) bool {
		return slices.Contains(f.Tree.Sectors, sector) || f.Tree.Slot >= 0 && sector == f.Tree.Slot*(d.Len()-1)
	}
	want := newest
	if has(newest) {
		want = older
	}
	slot := sector == 0 || sector == d.Len()-1
	if has(newest) && !slot && (older.Tree.Slot < 0 || has(older)) {
		fails(t, d, 512, corrupt(api.ErrSum, sector))
		return
	}
	if f, err := load.Load(d, 512); err != nil || !sameFound(f, want) {
		t.Fatalf("a bit of the sector %d turned: %s, %v; not %s", sector, brief(f), err, brief(want))
	}
}

// P23.4: any heaps that are saved, lose their power, and come back at any base, one behind the other.
func TestAnything(t *testing.T) {
	chance := noise(2306)
	for range 40 {
		d := diskOf(t, 20+chance(200))
		x := barnOf(t, chance)
		tree, old := save.None(), api.View{}
		for range 30 {
			x.change(chance(12))
			coming := x.h.View()
			s, _ := save.New(d, tree)
			err := s.Begin(coming, x.workers, x.handles)
			if chance(3) == 0 {
				d.Arm(1 + chance(12))
			}
			for err == nil && s.Busy() {
				_, err = s.Step()
			}
			d.Crash(keepsOf(chance(20), chance))
			base := 256 * (1 + chance(1<<20))
			f, err := told(t, d, base)
			switch {
			case err != nil:
				t.Fatal(err)
			case f.Tree.Seq == tree.Seq+1 && sameView(f.View, at(coming, base)):
				old = f.View
			case f.Tree.Seq == tree.Seq && f.Tree.Seq == 0 && sameView(f.View, old):
			case f.Tree.Seq == tree.Seq && sameView(f.View, at(old, base)):
			default:
				t.Fatal(brief(f), tree.Seq)
			}
			tree = f.Tree
			x.comesBack(f)
		}
	}
}

// comesBack has the heap be the one that was found, if any was.
func (b *barn) comesBack(f load.Found) {
	b.Helper()
	if f.Tree.Slot < 0 {
		return
	}
	h, e := heap.Of(f.View, f.Workers, f.Handles)
	if e != api.OK || f.Workers != b.workers || f.Handles != b.handles {
		b.Fatal(e, f.Workers, f.Handles)
	}
	if rule, at := audit.Check(f.View); rule != 0 {
		b.Fatal(rule, at)
	}
	b.h = h
}
