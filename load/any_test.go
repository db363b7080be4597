package load_test

import (
	"errors"
	"testing"

	"hayloft/api"
	"hayloft/audit"
	"hayloft/disk"
	"hayloft/manifest"
)

// isAnAnswer holds that Load tells of a disk what the model tells: nothing, a sound view at that base, or ErrCorrupt at a sector.
func isAnAnswer(t *testing.T, d *disk.Disk, base int) bool {
	t.Helper()
	f, err := told(t, d, base)
	var fault *api.Fault
	switch {
	case err != nil:
		if !errors.Is(err, api.ErrCorrupt) || !errors.As(err, &fault) {
			t.Fatal(err)
		}
	case f.Tree.Slot >= 0:
		if rule, _ := audit.Check(f.View); rule != 0 || f.View.Base != base {
			t.Fatal(rule, f.View.Base)
		}
	}
	return err == nil
}

// P23.1, P1: any bytes at all.
func TestAnyBytes(t *testing.T) {
	chance := noise(2307)
	for i := range 3000 {
		sectors := 8 + chance(30)
		b := make([]byte, 64*sectors)
		for k := range b {
			b[k] = byte(chance(256) * chance(2))
		}
		d, e := disk.Lay(b)
		if e != api.OK {
			t.Fatal(e)
		}
		findsNothing(t, d)
		// chains that can be read, of any bytes, that lead anywhere
		for s := range sectors {
			if chance(4) > 0 {
				write(t, d, s, link(b[64*s:64*s+56], chance(2)*chance(sectors+2)))
			}
		}
		for slot := range 2 {
			if chance(3) > 0 {
				write(t, d, slot*(sectors-1), manifestBytes(1+chance(4), 1+chance(sectors), 8+chance(200)))
			}
		}
		if found, _ := manifest.Find(d); isAnAnswer(t, d, 256*(1+i)) && len(found) > 0 {
			t.Fatal("a checkpoint of any bytes")
		}
	}
}

// P23.1, P23.2: checkpoints in which anything is otherwise, all their sums being right.
func TestAnyForgeries(t *testing.T) {
	chance := noise(2308)
	well := 0
	for range 4000 {
		d := diskOf(t, 260)
		for slot := range 1 + chance(2) {
			v := []api.View{example(), wide(), large(300), empty(3)}[chance(4)]
			f := forge(v, 1+chance(3), slot, 1+120*slot)
			for range chance(3) {
				f.spoil(v, chance)
			}
			f.lay(t, d)
		}
		if isAnAnswer(t, d, []int{256, 512, 4096, 1 << 40}[chance(4)]) {
			well++
		}
	}
	if well < 1000 || well > 3500 {
		t.Error(well)
	}
}

// spoil changes anything in a forgery.
func (f *forgery) spoil(v api.View, chance func(below int) int) {
	if len(f.pieces) == 0 || chance(3) == 0 {
		f.spoilRoot(chance)
		return
	}
	i := chance(len(f.pieces))
	p := f.pieces[i]
	switch chance(6) {
	case 0:
		all := troublesOf(v, forge(v, 1, 0, 1), i)
		x := all[chance(len(all))]
		if x.rank == inMove && len(p.fields) == 0 {
			return
		}
		x.apply(f, p)
	case 1, 2, 3:
		b := append([]byte{}, p.body...)
		b[chance(min(len(b), 30))] += byte(1 + chance(3)*chance(100))
		p.body = b
	case 4:
		p.n = p.size() + chance(3) - 1
	case 5:
		other := f.pieces[chance(len(f.pieces))]
		p.body, other.body = other.body, p.body
		p.kind, other.kind = other.kind, p.kind
		// each must have room for the other's bytes
		p.room, other.room = other.room, p.room
	}
}

// spoilRoot changes anything in its root.
func (f *forgery) spoilRoot(chance func(below int) int) {
	numbers := []*int{&f.base, &f.pages, &f.workers, &f.handles, &f.rows, &f.kinds}
	switch chance(4) {
	case 0:
		*numbers[0] += 256 * chance(3)
	case 1:
		*numbers[1+chance(5)] += chance(3)
	case 2:
		if n := numbers[1+chance(5)]; *n > 0 {
			*n--
		}
	case 3:
		b := f.rootBody()
		b[chance(len(b))] += byte(1 + chance(2)*chance(100))
		f.top.body = b
	}
}
