package vault_test

import (
	"errors"
	"slices"
	"strings"
	"testing"

	"hayloft/api"
	"hayloft/audit"
	"hayloft/class"
	"hayloft/disk"
	"hayloft/load"
	"hayloft/vault"
)

// anyStep is a step of the heap that is often one that goes well.
func (x *twin) anyStep(chance func(below int) int) api.Op {
	var o, to api.Handle
	if all := x.now.handles(); len(all) > 0 {
		o, to = all[chance(len(all))], all[chance(len(all))]
	}
	if chance(30) == 0 {
		o = name(chance(len(x.now.gens)+2), chance(4))
	}
	w := chance(x.now.workers + chance(30)/29)
	switch n := chance(40); {
	case n < 12:
		return alloc(w, chance(max(1, len(x.now.kinds)+chance(20)/19)))
	case n < 18:
		return free(w, o)
	case n < 24:
		return write(o, chance(30)+chance(2)*8, strings.Repeat("z", chance(9)))
	case n < 26:
		return read(o, chance(30), chance(20))
	case n < 32:
		return set(o, chance(3), to)
	case n < 34:
		return get(o, chance(3))
	case n < 35:
		size := 8 * (1 + chance(1+chance(60)))
		return define(size, []int{0, size - 8, size - 7}[chance(3)])
	case n < 36:
		return scavenge()
	case n < 37:
		return compact()
	}
	return flush(w)
}

// anyOp is any step that isn't of the heap alone.
func (x *twin) anyOp(chance func(below int) int) api.Op {
	switch n := chance(60); {
	case n < 10:
		return begin()
	case n < 40:
		return step()
	case n < 43:
		return drop()
	case n < 46:
		return arm(chance(25) - 2)
	case n < 47:
		return crash(someKeeps(chance(howMany), chance)...)
	case n < 49:
		return restore([]int{256, 1 << 40, 256 * (1 + chance(9999)), chance(9999)}[chance(4)])
	}
	return api.Op{Kind: chance(19) - 1, Worker: chance(3), Handle: name(chance(5), chance(3)), To: name(chance(5), 1), At: chance(20), N: chance(4), Keeps: someKeeps(chance(howMany), chance), Ptrs: []int{0}, Bytes: []byte("any")}
}

// P2, P3, P24.2, P24.5: anything is done, by any worker, in any order; each answer is the model's.
func TestAnything(t *testing.T) {
	chance := noise(2408)
	seen, well := map[int]int{}, map[int]int{}
	for range 120 {
		x := small(t, 1+chance(9), 1+chance(8), 1+chance(40), 8+chance(90))
		x.all(define(16, 0), define(40, 8, 32), define(130), define(24))
		for range 250 {
			op := x.anyOp(chance)
			if x.now != nil && chance(3) > 0 {
				op = x.anyStep(chance)
			}
			if x.now == nil && chance(2) == 0 {
				op = restore(256 * (1 + chance(500)))
				if x.down {
					op = crash(someKeeps(chance(howMany), chance)...)
				}
			}
			seen[op.Kind]++
			if a := x.do(op); a.Err == api.OK {
				well[op.Kind]++
			}
		}
	}
	for kind := 1; kind <= 16; kind++ {
		if seen[kind] < 100 || well[kind] < 60 {
			t.Error(kind, seen[kind], well[kind])
		}
	}
}

// P4: vaults over the same disk, at other bases, answer what follows alike; each address that is kept lies in the arena and leads to the object that its field's handle names.
func TestElsewhere(t *testing.T) {
	chance := noise(2409)
	for range 20 {
		x := small(t, 2+chance(6), 1+chance(3), 5+chance(30), 80)
		x.all(define(16, 0), define(40, 8, 32), define(130, 0), define(24))
		for range 60 {
			x.do(x.anyStep(chance))
		}
		x.save()
		y, z := x.opened(x.config), x.opened(x.config)
		y.do(restore(256 * (1 + chance(100))))
		z.do(restore(1 << 40))
		for range 150 {
			op := y.anyStep(chance)
			if chance(4) == 0 {
				op = []api.Op{begin(), step(), step(), step(), drop(), {Kind: 17}}[chance(6)]
			}
			a, b := y.do(op), z.do(op)
			// addresses of another base may need more sectors
			if !sameAnswer(a, b) && op.Kind <= 10 {
				t.Fatalf("%s: %v, and at another base %v", told(op), a, b)
			}
			addressesLead(t, y.v.View())
			addressesLead(t, z.v.View())
		}
	}
}

// addressesLead holds that each field of each object has the address at which the object lies to which it leads.
func addressesLead(t *testing.T, v api.View) {
	t.Helper()
	for _, o := range audit.Objects(v) {
		at := v.Rows[o.Handle%65536-1].At
		for i, p := range v.Kinds[o.Kind].Ptrs {
			address := uint64(0)
			for k := range 8 {
				address += uint64(v.Bytes[at+p+k]) << (8 * k)
			}
			want := uint64(0)
			if to := o.To[i]; to != 0 {
				want = uint64(v.Base + v.Rows[to%65536-1].At)
			}
			if address != want || want >= uint64(v.Base+256*v.Pages) {
				t.Fatalf("%d at %d, not %d", address, v.Base, want)
			}
		}
	}
}

// P5: some bits turned within 32 side by side, in any one sector of a disk with two checkpoints: the newest, the one ahead, or ErrCorrupt, which is what was met, at a sector; never a third heap.
func TestBursts(t *testing.T) {
	chance := noise(2410)
	x := small(t, 8, 2, 9, 60)
	x.herd()
	x.save()
	old := x.opened(x.config)
	x.all(write(65539, 200, "another text"), alloc(1, 1))
	x.save()
	met := map[int]int{}
	for sector := range x.sectors {
		for range 24 {
			b := x.v.Image()
			from := 512*sector + chance(512-31)
			for _, bit := range []int{0, chance(32), chance(32), 31}[:1+chance(4)] {
				b[(from+bit)/8] ^= 1 << ((from + bit) % 8)
			}
			v, _ := vault.Open(x.config, b)
			a := v.Do(restore(4096))
			switch {
			case a.Err == api.ErrCorrupt && errors.Is(v.Err(), api.ErrSum) && !v.Up():
			case a.N == 2 && x.saved.at(4096).isSeen(v.View()) == "":
			case a.N == 1 && old.saved.at(4096).isSeen(v.View()) == "":
			default:
				t.Fatal(sector, a, v.Err())
			}
			met[a.N]++
		}
	}
	if met[0] == 0 || met[1] == 0 || met[2] == 0 {
		t.Error(met)
	}
}

// P5: of whatever a disk holds a restore tells ErrCorrupt, or brings back a sound heap, with which all goes on.
func TestAnyDisk(t *testing.T) {
	chance := noise(2411)
	x := small(t, 8, 2, 9, 60)
	x.herd()
	for range 2 {
		x.save()
		x.all(write(65539, 200, "another text"), alloc(1, 1))
	}
	met := map[api.Errno]int{}
	for i := range 3000 {
		b := x.v.Image()
		for range 1 + chance(4) {
			from, to := 64*chance(60), 64*chance(60)
			switch chance(4) {
			case 0:
				copy(b[to:to+64], b[from:])
			case 1:
				b[chance(len(b))] ^= byte(1 + chance(255))
			case 2:
				copy(b[to:to+1+chance(63)], b[from:])
			case 3:
				clear(b[to : to+64*chance(3)/2])
			}
		}
		if i%10 == 0 {
			for k := range b {
				b[k] = byte(chance(256))
			}
		}
		met[anyImage(t, x.config, b, chance)]++
	}
	if met[api.OK] < 300 || met[api.ErrCorrupt] < 300 {
		t.Error(met)
	}
}

// anyImage holds that a restore of a disk with any bytes is ErrCorrupt, or what layer 23 finds there: then all that is done is answered as a model of what was found answers.
func anyImage(t *testing.T, c api.Config, b []byte, chance func(below int) int) api.Errno {
	t.Helper()
	v, err := vault.Open(c, b)
	if err != nil {
		t.Fatal(err)
	}
	d, _ := disk.Lay(b)
	found, err := load.Load(d, 512)
	a := v.Do(restore(512))
	if err != nil {
		var fault, other *api.Fault
		if a.Err != api.ErrCorrupt || !isDown(v) || !errors.As(err, &fault) || !errors.As(v.Err(), &other) || *other != *fault {
			t.Fatal(a, err, v.Err())
		}
		return a.Err
	}
	if a.Err != api.OK || a.N != found.Tree.Seq || !sameTree(v.Tree(), found.Tree) {
		t.Fatal(a, found.Tree.Seq)
	}
	y := &twin{T: t, v: v, config: c, sectors: d.Len(), tree: found.Tree, now: emptyWorld(c).at(512)}
	if found.Tree.Seq > 0 {
		y.now = worldOf(found)
	}
	y.alike()
	for range 12 {
		y.do(y.anyStep(chance))
	}
	return api.OK
}

// worldOf is the world of what was found.
func worldOf(f load.Found) *world {
	w := emptyWorld(api.Config{Base: f.View.Base, Pages: f.View.Pages, Workers: f.Workers, Handles: f.Handles})
	w.kinds = f.View.Kinds
	for i, r := range f.View.Rows {
		w.gens[i] = r.Gen
	}
	for _, o := range audit.Objects(f.View) {
		w.things[o.Handle] = &thing{o.Kind, o.Bytes, o.To}
	}
	return w
}

// P6: right behind a compaction no place is found just if the objects need more pages than there are, and of each class at most one span is partly filled.
func TestTight(t *testing.T) {
	chance := noise(2412)
	refused, made := 0, 0
	for range 60 {
		x := small(t, 1+chance(8), 1+chance(3), 300, 300)
		x.all(define(16, 0), define(40, 8, 32), define(130, 0), define(24), define(128), define(513))
		for range 150 {
			x.do(x.anyStep(chance))
		}
		if chance(2) == 0 {
			x.save()
			x.do(restore(1 << 20))
		}
		for range 10 {
			kind := chance(6)
			x.do(compact())
			x.isTight()
			want := x.now.fits(x.now.kinds[kind].Size)
			a := x.do(alloc(0, kind))
			if (a.Err == api.OK) != want || (a.Err == api.ErrMemory) == want {
				t.Fatal(a, want)
			}
			if want {
				made++
			} else {
				refused++
			}
		}
	}
	if refused < 100 || made < 100 {
		t.Error(refused, made)
	}
}

// isTight holds that of each class at most one span is partly filled.
func (x *twin) isTight() {
	x.Helper()
	partly := map[int]int{}
	for _, d := range x.v.View().Spans {
		if len(d.Live) < class.Slots(d.Class) {
			partly[d.Class]++
		}
		if partly[d.Class] > 1 || len(d.Live) == 0 {
			x.Fatal(brief(x.v.View()))
		}
	}
}

// P7: a checkpoint writes what has changed since the one that counts, and its root; and wants for sectors just if fewer are free than that needs.
func TestLittle(t *testing.T) {
	for _, sectors := range []int{14, 15, 40} {
		x := small(t, 8, 1, 9, sectors)
		x.all(define(16, 0), define(60), alloc(0, 0), alloc(0, 1), alloc(0, 1))
		// kinds, rows, the span of 16 bytes, the three sectors of the one of 64, the root
		x.tells(begin(), 7)
		for range 10 {
			x.do(step())
		}
		x.tells(begin(), 1)
		x.all(drop(), write(65537, 8, "x"))
		x.tells(begin(), 2)
		x.all(drop(), set(65537, 0, 65537), write(65537, 9, "y"))
		x.tells(begin(), 2)
		x.all(drop(), write(65538, 0, "z"), compact())
		x.tells(begin(), 5)
		x.all(drop(), define(24))
		if sectors == 14 {
			// five are free, and six are needed
			x.is(begin(), api.ErrSectors)
			x.all(write(65538, 0, "goes on"), read(65538, 0, 7))
			x.tells(restore(512), 1)
			x.do(write(65538, 0, "z"))
			x.tells(begin(), 4)
			continue
		}
		x.tells(begin(), 6)
		for x.coming != nil {
			x.do(step())
		}
		x.tells(begin(), 1)
	}
}

// P8: no handle is given out twice, be it across checkpoints and restores, and one that was dropped never lives again, as long as what was restored had it.
func TestNeverTwice(t *testing.T) {
	x := small(t, 2, 1, 3, 30)
	x.do(define(16, 0))
	var given []api.Handle
	for i := range 40 {
		o := x.made(0, 0)
		if slices.Contains(given, o) {
			t.Fatal(o)
		}
		given = append(given, o)
		if i%3 > 0 {
			x.do(free(0, given[len(given)-1-i%2]))
		}
		if len(x.now.things) == 3 {
			x.do(free(0, x.now.handles()[1]))
		}
		x.save()
		switch i % 4 {
		case 1:
			x.do(restore(512))
		case 2:
			x.all(crash(), restore(1<<30))
		}
		for _, old := range given {
			x.do(get(old, 0))
		}
	}
}

// P8: behind the last generation of its index no handle is given out, here or behind a restore.
func TestLastGeneration(t *testing.T) {
	x := small(t, 1, 1, 2, 30)
	x.all(define(16, 0), alloc(0, 0))
	for gen := 2; gen <= 65535; gen++ {
		if a := x.v.Do(free(0, name(1, gen-1))); a.Err != api.OK {
			t.Fatal(gen, a)
		}
		if a := x.v.Do(alloc(0, 0)); a.Handle != name(1, gen) {
			t.Fatal(gen, a)
		}
	}
	x.now.gens[0] = 65535
	x.now.things = map[api.Handle]*thing{name(1, 65535): x.now.things[65537]}
	x.alike()
	x.save()
	for i := range 3 {
		x.is(get(name(1, 65535), 0), api.OK)
		x.do(free(0, name(1, 65535)))
		if a := x.do(alloc(0, 0)); a.Handle != name(2, 1) {
			t.Fatal(a)
		}
		x.is(alloc(0, 0), api.ErrFull)
		x.all(crash(), restore(256*(i+1)))
	}
	x.do(free(0, name(1, 65535)))
	x.save()
	x.all(restore(4096), alloc(0, 0))
	x.is(alloc(0, 0), api.ErrFull)
	x.is(get(name(1, 65535), 0), api.ErrStale)
}
