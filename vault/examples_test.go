package vault_test

import (
	"bytes"
	"errors"
	"testing"

	"hayloft/api"
)

// pair is a vault with a kind of 16 bytes with a field at 0, and two objects, the first one's field leading to the second.
func pair(t *testing.T) *twin {
	t.Helper()
	x := small(t, 5, 1, 40, 40)
	x.tells(define(16, 0), 0)
	for _, want := range []api.Handle{65537, 65538} {
		if o := x.made(0, 0); o != want {
			t.Fatal(o)
		}
	}
	x.is(set(65537, 0, 65538), api.OK)
	return x
}

// leads holds to which object the first one's field leads.
func (x *twin) leads(to api.Handle) {
	x.Helper()
	if a := x.do(get(65537, 0)); a.Handle != to || a.Err != api.OK {
		x.Fatal(a)
	}
}

// The first, second and third of the ten examples of the whole: fields, stale handles, and a heap that is compacted.
func TestExamplesOfTheHeap(t *testing.T) {
	x := pair(t)
	x.leads(65538)
	x.do(free(0, 65538))
	x.leads(0)
	x.is(get(65538, 0), api.ErrStale)
	if o := x.made(0, 0); o != 131074 {
		t.Error(o)
	}
	x.all(define(128), define(512))
	var all []api.Handle
	for range 8 {
		all = append(all, x.made(0, 1))
	}
	for i, o := range all {
		if i%2 == 0 {
			x.do(free(0, o))
		}
	}
	x.is(alloc(0, 2), api.ErrMemory)
	x.do(compact())
	x.isTight()
	for _, o := range all {
		x.do(read(o, 0, 128))
	}
	x.is(alloc(0, 2), api.OK)
}

// The fourth: what is written while a checkpoint is under way isn't in it.
func TestExampleOfWrites(t *testing.T) {
	x := pair(t)
	x.all(write(65538, 8, "ahead"), begin())
	for x.coming != nil {
		x.all(write(65538, 8, "other"), step())
	}
	x.all(crash(), restore(512))
	if a := x.do(read(65538, 8, 5)); string(a.Bytes) != "ahead" {
		t.Error(a)
	}
}

// The fifth and sixth: the power fails at the third write, and at the manifest's.
func TestExamplesOfPower(t *testing.T) {
	third, manifest := func(fresh int) int { return 3 }, func(fresh int) int { return fresh + 2 }
	for i, s := range []struct {
		at                func(fresh int) int
		keep, least, most int
	}{{third, 32, 1, 1}, {manifest, 64, 2, 2}, {manifest, 63, 1, 2}, {manifest, 0, 1, 1}} {
		x := pair(t)
		x.save()
		x.all(define(8), alloc(0, 1), write(65537, 8, "new"))
		x.do(arm(s.at(x.do(begin()).N)))
		for x.now != nil {
			x.do(step())
		}
		x.do(crash(s.keep, s.keep, s.keep))
		if a := x.do(restore(4096)); a.N < s.least || a.N > s.most {
			t.Error(i, a)
		}
	}
}

// The seventh: at another base the eight bytes of a field are another address.
func TestExampleOfBases(t *testing.T) {
	x := pair(t)
	x.save()
	x.do(restore(1 << 30))
	x.leads(65538)
	if b := x.v.View().Bytes[:8]; !bytes.Equal(b, []byte{16, 0, 0, 64, 0, 0, 0, 0}) {
		t.Error(b)
	}
}

// The eighth and tenth: nothing has changed; too few sectors are free.
func TestExamplesOfSectors(t *testing.T) {
	x := pair(t)
	x.save()
	x.tells(begin(), 1)
	x.is(drop(), api.OK)
	y := small(t, 4, 1, 40, 8)
	y.do(define(16, 0))
	y.save()
	y.all(define(300), alloc(0, 1), write(65537, 0, "hay"))
	y.is(begin(), api.ErrSectors)
	y.is(read(65537, 0, 3), api.OK)
	y.do(crash())
	y.tells(restore(256), 1)
}

// The ninth: a bit turned of a sector that only the newest checkpoint has, and of one that both have.
func TestExampleOfBits(t *testing.T) {
	x := pair(t)
	x.save()
	span := x.tree.Sectors[2]
	y := turned(x, span)
	a := y.v.Do(restore(256))
	var fault *api.Fault
	if a.Err != api.ErrCorrupt || !errors.Is(y.v.Err(), api.ErrSum) || !errors.As(y.v.Err(), &fault) || fault.Sector != span {
		t.Error(a, y.v.Err())
	}
	x.do(write(65537, 8, "new"))
	x.save()
	if y = turned(x, x.tree.Sectors[2]); x.tree.Sectors[2] == span || y.v.Do(restore(256)).N != 1 {
		t.Error(x.tree.Sectors, span)
	}
}
