package vault_test

import (
	"slices"
	"testing"

	"hayloft/api"
	"hayloft/vault"
)

// P1, P24.1: any config and any image end in one of the errors named, or in a vault.
func TestAnyConfig(t *testing.T) {
	chance := noise(2413)
	any := append(slices.Clone(anyInts), 3, 4097, 300, 512, 1<<40, 1<<40+256)
	images := [][]byte{nil, make([]byte, 1), make([]byte, 512), make([]byte, 513), make([]byte, 640)}
	made := 0
	for range 30000 {
		pick := func() int { return any[chance(len(any))] }
		c := api.Config{Base: pick(), Pages: pick(), Workers: pick(), Handles: pick(), Sectors: pick()}
		want := api.OK
		switch {
		case !within(c.Pages, 1, 4096), !within(c.Workers, 1, 8), !within(c.Handles, 1, 4096):
			want = api.ErrArg
		case !within(c.Base, 256, 1<<40), c.Base%256 != 0:
			want = api.ErrAddr
		}
		image := images[chance(len(images))]
		if n := len(image); n != 512 && n != 640 {
			opens(t, c, image, api.ErrArg)
		} else {
			opens(t, c, image, want)
		}
		if !within(c.Sectors, 8, 65536) {
			want = api.ErrArg
		}
		v, err := vault.New(c)
		if wrong := isError(err, want, nowhere); wrong != "" || (v != nil) != (want == api.OK) {
			t.Fatalf("New(%v): %v, %v: %s; not %v", c, v != nil, err, wrong, want)
		}
		if v != nil {
			made++
		}
	}
	if made < 20 {
		t.Error(made)
	}
}

// P1, P24.2: any step at all, of any vault.
func TestAnyStep(t *testing.T) {
	chance := noise(2414)
	any := append(slices.Clone(anyInts), 3, 4, 5, 10, 11, 12, 13, 14, 512, 1<<40)
	for range 40 {
		x := small(t, 1+chance(4), 1+chance(3), 1+chance(9), 8+chance(40))
		for range 500 {
			pick := func() int { return any[chance(len(any))] }
			list := func() (l []int) {
				for range chance(20) * chance(2) {
					l = append(l, pick())
				}
				return l
			}
			op := api.Op{Kind: chance(19) - 1, Worker: pick(), Handle: api.Handle(pick()), To: name(chance(9), chance(3)), At: pick(), N: pick(), Ptrs: list(), Keeps: list()}
			for _, n := range list() {
				op.Bytes = append(op.Bytes, byte(n))
			}
			switch chance(5) {
			case 0:
				op.Kind = pick()
			case 1, 2:
				op.Worker, op.Handle, op.N = chance(2), name(1+chance(9), 1), chance(3)
			}
			x.do(op)
		}
	}
}

// P1, P24.2: as many pages, workers, handles and sectors as there may be.
func TestMost(t *testing.T) {
	v, err := vault.New(api.Config{Base: 1 << 40, Pages: 4096, Workers: 8, Handles: 4096, Sectors: 65536})
	if err != nil {
		t.Fatal(err)
	}
	does := func(op api.Op) api.Answer {
		t.Helper()
		a := v.Do(op)
		if a.Err != api.OK {
			t.Fatal(told(op), a)
		}
		return a
	}
	does(define(4096, 0, 4088))
	does(define(16))
	for i := range 250 {
		o := does(alloc(i%8, 0)).Handle
		does(set(o, 1, name(1, 1)))
		does(write(o, 4000, "the last one"))
	}
	for i := range 4096 - 250 {
		if a := v.Do(alloc(i%8, 1)); a.Err != api.OK && (i < 1200 || a.Err != api.ErrMemory) {
			t.Fatal(i, a)
		}
	}
	want := does(begin()).N + 3
	for n := 1; does(step()).N == 0; n++ {
		if n > want {
			t.Fatal(n, want)
		}
	}
	does(crash())
	if a := does(restore(256)); a.N != 1 {
		t.Error(a)
	}
	if a := does(get(name(250, 1), 1)); a.Handle != name(1, 1) {
		t.Error(a)
	}
	if a := does(read(name(250, 1), 4000, 12)); string(a.Bytes) != "the last one" {
		t.Error(a)
	}
}
