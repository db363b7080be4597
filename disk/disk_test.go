package disk_test

import (
	"bytes"
	"math"
	"slices"
	"testing"
	"time"

	"hayloft/api"
	"hayloft/disk"
)

// fresh is a disk of so many sectors.
func fresh(t *testing.T, sectors int) *disk.Disk {
	t.Helper()
	d, e := disk.New(sectors)
	if d == nil || e != api.OK {
		t.Fatalf("New(%d): %v, %v", sectors, d, e)
	}
	return d
}

// laid is a disk with these bytes.
func laid(t *testing.T, image []byte) *disk.Disk {
	t.Helper()
	d, e := disk.Lay(image)
	if d == nil || e != api.OK {
		t.Fatalf("Lay of %d bytes: %v, %v", len(image), d, e)
	}
	return d
}

// some is n bytes that aren't alike, and none of them a nought; another seed, other bytes.
func some(seed, n int) []byte {
	b := make([]byte, n)
	x := uint32(seed)*2654435761 + 1
	for i := range b {
		x = x*1664525 + 1013904223
		b[i] = byte(x>>24) | 1
	}
	return b
}

// full is b with noughts behind it, up to a sector's size.
func full(b []byte) []byte {
	return append(slices.Clone(b), make([]byte, api.SectorSize-len(b))...)
}

// over is the first n bytes of b, and behind them those of a.
func over(a, b []byte, n int) []byte {
	return append(slices.Clone(b[:n]), a[n:]...)
}

// has says what sector i has that isn't told by want.
func has(t *testing.T, d *disk.Disk, i int, want []byte) {
	t.Helper()
	if b, e := d.Read(i); e != api.OK || !bytes.Equal(b, want) {
		t.Errorf("Read(%d): % x, %v, not % x", i, b, e, want)
	}
}

// does says of a call what it answered, if it isn't what is wanted.
func does(t *testing.T, what string, got, want api.Errno) {
	t.Helper()
	if got != want {
		t.Errorf("%s: %v, not %v", what, got, want)
	}
}

// state tells what a disk says of itself.
type state struct {
	len, pending, ops int
	down              bool
}

func of(d *disk.Disk) state {
	return state{d.Len(), d.Pending(), d.Ops(), d.Down()}
}

// is says what a disk tells of itself that it shouldn't.
func is(t *testing.T, d *disk.Disk, want state) {
	t.Helper()
	if got := of(d); got != want {
		t.Errorf("%+v, not %+v", got, want)
	}
}

// cut is a disk whose power has failed at a Flush, with one write pending: sector 1.
func cut(t *testing.T) *disk.Disk {
	t.Helper()
	d := fresh(t, 8)
	does(t, "Write", d.Write(1, some(1, 64)), api.OK)
	d.Arm(1)
	does(t, "Flush", d.Flush(), api.ErrDown)
	return d
}

// P5.1
func TestNew(t *testing.T) {
	for _, n := range []int{math.MinInt, -api.MaxSectors, -8, -1, 0, 1, 7, api.MinSectors - 1, api.MaxSectors + 1, 2 * api.MaxSectors, 1 << 40, math.MaxInt} {
		if d, e := disk.New(n); d != nil || e != api.ErrArg {
			t.Errorf("New(%d): %v, %v", n, d, e)
		}
	}
	for _, n := range []int{api.MinSectors, api.MinSectors + 1, 10, 1000, api.MaxSectors - 1, api.MaxSectors} {
		d := fresh(t, n)
		is(t, d, state{len: n})
		if !bytes.Equal(d.Image(), make([]byte, n*api.SectorSize)) {
			t.Errorf("New(%d): other bytes than noughts are sure", n)
		}
		for _, i := range []int{0, n / 2, n - 1} {
			has(t, d, i, full(nil))
		}
	}
}

// P5.1
func TestLay(t *testing.T) {
	for _, n := range []int{0, 1, 63, 64, 65, 7 * 64, 7*64 + 63, 8*64 - 1, 8*64 + 1, 8*64 + 8, 8*64 + 32, 9*64 - 1, api.MaxSectors*64 - 1, api.MaxSectors*64 + 1, api.MaxSectors*64 + 64, 2 * api.MaxSectors * 64} {
		if d, e := disk.Lay(make([]byte, n)); d != nil || e != api.ErrArg {
			t.Errorf("Lay of %d bytes: %v, %v", n, d, e)
		}
	}
	if d, e := disk.Lay(nil); d != nil || e != api.ErrArg {
		t.Errorf("Lay of nil: %v, %v", d, e)
	}
	for _, n := range []int{8, 9, 10, 100, api.MaxSectors} {
		image := some(n, n*api.SectorSize)
		clear(image[2*api.SectorSize : 3*api.SectorSize])
		d := laid(t, image)
		is(t, d, state{len: n})
		if !bytes.Equal(d.Image(), image) {
			t.Errorf("Lay of %d sectors: other bytes are sure", n)
		}
		for _, i := range []int{0, 1, 2, 3, n - 1} {
			has(t, d, i, image[i*api.SectorSize:(i+1)*api.SectorSize])
		}
		d.Crash([]int{64, 64})
		if !bytes.Equal(d.Image(), image) {
			t.Errorf("Lay of %d sectors: they weren't sure", n)
		}
	}
}

// absent are numbers of sectors that a disk of n doesn't have.
func absent(n int) []int {
	return []int{math.MinInt, math.MinInt + 1, -n, -64, -2, -1, n, n + 1, 2 * n, api.MaxSectors, api.MaxSectors + 1, 1 << 32, math.MaxInt - 1, math.MaxInt}
}

// P5.2
func TestAbsentSectors(t *testing.T) {
	for _, n := range []int{8, 9, 100, api.MaxSectors} {
		d := fresh(t, n)
		for _, i := range absent(n) {
			if b, e := d.Read(i); len(b) != 0 || e != api.ErrArg {
				t.Errorf("Read(%d) of %d: %d bytes, %v", i, n, len(b), e)
			}
			does(t, "Write", d.Write(i, []byte("ab")), api.ErrArg)
			does(t, "a long Write", d.Write(i, make([]byte, 65)), api.ErrArg)
		}
		is(t, d, state{len: n})
	}
}

// P5.2
func TestWriteAndRead(t *testing.T) {
	for _, i := range []int{0, 1, 8, 9} {
		d := fresh(t, 10)
		for k, n := range []int{64, 63, 33, 2, 1, 0, 64} {
			does(t, "Write", d.Write(i, some(k, n)), api.OK)
			has(t, d, i, full(some(k, n)))
			is(t, d, state{len: 10, pending: k + 1, ops: k + 1})
		}
		does(t, "Write of nil", d.Write(i, nil), api.OK)
		for other := range 10 {
			has(t, d, other, full(nil))
		}
	}
}

// P5.2
func TestLongWrites(t *testing.T) {
	for _, n := range []int{65, 66, 127, 128, 1 << 20} {
		d := fresh(t, 8)
		does(t, "Write", d.Write(7, some(1, 64)), api.OK)
		does(t, "a long Write", d.Write(7, some(2, n)), api.ErrLong)
		does(t, "a long Write", d.Write(0, make([]byte, n)), api.ErrLong)
		has(t, d, 7, some(1, 64))
		has(t, d, 0, full(nil))
		is(t, d, state{len: 8, pending: 1, ops: 1})
	}
}

// P5.2: a write is the last one, be it pending or sure.
func TestReadIsWhatWasWrittenLast(t *testing.T) {
	d := laid(t, some(9, 8*64))
	does(t, "Write", d.Write(2, some(1, 64)), api.OK)
	has(t, d, 2, some(1, 64))
	does(t, "Flush", d.Flush(), api.OK)
	has(t, d, 2, some(1, 64))
	does(t, "Write", d.Write(2, some(2, 40)), api.OK)
	does(t, "Write", d.Write(3, some(3, 64)), api.OK)
	has(t, d, 2, full(some(2, 40)))
	does(t, "Write", d.Write(2, some(4, 3)), api.OK)
	has(t, d, 2, full(some(4, 3)))
	has(t, d, 3, some(3, 64))
	does(t, "Flush", d.Flush(), api.OK)
	has(t, d, 2, full(some(4, 3)))
	has(t, d, 3, some(3, 64))
	is(t, d, state{len: 8, ops: 6})
}

// P5.2, P5.5: what is pending is in no image, till a Flush.
func TestFlush(t *testing.T) {
	sure := some(9, 8*64)
	d := laid(t, sure)
	does(t, "Flush of nothing", d.Flush(), api.OK)
	is(t, d, state{len: 8, ops: 1})
	for k, i := range []int{0, 7, 3, 3, 0} {
		does(t, "Write", d.Write(i, some(k, 10*k)), api.OK)
		is(t, d, state{len: 8, pending: k + 1, ops: k + 2})
		if !bytes.Equal(d.Image(), sure) {
			t.Fatal("what is pending was sure")
		}
	}
	does(t, "Flush", d.Flush(), api.OK)
	is(t, d, state{len: 8, ops: 7})
	copy(sure[7*64:], full(some(1, 10)))
	copy(sure[3*64:], full(some(3, 30)))
	copy(sure, full(some(4, 40)))
	if !bytes.Equal(d.Image(), sure) {
		t.Error("what was pending isn't sure")
	}
	d.Crash(nil)
	if !bytes.Equal(d.Image(), sure) {
		t.Error("what was sure went in a crash")
	}
}

// P5.3
func TestArmAtAWrite(t *testing.T) {
	for n := 1; n <= 9; n++ {
		d := fresh(t, 8)
		d.Arm(n)
		for k := range n - 1 {
			if d.Down() {
				t.Fatalf("Arm(%d): no power ahead of the call %d", n, k)
			}
			does(t, "Write", d.Write(k, some(k, 64)), api.OK)
		}
		is(t, d, state{len: 8, pending: n - 1, ops: n - 1})
		does(t, "the Write", d.Write(7, some(70, 9)), api.ErrDown)
		is(t, d, state{len: 8, pending: n, ops: n - 1, down: true})
		d.Crash(append(make([]int, n-1), 64))
		is(t, d, state{len: 8, ops: n - 1})
		has(t, d, 7, full(some(70, 9)))
		if n > 1 {
			has(t, d, 0, full(nil))
		}
	}
}

// P5.3
func TestArmAtAFlush(t *testing.T) {
	for n := 1; n <= 9; n++ {
		d := laid(t, some(9, 8*64))
		d.Arm(n)
		for k := range n - 1 {
			does(t, "Write", d.Write(k%2, some(k, 64)), api.OK)
		}
		does(t, "the Flush", d.Flush(), api.ErrDown)
		is(t, d, state{len: 8, pending: n - 1, ops: n - 1, down: true})
		if !bytes.Equal(d.Image(), some(9, 8*64)) {
			t.Errorf("Arm(%d): the Flush made something sure", n)
		}
	}
}

// P5.3: Writes and Flushes count alike; Reads don't, nor the calls that find an error, nor what was ahead of Arm.
func TestWhatArmCounts(t *testing.T) {
	d := fresh(t, 8)
	does(t, "Write", d.Write(0, nil), api.OK)
	does(t, "Flush", d.Flush(), api.OK)
	d.Arm(4)
	for range 3 {
		has(t, d, 0, full(nil))
		if _, e := d.Read(8); e != api.ErrArg {
			t.Errorf("Read(8): %v", e)
		}
		does(t, "Write(8)", d.Write(8, nil), api.ErrArg)
		does(t, "Write(-1)", d.Write(-1, nil), api.ErrArg)
		does(t, "a long Write", d.Write(0, make([]byte, 65)), api.ErrLong)
		d.Image()
	}
	does(t, "the first", d.Flush(), api.OK)
	does(t, "the second", d.Write(1, some(1, 1)), api.OK)
	does(t, "Write(8)", d.Write(8, nil), api.ErrArg)
	does(t, "the third", d.Flush(), api.OK)
	does(t, "a long Write", d.Write(0, make([]byte, 65)), api.ErrLong)
	is(t, d, state{len: 8, ops: 5})
	does(t, "the fourth", d.Write(2, nil), api.ErrDown)
	is(t, d, state{len: 8, pending: 1, ops: 5, down: true})
}

// P5.3: none fails.
func TestNotArmed(t *testing.T) {
	for _, n := range []int{0, -1, -2, math.MinInt, math.MinInt + 1, 1000, math.MaxInt} {
		d := fresh(t, 8)
		d.Arm(n)
		for k := range 100 {
			does(t, "Write", d.Write(k%8, nil), api.OK)
			does(t, "Flush", d.Flush(), api.OK)
		}
		is(t, d, state{len: 8, ops: 200})
	}
}

// P5.3: the last Arm holds.
func TestArmedAnew(t *testing.T) {
	for _, x := range []struct{ first, second, calls int }{
		{1, 2, 2}, {2, 1, 1}, {5, 3, 3}, {3, 5, 5}, {1, 1, 1}, {2, 2, 2}, {0, 2, 2}, {-7, 3, 3}, {math.MaxInt, 1, 1}, {1, 0, 0}, {1, -1, 0}, {3, math.MinInt, 0},
	} {
		d := fresh(t, 8)
		d.Arm(x.first)
		d.Arm(x.second)
		calls := 0
		for k := 1; k <= 20 && calls == 0; k++ {
			if d.Flush() == api.ErrDown {
				calls = k
			}
		}
		if calls != x.calls || d.Down() != (x.calls > 0) {
			t.Errorf("Arm(%d), Arm(%d): at the call %d, not %d", x.first, x.second, calls, x.calls)
		}
	}
	d := fresh(t, 8)
	d.Arm(3)
	does(t, "Flush", d.Flush(), api.OK)
	does(t, "Flush", d.Flush(), api.OK)
	d.Arm(2)
	does(t, "the first", d.Flush(), api.OK)
	does(t, "the second", d.Flush(), api.ErrDown)
}

// P5.2, P5.3
func TestWithoutPower(t *testing.T) {
	d := cut(t)
	before := state{len: 8, pending: 1, ops: 1, down: true}
	is(t, d, before)
	for _, i := range append(absent(8), 0, 1, 7) {
		if b, e := d.Read(i); len(b) != 0 || e != api.ErrDown {
			t.Errorf("Read(%d): %d bytes, %v", i, len(b), e)
		}
		does(t, "Write", d.Write(i, nil), api.ErrDown)
		does(t, "Write", d.Write(i, some(3, 64)), api.ErrDown)
		does(t, "a long Write", d.Write(i, make([]byte, 65)), api.ErrDown)
		does(t, "Flush", d.Flush(), api.ErrDown)
	}
	is(t, d, before)
	if !bytes.Equal(d.Image(), make([]byte, 8*64)) {
		t.Error("something is sure")
	}
	d.Crash([]int{64, 64})
	has(t, d, 1, some(1, 64))
	has(t, d, 0, full(nil))
}

// P5.3: Arm of a disk without power does nothing, be it then or when the power is back.
func TestArmWithoutPower(t *testing.T) {
	for _, n := range []int{math.MinInt, -1, 0, 1, 2, 5, math.MaxInt} {
		d := cut(t)
		d.Arm(n)
		is(t, d, state{len: 8, pending: 1, ops: 1, down: true})
		does(t, "Flush", d.Flush(), api.ErrDown)
		d.Crash(nil)
		for range 9 {
			does(t, "Flush", d.Flush(), api.OK)
		}
		is(t, d, state{len: 8, ops: 10})
	}
}

// P5.4
func TestCrashKeeps(t *testing.T) {
	sure := some(9, 8*64)
	for keep, want := range map[int]int{math.MinInt: 0, -64: 0, -1: 0, 0: 0, 1: 1, 2: 2, 9: 9, 10: 10, 11: 11, 63: 63, 64: 64, 65: 64, 1 << 40: 64, math.MaxInt: 64} {
		for _, n := range []int{0, 10, 64} {
			d := laid(t, sure)
			does(t, "Write", d.Write(3, some(1, n)), api.OK)
			d.Crash([]int{keep})
			whole := slices.Clone(sure)
			copy(whole[3*64:], over(sure[3*64:4*64], full(some(1, n)), want))
			has(t, d, 3, whole[3*64:4*64])
			is(t, d, state{len: 8, ops: 1})
			if !bytes.Equal(d.Image(), whole) {
				t.Errorf("%d bytes, %d kept: other bytes are sure", n, keep)
			}
		}
	}
}

// P5.4: with power and without, and at a Write that failed.
func TestCrashOfEachSort(t *testing.T) {
	for _, armed := range []int{0, 4, 5, 100} {
		d := laid(t, some(9, 8*64))
		d.Arm(armed)
		for k, i := range []int{0, 4, 2, 6} {
			d.Write(i, some(k, 64))
		}
		d.Flush()
		if armed == 0 || armed == 100 {
			// sure by now: written again, to be torn
			for k, i := range []int{0, 4, 2, 6} {
				d.Write(i, some(10+k, 64))
			}
		}
		old, seed := some(9, 8*64), 0
		if !d.Down() {
			seed = 10
			for k, i := range []int{0, 4, 2, 6} {
				copy(old[i*64:], some(k, 64))
			}
		}
		ops := d.Ops()
		d.Crash([]int{5, -3, 99, 7})
		is(t, d, state{len: 8, ops: ops})
		has(t, d, 0, over(old[0:64], some(seed, 64), 5))
		has(t, d, 4, old[4*64:5*64])
		has(t, d, 2, some(seed+2, 64))
		has(t, d, 6, over(old[6*64:7*64], some(seed+3, 64), 7))
	}
}

// P5.4: writes of one sector, one over the other, in their order.
func TestCrashLaysWritesInOrder(t *testing.T) {
	a, b, c := some(1, 64), some(2, 64), some(3, 64)
	for _, x := range []struct {
		keeps []int
		want  []byte
	}{
		{[]int{64, 64, 64}, c},
		{[]int{64, 64, 0}, b},
		{[]int{64, 64}, b},
		{[]int{64}, a},
		{[]int{0, 64, 0}, b},
		{[]int{64, 32, 16}, over(over(a, b, 32), c, 16)},
		{[]int{16, 32, 64}, c},
		{[]int{48, 32, 1}, over(over(over(full(nil), a, 48), b, 32), c, 1)},
		{[]int{1, 2, 3}, over(full(nil), c, 3)},
		{[]int{3, 0, 1}, over(over(full(nil), a, 3), c, 1)},
		{nil, full(nil)},
	} {
		d := fresh(t, 8)
		for _, s := range [][]byte{a, b, c} {
			does(t, "Write", d.Write(5, s), api.OK)
		}
		d.Crash(x.keeps)
		has(t, d, 5, x.want)
		if !bytes.Equal(d.Image()[5*64:6*64], x.want) {
			t.Errorf("%v: other bytes are sure", x.keeps)
		}
	}
}

// P5.4: numbers that lack, and numbers of no write.
func TestCrashWithTooFewAndTooMany(t *testing.T) {
	for n := range 7 {
		d := fresh(t, 8)
		for k := range 3 {
			does(t, "Write", d.Write(k, some(k, 64)), api.OK)
		}
		d.Crash(slices.Repeat([]int{64}, n))
		for k := range 8 {
			want := full(nil)
			if k < min(n, 3) {
				want = some(k, 64)
			}
			has(t, d, k, want)
		}
		is(t, d, state{len: 8, ops: 3})
	}
}

// P5.4: what was pending is so no more, and the next crash keeps nothing of it.
func TestCrashTwice(t *testing.T) {
	d := fresh(t, 8)
	does(t, "Write", d.Write(1, some(1, 64)), api.OK)
	d.Crash([]int{20})
	d.Crash([]int{64})
	has(t, d, 1, over(full(nil), some(1, 64), 20))
	does(t, "Flush", d.Flush(), api.OK)
	has(t, d, 1, over(full(nil), some(1, 64), 20))
	does(t, "Write", d.Write(2, some(2, 64)), api.OK)
	is(t, d, state{len: 8, pending: 1, ops: 3})
	d.Crash([]int{64})
	has(t, d, 1, over(full(nil), some(1, 64), 20))
	has(t, d, 2, some(2, 64))
}

// P5.4: a disk that was armed isn't, behind a crash; it may be armed anew then.
func TestCrashDisarms(t *testing.T) {
	for _, n := range []int{1, 2, 3, 9} {
		d := fresh(t, 8)
		d.Arm(n)
		d.Crash(nil)
		for range 20 {
			does(t, "Flush", d.Flush(), api.OK)
			does(t, "Write", d.Write(0, nil), api.OK)
		}
		d.Arm(2)
		does(t, "the first", d.Flush(), api.OK)
		does(t, "the second", d.Write(0, nil), api.ErrDown)
		d.Crash(nil)
		does(t, "Flush", d.Flush(), api.OK)
	}
}

// P5.5
func TestOps(t *testing.T) {
	d := fresh(t, 8)
	d.Read(0)
	d.Read(8)
	d.Write(8, nil)
	d.Write(0, make([]byte, 65))
	d.Image()
	d.Arm(3)
	d.Crash(nil)
	is(t, d, state{len: 8})
	does(t, "Write", d.Write(0, nil), api.OK)
	does(t, "Write", d.Write(0, nil), api.OK)
	does(t, "Flush", d.Flush(), api.OK)
	is(t, d, state{len: 8, ops: 3})
	d.Crash(nil)
	is(t, d, state{len: 8, ops: 3})
	d.Arm(1)
	does(t, "Write", d.Write(0, nil), api.ErrDown)
	does(t, "Write", d.Write(0, nil), api.ErrDown)
	does(t, "Flush", d.Flush(), api.ErrDown)
	is(t, d, state{len: 8, pending: 1, ops: 3, down: true})
	d.Crash(nil)
	does(t, "Flush", d.Flush(), api.OK)
	is(t, d, state{len: 8, ops: 4})
}

// P5.5
func TestNilDisk(t *testing.T) {
	var d *disk.Disk
	for _, i := range append(absent(8), 0, 7) {
		if b, e := d.Read(i); len(b) != 0 || e != api.ErrNil {
			t.Errorf("Read(%d): %d bytes, %v", i, len(b), e)
		}
		does(t, "Write", d.Write(i, nil), api.ErrNil)
		does(t, "a long Write", d.Write(i, make([]byte, 65)), api.ErrNil)
		d.Arm(i)
		does(t, "Flush", d.Flush(), api.ErrNil)
		d.Crash([]int{i, 1})
	}
	d.Crash(nil)
	is(t, d, state{})
	if b := d.Image(); len(b) != 0 {
		t.Errorf("Image: %d bytes", len(b))
	}
}

// P1, rule 6: of a disk that no maker made the calls end.
func TestDiskOfNoMaker(t *testing.T) {
	d := new(disk.Disk)
	for _, i := range append(absent(8), 0, 7) {
		d.Read(i)
		d.Write(i, []byte("ab"))
		d.Arm(i)
		d.Flush()
		d.Crash([]int{i, 1})
		of(d)
		d.Image()
	}
}

// plain is a disk as lists that are gone through from the beginning at every call.
type plain struct {
	sure   [][]byte
	writes []api.Write
	left   int
	down   bool
	ops    int
}

func (p *plain) unable(i int) api.Errno {
	if p.down {
		return api.ErrDown
	}
	if i < 0 || i >= len(p.sure) {
		return api.ErrArg
	}
	return api.OK
}

func (p *plain) read(i int) ([]byte, api.Errno) {
	if e := p.unable(i); e != api.OK {
		return nil, e
	}
	b := p.sure[i]
	for _, w := range p.writes {
		if w.Sector == i {
			b = w.Bytes
		}
	}
	return b, api.OK
}

func (p *plain) counted() api.Errno {
	p.left--
	if p.left == 0 {
		p.down = true
		return api.ErrDown
	}
	p.ops++
	return api.OK
}

func (p *plain) write(i int, b []byte) api.Errno {
	if e := p.unable(i); e != api.OK {
		return e
	}
	if len(b) > api.SectorSize {
		return api.ErrLong
	}
	p.writes = append(p.writes, api.Write{Sector: i, Bytes: full(b)})
	return p.counted()
}

func (p *plain) flush() api.Errno {
	if p.down {
		return api.ErrDown
	}
	e := p.counted()
	if e == api.OK {
		for _, w := range p.writes {
			p.sure[w.Sector] = w.Bytes
		}
		p.writes = nil
	}
	return e
}

func (p *plain) arm(n int) {
	if !p.down {
		p.left = n
	}
}

func (p *plain) crash(keeps []int) {
	for k, w := range p.writes {
		for j, c := range w.Bytes {
			if k < len(keeps) && j < keeps[k] {
				s := slices.Clone(p.sure[w.Sector])
				s[j] = c
				p.sure[w.Sector] = s
			}
		}
	}
	p.writes, p.left, p.down = nil, 0, false
}

// P5.1 to P5.5: many steps, of no great order, against the plain disk.
func TestManySteps(t *testing.T) {
	x := uint32(11)
	pick := func(n int) int {
		x = x*1664525 + 1013904223
		return int(x>>8) % n
	}
	for round := range 60 {
		n := 8 + pick(5)
		image := some(round, n*64)
		d, p := laid(t, image), &plain{}
		for i := range n {
			p.sure = append(p.sure, image[i*64:(i+1)*64])
		}
		for step := range 300 {
			i := pick(n+2) - 1
			switch k := pick(40); {
			case k < 26:
				b := some(step, pick(70))
				does(t, "Write", d.Write(i, b), p.write(i, b))
			case k < 33:
				does(t, "Flush", d.Flush(), p.flush())
			case k < 36:
				calls := pick(12) - 1
				d.Arm(calls)
				p.arm(calls)
			default:
				var keeps []int
				for range pick(10) {
					keeps = append(keeps, pick(80)-8)
				}
				d.Crash(keeps)
				p.crash(keeps)
			}
			is(t, d, state{n, len(p.writes), p.ops, p.down})
			for i := -1; i <= n; i++ {
				want, e := p.read(i)
				if got, f := d.Read(i); f != e || !bytes.Equal(got, want) {
					t.Fatalf("round %d, step %d: Read(%d): % x, %v, not % x, %v", round, step, i, got, f, want, e)
				}
			}
			if !bytes.Equal(d.Image(), slices.Concat(p.sure...)) {
				t.Fatalf("round %d, step %d: other bytes are sure", round, step)
			}
		}
	}
}

// Rule 4: nothing that is handed in changes, nor what lies in its spare room.
func TestNothingHandedInChanges(t *testing.T) {
	room := some(1, 8*64+100)
	image := room[:8*64]
	d := laid(t, image)
	for _, n := range []int{0, 1, 10, 64, 65} {
		d.Write(n%8, room[:n])
	}
	d.Flush()
	d.Write(3, some(2, 64))
	d.Crash([]int{10})
	d.Write(4, some(3, 64))
	d.Flush()
	if !bytes.Equal(room, some(1, 8*64+100)) {
		t.Error("bytes that were handed in have changed")
	}
	numbers := []int{-5, 100, 3, 7, 8}
	for range 2 {
		d.Write(1, nil)
		d.Write(1, nil)
		d.Crash(numbers[:3])
	}
	if !slices.Equal(numbers, []int{-5, 100, 3, 7, 8}) {
		t.Errorf("numbers that were handed in have changed: %v", numbers)
	}
}

// spoil overwrites all memory of a list.
func spoil(b []byte) {
	b = b[:cap(b)]
	for i := range b {
		b[i] ^= 0xff
	}
}

// Rule 4: nothing that is handed in is kept.
func TestNothingHandedInIsKept(t *testing.T) {
	image := some(1, 8*64)
	d := laid(t, image)
	spoil(image)
	if !bytes.Equal(d.Image(), some(1, 8*64)) {
		t.Error("Lay keeps its image")
	}
	b := some(2, 64)
	does(t, "Write", d.Write(1, b), api.OK)
	spoil(b)
	has(t, d, 1, some(2, 64))
	does(t, "Flush", d.Flush(), api.OK)
	spoil(b)
	has(t, d, 1, some(2, 64))
	c := some(3, 64)
	does(t, "Write", d.Write(2, c), api.OK)
	spoil(c)
	d.Crash([]int{64})
	spoil(c)
	has(t, d, 2, some(3, 64))
}

// Rule 4: an answer is new memory.
func TestAnswersAreNewMemory(t *testing.T) {
	d := laid(t, some(1, 8*64))
	does(t, "Write", d.Write(1, some(2, 64)), api.OK)
	does(t, "Flush", d.Flush(), api.OK)
	does(t, "Write", d.Write(2, some(3, 64)), api.OK)
	whole := d.Image()
	for i, want := range [][]byte{some(1, 64), some(2, 64), some(3, 64)} {
		first, _ := d.Read(i)
		second, _ := d.Read(i)
		spoil(first)
		if !bytes.Equal(second, want) {
			t.Errorf("Read(%d) answers the same memory twice", i)
		}
		has(t, d, i, want)
	}
	spoil(d.Image())
	if !bytes.Equal(d.Image(), whole) {
		t.Error("Image answers memory that is kept")
	}
	does(t, "Flush", d.Flush(), api.OK)
	has(t, d, 2, some(3, 64))
	image := some(4, 8*64)
	e := laid(t, image)
	spoil(e.Image())
	if !bytes.Equal(image, some(4, 8*64)) {
		t.Error("Image answers memory that was handed in")
	}
	does(t, "Write", d.Write(0, some(5, 64)), api.OK)
	held, _ := d.Read(0)
	does(t, "Write", d.Write(0, some(6, 64)), api.OK)
	does(t, "Flush", d.Flush(), api.OK)
	if !bytes.Equal(held, some(5, 64)) {
		t.Error("what was read changes with what is written")
	}
}

// Disks have nothing of one another.
func TestDisksAreApart(t *testing.T) {
	a, b := fresh(t, 8), fresh(t, 8)
	a.Arm(3)
	does(t, "Write", a.Write(1, some(1, 64)), api.OK)
	does(t, "Flush", a.Flush(), api.OK)
	does(t, "Write", a.Write(2, some(1, 64)), api.ErrDown)
	is(t, b, state{len: 8})
	has(t, b, 1, full(nil))
	does(t, "Flush", b.Flush(), api.OK)
	b.Crash([]int{64})
	is(t, a, state{len: 8, pending: 1, ops: 2, down: true})
}

// What a call takes doesn't grow with what is pending, nor with what once was.
func TestManyWrites(t *testing.T) {
	const writes = 200000
	start := time.Now()
	d := fresh(t, api.MaxSectors)
	for k := range writes {
		i := k % api.MaxSectors
		if e := d.Write(i, some(k, 8)); e != api.OK {
			t.Fatal(k, e)
		}
		if b, e := d.Read(i); e != api.OK || b[0] != some(k, 1)[0] {
			t.Fatal(k, e)
		}
	}
	is(t, d, state{len: api.MaxSectors, pending: writes, ops: writes})
	for k := range writes {
		if e := d.Flush(); e != api.OK {
			t.Fatal(k, e)
		}
	}
	if took := time.Since(start); took > 20*time.Second {
		t.Errorf("it took %v", took)
	}
}

// the chapter's examples
func TestExamples(t *testing.T) {
	d := fresh(t, 8)
	does(t, "Write", d.Write(3, []byte("ab")), api.OK)
	has(t, d, 3, full([]byte{0x61, 0x62}))
	if n := d.Pending(); n != 1 {
		t.Errorf("Pending: %d", n)
	}
	d.Crash([]int{1})
	has(t, d, 3, full([]byte{0x61}))

	d = fresh(t, 8)
	does(t, "Write", d.Write(3, []byte("ab")), api.OK)
	does(t, "Flush", d.Flush(), api.OK)
	d.Crash([]int{1})
	has(t, d, 3, full([]byte{0x61, 0x62}))

	d = fresh(t, 8)
	d.Arm(1)
	does(t, "Flush", d.Flush(), api.ErrDown)
	if b, e := d.Read(0); len(b) != 0 || e != api.ErrDown {
		t.Errorf("Read(0): %d bytes, %v", len(b), e)
	}
	d.Crash(nil)
	has(t, d, 0, full(nil))
}
