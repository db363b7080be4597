package manifest_test

import (
	"bytes"
	"encoding/binary"
	"hash/crc32"
	"math"
	"slices"
	"testing"

	"hayloft/api"
	"hayloft/chain"
	"hayloft/disk"
	"hayloft/manifest"
)

// P21.1, P21.4: the chapter's examples.
func TestExamples(t *testing.T) {
	b := bytesOf(t, made(1, 3, 40))
	want := slices.Concat([]byte{1, 0, 0, 0, 3, 0, 0, 0, 40, 0, 0, 0}, make([]byte, 44), b[56:60], []byte{1, 0, 0, 0})
	if !bytes.Equal(b, want) {
		t.Errorf("% x", b)
	}
	isRead(t, want, made(1, 3, 40))
	next(t, nil, -1, 1, 0)
	next(t, []manifest.Found{found(0, 5, 3, 40), found(1, 4, 9, 40)}, 1, 6, 0)
}

// P21.1: a manifest whose bytes are told here one by one, the sum too.
func TestBytesOneByOne(t *testing.T) {
	for _, x := range []struct {
		m              manifest.Manifest
		head, sum, seq []byte
	}{
		{made(1, 3, 40), []byte{1, 0, 0, 0, 3, 0, 0, 0, 40, 0, 0, 0}, []byte{0xda, 0xaf, 0x0d, 0x08}, []byte{1, 0, 0, 0}},
		{made(0x04030201, 0x0605, 0x0807), []byte{1, 2, 3, 4, 5, 6, 0, 0, 7, 8, 0, 0}, []byte{0x85, 0x3b, 0x89, 0x81}, []byte{1, 2, 3, 4}},
		{made(1<<32-1, 65534, 65542), []byte{255, 255, 255, 255, 254, 255, 0, 0, 6, 0, 1, 0}, []byte{0x02, 0x25, 0xf9, 0x6f}, []byte{255, 255, 255, 255}},
	} {
		b := bytesOf(t, x.m)
		if len(b) != 64 || !bytes.Equal(b[:12], x.head) || !bytes.Equal(b[12:56], make([]byte, 44)) || !bytes.Equal(b[56:60], x.sum) || !bytes.Equal(b[60:], x.seq) {
			t.Errorf("Bytes of %+v: % x", x.m, b)
		}
	}
}

// P21.1
func TestSector(t *testing.T) {
	for sectors := api.MinSectors; sectors <= api.MaxSectors; sectors++ {
		if a, b := manifest.Sector(0, sectors), manifest.Sector(1, sectors); a != 0 || b != sectors-1 {
			t.Fatalf("of %d sectors: %d, %d", sectors, a, b)
		}
	}
	none := append([]int{-2, -1, 2, 3, 7, 8, 65535, 65536}, wild...)
	for _, sectors := range []int{8, 9, 100, 65535, 65536} {
		for _, slot := range none {
			if s := manifest.Sector(slot, sectors); s != -1 {
				t.Errorf("the slot %d of %d sectors: %d", slot, sectors, s)
			}
		}
	}
	for _, sectors := range append([]int{-65536, -8, -2, -1, 0, 1, 2, 3, 6, 7, 65537, 65538, 65544, 131072}, wild...) {
		for _, slot := range append([]int{0, 1}, none...) {
			if s := manifest.Sector(slot, sectors); s != -1 {
				t.Errorf("the slot %d of %d sectors: %d", slot, sectors, s)
			}
		}
	}
}

// P21.1: each number at its ends, and beyond them, beside others that are at theirs.
func TestNumbersOfBytes(t *testing.T) {
	for _, x := range numbers() {
		for _, plain := range []manifest.Manifest{made(1, 3, 40), made(1, 1, 8), made(1<<32-1, 65534, 65542), made(77, 256, 65536)} {
			with := func(n int) manifest.Manifest {
				m := plain
				*x.of(&m) = n
				return m
			}
			for _, n := range []int{x.least, x.least + 1, 40, 255, 256, 257, x.most - 1, x.most} {
				b := bytesOf(t, with(n))
				isRead(t, b, with(n))
				if got := binary.LittleEndian.Uint32(b[x.at:]); int(got) != n {
					t.Errorf("%s %d: %d stands at %d", x.name, n, got, x.at)
				}
			}
			for _, n := range []int{x.least - 1, x.least - 2, -1, -2, -x.most, -x.least, 0, x.most + 1, x.most + 2, x.most * 2} {
				unwritten(t, with(n))
			}
			for _, n := range wild {
				unwritten(t, with(n))
			}
		}
	}
	if api.MaxSectors-2 != 65534 || chain.Most != 65542 || api.MaxSeq != 4294967295 {
		t.Error("these tests' limits are others than the program's")
	}
}

// P21.1: one wrong number is enough, and so are two and three.
func TestSomeNumbersOfBytes(t *testing.T) {
	for _, seq := range []int{-1, 0, 1, 2, 1<<32 - 1, 1 << 32} {
		for _, first := range []int{-1, 0, 1, 2, 65534, 65535} {
			for _, n := range []int{-8, 0, 7, 8, 9, 65542, 65543} {
				m := made(seq, first, n)
				if modelRight(m) {
					isRead(t, bytesOf(t, m), m)
				} else {
					unwritten(t, m)
				}
			}
		}
	}
	unwritten(t, manifest.Manifest{})
}

// P21.2: bytes that are too few or too many, whatever they are.
func TestLengthsOfRead(t *testing.T) {
	whole := bytesOf(t, made(1, 3, 40))
	unread(t, nil, api.ErrShort)
	unread(t, []byte{}, api.ErrShort)
	for n := range 64 {
		unread(t, whole[:n], api.ErrShort)
		unread(t, whole[64-n:], api.ErrShort)
		unread(t, make([]byte, n), api.ErrShort)
	}
	for _, n := range []int{1, 2, 3, 4, 8, 63, 64, 65, 1000, 1 << 20} {
		unread(t, append(slices.Clone(whole), make([]byte, n)...), api.ErrLong)
		unread(t, append(make([]byte, n), whole...), api.ErrLong)
		unread(t, make([]byte, 64+n), api.ErrLong)
		unread(t, slices.Concat(whole, whole), api.ErrLong)
	}
	isRead(t, whole, made(1, 3, 40))
}

// P21.2: noughts, ones, and others that are all alike.
func TestBytesThatAreAlike(t *testing.T) {
	for c := range 256 {
		b := slices.Repeat([]byte{byte(c)}, 64)
		unread(t, b, api.ErrSum)
		unread(t, sealed(b), api.ErrForm)
	}
}

// P21.2: each byte turned by itself, in each way.
func TestEachByteTurned(t *testing.T) {
	for _, m := range []manifest.Manifest{made(1, 3, 40), made(1<<32-1, 65534, 65542), made(0x01020304, 300, 1000)} {
		whole := bytesOf(t, m)
		for at := range 64 {
			want := api.ErrSum
			if at < 4 || at >= 60 {
				want = api.ErrTwice
			}
			for by := 1; by < 256; by++ {
				unread(t, turned(whole, at, byte(by)), want)
			}
		}
		isRead(t, whole, m)
	}
}

// P21.2: the first four bytes aren't the last four, under a sum that is right and under one that isn't.
func TestFirstAndLastBytes(t *testing.T) {
	whole := bytesOf(t, made(0x01020304, 3, 40))
	for k := range 4 {
		for by := 1; by < 256; by++ {
			// the sum is that of the first 56, so that it is right whatever the last four are
			unread(t, turned(whole, 60+k, byte(by)), api.ErrTwice)
			unread(t, turned(turned(whole, 60+k, byte(by)), 56, 1), api.ErrTwice)
			// under a sum of its own the first four are right, and the last four the old ones
			first := sealed(turned(whole, k, byte(by)))
			isRead(t, first, made(int(binary.LittleEndian.Uint32(first)), 3, 40))
			copy(first[60:], whole[60:])
			unread(t, first, api.ErrTwice)
			unread(t, turned(first, 57, 128), api.ErrTwice)
			// both turned alike, under the old sum
			unread(t, turned(turned(whole, k, byte(by)), 60+k, byte(by)), api.ErrSum)
		}
	}
	for _, last := range [][]byte{{1, 2, 3, 4}, {4, 3, 1, 2}, {0, 0, 0, 0}, {5, 3, 2, 1}, {4, 3, 2, 0}, {4, 3, 2, 2}} {
		unread(t, append(slices.Clone(whole[:60]), last...), api.ErrTwice)
	}
}

// P21.2: sums that are wrong in other ways.
func TestOtherSums(t *testing.T) {
	whole := bytesOf(t, made(1, 3, 40))
	s := whole[56:60]
	for _, other := range [][]byte{{0, 0, 0, 0}, {255, 255, 255, 255}, {s[3], s[2], s[1], s[0]}, {^s[0], ^s[1], ^s[2], ^s[3]}, {s[0], s[1], s[2], 0}, {1, 0, 0, 0}} {
		unread(t, slices.Concat(whole[:56], other, whole[60:]), api.ErrSum)
	}
	// the sum of other bytes than the 56 ahead: of the numbers alone, of one less, of one more, and of all but the sum
	for _, of := range [][]byte{nil, whole[:4], whole[:12], whole[:55], whole[:57], slices.Concat(whole[:56], whole[60:])} {
		other := binary.LittleEndian.AppendUint32(nil, crc32.Checksum(of, crc32.MakeTable(crc32.Castagnoli)))
		unread(t, slices.Concat(whole[:56], other, whole[60:]), api.ErrSum)
	}
	// another polynomial's sum
	ieee := binary.LittleEndian.AppendUint32(nil, crc32.ChecksumIEEE(whole[:56]))
	unread(t, slices.Concat(whole[:56], ieee, whole[60:]), api.ErrSum)
}

// P21.2: a byte that isn't 0 ahead of the byte 56, under a right sum.
func TestNoughts(t *testing.T) {
	for _, m := range []manifest.Manifest{made(1, 3, 40), made(1<<32-1, 65534, 65542)} {
		whole := bytesOf(t, m)
		for at := 12; at < 56; at++ {
			for c := 1; c < 256; c++ {
				unread(t, sealed(turned(whole, at, byte(c))), api.ErrForm)
			}
		}
		for at := 12; at < 55; at++ {
			unread(t, sealed(turned(turned(whole, at, 7), at+1, 7)), api.ErrForm)
			unread(t, sealed(turned(turned(whole, at, 1), 55, 255)), api.ErrForm)
		}
		unread(t, sealed(append(slices.Clone(whole[:12]), slices.Repeat([]byte{9}, 52)...)), api.ErrForm)
	}
}

// P21.2: each number at its ends and beyond them, under a right sum.
func TestNumbersOfRead(t *testing.T) {
	all := []uint32{0, 1, 2, 6, 7, 8, 9, 40, 255, 256, 65533, 65534, 65535, 65536, 65537, 65541, 65542, 65543, 65544, 1 << 17, 1<<24 + 8, 1 << 31, 1<<31 + 8, 1<<32 - 2, 1<<32 - 1}
	for _, seq := range all {
		for _, first := range all {
			for _, n := range all {
				m := made(int(seq), int(first), int(n))
				if modelRight(m) {
					isRead(t, sector(seq, first, n), m)
					bytesOf(t, m)
				} else {
					unread(t, sector(seq, first, n), api.ErrForm)
				}
			}
		}
	}
}

// P21.2: where several errors would be, the first one in the chapter's order is told.
func TestWhichErrorIsTold(t *testing.T) {
	right := sector(1, 3, 40)
	noForm := sector(0, 0, 7)
	noSum := turned(noForm, 56, 1)
	noTwice := turned(noSum, 60, 1)
	for _, x := range []struct {
		name string
		b    []byte
		want api.Errno
	}{
		{"right", right, api.OK},
		{"a wrong form", noForm, api.ErrForm},
		{"a wrong sum, a wrong form", noSum, api.ErrSum},
		{"unlike, a wrong sum, a wrong form", noTwice, api.ErrTwice},
		{"unlike, a wrong sum", turned(turned(right, 60, 1), 56, 1), api.ErrTwice},
		{"unlike, a wrong form", turned(noForm, 63, 1), api.ErrTwice},
		{"short, unlike, a wrong sum, a wrong form", noTwice[:63], api.ErrShort},
		{"long, unlike, a wrong sum, a wrong form", append(slices.Clone(noTwice), 0), api.ErrLong},
		{"short, else right", right[:63], api.ErrShort},
		{"long, else right", append(slices.Clone(right), 0), api.ErrLong},
		{"short, since its first byte lacks", right[1:], api.ErrShort},
		{"a wrong sum, a byte that isn't 0", turned(right, 30, 1), api.ErrSum},
		{"a wrong sum, a First too great", turned(right, 7, 1), api.ErrSum},
		{"noughts", make([]byte, 64), api.ErrSum},
		{"noughts under their sum", sealed(make([]byte, 64)), api.ErrForm},
	} {
		m, e := reads(t, x.b)
		if e != x.want || (e == api.OK) != (m == made(1, 3, 40)) {
			t.Errorf("%s: %+v, %v, not %v", x.name, m, e, x.want)
		}
	}
}

// some is a manifest by chance, its numbers often at their ends.
func some(chance func(below int) int) manifest.Manifest {
	var m manifest.Manifest
	for _, x := range numbers() {
		n := x.least + chance(x.most-x.least+1)
		switch chance(6) {
		case 0:
			n = x.least + chance(3)
		case 1:
			n = x.most - chance(3)
		}
		*x.of(&m) = n
	}
	return m
}

// P21.1, P21.2: what is written is read as it was; what is read is written as it was.
func TestThereAndBack(t *testing.T) {
	chance := noise(21)
	for range 20000 {
		m := some(chance)
		isRead(t, bytesOf(t, m), m)
	}
	for seq := 1; seq > 0 && seq <= 1<<32-1; seq *= 2 {
		for _, n := range []int{seq - 1, seq, seq + 1} {
			if n > 0 {
				isRead(t, bytesOf(t, made(n, 3, 40)), made(n, 3, 40))
			}
		}
	}
	for first := 1; first <= 65534; first++ {
		isRead(t, bytesOf(t, made(9, first, 40)), made(9, first, 40))
	}
	for n := 8; n <= 65542; n++ {
		isRead(t, bytesOf(t, made(9, 3, n)), made(9, 3, n))
	}
}

// P21.2: bytes that were changed in a few places, sealed and not, against the model.
func TestAnyBytes(t *testing.T) {
	chance := noise(212)
	met := map[api.Errno]int{}
	for range 60000 {
		b := bytesOf(t, some(chance))
		for range chance(3) {
			b[chance(64)] ^= byte(1 << chance(8))
		}
		switch chance(8) {
		case 0:
			b[chance(12)] = byte(chance(256))
		case 1:
			b = b[:chance(65)]
		case 2:
			b = append(b, make([]byte, chance(3))...)
		}
		if len(b) == 64 && chance(2) == 0 {
			b = sealed(b)
		}
		m, e := reads(t, b)
		met[e]++
		if e == api.OK && !bytes.Equal(bytesOf(t, m), b) {
			t.Fatalf("% x isn't the only bytes of %+v", b, m)
		}
	}
	for _, e := range []api.Errno{api.OK, api.ErrShort, api.ErrLong, api.ErrTwice, api.ErrSum, api.ErrForm} {
		if met[e] < 500 {
			t.Errorf("%v was told %d times", e, met[e])
		}
	}
}

// pairs are manifests with unlike Seqs, of which one may be laid over the other.
func pairs() [][2]manifest.Manifest {
	chance := noise(215)
	var all [][2]manifest.Manifest
	seqs := []int{1, 2, 3, 255, 256, 257, 511, 512, 65535, 65536, 65537, 1 << 24, 1<<24 + 1, 1 << 31, 0x01010101, 0x01010102, 0x02010101, 0x0201ff01, 1<<32 - 2, 1<<32 - 1}
	for _, a := range seqs {
		for _, b := range seqs {
			if a == b {
				continue
			}
			all = append(all, [2]manifest.Manifest{made(a, 3, 40), made(b, 3, 40)}, [2]manifest.Manifest{made(a, 3, 40), made(b, 65534, 65542)})
			m := some(chance)
			m.Seq = a
			all = append(all, [2]manifest.Manifest{m, made(b, 9, 300)})
		}
	}
	return all
}

// P21.5: any number of the first bytes of a manifest are laid over another one, or over noughts.
func TestTorn(t *testing.T) {
	for _, p := range pairs() {
		old, young := bytesOf(t, p[0]), bytesOf(t, p[1])
		for n := range 65 {
			b := over(old, young, n)
			m, e := reads(t, b)
			switch {
			case bytes.Equal(b, young):
				isRead(t, b, p[1])
			case bytes.Equal(b, old):
				isRead(t, b, p[0])
			case e == api.OK || m != made(0, 0, 0):
				t.Fatalf("%d bytes of %+v over %+v: %+v, %v", n, p[1], p[0], m, e)
			}
			b = over(make([]byte, 64), young, n)
			if bytes.Equal(b, young) {
				isRead(t, b, p[1])
			} else if m, e := reads(t, b); e == api.OK || m != made(0, 0, 0) {
				t.Fatalf("%d bytes of %+v over noughts: %+v, %v", n, p[1], m, e)
			}
		}
	}
}

// P21.5, P21.3: a manifest is torn as the power fails at its write, or at the flush behind it.
func TestTornOnADisk(t *testing.T) {
	old, other, young := made(5, 3, 40), made(6, 4, 41), made(7, 5, 42)
	for _, slot := range []int{0, 1} {
		for _, before := range []manifest.Manifest{old, made(0, 0, 0)} {
			for armed := 1; armed <= 2; armed++ {
				for keep := -1; keep <= 65; keep++ {
					d := fresh(t, 8)
					at := manifest.Sector(slot, 8)
					var want []manifest.Found
					if before == old {
						write(t, d, at, bytesOf(t, old))
						want = []manifest.Found{{Slot: slot, Manifest: old}}
					}
					write(t, d, 7-at, bytesOf(t, other))
					want = append([]manifest.Found{{Slot: 1 - slot, Manifest: other}}, want...)
					flush(t, d)
					finds(t, d, want...)
					d.Arm(armed)
					d.Write(at, bytesOf(t, young))
					d.Flush()
					refuses(t, d, api.ErrDown, 0)
					d.Crash([]int{keep})
					switch {
					case keep >= 61:
						want = []manifest.Found{{Slot: slot, Manifest: young}, want[0]}
					case keep > 0:
						want = want[:1]
					}
					finds(t, d, want...)
				}
			}
		}
	}
}

// P21.5: some bits turned, all of them within 32 side by side, wherever they begin.
func TestBursts(t *testing.T) {
	chance := noise(2105)
	for _, m := range []manifest.Manifest{made(1, 3, 40), made(1<<32-1, 65534, 65542), made(0x01020304, 300, 1000), made(1<<31, 1, 8)} {
		whole := bytesOf(t, m)
		for from := range 512 {
			for long := 1; long <= 32 && from+long <= 512; long++ {
				for range 4 {
					b := slices.Clone(whole)
					all := chance(4) == 0
					for k := range long {
						if all || k == 0 || k == long-1 || chance(2) == 0 {
							b[(from+k)/8] ^= 1 << ((from + k) % 8)
						}
					}
					if m, e := reads(t, b); e != api.ErrTwice && e != api.ErrSum {
						t.Fatalf("%d bits from %d on: %+v, %v", long, from, m, e)
					}
				}
			}
		}
	}
}

// P21.3
func TestFindOfNoDisk(t *testing.T) {
	refuses(t, nil, api.ErrNil, -1)
	var none *disk.Disk
	refuses(t, none, api.ErrNil, -1)
}

// P21.3: a disk without power tells so at slot 0, whatever it holds.
func TestFindWithoutPower(t *testing.T) {
	for _, sectors := range []int{8, 9, 65536} {
		for held := range 4 {
			d := fresh(t, sectors)
			if held%2 == 1 {
				write(t, d, 0, bytesOf(t, made(5, 3, 40)))
			}
			if held/2 == 1 {
				write(t, d, sectors-1, bytesOf(t, made(6, 3, 40)))
			}
			flush(t, d)
			want := modelFind(d)
			d.Arm(1)
			// no read takes the power
			finds(t, d, want...)
			if e := d.Flush(); e != api.ErrDown {
				t.Fatal(e)
			}
			refuses(t, d, api.ErrDown, 0)
			refuses(t, d, api.ErrDown, 0)
			d.Crash(nil)
			finds(t, d, want...)
		}
	}
}

// P21.3: no manifest, one in either slot, two.
func TestFind(t *testing.T) {
	a, b := made(4, 3, 40), made(9, 2, 50)
	for _, sectors := range []int{8, 9, 1000, 65536} {
		last := sectors - 1
		d := fresh(t, sectors)
		finds(t, d)
		write(t, d, 0, bytesOf(t, a))
		finds(t, d, manifest.Found{Slot: 0, Manifest: a})
		write(t, d, last, bytesOf(t, b))
		finds(t, d, manifest.Found{Slot: 1, Manifest: b}, manifest.Found{Slot: 0, Manifest: a})
		write(t, d, 0, make([]byte, 64))
		finds(t, d, manifest.Found{Slot: 1, Manifest: b})
		write(t, d, 0, bytesOf(t, b))
		write(t, d, last, bytesOf(t, a))
		finds(t, d, manifest.Found{Slot: 0, Manifest: b}, manifest.Found{Slot: 1, Manifest: a})
		write(t, d, last, nil)
		finds(t, d, manifest.Found{Slot: 0, Manifest: b})
		write(t, d, 0, nil)
		finds(t, d)
	}
}

// P21.3: manifests that stand in no slot are none.
func TestFindLooksIntoTheSlotsAlone(t *testing.T) {
	for _, sectors := range []int{8, 9, 20} {
		d := fresh(t, sectors)
		for s := 1; s < sectors-1; s++ {
			write(t, d, s, bytesOf(t, made(100+s, 3, 40)))
		}
		finds(t, d)
		write(t, d, 0, bytesOf(t, made(1, 3, 40)))
		finds(t, d, found(0, 1, 3, 40))
		write(t, d, sectors-1, bytesOf(t, made(2, 3, 40)))
		finds(t, d, found(1, 2, 3, 40), found(0, 1, 3, 40))
	}
}

// P21.3: the greater Seq comes first, by however much it is greater; of the same one slot 0 does.
func TestOrderOfFind(t *testing.T) {
	seqs := []int{1, 2, 3, 4, 255, 256, 257, 65535, 65536, 1 << 24, 1<<31 - 1, 1 << 31, 1<<31 + 1, 1<<32 - 2, 1<<32 - 1}
	for _, a := range seqs {
		for _, b := range seqs {
			for _, x := range [][4]int{{3, 40, 9, 50}, {9, 50, 3, 40}, {3, 50, 9, 40}, {3, 40, 3, 40}, {1, 8, 65534, 65542}, {65534, 65542, 1, 8}} {
				d := fresh(t, 8)
				write(t, d, 0, bytesOf(t, made(a, x[0], x[1])))
				write(t, d, 7, bytesOf(t, made(b, x[2], x[3])))
				want := []manifest.Found{found(0, a, x[0], x[1]), found(1, b, x[2], x[3])}
				if b > a {
					slices.Reverse(want)
				}
				finds(t, d, want...)
				flush(t, d)
				finds(t, d, want...)
			}
		}
	}
}

// P21.3: a slot of which Read has an error has none, whichever error that is, and isn't told of.
func TestFindOfSlotsThatAreNone(t *testing.T) {
	whole := sector(0x01020304, 3, 40)
	none := [][]byte{nil, []byte("x"), whole[:63], whole[:60], turned(whole, 60, 1), turned(whole, 0, 1), turned(whole, 56, 1), turned(whole, 4, 1), sector(0, 3, 40), sector(9, 0, 40), sector(9, 65535, 40), sector(9, 3, 7), sector(9, 3, 65543), sealed(turned(whole, 55, 1)), sealed(turned(whole, 12, 1)), slices.Repeat([]byte{255}, 64)}
	for _, a := range none {
		for _, b := range none {
			d := fresh(t, 8)
			write(t, d, 0, a)
			write(t, d, 7, b)
			finds(t, d)
			write(t, d, 0, whole)
			finds(t, d, found(0, 0x01020304, 3, 40))
			write(t, d, 0, a)
			write(t, d, 7, whole)
			finds(t, d, found(1, 0x01020304, 3, 40))
		}
	}
}

// P21.3: a root's place isn't held against the disk: a manifest tells of sectors that the disk doesn't have.
func TestFindOfRootsElsewhere(t *testing.T) {
	d := fresh(t, 8)
	write(t, d, 0, bytesOf(t, made(3, 7, 40)))
	write(t, d, 7, bytesOf(t, made(2, 65534, 65542)))
	finds(t, d, found(0, 3, 7, 40), found(1, 2, 65534, 65542))
}

// P21.3: a slot that isn't sure yet is read as it was written last.
func TestFindOfPendingSlots(t *testing.T) {
	for _, slot := range []int{0, 1} {
		at := 7 * slot
		d := fresh(t, 8)
		write(t, d, at, bytesOf(t, made(5, 3, 40)))
		finds(t, d, found(slot, 5, 3, 40))
		d.Crash(nil)
		finds(t, d)
		write(t, d, at, bytesOf(t, made(5, 3, 40)))
		flush(t, d)
		write(t, d, at, bytesOf(t, made(6, 4, 41)))
		write(t, d, at, bytesOf(t, made(7, 5, 42)))
		finds(t, d, found(slot, 7, 5, 42))
		write(t, d, at, []byte("torn"))
		finds(t, d)
		d.Crash([]int{64, 0, 0})
		finds(t, d, found(slot, 6, 4, 41))
	}
}

// P21.3: slots that hold anything, against the model.
func TestAnySlots(t *testing.T) {
	chance := noise(213)
	met := map[int]int{}
	for range 20000 {
		d := fresh(t, 8+chance(5))
		for _, s := range []int{0, d.Len() - 1} {
			b := bytesOf(t, some(chance))
			switch chance(5) {
			case 0:
				b[chance(64)] ^= byte(1 << chance(8))
			case 1:
				b = sealed(turned(b, chance(12), byte(1+chance(255))))
			case 2:
				b = sector(uint32(1+chance(3)), uint32(1+chance(9)), 40)
			}
			write(t, d, s, b)
			if chance(2) == 0 {
				flush(t, d)
			}
		}
		want := modelFind(d)
		met[len(want)]++
		finds(t, d, want...)
	}
	for n := range 3 {
		if met[n] < 200 {
			t.Errorf("%d manifests were found %d times", n, met[n])
		}
	}
}

// next holds which number and slot come next.
func next(t *testing.T, l []manifest.Found, used, seq, slot int) {
	t.Helper()
	if gotSeq, gotSlot, e := manifest.Next(l, used); gotSeq != seq || gotSlot != slot || e != api.OK {
		t.Errorf("Next(%+v, %d): %d, %d, %v, not %d, %d", l, used, gotSeq, gotSlot, e, seq, slot)
	}
}

// full holds that no number comes next.
func full(t *testing.T, l []manifest.Found, used int) {
	t.Helper()
	if seq, slot, e := manifest.Next(l, used); seq != 0 || slot != 0 || e != api.ErrFull {
		t.Errorf("Next(%+v, %d): %d, %d, %v", l, used, seq, slot, e)
	}
}

// used are slots that may be said to be used, and the one that is next then.
func used() map[int]int {
	all := map[int]int{-2: 0, -1: 0, 0: 1, 1: 0, 2: 0, 3: 0, 7: 0}
	for _, n := range wild {
		all[n] = 0
	}
	return all
}

// P21.4: lists of none, one, two and more, the greatest one wherever it stands.
func TestNext(t *testing.T) {
	for is, slot := range used() {
		for _, none := range [][]manifest.Found{nil, {}, make([]manifest.Found, 0, 3)} {
			next(t, none, is, 1, slot)
		}
		for _, seq := range []int{1, 2, 5, 255, 256, 65535, 1<<31 - 1, 1 << 31, 1<<32 - 3, 1<<32 - 2} {
			for _, other := range []int{0, 1} {
				next(t, []manifest.Found{found(other, seq, 3, 40)}, is, seq+1, slot)
				for _, less := range []int{1, 2, seq - 1, seq} {
					if less < 1 || less > seq {
						continue
					}
					next(t, []manifest.Found{found(other, seq, 3, 40), found(1-other, less, 9, 50)}, is, seq+1, slot)
					next(t, []manifest.Found{found(other, less, 9, 50), found(1-other, seq, 3, 40)}, is, seq+1, slot)
				}
			}
		}
		for at := range 7 {
			l := slices.Repeat([]manifest.Found{found(0, 4, 3, 40)}, 7)
			l[at].Manifest.Seq = 11
			next(t, l, is, 12, slot)
		}
	}
}

// P21.4: the last number that there is, wherever it stands.
func TestNextIsFull(t *testing.T) {
	for is, slot := range used() {
		for _, seq := range []int{1<<32 - 1, 1 << 32, 1<<32 + 1, 1 << 62, math.MaxInt - 1, math.MaxInt} {
			full(t, []manifest.Found{found(0, seq, 3, 40)}, is)
			full(t, []manifest.Found{found(1, seq, 3, 40)}, is)
			full(t, []manifest.Found{found(0, seq, 3, 40), found(1, 1, 3, 40)}, is)
			full(t, []manifest.Found{found(0, 1<<32-2, 3, 40), found(1, seq, 3, 40)}, is)
			full(t, []manifest.Found{found(0, math.MinInt, 3, 40), found(1, seq, 3, 40), found(1, 7, 3, 40)}, is)
		}
		next(t, []manifest.Found{found(0, 1<<32-2, 3, 40), found(1, 1<<32-3, 3, 40)}, is, 1<<32-1, slot)
	}
}

// P21.4: numbers that no manifest has: one more than the greatest is told all the same.
func TestNextOfAnyNumbers(t *testing.T) {
	for _, x := range []struct {
		seqs []int
		want int
	}{
		{[]int{0}, 1}, {[]int{-1}, 0}, {[]int{-2}, -1}, {[]int{-5, -9}, -4}, {[]int{-9, -5}, -4}, {[]int{-5, 0}, 1}, {[]int{-5, 6}, 7},
		{[]int{math.MinInt}, math.MinInt + 1}, {[]int{math.MinInt, math.MinInt + 5}, math.MinInt + 6},
	} {
		var l []manifest.Found
		for i, seq := range x.seqs {
			l = append(l, found(i*9-4, seq, -1, 1<<40))
		}
		for is, slot := range used() {
			next(t, l, is, x.want, slot)
		}
	}
}

// P21.3, P21.4: checkpoint after checkpoint, each into the slot that the last one doesn't use.
func TestOneCheckpointAfterTheOther(t *testing.T) {
	d := fresh(t, 8)
	used := -1
	for i := 1; i <= 50; i++ {
		l, err := manifest.Find(d)
		if err != nil || len(l) != min(2, i-1) {
			t.Fatal(i, l, err)
		}
		if len(l) > 0 && l[0].Slot != used {
			t.Fatal(i, l)
		}
		next(t, l, used, i, (i+1)%2)
		used = (i + 1) % 2
		write(t, d, manifest.Sector(used, 8), bytesOf(t, made(i, 1+i%6, 8+i)))
		if i%3 == 0 {
			flush(t, d)
		}
	}
}

// Rule 4: nothing that is handed in changes, nor what lies in its spare room; a disk is as it was.
func TestNothingHandedInChanges(t *testing.T) {
	for n := range 70 {
		room := append(sector(1, 3, 40), make([]byte, 40)...)
		was := slices.Clone(room)
		manifest.Read(room[:n])
		if !bytes.Equal(room, was) {
			t.Fatalf("Read of %d bytes has changed them", n)
		}
	}
	l := []manifest.Found{found(0, 4, 3, 40), found(1, 9, 4, 41), found(0, 2, 5, 42), found(1, 1<<32-1, 5, 42)}
	was := slices.Clone(l)
	for n := range 5 {
		for is := range used() {
			manifest.Next(l[:n], is)
		}
	}
	if !slices.Equal(l, was) {
		t.Error("Next has changed its list")
	}
	d := fresh(t, 8)
	write(t, d, 0, bytesOf(t, made(5, 3, 40)))
	flush(t, d)
	write(t, d, 7, bytesOf(t, made(6, 3, 40)))
	image, ops := d.Image(), d.Ops()
	d.Arm(2)
	for range 5 {
		finds(t, d, found(1, 6, 3, 40), found(0, 5, 3, 40))
	}
	if !bytes.Equal(d.Image(), image) || d.Ops() != ops || d.Pending() != 1 || d.Down() || d.Len() != 8 {
		t.Error("Find has changed the disk")
	}
	if e := d.Flush(); e != api.OK {
		t.Error("a Find is counted:", e)
	}
	if e := d.Flush(); e != api.ErrDown {
		t.Error("a Find has turned the power's counter:", e)
	}
}

// Rule 4: what is handed out has nothing in common with another answer, with what was handed in, or with the disk.
func TestAnswersAreNewMemory(t *testing.T) {
	first, second := bytesOf(t, made(1, 3, 40)), bytesOf(t, made(1, 3, 40))
	first = first[:cap(first)]
	for i := range first {
		first[i] ^= 0xff
	}
	isRead(t, second, made(1, 3, 40))
	isRead(t, bytesOf(t, made(1, 3, 40)), made(1, 3, 40))

	d := fresh(t, 8)
	write(t, d, 0, second)
	write(t, d, 7, bytesOf(t, made(2, 4, 41)))
	want := []manifest.Found{found(1, 2, 4, 41), found(0, 1, 3, 40)}
	l, err := manifest.Find(d)
	again, errAgain := manifest.Find(d)
	if err != nil || errAgain != nil {
		t.Fatal(err, errAgain)
	}
	l = l[:cap(l)]
	for i := range l {
		l[i] = found(7, 7, 7, 7)
	}
	if !slices.Equal(again, want) {
		t.Error("two answers share memory:", again)
	}
	finds(t, d, want...)
	clear(second)
	finds(t, d, want...)
	write(t, d, 0, nil)
	flush(t, d)
	if !slices.Equal(again, want) {
		t.Error("what was found changes with the disk:", again)
	}
}

// P1, rule 6: of a disk that no maker made Find ends.
func TestDiskOfNoMaker(t *testing.T) {
	manifest.Find(new(disk.Disk))
}

// P1: all calls end at any numbers.
func TestAnyArguments(t *testing.T) {
	for _, a := range wild {
		for _, b := range wild {
			if s := manifest.Sector(a, b); s != -1 {
				t.Error(a, b, s)
			}
			unwritten(t, made(a, b, a))
			unwritten(t, made(a, 3, b))
			unwritten(t, made(1, a, b))
			l := []manifest.Found{found(a, b, a, b), found(b, a, b, a)}
			seq, slot, e := manifest.Next(l, b)
			if most := max(a, b); most >= 1<<32-1 && (seq != 0 || slot != 0 || e != api.ErrFull) || most < 1<<32-1 && (seq != most+1 || slot != 0 || e != api.OK) {
				t.Error(a, b, seq, slot, e)
			}
		}
	}
}
