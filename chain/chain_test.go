package chain_test

import (
	"bytes"
	"math"
	"math/big"
	"slices"
	"testing"
	"time"

	"hayloft/api"
	"hayloft/chain"
	"hayloft/disk"
)

// P19.1 to P19.3: the chapter's examples.
func TestExamples(t *testing.T) {
	if n := chain.Count(57); n != 2 {
		t.Error(n)
	}
	b := some(1, 57)
	writes := lays(t, b, []int{5, 3}, api.OK)
	if len(writes) != 2 || writes[0].Sector != 5 || writes[1].Sector != 3 {
		t.Fatal(writes)
	}
	if first := writes[0].Bytes; len(first) != 64 || !bytes.Equal(first[:60], append(b[:56:56], 3, 0, 0, 0)) {
		t.Errorf("% x", first)
	}
	if last := writes[1].Bytes; len(last) != 64 || last[0] != b[56] || !bytes.Equal(last[1:60], make([]byte, 59)) {
		t.Errorf("% x", last)
	}
	d := holding(t, 8, b, []int{5, 3})
	answers(t, d, 5, 57, answer{bytes: b, sectors: []int{5, 3}})
	answers(t, d, 5, 56, meets(api.ErrForm, 5))
	answers(t, d, 0, 1, meets(api.ErrForm, 0))
}

// P19.1
func TestCount(t *testing.T) {
	if chain.PerSector != 56 || chain.Most != 65542 {
		t.Error(chain.PerSector, chain.Most)
	}
	for _, x := range [][2]int{
		{math.MinInt, 0}, {math.MinInt + 1, 0}, {-57, 0}, {-56, 0}, {-55, 0}, {-1, 0}, {0, 0},
		{1, 1}, {2, 1}, {55, 1}, {56, 1}, {57, 2}, {111, 2}, {112, 2}, {113, 3}, {65535, 1171}, {65542, 1171}, {65576, 1171}, {65577, 1172},
		{math.MaxInt, 164703072086692426}, {math.MaxInt - 1, 164703072086692426},
	} {
		if n := chain.Count(x[0]); n != x[1] {
			t.Errorf("Count(%d): %d, not %d", x[0], n, x[1])
		}
	}
}

// P19.1: so many sectors are enough, and one less isn't.
func TestCountOfManyNumbers(t *testing.T) {
	numbers := row(1, 70000)
	for k := range 63 {
		numbers = append(numbers, 1<<k, 1<<k+1, max(1, 1<<k-1))
	}
	for k := range 200 {
		numbers = append(numbers, math.MaxInt-k)
	}
	for _, n := range numbers {
		got := chain.Count(n)
		enough := new(big.Int).Mul(big.NewInt(int64(got)), big.NewInt(56))
		less := new(big.Int).Sub(enough, big.NewInt(56))
		if enough.Cmp(big.NewInt(int64(n))) < 0 || less.Cmp(big.NewInt(int64(n))) >= 0 {
			t.Fatalf("Count(%d): %d", n, got)
		}
		if got := chain.Count(-n); got != 0 {
			t.Fatalf("Count(%d): %d", -n, got)
		}
	}
}

// P19.2
func TestLayNothing(t *testing.T) {
	for _, b := range [][]byte{nil, {}, some(1, 9)[:0]} {
		for _, l := range [][]int{nil, {}, row(1, 3)[:0]} {
			if writes := lays(t, b, l, api.OK); len(writes) != 0 {
				t.Error(writes)
			}
		}
		lays(t, b, []int{1}, api.ErrArg)
		lays(t, b, []int{0}, api.ErrArg)
	}
}

// P19.2, P19.4: each number of bytes up to some sectors, and the greatest ones.
func TestLayEachLength(t *testing.T) {
	chance := noise(19)
	lengths := row(1, 300)
	for _, n := range []int{1000, 5600, 5601, 65520, 65535, 65536, 65541, 65542} {
		lengths = append(lengths, n)
	}
	for _, n := range lengths {
		needs := (n + 55) / 56
		for range 3 {
			sectors := shuffled(chance, needs, needs+9)
			b := some(n, n)
			d := holding(t, needs+9, b, sectors)
			answers(t, d, sectors[0], n, answer{bytes: b, sectors: sectors})
			lays(t, b, sectors[1:], api.ErrArg)
			lays(t, b, sectors[:needs-1], api.ErrArg)
			lays(t, b, append(sectors[:needs:needs], 65534), api.ErrArg)
			lays(t, b, append(sectors[:needs:needs], sectors[0]), api.ErrArg)
		}
		lays(t, some(n, n), nil, api.ErrArg)
		lays(t, some(n, n), row(1, 3000), api.ErrArg)
	}
}

// P19.2: bytes that are noughts are bytes as others are.
func TestLayNoughts(t *testing.T) {
	for n := 1; n < 200; n++ {
		b := make([]byte, n)
		d := holding(t, 8, b, []int{6, 2, 4, 1}[:(n+55)/56])
		answers(t, d, 6, n, answer{bytes: b, sectors: []int{6, 2, 4, 1}[:(n+55)/56]})
	}
}

// P19.2: more than Most bytes are told first, whatever the sectors are.
func TestLayTooLong(t *testing.T) {
	for _, n := range []int{65543, 65544, 65576, 65577, 100000, 1 << 20} {
		b := make([]byte, n)
		for _, l := range [][]int{nil, {}, {0}, {1, 1}, {-1}, row(1, 1171), row(1, 1172), row(0, 1171), make([]int, 1171), row(1, (n+55)/56), row(1, 70000)} {
			lays(t, b, l, api.ErrLong)
		}
	}
	lays(t, make([]byte, 65542), row(1, 1171), api.OK)
	lays(t, make([]byte, 65542), row(65534-1170, 1171), api.OK)
	lays(t, make([]byte, 65542), row(0, 1171), api.ErrArg)
	lays(t, make([]byte, 65542), row(65534-1169, 1171), api.ErrArg)
}

// P19.2: which sectors there may be, wherever they stand.
func TestLaySectorsThatMayBe(t *testing.T) {
	for _, n := range []int{1, 2, 3, 20} {
		for at := range n {
			with := func(s int) []int {
				l := row(100, n)
				l[at] = s
				return l
			}
			b := some(n, 56*n-7)
			for _, s := range []int{1, 2, 99, 65533, 65534} {
				lays(t, b, with(s), api.OK)
			}
			for _, s := range []int{0, -1, -2, -100, 65535, 65536, 65537, 1 << 31, 1 << 32, 1<<32 + 1, -1 << 32, math.MinInt, math.MinInt + 1, math.MaxInt} {
				lays(t, b, with(s), api.ErrArg)
			}
		}
	}
}

// P19.2: a sector that stands twice, next to each other and far apart.
func TestLaySectorsTwice(t *testing.T) {
	for _, n := range []int{2, 3, 10, 100} {
		b := some(n, 56*n)
		for i := range n {
			for k := range i {
				l := row(1, n)
				l[i] = l[k]
				lays(t, b, l, api.ErrArg)
			}
		}
		lays(t, b, slices.Repeat([]int{7}, n), api.ErrArg)
	}
	b := some(3, 65542)
	for _, x := range [][2]int{{0, 1}, {0, 1170}, {1169, 1170}, {500, 501}, {3, 1000}} {
		l := row(1, 1171)
		l[x[1]] = l[x[0]]
		lays(t, b, l, api.ErrArg)
	}
}

// P19.3: a nil disk is told first, whatever else is wrong; then how many bytes.
func TestReadOfNoDiskAndOfNoBytes(t *testing.T) {
	numbers := []int{math.MinInt, math.MinInt + 1, -65542, -57, -1, 0, 1, 6, 7, 8, 56, 65541, 65542, 65543, 65544, 1 << 31, 1 << 32, 1<<32 + 1, math.MaxInt - 1, math.MaxInt}
	off := fresh(t, 8)
	off.Arm(1)
	off.Flush()
	for _, first := range numbers {
		for _, n := range numbers {
			answers(t, nil, first, n, refuses(api.ErrNil))
			for _, d := range []*disk.Disk{fresh(t, 8), off, fresh(t, 65536)} {
				if a := reads(t, d, first, n); (a.err == api.ErrArg) != (n < 1 || n > 65542) || a.err == api.OK {
					t.Fatal(first, n, a)
				}
			}
		}
	}
}

// P19.3: one byte, and as many as there may be.
func TestReadLeastAndMost(t *testing.T) {
	d := holding(t, 8, []byte{9}, []int{6})
	answers(t, d, 6, 1, answer{bytes: []byte{9}, sectors: []int{6}})
	for _, n := range []int{-1, 0, 65543} {
		answers(t, d, 6, n, refuses(api.ErrArg))
	}
	answers(t, d, 6, 65542, meets(api.ErrForm, 0))

	chance := noise(1903)
	for _, n := range []int{65541, 65542} {
		b, sectors := some(n, n), shuffled(chance, 1171, 65536)
		d := holding(t, 65536, b, sectors)
		answers(t, d, sectors[0], n, answer{bytes: b, sectors: sectors})
		answers(t, d, sectors[0], 65543, refuses(api.ErrArg))
		answers(t, d, sectors[0], 65520, meets(api.ErrForm, sectors[1169]))
		answers(t, d, sectors[1], n-56, answer{bytes: b[56:], sectors: sectors[1:]})
	}
}

// P19.3: which sectors are data sectors, on disks of several sizes, though all of them have whole sectors.
func TestReadFirst(t *testing.T) {
	for _, sectors := range []int{8, 9, 100, 65536} {
		d := fresh(t, sectors)
		for _, s := range []int{0, 1, sectors - 2, sectors - 1} {
			if e := d.Write(s, sealed([]byte{1, 2, 3}, 0)); e != api.OK {
				t.Fatal(e)
			}
		}
		for _, s := range []int{1, sectors - 2} {
			answers(t, d, s, 3, answer{bytes: []byte{1, 2, 3}, sectors: []int{s}})
		}
		for _, s := range []int{0, sectors - 1, sectors, sectors + 1, -1, -2, -sectors, 65535, 65536, 1 << 32, 1<<32 + 1, -1<<32 + 1, math.MinInt, math.MaxInt} {
			answers(t, d, s, 3, meets(api.ErrForm, s))
		}
	}
}

// P19.3: a chain that leads where none may.
func TestChainsThatLeadWrong(t *testing.T) {
	for _, x := range []struct {
		name  string
		links [][2]int
		n     int
		want  answer
	}{
		{"to the slot 0", [][2]int{{4, 0}}, 57, meets(api.ErrForm, 0)},
		{"to the slot 0, one later", [][2]int{{4, 2}, {2, 0}}, 113, meets(api.ErrForm, 0)},
		{"to the slot 1", [][2]int{{4, 9}}, 57, meets(api.ErrForm, 9)},
		{"behind the disk", [][2]int{{4, 10}}, 57, meets(api.ErrForm, 10)},
		{"to 65535", [][2]int{{4, 3}, {3, 65535}}, 113, meets(api.ErrForm, 65535)},
		{"to 65537", [][2]int{{4, 65537}, {1, 0}}, 57, meets(api.ErrForm, 65537)},
		{"to 2^31", [][2]int{{4, 1 << 31}}, 57, meets(api.ErrForm, 1<<31)},
		{"to 2^32 - 1", [][2]int{{4, 1<<32 - 1}}, 57, meets(api.ErrForm, 1<<32-1)},
		{"to itself", [][2]int{{4, 4}}, 57, meets(api.ErrForm, 4)},
		{"to itself, of many bytes", [][2]int{{4, 4}}, 65542, meets(api.ErrForm, 4)},
		{"to itself, one later", [][2]int{{4, 5}, {5, 5}}, 113, meets(api.ErrForm, 5)},
		{"back to the first", [][2]int{{4, 5}, {5, 4}}, 113, meets(api.ErrForm, 4)},
		{"back to the first, of many bytes", [][2]int{{4, 5}, {5, 4}}, 65542, meets(api.ErrForm, 4)},
		{"back to one between", [][2]int{{4, 5}, {5, 6}, {6, 7}, {7, 5}}, 300, meets(api.ErrForm, 5)},
		{"back to the first over all", [][2]int{{4, 3}, {3, 2}, {2, 1}, {1, 8}, {8, 7}, {7, 6}, {6, 5}, {5, 4}}, 449, meets(api.ErrForm, 4)},
		{"too soon to 0", [][2]int{{4, 5}, {5, 0}}, 113, meets(api.ErrForm, 0)},
		{"too soon to 0, of many bytes", [][2]int{{4, 5}, {5, 0}}, 65542, meets(api.ErrForm, 0)},
		{"on behind the last", [][2]int{{4, 5}, {5, 6}}, 112, meets(api.ErrForm, 5)},
		{"on behind the only one", [][2]int{{4, 5}}, 56, meets(api.ErrForm, 4)},
		{"to itself in the last", [][2]int{{4, 4}}, 56, meets(api.ErrForm, 4)},
		{"back to the first in the last", [][2]int{{4, 5}, {5, 4}}, 112, meets(api.ErrForm, 5)},
		{"out of the disk in the last", [][2]int{{4, 5}, {5, 1<<32 - 1}}, 112, meets(api.ErrForm, 5)},
		{"to the slot 1 in the last", [][2]int{{4, 9}}, 56, meets(api.ErrForm, 4)},
		{"by the highest byte alone in the last", [][2]int{{4, 1 << 24}}, 56, meets(api.ErrForm, 4)},
		{"over all data sectors", [][2]int{{4, 3}, {3, 2}, {2, 1}, {1, 8}, {8, 7}, {7, 6}, {6, 5}, {5, 0}}, 448, answer{bytes: slices.Concat(some(4, 56), some(3, 56), some(2, 56), some(1, 56), some(8, 56), some(7, 56), some(6, 56), some(5, 56)), sectors: []int{4, 3, 2, 1, 8, 7, 6, 5}}},
	} {
		t.Run(x.name, func(t *testing.T) {
			d := fresh(t, 10)
			put(t, d, 0, sealed(some(0, 56), 0))
			put(t, d, 9, sealed(some(9, 56), 0))
			links(t, d, x.links...)
			answers(t, d, 4, x.n, x.want)
			reads(t, d, 4, x.n)
		})
	}
}

// P19.3: what stands behind the n bytes, byte by byte; and what stands there of a sector that isn't the last one doesn't matter.
func TestBehindTheBytes(t *testing.T) {
	for n := 1; n <= 56; n++ {
		d := fresh(t, 8)
		put(t, d, 3, sealed(some(3, 56), 5))
		for at := n; at < 56; at++ {
			for _, c := range []byte{1, 0x80, 0xff} {
				b := some(n, 56)
				clear(b[n:])
				b[at] = c
				put(t, d, 5, sealed(b, 0))
				answers(t, d, 5, n, meets(api.ErrForm, 5))
				answers(t, d, 3, 56+n, meets(api.ErrForm, 5))
				answers(t, d, 5, at+1, answer{bytes: b[:at+1], sectors: []int{5}})
				answers(t, d, 3, 57+at, answer{bytes: append(some(3, 56), b[:at+1]...), sectors: []int{3, 5}})
			}
		}
		put(t, d, 5, sealed(some(n, n), 0))
		answers(t, d, 5, n, answer{bytes: some(n, n), sectors: []int{5}})
		answers(t, d, 5, 56, answer{bytes: append(some(n, n), make([]byte, 56-n)...), sectors: []int{5}})
	}
}

// P19.3: a chain of n bytes, read as one of each other number.
func TestReadOtherNumbersOfBytes(t *testing.T) {
	for _, n := range []int{1, 2, 55, 56, 57, 58, 111, 112, 113, 168, 169} {
		l := []int{5, 3, 6, 1}[:(n+55)/56]
		b := some(n, n)
		d := holding(t, 8, b, l)
		for m := -3; m < 300; m++ {
			got := reads(t, d, 5, m)
			room := 56 * len(l)
			switch {
			case m < 1 && got.err != api.ErrArg:
				t.Error(n, m, got)
			case m >= n && m <= room && !bytes.Equal(got.bytes, append(b[:n:n], make([]byte, m-n)...)):
				t.Error(n, m, got)
			case m > room && (got.err != api.ErrForm || !got.isAt || got.at != 0):
				t.Error(n, m, got)
			case m >= 1 && m < n && (got.err != api.ErrForm || got.at != l[(m-1)/56]):
				t.Error(n, m, got)
			}
		}
	}
}

// three is a chain of three sectors, and a disk that has it among others that have anything.
func three(t *testing.T) (*disk.Disk, []byte, []int) {
	t.Helper()
	b, l := some(7, 150), []int{5, 2, 6}
	d := holding(t, 10, b, l)
	for _, s := range []int{0, 1, 3, 4, 7, 8, 9} {
		put(t, d, s, some(s, 64))
	}
	answers(t, d, 5, 150, answer{bytes: b, sectors: l})
	return d, b, l
}

// P19.3, P19.4: each byte of each sector, turned by itself in each way.
func TestEachByteTurned(t *testing.T) {
	d, b, l := three(t)
	for _, s := range l {
		whole, _ := d.Read(s)
		for i := range whole {
			for over := 1; over < 256; over++ {
				turned := slices.Clone(whole)
				turned[i] ^= byte(over)
				put(t, d, s, turned)
				answers(t, d, 5, 150, meets(api.ErrSum, s))
			}
		}
		put(t, d, s, whole)
	}
	answers(t, d, 5, 150, answer{bytes: b, sectors: l})
}

// P19.4: some bits turned, all of them within 32 side by side, wherever they begin.
func TestBursts(t *testing.T) {
	chance := noise(194)
	d, b, l := three(t)
	for _, s := range l {
		whole, _ := d.Read(s)
		for from := range 512 {
			for long := 1; long <= 32 && from+long <= 512; long++ {
				turned := slices.Clone(whole)
				all := chance(3) == 0
				for k := range long {
					if all || k == 0 || k == long-1 || chance(2) == 0 {
						turned[(from+k)/8] ^= 1 << ((from + k) % 8)
					}
				}
				put(t, d, s, turned)
				answers(t, d, 5, 150, meets(api.ErrSum, s))
			}
		}
		put(t, d, s, whole)
	}
	answers(t, d, 5, 150, answer{bytes: b, sectors: l})
}

// P19.4: a burst in any sector of the longest chain.
func TestBurstsInALongChain(t *testing.T) {
	chance := noise(195)
	b, l := some(1, 65542), shuffled(chance, 1171, 1200)
	d := holding(t, 1200, b, l)
	for i, s := range l {
		if i > 5 && i < 1165 && chance(20) > 0 {
			continue
		}
		whole, _ := d.Read(s)
		turned := slices.Clone(whole)
		from := chance(481)
		for k := range 32 {
			if k == 0 || chance(2) == 0 {
				turned[(from+k)/8] ^= 1 << ((from + k) % 8)
			}
		}
		put(t, d, s, turned)
		answers(t, d, l[0], 65542, meets(api.ErrSum, s))
		put(t, d, s, whole)
	}
	answers(t, d, l[0], 65542, answer{bytes: b, sectors: l})
}

// P19.3: a sector under no sum of its own: noughts, and bytes that are sealed otherwise.
func TestOtherSums(t *testing.T) {
	d := fresh(t, 8)
	answers(t, d, 3, 1, meets(api.ErrSum, 3))
	whole := sealed([]byte{1}, 0)
	for _, sum := range [][]byte{{0, 0, 0, 0}, {255, 255, 255, 255}, {whole[63], whole[62], whole[61], whole[60]}, {^whole[60], ^whole[61], ^whole[62], ^whole[63]}} {
		put(t, d, 3, append(slices.Clone(whole[:60]), sum...))
		answers(t, d, 3, 1, meets(api.ErrSum, 3))
	}
	put(t, d, 3, slices.Repeat([]byte{255}, 64))
	answers(t, d, 3, 1, meets(api.ErrSum, 3))
	put(t, d, 3, whole)
	answers(t, d, 3, 1, answer{bytes: []byte{1}, sectors: []int{3}})
}

// P19.3: no power is told at the first sector, if that is a data sector.
func TestReadWithoutPower(t *testing.T) {
	d, b, l := three(t)
	d.Arm(1)
	if e := d.Flush(); e != api.ErrDown {
		t.Fatal(e)
	}
	for s := 1; s <= 8; s++ {
		for _, n := range []int{1, 56, 150, 65542} {
			answers(t, d, s, n, meets(api.ErrDown, s))
		}
	}
	for _, s := range []int{-1, 0, 9, 10} {
		answers(t, d, s, 150, meets(api.ErrForm, s))
	}
	for _, n := range []int{-1, 0, 65543} {
		answers(t, d, 5, n, refuses(api.ErrArg))
	}
	d.Crash(nil)
	answers(t, d, 5, 150, answer{bytes: b, sectors: l})
}

// P19.3: the power goes while a chain is written over another one, at each write; what comes back is told sector by sector.
func TestReadBehindLostPower(t *testing.T) {
	for at := 1; at <= 3; at++ {
		for keep := -1; keep <= 65; keep++ {
			d, old, l := three(t)
			b := some(99, 150)
			writes := lays(t, b, l, api.OK)
			d.Arm(at)
			for i, w := range writes {
				want := api.OK
				if i >= at-1 {
					want = api.ErrDown
				}
				if e := d.Write(w.Sector, w.Bytes); e != want {
					t.Fatal(at, i, e)
				}
			}
			answers(t, d, 5, 150, meets(api.ErrDown, 5))
			keeps := append(slices.Repeat([]int{64}, at-1), keep)
			d.Crash(keeps)
			// both chains lead alike, so that of each sector the new or the old bytes are read, or none
			done := at - 1
			if keep >= 64 {
				done = at
			}
			want := answer{bytes: append(slices.Clone(b[:min(150, 56*done)]), old[min(150, 56*done):]...), sectors: l}
			if torn, _ := d.Read(l[at-1]); !bytes.Equal(torn, writes[at-1].Bytes) && keep > 0 {
				want = meets(api.ErrSum, l[at-1])
			}
			answers(t, d, 5, 150, want)
			reads(t, d, 5, 150)
		}
	}
}

// P19.3: what is pending is read as it was written last.
func TestReadPending(t *testing.T) {
	d, old, l := three(t)
	b := some(4, 150)
	writes := lays(t, b, l, api.OK)
	for i, w := range writes {
		if e := d.Write(w.Sector, w.Bytes); e != api.OK {
			t.Fatal(e)
		}
		n := min(150, 56*(i+1))
		answers(t, d, 5, 150, answer{bytes: append(slices.Clone(b[:n]), old[n:]...), sectors: l})
	}
	if d.Pending() != 3 {
		t.Fatal(d.Pending())
	}
	if e := d.Write(2, make([]byte, 64)); e != api.OK {
		t.Fatal(e)
	}
	answers(t, d, 5, 150, meets(api.ErrSum, 2))
	if e := d.Write(2, writes[1].Bytes); e != api.OK {
		t.Fatal(e)
	}
	answers(t, d, 5, 150, answer{bytes: b, sectors: l})
	d.Crash(nil)
	answers(t, d, 5, 150, answer{bytes: old, sectors: l})
}

// P19.3: where several errors would be, the first one in the chapter's order is told, at the first sector that has one.
func TestWhichErrorIsTold(t *testing.T) {
	torn := func(s int) []byte {
		b := sealed(some(s, 56), 9)
		b[63] ^= 1
		return b
	}
	for _, x := range []struct {
		name    string
		sectors map[int][]byte
		first   int
		n       int
		down    bool
		want    answer
	}{
		{"no data sector, no power, no sum", map[int][]byte{0: torn(0)}, 0, 1, true, meets(api.ErrForm, 0)},
		{"the slot 1, no power, no sum", map[int][]byte{9: torn(9)}, 9, 1, true, meets(api.ErrForm, 9)},
		{"no data sector, no sum", map[int][]byte{0: torn(0)}, 0, 1, false, meets(api.ErrForm, 0)},
		{"no power, no sum", map[int][]byte{4: torn(4)}, 4, 1, true, meets(api.ErrDown, 4)},
		{"no power, a last one that leads on", map[int][]byte{4: sealed(some(4, 56), 9)}, 4, 1, true, meets(api.ErrDown, 4)},
		{"no sum, a last one that leads on, and bytes behind", map[int][]byte{4: torn(4)}, 4, 1, false, meets(api.ErrSum, 4)},
		{"no sum, and leads to itself", map[int][]byte{4: append(sealed(some(4, 56), 4)[:60], 0, 0, 0, 0)}, 4, 57, false, meets(api.ErrSum, 4)},
		{"leads to itself, which was read already", map[int][]byte{4: sealed(some(4, 56), 4)}, 4, 57, false, meets(api.ErrForm, 4)},
		{"a second one without a sum, the last one, which leads on", map[int][]byte{4: sealed(some(4, 56), 5), 5: torn(5)}, 4, 57, false, meets(api.ErrSum, 5)},
		{"a second one without a sum, ahead of one out of the disk", map[int][]byte{4: sealed(some(4, 56), 5), 5: torn(5)}, 4, 113, false, meets(api.ErrSum, 5)},
		{"one out of the disk, ahead of one without a sum", map[int][]byte{4: sealed(some(4, 56), 9), 9: torn(9)}, 4, 113, false, meets(api.ErrForm, 9)},
		{"back to the first, in the last one", map[int][]byte{4: sealed(some(4, 56), 5), 5: sealed(some(5, 56), 4)}, 4, 60, false, meets(api.ErrForm, 5)},
		{"no bytes, no data sector", map[int][]byte{}, 0, 0, true, refuses(api.ErrArg)},
		{"too many bytes, no data sector", map[int][]byte{}, -1, 65543, true, refuses(api.ErrArg)},
	} {
		t.Run(x.name, func(t *testing.T) {
			d := fresh(t, 10)
			for s, b := range x.sectors {
				put(t, d, s, b)
			}
			if x.down {
				d.Arm(1)
				d.Flush()
			}
			answers(t, d, x.first, x.n, x.want)
			reads(t, d, x.first, x.n)
		})
	}
}

// anySector is a sector that is mostly one of a chain, and often its last one.
func anySector(chance func(below int) int, sectors int) []byte {
	piece := some(chance(1000), 56)
	clear(piece[56-chance(57)*chance(2):])
	next := uint32(chance(sectors))
	switch chance(8) {
	case 0, 1:
		next = 0
	case 2:
		next = []uint32{uint32(sectors - 1), uint32(sectors), 65535, 65536, 1 << 31, 1<<32 - 1}[chance(6)]
	}
	b := sealed(piece, next)
	if chance(25) == 0 {
		b[chance(64)] ^= 1 << chance(8)
	}
	return b
}

// P19.3: disks that hold anything, read from each sector on, against the model.
func TestAnyDisk(t *testing.T) {
	chance := noise(1935)
	met := map[api.Errno]int{}
	for range 400 {
		sectors := 8 + chance(12)
		d := fresh(t, sectors)
		for s := range sectors {
			if e := d.Write(s, anySector(chance, sectors)); e != api.OK {
				t.Fatal(e)
			}
			if chance(3) == 0 {
				d.Flush()
			}
		}
		for first := -1; first <= sectors; first++ {
			for _, n := range []int{1, 1 + chance(56), 56, 57, 57 + chance(56), 112, 113 + chance(56), 168, 169 + chance(500), 65542} {
				met[reads(t, d, first, n).err]++
			}
		}
	}
	for _, e := range []api.Errno{api.OK, api.ErrForm, api.ErrSum} {
		if met[e] < 100 {
			t.Errorf("%v was told %d times", e, met[e])
		}
	}
}

// P19.4: what is laid is read as it was, several chains on one disk, whatever the others are.
func TestManyChainsOnOneDisk(t *testing.T) {
	chance := noise(1941)
	for range 40 {
		sectors := shuffled(chance, 298, 300)
		d := fresh(t, 300)
		type laid struct {
			b []byte
			l []int
		}
		var all []laid
		for len(sectors) > 20 {
			n := 1 + chance(56*20)
			l := sectors[:(n+55)/56]
			sectors = sectors[len(l):]
			b := some(chance(1<<20), n)
			if chance(4) == 0 {
				clear(b[chance(n):])
			}
			all = append(all, laid{b, l})
			for _, w := range lays(t, b, l, api.OK) {
				if e := d.Write(w.Sector, w.Bytes); e != api.OK {
					t.Fatal(e)
				}
			}
		}
		for range 2 {
			for _, x := range all {
				answers(t, d, x.l[0], len(x.b), answer{bytes: x.b, sectors: x.l})
			}
			d.Flush()
		}
	}
}

// Rule 4: nothing that is handed in changes, nor what lies in its spare room; a disk is as it was.
func TestNothingHandedInChanges(t *testing.T) {
	room, sectors := some(1, 400), row(1, 50)
	for n := range 300 {
		for _, many := range []int{(n + 55) / 56, (n+55)/56 + 1} {
			chain.Lay(room[:n], sectors[:many])
		}
	}
	if !bytes.Equal(room, some(1, 400)) || !slices.Equal(sectors, row(1, 50)) {
		t.Error("what was handed in has changed")
	}
	d, _, _ := three(t)
	if e := d.Write(3, some(8, 64)); e != api.OK {
		t.Fatal(e)
	}
	image, ops := d.Image(), d.Ops()
	for first := -1; first <= 10; first++ {
		for _, n := range []int{-1, 0, 1, 56, 57, 150, 65542, 65543} {
			chain.Read(d, first, n)
		}
	}
	if !bytes.Equal(d.Image(), image) || d.Ops() != ops || d.Pending() != 1 || d.Down() || d.Len() != 10 {
		t.Error("the disk has changed")
	}
	d.Arm(2)
	chain.Read(d, 5, 150)
	if e := d.Flush(); e != api.OK {
		t.Error("a Read is counted:", e)
	}
	if e := d.Flush(); e != api.ErrDown {
		t.Error("a Read has turned the power's counter:", e)
	}
}

// spoil and spoilNumbers overwrite all memory of a list.
func spoil(b []byte) {
	b = b[:cap(b)]
	for i := range b {
		b[i] ^= 0xff
	}
}

func spoilNumbers(l []int) {
	l = l[:cap(l)]
	for i := range l {
		l[i] = -7
	}
}

// Rule 4: what Lay answers has nothing in common with what was handed in, nor one write with another.
func TestWhatIsLaidIsNewMemory(t *testing.T) {
	for _, n := range []int{1, 56, 57, 112, 150, 5000} {
		b, l := some(n, n), row(1, (n+55)/56)
		writes := lays(t, b, l, api.OK)
		for i := range writes {
			spoil(writes[i].Bytes)
			for k, w := range writes[i+1:] {
				if want := lays(t, b, l, api.OK)[i+1+k]; !sameWrite(w, want) {
					t.Fatalf("the writes %d and %d share memory", i, i+1+k)
				}
			}
		}
		writes = lays(t, b, l, api.OK)
		spoil(b)
		spoilNumbers(l)
		if want := lays(t, some(n, n), row(1, (n+55)/56), api.OK); !slices.EqualFunc(writes, want, sameWrite) {
			t.Error("what was laid changes with what was handed in")
		}
	}
}

// Rule 4: what Read answers has nothing in common with the disk, nor with another answer.
func TestWhatIsReadIsNewMemory(t *testing.T) {
	for _, sure := range []bool{true, false} {
		d, b, l := three(t)
		if !sure {
			for _, w := range lays(t, b, l, api.OK) {
				d.Write(w.Sector, w.Bytes)
			}
		}
		for _, x := range []struct{ first, n, skip int }{{5, 150, 0}, {6, 38, 2}, {6, 56, 2}} {
			first, sectors, e := chain.Read(d, x.first, x.n)
			second, more, f := chain.Read(d, x.first, x.n)
			if e != nil || f != nil {
				t.Fatal(e, f)
			}
			want, wantSectors := slices.Clone(second), slices.Clone(more)
			spoil(first)
			spoilNumbers(sectors)
			if !bytes.Equal(second, want) || !slices.Equal(more, wantSectors) {
				t.Error("two answers share memory")
			}
			answers(t, d, x.first, x.n, answer{bytes: want, sectors: l[x.skip:]})
		}
		held, _, _ := chain.Read(d, 5, 150)
		for _, s := range l {
			put(t, d, s, some(s+20, 64))
		}
		if !bytes.Equal(held, b) {
			t.Error("what was read changes with what is written")
		}
	}
}

// P1, rule 6: of a disk that no maker made Read ends.
func TestDiskOfNoMaker(t *testing.T) {
	for _, s := range []int{math.MinInt, -1, 0, 1, 7, math.MaxInt} {
		for _, n := range []int{math.MinInt, 0, 1, 65542, math.MaxInt} {
			chain.Read(new(disk.Disk), s, n)
		}
	}
}

// What Read takes doesn't grow with the square of the chain's length, nor with the disk.
func TestLongChainsAreQuick(t *testing.T) {
	start := time.Now()
	b, l := some(2, 65542), row(30000, 1171)
	d := holding(t, 65536, b, l)
	for range 20 {
		if got, _, e := chain.Read(d, 30000, 65542); e != nil || len(got) != 65542 {
			t.Fatal(e)
		}
		if writes, e := chain.Lay(b, l); e != nil || len(writes) != 1171 {
			t.Fatal(e)
		}
	}
	if took := time.Since(start); took > 20*time.Second {
		t.Errorf("it took %v", took)
	}
}
