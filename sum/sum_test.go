package sum_test

import (
	"bytes"
	"hash/crc32"
	"math"
	"testing"

	"hayloft/sum"
)

// step is one step, as the chapter tells it.
func step(x uint32) uint32 {
	if x&1 == 1 {
		return x>>1 ^ 0x82f63b78
	}
	return x >> 1
}

// stepped is a number behind 8 n steps, done one by one.
func stepped(x uint32, n int) uint32 {
	for range 8 * n {
		x = step(x)
	}
	return x
}

// plain is the sum of b behind s, done step by step.
func plain(s uint32, b []byte) uint32 {
	x := ^s
	for _, c := range b {
		x = stepped(x^uint32(c), 1)
	}
	return ^x
}

// some is n bytes of no great order, others for each seed.
func some(n int, seed uint64) []byte {
	b := make([]byte, n)
	x := seed*2654435769 + 1
	for i := range b {
		x = x*6364136223846793005 + 1442695040888963407
		b[i] = byte(x >> 56)
	}
	return b
}

// sums are numbers at the edges, each bit alone, and some others.
func sums() []uint32 {
	xs := []uint32{0, math.MaxUint32, 0x82f63b78, 0xe3069283, 7, 0x12345678}
	for i := range 32 {
		xs = append(xs, 1<<i, 1<<i-1)
	}
	return xs
}

// P2.1
func TestSum(t *testing.T) {
	for _, x := range []struct {
		b    []byte
		want uint32
	}{
		{nil, 0},
		{[]byte{}, 0},
		{[]byte("123456789"), 0xe3069283},
		{make([]byte, 32), 0x8a9136aa},
		{bytes.Repeat([]byte{255}, 32), 0x62a8ab43},
		{[]byte{0}, 0x527d5351},
	} {
		if got := sum.Sum(x.b); got != x.want {
			t.Errorf("Sum(% x): %#x, not %#x", x.b, got, x.want)
		}
	}
	table := crc32.MakeTable(crc32.Castagnoli)
	for n := range 300 {
		b := some(n, uint64(n))
		if got := sum.Sum(b); got != plain(0, b) || got != crc32.Checksum(b, table) {
			t.Errorf("Sum of %d bytes: %#x", n, got)
		}
	}
	for c := range 256 {
		b := []byte{byte(c)}
		if got := sum.Sum(b); got != plain(0, b) {
			t.Errorf("Sum of the byte %d: %#x", c, got)
		}
	}
}

// P2.1
func TestMore(t *testing.T) {
	for _, s := range sums() {
		for _, none := range [][]byte{nil, {}} {
			if got := sum.More(s, none); got != s {
				t.Errorf("More(%#x, none): %#x", s, got)
			}
		}
		for n := range 40 {
			b := some(n, uint64(s))
			if got := sum.More(s, b); got != plain(s, b) {
				t.Errorf("More(%#x, %d bytes): %#x", s, n, got)
			}
		}
	}
}

// P2.1
func TestMoreFromPieceToPiece(t *testing.T) {
	if got := sum.More(sum.Sum([]byte("1234")), []byte("56789")); got != 0xe3069283 {
		t.Errorf("the chapter's example: %#x", got)
	}
	b := some(200, 1)
	want := sum.Sum(b)
	for i := range len(b) + 1 {
		if got := sum.More(sum.Sum(b[:i]), b[i:]); got != want {
			t.Errorf("cut at %d: %#x", i, got)
		}
	}
	for size := 1; size <= len(b); size++ {
		s := uint32(0)
		for i := 0; i < len(b); i += size {
			s = sum.More(s, b[i:min(i+size, len(b))])
		}
		if s != want {
			t.Errorf("pieces of %d: %#x", size, s)
		}
	}
}

// Rule 4: what is handed in is as it was, its spare room included.
func TestBytesStayAsTheyWere(t *testing.T) {
	whole := some(64, 3)
	kept := bytes.Clone(whole)
	b := whole[8:40]
	sum.Sum(b)
	sum.More(5, b)
	if !bytes.Equal(whole, kept) {
		t.Error("the bytes were changed")
	}
}

// P2.2
func TestShift(t *testing.T) {
	if got := sum.Shift(1, 1); got != 0xf26b8303 {
		t.Errorf("the chapter's example: %#x", got)
	}
	for _, s := range sums() {
		for _, n := range []int{0, -1, -2, -3, -8, math.MinInt + 1, math.MinInt} {
			if got := sum.Shift(s, n); got != s {
				t.Errorf("Shift(%#x, %d): %#x", s, n, got)
			}
		}
		for n := range 70 {
			if got := sum.Shift(s, n); got != stepped(s, n) {
				t.Errorf("Shift(%#x, %d): %#x", s, n, got)
			}
		}
		for _, n := range []int{255, 256, 257, 4095, 4096, 65535, 65536} {
			if got := sum.Shift(s, n); n < 5000 && got != stepped(s, n) || got != sum.Shift(sum.Shift(s, n-1), 1) {
				t.Errorf("Shift(%#x, %d): %#x", s, n, got)
			}
		}
	}
}

// P2.2: the steps come round behind 2^31 - 1 of them (the polynomial has the factor x + 1, and one of degree 31 behind it), so a great n is as good as a lesser one.
func TestShiftOfManySteps(t *testing.T) {
	const round = 1<<31 - 1
	for _, s := range sums() {
		if got := sum.Shift(s, round); got != s {
			t.Errorf("Shift(%#x, 2^31 - 1): %#x", s, got)
		}
		for _, n := range []int{1 << 31, 1 << 32, 1 << 40, 1<<60 - 1, 1 << 60, 1 << 61, 1 << 62, math.MaxInt - 1, math.MaxInt} {
			if got, want := sum.Shift(s, n), sum.Shift(s, n%round); got != want {
				t.Errorf("Shift(%#x, %d): %#x, not %#x", s, n, got, want)
			}
		}
		if got, want := sum.Shift(s, math.MaxInt), stepped(s, math.MaxInt%round); got != want {
			t.Errorf("Shift(%#x, the greatest int): %#x, not %#x", s, got, want)
		}
	}
}

// P2.2
func TestShiftInTwo(t *testing.T) {
	ns := []int{0, 1, 2, 3, 24, 1000, 65535, 1 << 31, 1 << 40, 1 << 61}
	for _, s := range sums() {
		for _, n := range ns {
			for _, m := range ns {
				if sum.Shift(sum.Shift(s, n), m) != sum.Shift(s, n+m) {
					t.Errorf("Shift of %#x by %d and by %d", s, n, m)
				}
			}
		}
	}
}

// P2.2
func TestJoin(t *testing.T) {
	for _, a := range sums() {
		for _, b := range sums() {
			for _, n := range []int{math.MinInt, -1, 0} {
				if got := sum.Join(a, b, n); got != a^b {
					t.Errorf("Join(%#x, %#x, %d): %#x", a, b, n, got)
				}
			}
			if got := sum.Join(a, b, 3); got != stepped(a, 3)^b {
				t.Errorf("Join(%#x, %#x, 3): %#x", a, b, got)
			}
		}
		if got := sum.Join(a, 9, math.MaxInt); got != sum.Shift(a, math.MaxInt)^9 {
			t.Errorf("Join(%#x, 9, the greatest int): %#x", a, got)
		}
	}
}

// P2.3
func TestJoinOfTwoPieces(t *testing.T) {
	if got := sum.Join(sum.Sum([]byte("1234")), sum.Sum([]byte("56789")), 5); got != 0xe3069283 {
		t.Errorf("the chapter's example: %#x", got)
	}
	if got := sum.Join(sum.Sum(nil), sum.Sum(nil), 0); got != 0 {
		t.Errorf("two empty pieces: %#x", got)
	}
	for _, n := range []int{1, 2, 9, 64, 257} {
		b := some(n, 4)
		for i := range n + 1 {
			if got := sum.Join(sum.Sum(b[:i]), sum.Sum(b[i:]), n-i); got != sum.Sum(b) {
				t.Errorf("%d bytes cut at %d: %#x", n, i, got)
			}
		}
	}
	x, y := some(100, 5), some(70000, 6)
	if sum.Join(sum.Sum(x), sum.Sum(y), len(y)) != sum.Sum(append(bytes.Clone(x), y...)) {
		t.Error("a long second piece")
	}
}

// turned is b with the bits of the pattern laid over it from a bit on, a byte's lowest bit its first.
func turned(b []byte, from int, pattern uint32) []byte {
	b = bytes.Clone(b)
	for i := range 32 {
		if pattern>>i&1 == 1 {
			b[(from+i)/8] ^= 1 << ((from + i) % 8)
		}
	}
	return b
}

// patterns are some bursts that are just so many bits long.
func patterns(length int) []uint32 {
	ends := uint32(1) | 1<<(length-1)
	inner := uint32(1<<length - 1)
	ps := []uint32{ends, inner}
	for _, x := range []uint32{0x82f63b78, 0x05ec76f1, 0xaaaaaaaa, 0x55555555, 0x9d3c0b17} {
		ps = append(ps, x&inner|ends)
	}
	return ps
}

// P2.4: a burst of each length, from the first bit to the last one, within a byte and across bytes.
func TestBurstIsSeen(t *testing.T) {
	for _, n := range []int{1, 2, 4, 5, 8, 64} {
		for _, b := range [][]byte{make([]byte, n), bytes.Repeat([]byte{255}, n), some(n, 8)} {
			want := sum.Sum(b)
			for length := 1; length <= min(32, 8*n); length++ {
				for from := 0; from+length <= 8*n; from++ {
					for _, p := range patterns(length) {
						if sum.Sum(turned(b, from, p)) == want {
							t.Errorf("%d bytes: a burst of %d bits at bit %d isn't seen (%#x)", n, length, from, p)
						}
					}
				}
			}
		}
	}
}

// P2.4: bytes that differ only within their first two have unlike sums each.
func TestTwoBytesAreToldApart(t *testing.T) {
	for _, behind := range []int{0, 3} {
		seen := make(map[uint32]int)
		for x := range 1 << 16 {
			b := append([]byte{byte(x), byte(x >> 8)}, make([]byte, behind)...)
			s := sum.Sum(b)
			if y, twice := seen[s]; twice {
				t.Fatalf("%d and %d have one sum", x, y)
			}
			seen[s] = x
		}
	}
}

// P2.4 stops at 32 bits: one of 33 can hide, if it is the polynomial itself.
func TestBurstOf33BitsMayHide(t *testing.T) {
	b := some(64, 9)
	other := turned(turned(b, 100, 1), 101, 0x82f63b78)
	if bytes.Equal(b, other) || sum.Sum(b) != sum.Sum(other) {
		t.Error("the bursts that aren't seen are others than those of the polynomial")
	}
}
