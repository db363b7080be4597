package num_test

import (
	"bytes"
	"math"
	"testing"

	"hayloft/num"
)

// numbers are those at the edges of each byte and of each digit, and their neighbours.
func numbers() []uint64 {
	ns := []uint64{0, 258, 300, 0x0102030405060708, math.MaxUint64}
	for i := range 64 {
		ns = append(ns, 1<<i-1, 1<<i, 1<<i+1)
	}
	n := uint64(1)
	for range 2000 {
		n = n*6364136223846793005 + 1442695040888963407
		ns = append(ns, n, n>>(n%64))
	}
	return ns
}

// P1.1
func TestPutOfEachWidth(t *testing.T) {
	const n = 0xf1f2f3f4f5f6f7f8
	whole := []byte{0xf8, 0xf7, 0xf6, 0xf5, 0xf4, 0xf3, 0xf2, 0xf1}
	for width := range 9 {
		if got := num.Put(n, width); !bytes.Equal(got, whole[:width]) {
			t.Errorf("Put(n, %d): % x", width, got)
		}
	}
	for _, width := range []int{-1, -8, math.MinInt} {
		if got := num.Put(n, width); len(got) != 0 {
			t.Errorf("Put(n, %d): % x", width, got)
		}
	}
	for _, width := range []int{9, 16, 256, math.MaxInt} {
		if got := num.Put(n, width); !bytes.Equal(got, whole) {
			t.Errorf("Put(n, %d): % x", width, got)
		}
	}
}

// P1.1
func TestPutOfNumbers(t *testing.T) {
	for _, x := range []struct {
		n     uint64
		width int
		want  []byte
	}{
		{258, 3, []byte{2, 1, 0}},
		{258, 1, []byte{2}},
		{0, 8, make([]byte, 8)},
		{0, 0, nil},
		{256, 1, []byte{0}},
		{math.MaxUint64, 8, bytes.Repeat([]byte{255}, 8)},
		{1 << 63, 8, []byte{0, 0, 0, 0, 0, 0, 0, 128}},
		{1 << 63, 7, make([]byte, 7)},
	} {
		if got := num.Put(x.n, x.width); !bytes.Equal(got, x.want) {
			t.Errorf("Put(%d, %d): % x", x.n, x.width, got)
		}
	}
}

// P1.1
func TestGet(t *testing.T) {
	for _, x := range []struct {
		b    []byte
		want uint64
	}{
		{nil, 0},
		{[]byte{}, 0},
		{[]byte{7}, 7},
		{[]byte{2, 1}, 258},
		{[]byte{2, 1, 0, 0, 0}, 258},
		{[]byte{0, 0, 0, 1}, 1 << 24},
		{[]byte{8, 7, 6, 5, 4, 3, 2, 1}, 0x0102030405060708},
		{bytes.Repeat([]byte{255}, 8), math.MaxUint64},
		{[]byte{1, 0, 0, 0, 0, 0, 0, 0, 9}, 1},
		{bytes.Repeat([]byte{255}, 100), math.MaxUint64},
	} {
		before := bytes.Clone(x.b)
		if got := num.Get(x.b); got != x.want {
			t.Errorf("Get(% x): %d", x.b, got)
		}
		if !bytes.Equal(x.b, before) {
			t.Errorf("Get changed % x", before)
		}
	}
}

// P1.1, P1.5
func TestPutAndBack(t *testing.T) {
	for _, n := range numbers() {
		for width := range 9 {
			want := n
			if width < 8 {
				want = n % (1 << (8 * width))
			}
			if got := num.Get(num.Put(n, width)); got != want {
				t.Errorf("%d of width %d came back as %d", n, width, got)
			}
		}
	}
}

// P1.2
func TestVar(t *testing.T) {
	for _, x := range []struct {
		n    uint64
		want []byte
	}{
		{0, []byte{0}},
		{1, []byte{1}},
		{127, []byte{127}},
		{128, []byte{128, 1}},
		{300, []byte{0xac, 2}},
		{1<<14 - 1, []byte{255, 127}},
		{1 << 14, []byte{128, 128, 1}},
		{1<<63 - 1, []byte{255, 255, 255, 255, 255, 255, 255, 255, 127}},
		{1 << 63, []byte{128, 128, 128, 128, 128, 128, 128, 128, 128, 1}},
		{math.MaxUint64, []byte{255, 255, 255, 255, 255, 255, 255, 255, 255, 1}},
	} {
		if got := num.Var(x.n); !bytes.Equal(got, x.want) {
			t.Errorf("Var(%d): % x", x.n, got)
		}
		if got := num.Size(x.n); got != len(x.want) {
			t.Errorf("Size(%d): %d", x.n, got)
		}
	}
}

// P1.2
func TestVarHasAsFewDigitsAsAreEnough(t *testing.T) {
	for _, n := range numbers() {
		b := num.Var(n)
		if num.Size(n) != len(b) {
			t.Errorf("Size(%d): %d of %d", n, num.Size(n), len(b))
		}
		for i, c := range b {
			if last := i == len(b)-1; last != (c < 128) || last && i > 0 && c == 0 {
				t.Errorf("Var(%d): % x", n, b)
			}
		}
	}
}

func TestAnswersAreNewMemory(t *testing.T) {
	for _, answer := range []func() []byte{
		func() []byte { return num.Put(300, 8) },
		func() []byte { return num.Var(300) },
	} {
		first := answer()
		want := bytes.Clone(first)
		clear(first[:cap(first)])
		if got := answer(); !bytes.Equal(got, want) {
			t.Errorf("% x, and then % x", want, got)
		}
	}
}
