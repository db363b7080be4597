package page_test

import (
	"bytes"
	"encoding/binary"
	"math"
	"math/big"
	"slices"
	"testing"

	"hayloft/api"
	"hayloft/handle"
	"hayloft/page"
)

// edges are numbers, the least and the greatest there are among them, and some whose 16fold or 32fold wraps round to a small one.
var edges = []int{math.MinInt, math.MinInt + 1, -1 << 60, -1 << 59, -1 << 58, -1 << 32, -33, -32, -2, -1, 1 << 31, 1 << 32, 1 << 58, 1 << 59, 1<<59 + 1, 1 << 60, 1<<60 + 1, 1 << 62, math.MaxInt - 1, math.MaxInt}

// P18.1 to P18.3: the chapter's examples.
func TestExamples(t *testing.T) {
	if b, e := page.Rows([]api.Row{gone(2), live(1, 3, 48)}, 0); e != api.OK || !bytes.Equal(b, []byte{2, 4, 3, 3, 48}) {
		t.Error(b, e)
	}
	if rows, e := page.ReadRows([]byte{1, 1}); e != api.ErrForm || len(rows) != 0 {
		t.Error(rows, e)
	}
	if b, e := page.Kinds([]api.Kind{of(16, 0)}, 0); e != api.OK || !bytes.Equal(b, []byte{1, 16, 1, 0}) {
		t.Error(b, e)
	}
	if n := page.Count(33, 32); n != 2 {
		t.Error(n)
	}
}

// P18.1
func TestCount(t *testing.T) {
	if page.PerRows != 32 || page.PerKinds != 16 {
		t.Error(page.PerRows, page.PerKinds)
	}
	for _, x := range [][3]int{
		{0, 1, 0}, {-1, 1, 0}, {1, 0, 0}, {1, -1, 0}, {0, 0, 0}, {-1, -1, 0}, {-64, -32, 0}, {64, -32, 0}, {-64, 32, 0}, {64, 0, 0},
		{math.MinInt, 32, 0}, {math.MinInt, -1, 0}, {math.MinInt, math.MinInt, 0}, {math.MaxInt, 0, 0}, {math.MaxInt, -1, 0}, {math.MaxInt, math.MinInt, 0}, {math.MinInt, math.MaxInt, 0}, {1, math.MinInt, 0}, {0, math.MaxInt, 0},
		{1, 1, 1}, {2, 1, 2}, {1, 2, 1}, {31, 32, 1}, {32, 32, 1}, {33, 32, 2}, {63, 32, 2}, {64, 32, 2}, {65, 32, 3}, {4096, 32, 128}, {15, 16, 1}, {16, 16, 1}, {17, 16, 2}, {64, 16, 4},
		{1, math.MaxInt, 1}, {math.MaxInt, 1, math.MaxInt}, {math.MaxInt, math.MaxInt, 1}, {math.MaxInt - 1, math.MaxInt, 1}, {math.MaxInt, math.MaxInt - 1, 2}, {math.MaxInt, 2, 1 << 62}, {math.MaxInt, 32, 1 << 58}, {math.MaxInt - 1, 2, 1<<62 - 1},
	} {
		if n := page.Count(x[0], x[1]); n != x[2] {
			t.Errorf("Count(%d, %d): %d, not %d", x[0], x[1], n, x[2])
		}
	}
}

// P18.1: so many pages are enough, and one less isn't.
func TestCountOfManyNumbers(t *testing.T) {
	numbers := slices.Clone(edges)
	for n := range 200 {
		numbers = append(numbers, n-3)
	}
	for _, n := range numbers {
		for _, per := range numbers {
			got := page.Count(n, per)
			if n < 1 || per < 1 {
				if got != 0 {
					t.Fatalf("Count(%d, %d): %d", n, per, got)
				}
				continue
			}
			things, each := big.NewInt(int64(n)), big.NewInt(int64(per))
			enough := new(big.Int).Mul(big.NewInt(int64(got)), each)
			less := new(big.Int).Sub(enough, each)
			if got < 1 || enough.Cmp(things) < 0 || less.Cmp(things) >= 0 {
				t.Fatalf("Count(%d, %d): %d", n, per, got)
			}
		}
	}
}

// pagesThere holds which pages lists of so many things have, and what each of them has.
func pagesThere[T any](t *testing.T, s sort[T], some func(n int) []T) {
	t.Helper()
	for n := range 4*s.per + 3 {
		list := some(n)
		for i := range 7 {
			want := api.ErrArg
			if i*s.per < n {
				want = api.OK
			}
			if e := s.writes(t, list, i); e != want {
				t.Fatalf("%s of %d things, %d: %v", s.name, n, i, e)
			}
		}
		for _, i := range edges {
			s.refuses(t, list, i, api.ErrArg)
		}
	}
	s.refuses(t, nil, 0, api.ErrArg)
	s.refuses(t, []T{}, 0, api.ErrArg)
	s.refuses(t, some(9)[:0], 0, api.ErrArg)
}

// P18.2, P18.3
func TestWhichPagesThereAre(t *testing.T) {
	chance := noise(18)
	pagesThere(t, ofRows(), func(n int) []api.Row { return someRows(chance, n) })
	pagesThere(t, ofKinds(), func(n int) []api.Kind { return someKinds(chance, n) })
}

// P18.2, P18.3: a last page has as many as are left, and says so.
func TestTheLastPage(t *testing.T) {
	for n := 1; n <= 32; n++ {
		want := append([]byte{byte(n)}, make([]byte, n)...)
		if b, e := page.Rows(make([]api.Row, 64+n), 2); e != api.OK || !bytes.Equal(b, want) {
			t.Errorf("%d rows behind two pages: % x, %v", n, b, e)
		}
	}
	for n := 1; n <= 16; n++ {
		want := append([]byte{byte(n)}, bytes.Repeat([]byte{8, 1, 0}, n)...)
		if b, e := page.Kinds(slices.Repeat([]api.Kind{of(8, 0)}, 48+n), 3); e != api.OK || !bytes.Equal(b, want) {
			t.Errorf("%d kinds behind three pages: % x, %v", n, b, e)
		}
	}
}

// P18.2
func TestRowsBytes(t *testing.T) {
	for _, x := range []struct {
		row  api.Row
		want []byte
	}{
		{gone(0), []byte{1, 0}},
		{gone(1), []byte{1, 2}},
		{gone(63), []byte{1, 126}},
		{gone(64), []byte{1, 0x80, 1}},
		{gone(65535), []byte{1, 0xfe, 0xff, 7}},
		{live(1, 0, 0), []byte{1, 3, 0, 0}},
		{live(63, 0, 0), []byte{1, 127, 0, 0}},
		{live(64, 0, 0), []byte{1, 0x81, 1, 0, 0}},
		{live(65535, 0, 0), []byte{1, 0xff, 0xff, 7, 0, 0}},
		{live(1, 63, 0), []byte{1, 3, 63, 0}},
		{live(1, 0, 127), []byte{1, 3, 0, 127}},
		{live(1, 0, 128), []byte{1, 3, 0, 0x80, 1}},
		{live(1, 0, 1<<20-1), []byte{1, 3, 0, 0xff, 0xff, 63}},
		{live(65535, 63, 1<<20-1), []byte{1, 0xff, 0xff, 7, 63, 0xff, 0xff, 63}},
		{live(2, 5, 16384), []byte{1, 5, 5, 0x80, 0x80, 1}},
	} {
		if b, e := page.Rows([]api.Row{x.row}, 0); e != api.OK || !bytes.Equal(b, x.want) {
			t.Errorf("Rows of %v: % x, %v", x.row, b, e)
		}
		ofRows().isRead(t, x.want, []api.Row{x.row})
	}
}

// wrongRows are rows that may not be written, each by one thing or by several.
func wrongRows() []api.Row {
	return []api.Row{
		gone(-1), gone(65536), gone(math.MinInt), gone(math.MaxInt), gone(math.MinInt + 1), gone(1 << 62), gone(-1 << 62), gone(1 << 32),
		live(0, 0, 0), live(0, 3, 48), live(-1, 0, 0), live(65536, 0, 0), live(math.MinInt, 0, 0), live(math.MaxInt, 0, 0), live(1<<32+1, 0, 0),
		live(1, -1, 0), live(1, 64, 0), live(65535, math.MinInt, 0), live(1, math.MaxInt, 0), live(1, 1<<32, 0),
		live(1, 0, -1), live(1, 0, 1<<20), live(65535, 63, math.MinInt), live(1, 0, math.MaxInt), live(1, 0, 1<<32),
		{Kind: 1}, {At: 1}, {Kind: -1}, {At: -1}, {Gen: 1, Kind: 1}, {Gen: 1, At: 16}, {Gen: 65535, Kind: 63}, {Gen: 1, Kind: 64}, {Gen: 1, At: 1 << 20}, {Gen: 7, Kind: math.MinInt}, {Gen: 7, At: math.MaxInt}, {Gen: 2, Kind: 3, At: 48},
		live(-1, -1, -1), live(65536, 64, 1<<20), {Gen: -1, Kind: 1, At: 1},
	}
}

// wrongKinds are kinds that aren't right, each fault of layer 9 among them.
func wrongKinds() []api.Kind {
	return []api.Kind{
		{}, of(-1), of(4097), of(math.MinInt), of(math.MaxInt), of(0, 0), of(4097, 0), of(1<<32 + 8),
		of(4096, words(17)...), of(1, words(17)...), of(4096, make([]int, 500)...),
		of(24, 4), of(24, 1), of(24, 0, 12), of(24, -8), of(24, -8, 0), of(24, math.MinInt), of(24, math.MaxInt), of(24, math.MaxInt-7), of(24, 0, math.MinInt), of(24, 0, math.MaxInt-7),
		of(7, 0), of(20, 16), of(23, 16), of(24, 24), of(24, 0, 8, 24), of(4096, 4096), of(4095, 4088),
		of(24, 8, 8), of(24, 8, 0), of(24, 0, 0), of(24, 0, 16, 8),
	}
}

// wrongOnes holds that a thing that may not be written is told, wherever it stands on its page, and on no other page.
func wrongOnes[T any](t *testing.T, s sort[T], right, wrong []T) {
	t.Helper()
	for _, x := range right {
		if !s.right(x) {
			t.Fatal(x)
		}
	}
	for _, x := range wrong {
		if s.right(x) {
			t.Fatal(x)
		}
		s.refuses(t, []T{x}, 0, api.ErrForm)
		for _, n := range []int{1, 2, s.per - 1, s.per, s.per + 1, 2*s.per + 5} {
			for _, at := range []int{0, 1, s.per - 1, s.per, n - 1} {
				if at >= n {
					continue
				}
				list := slices.Clone(right[:n])
				list[at] = x
				for i := range (n + s.per - 1) / s.per {
					want := api.OK
					if i == at/s.per {
						want = api.ErrForm
					}
					if e := s.writes(t, list, i); e != want {
						t.Errorf("%s of %d things, %v at %d: %v of the page %d", s.name, n, x, at, e, i)
					}
				}
				// a page that isn't there is told first, whatever the list has
				for _, i := range []int{-1, (n + s.per - 1) / s.per, math.MinInt, math.MaxInt, 1 << 59, 1 << 60} {
					s.refuses(t, list, i, api.ErrArg)
				}
			}
		}
	}
	s.refuses(t, wrong, 0, api.ErrForm)
	s.refuses(t, wrong, -1, api.ErrArg)
	s.refuses(t, wrong, len(wrong), api.ErrArg)
}

// P18.2, P18.3
func TestWhatMayNotBeWritten(t *testing.T) {
	chance := noise(182)
	wrongOnes(t, ofRows(), someRows(chance, 100), wrongRows())
	wrongOnes(t, ofKinds(), someKinds(chance, 100), wrongKinds())
}

// P18.2: layer 12 says which rows may be, and this layer what they may lead to.
func TestRowsAsLayer12Says(t *testing.T) {
	numbers := []int{math.MinInt, -65536, -64, -1, 0, 1, 2, 62, 63, 64, 65, 65534, 65535, 65536, 1<<20 - 2, 1<<20 - 1, 1 << 20, 1<<20 + 1, math.MaxInt}
	for _, gen := range numbers {
		for _, kind := range numbers {
			for _, at := range numbers {
				for _, lives := range []bool{false, true} {
					r := api.Row{Gen: gen, Live: lives, Kind: kind, At: at}
					// behind another one, since a last row of Gen 0 is wrong only as the last of its table
					_, layer12 := handle.From(2, []api.Row{r, gone(1)})
					want := api.ErrForm
					if layer12 == api.OK && kind >= 0 && kind < api.MaxKinds && at >= 0 && at < api.PageSize*api.MaxPages {
						want = api.OK
					}
					if _, e := page.Rows([]api.Row{r}, 0); e != want {
						t.Fatalf("Rows of %v: %v, not %v", r, e, want)
					}
				}
			}
		}
	}
}

// P18.2, P18.3: a page, cut at each of its bytes, and with bytes behind it.
func cutAndLonger[T any](t *testing.T, s sort[T], list []T) {
	t.Helper()
	b, e := s.write(list, 0)
	if e != api.OK {
		t.Fatal(list, e)
	}
	for n := range b {
		s.unread(t, b[:n], api.ErrShort)
	}
	s.isRead(t, b, list)
	for _, tail := range [][]byte{{0}, {1}, {0x80}, {0xff}, {0x80, 0}, b} {
		s.unread(t, slices.Concat(b, tail), api.ErrLong)
	}
}

// P18.2, P18.3
func TestPagesThatAreCutOrLonger(t *testing.T) {
	chance := noise(183)
	for range 30 {
		for n := 1; n <= 32; n++ {
			cutAndLonger(t, ofRows(), someRows(chance, n))
		}
		for n := 1; n <= 16; n++ {
			cutAndLonger(t, ofKinds(), someKinds(chance, n))
		}
	}
	ofRows().unread(t, nil, api.ErrShort)
	ofRows().unread(t, []byte{}, api.ErrShort)
	ofKinds().unread(t, nil, api.ErrShort)
	ofKinds().unread(t, []byte{}, api.ErrShort)
}

// counts holds which counts a page may have, each thing of it being of these bytes.
func counts[T any](t *testing.T, s sort[T], one []byte, x T) {
	t.Helper()
	for n := range 300 {
		b := slices.Concat(binary.AppendUvarint(nil, uint64(n)), bytes.Repeat(one, n))
		if n >= 1 && n <= s.per {
			s.isRead(t, b, slices.Repeat([]T{x}, n))
			s.unread(t, b[:len(b)-1], api.ErrShort)
			continue
		}
		// whatever follows, or doesn't
		s.unread(t, b, api.ErrForm)
		s.unread(t, append(b, 0), api.ErrForm)
		s.unread(t, b[:len(b)-min(n, 1)], api.ErrForm)
		s.unread(t, binary.AppendUvarint(nil, uint64(n)), api.ErrForm)
	}
	for _, n := range []uint64{1 << 31, 1 << 32, 1<<32 + 1, 1 << 63, 1<<63 + 1, math.MaxInt64, math.MaxUint64} {
		s.unread(t, binary.AppendUvarint(nil, n), api.ErrForm)
		s.unread(t, append(binary.AppendUvarint(nil, n), one...), api.ErrForm)
	}
}

// P18.2, P18.3
func TestCountsThatAreRead(t *testing.T) {
	counts(t, ofRows(), []byte{2}, gone(1))
	counts(t, ofRows(), []byte{3, 63, 48}, live(1, 63, 48))
	counts(t, ofKinds(), []byte{16, 1, 0}, of(16, 0))
	counts(t, ofKinds(), []byte{1, 0}, of(1))
}

// P18.2
func TestReadRowsOfOtherBytes(t *testing.T) {
	s := ofRows()
	tenth := bytes.Repeat([]byte{255}, 9)
	for _, x := range []struct {
		b    []byte
		want api.Errno
	}{
		{[]byte{1, 1}, api.ErrForm},
		{[]byte{1, 1, 0, 0}, api.ErrForm},
		{[]byte{1, 1, 3, 48, 0}, api.ErrForm},
		{[]byte{1, 0}, api.OK},
		{[]byte{1, 0, 0}, api.ErrLong},
		{[]byte{1, 2, 0}, api.ErrLong},
		{[]byte{1, 0xfe, 0xff, 7}, api.OK},
		{[]byte{1, 0xff, 0xff, 7, 0, 0}, api.OK},
		{[]byte{1, 0xff, 0xff, 7, 0}, api.ErrShort},
		{[]byte{1, 0x80, 0x80, 8}, api.ErrForm},
		{[]byte{1, 0x81, 0x80, 8}, api.ErrForm},
		{[]byte{1, 0x81, 0x80, 8, 0, 0}, api.ErrForm},
		{[]byte{1, 3, 63, 0}, api.OK},
		{[]byte{1, 3, 64}, api.ErrForm},
		{[]byte{1, 3, 64, 0}, api.ErrForm},
		{[]byte{1, 3, 0x80, 1, 0}, api.ErrForm},
		{[]byte{1, 3, 0, 0xff, 0xff, 63}, api.OK},
		{[]byte{1, 3, 0, 0x80, 0x80, 64}, api.ErrForm},
		{[]byte{1, 3, 0, 0x80, 0x80, 64, 0}, api.ErrForm},
		{[]byte{1, 3, 0, 0xff, 0xff, 63, 0}, api.ErrLong},
		{[]byte{1, 3}, api.ErrShort},
		{[]byte{1, 3, 63}, api.ErrShort},
		{[]byte{1, 3, 63, 0x80}, api.ErrShort},
		// a Var that isn't one, or that doesn't end, at each place
		{[]byte{0x80}, api.ErrShort},
		{[]byte{0x81, 0}, api.ErrForm},
		{[]byte{0x81, 0, 0}, api.ErrForm},
		{[]byte{0x80, 0}, api.ErrForm},
		{[]byte{1, 0x80}, api.ErrShort},
		{[]byte{1, 0x80, 0}, api.ErrForm},
		{[]byte{1, 0x83, 0, 0, 0}, api.ErrForm},
		{[]byte{1, 3, 0x80}, api.ErrShort},
		{[]byte{1, 3, 0x83, 0, 0}, api.ErrForm},
		{[]byte{1, 3, 3, 0x80, 0}, api.ErrForm},
		{[]byte{1, 3, 3, 0xb0, 0x80, 0}, api.ErrForm},
		{slices.Concat(tenth), api.ErrShort},
		{slices.Concat(tenth, []byte{2}), api.ErrForm},
		{slices.Concat([]byte{1}, tenth), api.ErrShort},
		{slices.Concat([]byte{1}, tenth, []byte{1}), api.ErrForm},
		{slices.Concat([]byte{1}, tenth, []byte{0x80}), api.ErrForm},
		{slices.Concat([]byte{1, 3}, tenth, []byte{1, 0}), api.ErrForm},
		{slices.Concat([]byte{1, 3, 0}, tenth, []byte{1}), api.ErrForm},
		{slices.Concat([]byte{1, 3, 0}, tenth), api.ErrShort},
		// of several faults the one that is met first
		{[]byte{0, 0}, api.ErrForm},
		{[]byte{33, 1}, api.ErrForm},
		{[]byte{2, 1}, api.ErrForm},
		{[]byte{2, 2}, api.ErrShort},
		{[]byte{2, 3, 64}, api.ErrForm},
		{[]byte{2, 3, 63}, api.ErrShort},
		{[]byte{2, 2, 1, 9, 9}, api.ErrForm},
		{[]byte{2, 0x80, 0x80, 8, 0x80}, api.ErrForm},
		{[]byte{2, 3, 64, 0x80}, api.ErrForm},
		{[]byte{2, 3, 0, 0x80, 0x80, 64, 0x80}, api.ErrForm},
		{[]byte{2, 3, 3, 48, 1, 0, 0, 0, 0}, api.ErrForm},
		{[]byte{2, 3, 3, 48, 0, 1}, api.ErrLong},
		{[]byte{2, 4, 3, 3, 48}, api.OK},
	} {
		if e := s.reads(t, x.b); e != x.want {
			t.Errorf("ReadRows of % x: %v, not %v", x.b, e, x.want)
		}
	}
}

// P18.2: each number that is read of a row, just not too great and just too great, and such that are far too great.
func TestReadRowsOfNumbers(t *testing.T) {
	s := ofRows()
	for n := range uint64(140000) {
		b := binary.AppendUvarint([]byte{1}, n)
		switch {
		case n > 131071 || n == 1:
			s.unread(t, b, api.ErrForm)
			s.unread(t, append(b, 0, 0), api.ErrForm)
		case n%2 == 0:
			s.isRead(t, b, []api.Row{gone(int(n / 2))})
		default:
			s.unread(t, b, api.ErrShort)
			s.isRead(t, append(b, 7, 9), []api.Row{live(int(n/2), 7, 9)})
		}
	}
	for n := range uint64(300) {
		b := append(binary.AppendUvarint([]byte{1, 3}, n), 5)
		if n < 64 {
			s.isRead(t, b, []api.Row{live(1, int(n), 5)})
		} else {
			s.unread(t, b, api.ErrForm)
		}
	}
	for _, n := range []uint64{0, 1, 127, 128, 1<<20 - 2, 1<<20 - 1} {
		s.isRead(t, binary.AppendUvarint([]byte{1, 3, 5}, n), []api.Row{live(1, 5, int(n))})
	}
	for _, n := range []uint64{1 << 20, 1<<20 + 1, 1 << 31, 1 << 32, 1<<32 + 2, 1 << 63, 1<<63 + 2, math.MaxInt64, math.MaxUint64 - 1, math.MaxUint64} {
		s.unread(t, binary.AppendUvarint([]byte{1}, n), api.ErrForm)
		s.unread(t, append(binary.AppendUvarint([]byte{1}, n|1), 0, 0), api.ErrForm)
		s.unread(t, append(binary.AppendUvarint([]byte{1, 3}, n), 0), api.ErrForm)
		s.unread(t, binary.AppendUvarint([]byte{1, 3, 0}, n), api.ErrForm)
	}
}

// P18.3
func TestReadKindsOfOtherBytes(t *testing.T) {
	s := ofKinds()
	tenth := bytes.Repeat([]byte{255}, 9)
	full := append([]byte{1, 0x80, 32, 16}, make([]byte, 16)...)
	for _, x := range []struct {
		b    []byte
		want api.Errno
	}{
		{[]byte{1, 0}, api.ErrForm},
		{[]byte{1, 0, 0}, api.ErrForm},
		{[]byte{1, 1, 0}, api.OK},
		{[]byte{1, 0x80, 32, 0}, api.OK},
		{[]byte{1, 0x81, 32}, api.ErrForm},
		{[]byte{1, 0x81, 32, 0}, api.ErrForm},
		{[]byte{1, 16}, api.ErrShort},
		{[]byte{1, 16, 0, 0}, api.ErrLong},
		{full, api.OK},
		{full[:len(full)-1], api.ErrShort},
		{append(slices.Clone(full), 0), api.ErrLong},
		{[]byte{1, 0x80, 32, 17}, api.ErrForm},
		{append([]byte{1, 0x80, 32, 17}, make([]byte, 17)...), api.ErrForm},
		// a field that ends with the object, and one that ends behind it
		{[]byte{1, 8, 1, 0}, api.OK},
		{[]byte{1, 7, 1, 0}, api.ErrForm},
		{[]byte{1, 16, 1, 1}, api.OK},
		{[]byte{1, 15, 1, 1}, api.ErrForm},
		{[]byte{1, 16, 1, 2}, api.ErrForm},
		{[]byte{1, 24, 2, 0, 1}, api.OK},
		{[]byte{1, 24, 2, 0, 2}, api.ErrForm},
		{[]byte{1, 24, 2, 2, 0}, api.ErrForm},
		{[]byte{1, 24, 2, 2}, api.ErrShort},
		{[]byte{1, 24, 2, 3}, api.ErrForm},
		{slices.Concat([]byte{1, 24, 1}, tenth, []byte{1}), api.ErrForm},
		{binary.AppendUvarint([]byte{1, 24, 1}, 1<<61), api.ErrForm},
		{binary.AppendUvarint([]byte{1, 24, 2, 1}, 1<<61-1), api.ErrForm},
		// a Var that isn't one, or that doesn't end, at each place
		{[]byte{0x80}, api.ErrShort},
		{[]byte{0x81, 0}, api.ErrForm},
		{[]byte{1, 0x80}, api.ErrShort},
		{[]byte{1, 0x90, 0, 0}, api.ErrForm},
		{[]byte{1, 16, 0x80}, api.ErrShort},
		{[]byte{1, 16, 0x80, 0}, api.ErrForm},
		{[]byte{1, 16, 1, 0x80}, api.ErrShort},
		{[]byte{1, 16, 1, 0x80, 0}, api.ErrForm},
		{slices.Concat([]byte{1}, tenth), api.ErrShort},
		{slices.Concat([]byte{1}, tenth, []byte{2}), api.ErrForm},
		{slices.Concat([]byte{1, 16}, tenth, []byte{1}), api.ErrForm},
		// of several faults the one that is met first
		{[]byte{0, 0}, api.ErrForm},
		{[]byte{17, 0}, api.ErrForm},
		{[]byte{2, 0}, api.ErrForm},
		{[]byte{2, 16, 0}, api.ErrShort},
		{[]byte{2, 16, 0, 0}, api.ErrForm},
		{[]byte{2, 16, 0, 0, 9, 9}, api.ErrForm},
		{[]byte{2, 16, 17}, api.ErrForm},
		{[]byte{2, 16, 1, 2}, api.ErrForm},
		{[]byte{2, 16, 1, 2, 0x80}, api.ErrForm},
		{[]byte{2, 16, 1}, api.ErrShort},
		{[]byte{2, 16, 1, 0, 0xac, 2, 0, 0}, api.ErrLong},
		{[]byte{2, 16, 1, 0, 0xac, 2, 0}, api.OK},
	} {
		if e := s.reads(t, x.b); e != x.want {
			t.Errorf("ReadKinds of % x: %v, not %v", x.b, e, x.want)
		}
	}
}

// longer goes through all bytes up to a length, of those that tell the most.
func longer(few, b []byte, most int, see func([]byte)) {
	see(b)
	if len(b) == most {
		return
	}
	for _, c := range few {
		longer(few, append(slices.Clone(b), c), most, see)
	}
}

// P18.2, P18.3
func TestAllShortBytes(t *testing.T) {
	rows, kinds := ofRows(), ofKinds()
	longer([]byte{0, 1, 2, 3, 7, 8, 32, 33, 63, 64, 0x80, 0xff}, nil, 5, func(b []byte) { rows.reads(t, b) })
	longer([]byte{0, 1, 2, 3, 8, 16, 17, 24, 32, 0x80, 0x81}, nil, 5, func(b []byte) { kinds.reads(t, b) })
}

// spoilt holds that pages of which some bytes are others, are gone, or are more, are read as the model reads them.
func spoilt[T any](t *testing.T, s sort[T], chance func(int) int, list []T) map[api.Errno]int {
	t.Helper()
	met := map[api.Errno]int{}
	b, _ := s.write(list, 0)
	for range 20 {
		c := slices.Clone(b)
		for range 1 + chance(2) {
			at := chance(len(c))
			switch chance(5) {
			case 0:
				c[at] ^= 1 << chance(8)
			case 1:
				c[at] = byte(chance(256))
			case 2:
				c = slices.Delete(c, at, at+1)
			case 3:
				c = slices.Insert(c, at, byte(chance(256)))
			case 4:
				c[0] = byte(1 + chance(s.per))
			}
			if len(c) == 0 {
				break
			}
		}
		met[s.reads(t, c)]++
	}
	return met
}

// P18.2, P18.3
func TestSpoiltPages(t *testing.T) {
	chance := noise(184)
	var met [2][4]int
	for range 4000 {
		rows := spoilt(t, ofRows(), chance, someRows(chance, 1+chance(32)))
		kinds := spoilt(t, ofKinds(), chance, someKinds(chance, 1+chance(16)))
		for i, e := range []api.Errno{api.OK, api.ErrShort, api.ErrForm, api.ErrLong} {
			met[0][i] += rows[e]
			met[1][i] += kinds[e]
		}
	}
	for _, each := range met {
		if slices.Min(each[:]) < 1000 {
			t.Error("of one answer there is too little:", met)
		}
	}
}

// together holds that all pages of a list, read one behind the other, are the list.
func together[T any](t *testing.T, s sort[T], list []T) {
	t.Helper()
	var all []T
	for i := range page.Count(len(list), s.per) {
		b, e := s.write(list, i)
		if e != api.OK {
			t.Fatalf("%s of %d things, %d: %v", s.name, len(list), i, e)
		}
		things, e := s.read(b)
		if e != api.OK || len(things) == 0 {
			t.Fatalf("the page %d of %d things: %v, %v", i, len(list), things, e)
		}
		all = append(all, things...)
	}
	if !slices.EqualFunc(all, list, s.same) {
		t.Fatalf("%d %s came back as %d others", len(list), s.name, len(all))
	}
	s.refuses(t, list, page.Count(len(list), s.per), api.ErrArg)
}

// P18.4
func TestAllPagesAreTheList(t *testing.T) {
	chance := noise(185)
	for n := range 200 {
		together(t, ofRows(), someRows(chance, n))
		together(t, ofKinds(), someKinds(chance, n))
	}
	// as many as a table may have, and more: a list isn't bound to one
	for _, n := range []int{4095, 4096, 4097, 10000} {
		together(t, ofRows(), someRows(chance, n))
		together(t, ofKinds(), someKinds(chance, n))
	}
	together(t, ofRows(), make([]api.Row, 4096))
	together(t, ofRows(), slices.Repeat([]api.Row{live(65535, 63, 1<<20-1)}, 4096))
}

// spoil changes a list, and its spare room.
func spoil[T any](list []T, by T) {
	list = list[:cap(list)]
	for i := range list {
		list[i] = by
	}
}

// Rule 4: what is handed in isn't changed, nor is its spare room.
func TestNothingHandedInIsChanged(t *testing.T) {
	chance := noise(186)
	rows := append(someRows(chance, 70), wrongRows()...)
	kinds := append(someKinds(chance, 40), wrongKinds()...)
	for i := range kinds {
		kinds[i].Ptrs = append(slices.Clone(kinds[i].Ptrs), 1, 2, 3)[:len(kinds[i].Ptrs)]
	}
	wasRows, wasKinds, wasRoom := slices.Clone(rows), copies(kinds), [][]int{}
	for _, k := range kinds {
		wasRoom = append(wasRoom, slices.Clone(k.Ptrs[:cap(k.Ptrs)]))
	}
	for n := range rows {
		for i := -1; i < 5; i++ {
			page.Rows(rows[:n], i)
			page.Kinds(kinds[:min(n, len(kinds))], i)
		}
	}
	if !slices.Equal(rows, wasRows) || !slices.EqualFunc(kinds, wasKinds, sameKind) {
		t.Error("a list was changed")
	}
	for i, k := range kinds {
		if !slices.Equal(k.Ptrs[:cap(k.Ptrs)], wasRoom[i]) {
			t.Errorf("the room of %v was changed", k)
		}
	}
	for range 300 {
		rows, _ := page.Rows(someRows(chance, 32), 0)
		kinds, _ := page.Kinds(someKinds(chance, 16), 0)
		for _, b := range [][]byte{rows, kinds} {
			whole := slices.Concat(b, []byte{9, 8, 7})
			was := slices.Clone(whole)
			for n := range len(b) + 1 {
				page.ReadRows(whole[:n])
				page.ReadKinds(whole[:n])
			}
			if !bytes.Equal(whole, was) {
				t.Fatalf("% x became % x", was, whole)
			}
		}
	}
}

// Rule 4: what is handed out has nothing in common with what was handed in, nor with another answer.
func TestNothingIsShared(t *testing.T) {
	chance := noise(187)
	for range 300 {
		rows, kinds := someRows(chance, 40), someKinds(chance, 20)
		wasRows, wasKinds := slices.Clone(rows), copies(kinds)
		rowBytes, _ := page.Rows(rows, 0)
		kindBytes, _ := page.Kinds(kinds, 0)
		wasRowBytes, wasKindBytes := slices.Clone(rowBytes), slices.Clone(kindBytes)
		readRows, _ := page.ReadRows(rowBytes)
		againRows, _ := page.ReadRows(rowBytes)
		readKinds, _ := page.ReadKinds(kindBytes)
		againKinds, _ := page.ReadKinds(kindBytes)

		spoil(rows, live(9, 9, 9))
		for _, k := range kinds {
			spoil(k.Ptrs, -77)
		}
		spoil(kinds, of(9))
		if !bytes.Equal(rowBytes, wasRowBytes) || !bytes.Equal(kindBytes, wasKindBytes) {
			t.Fatal("what was written is the list's memory")
		}
		spoil(rowBytes, 77)
		spoil(kindBytes, 77)
		spoil(againRows, live(9, 9, 9))
		for i, k := range againKinds {
			spoil(k.Ptrs, -77)
			if !slices.EqualFunc(againKinds[i+1:], wasKinds[i+1:16], sameKind) {
				t.Fatal("two lists of one answer share memory")
			}
		}
		spoil(againKinds, of(9))
		if !slices.Equal(readRows, wasRows[:32]) || !slices.EqualFunc(readKinds, wasKinds[:16], sameKind) {
			t.Fatal("what was read is the bytes' memory, or another answer's")
		}
	}
}

// Rule 4: two answers of one page share nothing.
func TestTwoAnswersOfOnePage(t *testing.T) {
	chance := noise(188)
	rows, kinds := someRows(chance, 40), someKinds(chance, 20)
	for i := range 2 {
		r, _ := page.Rows(rows, i)
		wasR := slices.Clone(r)
		spoil(r, 77)
		k, _ := page.Kinds(kinds, i)
		wasK := slices.Clone(k)
		spoil(k, 77)
		if again, e := page.Rows(rows, i); e != api.OK || !bytes.Equal(again, wasR) {
			t.Error(again, e)
		}
		if again, e := page.Kinds(kinds, i); e != api.OK || !bytes.Equal(again, wasK) {
			t.Error(again, e)
		}
	}
}
