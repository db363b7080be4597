package reloc_test

import (
	"bytes"
	"encoding/binary"
	"math"
	"slices"
	"testing"

	"hayloft/api"
	"hayloft/num"
	"hayloft/reloc"
)

// last is the greatest place that a table for MaxBody bytes may have.
const last = 65520

// side are so many places, one right behind the other.
func side(n int) []int {
	offs := []int{}
	for i := range n {
		offs = append(offs, 8*i)
	}
	return offs
}

// noise is a row of numbers that look like chance, the same ones each time.
func noise(seed uint64) func(below int) int {
	return func(below int) int {
		seed = seed*6364136223846793005 + 1442695040888963407
		return int(seed>>33) % below
	}
}

// spoil changes a list, and its spare room.
func spoil[T any](list []T, by T) {
	list = list[:cap(list)]
	for i := range list {
		list[i] = by
	}
}

// room is a list with spare room behind it, and all of it.
func room[T any](list []T, spare ...T) (part, whole []T) {
	whole = slices.Concat(list, spare)
	return whole[:len(list)], whole
}

// tables are some that are right for MaxBody bytes: the least, the greatest, and some by chance.
func tables() [][]int {
	all := [][]int{
		nil, {}, {0}, {8}, {0, 8}, {0, 8, 24}, {8, 16}, {1016}, {1024}, {0, 1024}, {0, 1032}, {16376}, {16384}, {8 * 4095, 8 * 4097},
		{last}, {0, last}, {last - 8}, {last - 8, last}, {0, last - 8, last}, side(127), side(128), side(8191),
	}
	chance := noise(16)
	for range 300 {
		offs, step := []int{}, 1+chance(1+chance(3000))
		for p := 8 * chance(step); p <= last; p += 8 + 8*chance(step) {
			offs = append(offs, p)
		}
		all = append(all, offs[chance(1+len(offs)):])
	}
	return all
}

// wrongs are lists that are no table's, for however many bytes.
func wrongs() [][]int {
	return [][]int{
		{-8}, {-1}, {-16, 0}, {0, -8}, {math.MinInt}, {0, math.MinInt}, {math.MinInt, 0},
		{1}, {4}, {7}, {9}, {0, 4}, {0, 12}, {0, 8, 15}, {2, 10, 18},
		{8, 0}, {16, 8}, {0, 16, 8}, {0, 8, 0}, {24, 16, 8, 0}, {0, 0}, {8, 8}, {0, 8, 8}, {0, 8, 8, 16}, {last, last}, {last, 0},
		{math.MaxInt}, {math.MaxInt - 7}, {0, math.MaxInt}, {0, math.MaxInt - 7}, {math.MaxInt - 7, 0}, {math.MaxInt - 7, math.MinInt},
		side(8193), side(20000), make([]int, 8192), make([]int, 8193),
	}
}

// P16.1
func TestRight(t *testing.T) {
	for _, offs := range tables() {
		enough := 0
		if len(offs) > 0 {
			enough = offs[len(offs)-1] + 8
		}
		for n, want := range map[int]bool{enough: true, enough + 1: true, api.MaxBody: true, math.MaxInt: true, enough - 1: len(offs) == 0} {
			if reloc.Right(offs, n) != want {
				t.Errorf("Right(%v, %d): %v", offs, n, !want)
			}
		}
	}
	for _, offs := range wrongs() {
		for _, n := range []int{math.MinInt, -8, -1, 0, 8, 16, 64, api.MaxBody, 1 << 20, math.MaxInt - 1, math.MaxInt} {
			if reloc.Right(offs, n) {
				t.Errorf("Right(%v, %d)", offs[:min(len(offs), 9)], n)
			}
		}
	}
}

// P16.1
func TestRightAtTheEdges(t *testing.T) {
	for _, x := range []struct {
		offs []int
		n    int
		want bool
	}{
		{nil, math.MinInt, true}, {nil, -1, true}, {nil, 0, true}, {nil, 7, true}, {nil, 8, true}, {nil, math.MaxInt, true}, {[]int{}, -5, true},
		{[]int{0}, math.MinInt, false}, {[]int{0}, math.MinInt + 7, false}, {[]int{0}, -8, false}, {[]int{0}, -1, false}, {[]int{0}, 0, false},
		{[]int{0}, 1, false}, {[]int{0}, 7, false}, {[]int{0}, 8, true}, {[]int{0}, 9, true}, {[]int{0}, math.MaxInt, true},
		{[]int{8}, 8, false}, {[]int{8}, 15, false}, {[]int{8}, 16, true}, {[]int{0, 8, 24}, 31, false}, {[]int{0, 8, 24}, 32, true},
		{side(8192), 65536, true}, {side(8192), 65535, false}, {side(8193), 65544, false}, {side(8193), math.MaxInt, false},
		{[]int{last}, 65527, false}, {[]int{last}, 65528, true}, {[]int{last}, api.MaxBody, true}, {[]int{last + 8}, api.MaxBody, false}, {[]int{last + 8}, api.MaxBody + 1, true},
		{[]int{math.MaxInt - 15}, math.MaxInt, true}, {[]int{math.MaxInt - 15}, math.MaxInt - 7, true}, {[]int{math.MaxInt - 15}, math.MaxInt - 8, false},
		{[]int{0, math.MaxInt - 15}, math.MaxInt, true}, {[]int{math.MaxInt - 7}, math.MaxInt, false}, {[]int{math.MaxInt - 15, math.MaxInt - 7}, math.MaxInt, false},
		{[]int{-8}, math.MaxInt, false}, {[]int{math.MinInt}, math.MinInt, false}, {[]int{math.MinInt}, math.MaxInt, false},
	} {
		if got := reloc.Right(x.offs, x.n); got != x.want {
			t.Errorf("Right of %d places, %v .., %d: %v", len(x.offs), x.offs[:min(len(x.offs), 3)], x.n, got)
		}
	}
}

// plainRight says in the document's words whether few and small places are a table that is right.
func plainRight(offs []int, n int) bool {
	for i, p := range offs {
		multiple := p%8 == 0
		if p < 0 || !multiple || i > 0 && p <= offs[i-1] || p+8 > n {
			return false
		}
	}
	return true
}

// P16.1
func TestRightOfAllSmallTables(t *testing.T) {
	for n := -9; n <= 34; n++ {
		for p := -17; p <= 34; p++ {
			for q := -17; q <= 34; q++ {
				for _, offs := range [][]int{{p}, {p, q}, {0, p, q}, {p, q, 24}} {
					if got := reloc.Right(offs, n); got != plainRight(offs, n) {
						t.Fatalf("Right(%v, %d): %v", offs, n, got)
					}
				}
			}
		}
	}
}

// P16.1
func TestBytes(t *testing.T) {
	for _, x := range []struct {
		offs []int
		want []byte
	}{
		{nil, []byte{0}},
		{[]int{}, []byte{0}},
		{[]int{0}, []byte{1, 0}},
		{[]int{8}, []byte{1, 1}},
		{[]int{0, 8}, []byte{2, 0, 0}},
		{[]int{0, 8, 24}, []byte{3, 0, 0, 1}},
		{[]int{16, 40, 72}, []byte{3, 2, 2, 3}},
		{[]int{8 * 127}, []byte{1, 127}},
		{[]int{8 * 128}, []byte{1, 128, 1}},
		{[]int{0, 8 * 128}, []byte{2, 0, 127}},
		{[]int{0, 8 * 129}, []byte{2, 0, 128, 1}},
		{[]int{last}, []byte{1, 0xfe, 0x3f}},
		{[]int{0, last}, []byte{2, 0, 0xfd, 0x3f}},
		{[]int{last - 8, last}, []byte{2, 0xfd, 0x3f, 0}},
		{side(127), append([]byte{127}, make([]byte, 127)...)},
		{side(128), append([]byte{128, 1}, make([]byte, 128)...)},
		{side(8191), append([]byte{0xff, 0x3f}, make([]byte, 8191)...)},
	} {
		if got, e := reloc.Bytes(x.offs); !bytes.Equal(got, x.want) || e != api.OK {
			t.Errorf("Bytes(%v): % x, %v", x.offs, got, e)
		}
	}
}

// P16.1
func TestBytesOfWhatIsNoTable(t *testing.T) {
	behind := [][]int{{last + 8}, {0, last + 8}, {last, last + 8}, {1 << 20}, {math.MaxInt - 15}, side(8192)}
	for _, offs := range append(wrongs(), behind...) {
		if b, e := reloc.Bytes(offs); len(b) != 0 || e != api.ErrForm {
			t.Errorf("Bytes(%v): % x, %v", offs[:min(len(offs), 9)], b, e)
		}
	}
}

// P16.1
func TestReadOfBytes(t *testing.T) {
	for _, offs := range tables() {
		b, _ := reloc.Bytes(offs)
		for _, tail := range [][]byte{nil, {0}, {255, 255}, {3, 0, 0, 1}} {
			r := num.Open(slices.Concat(b, tail))
			if got := reloc.Read(r); !slices.Equal(got, offs) || r.Err() != api.OK || r.Left() != len(tail) {
				t.Errorf("Read of % x: %v, %v, %d left", b, got, r.Err(), r.Left())
			}
			if rest := r.Bytes(len(tail)); !bytes.Equal(rest, tail) {
				t.Errorf("behind % x stands % x", b, rest)
			}
		}
		for n := 0; n < len(b); n += 1 + n/64 {
			unread(t, b[:n], api.ErrShort)
		}
		unread(t, b[:len(b)-1], api.ErrShort)
	}
}

// P16.1
func TestReadOfTablesBehindOneAnother(t *testing.T) {
	all := []byte{}
	for _, offs := range tables() {
		b, _ := reloc.Bytes(offs)
		all = append(all, b...)
	}
	r := num.Open(all)
	for _, offs := range tables() {
		if got := reloc.Read(r); !slices.Equal(got, offs) {
			t.Fatalf("%v, not %v", got, offs)
		}
	}
	if e := r.End(); e != api.OK {
		t.Error(e)
	}
}

// unread holds that bytes are a fault, and that nothing is read of them.
func unread(t *testing.T, b []byte, want api.Errno) {
	t.Helper()
	r := num.Open(b)
	if offs := reloc.Read(r); len(offs) != 0 || r.Err() != want || r.Left() != 0 {
		t.Errorf("Read of % x: %v, %v, %d left, not %v", b[:min(len(b), 20)], offs, r.Err(), r.Left(), want)
	}
}

// P16.1
func TestReadOfOtherBytes(t *testing.T) {
	tenth := bytes.Repeat([]byte{255}, 9)
	noughts := func(n int, ahead ...byte) []byte { return append(ahead, make([]byte, n)...) }
	for _, x := range []struct {
		b    []byte
		want api.Errno
	}{
		{nil, api.ErrShort},
		{[]byte{0x81}, api.ErrShort},
		{[]byte{0x80, 0}, api.ErrForm},
		{[]byte{0x81, 0, 0}, api.ErrForm},
		{tenth, api.ErrShort},
		{slices.Concat(tenth, []byte{1}), api.ErrForm},
		{slices.Concat(tenth, []byte{2}), api.ErrForm},
		// a count of Most is none that is wrong at once, but no table for MaxBody bytes has so many
		{[]byte{0x80, 0x40}, api.ErrShort},
		{noughts(8190, 0x80, 0x40), api.ErrShort},
		{noughts(8191, 0x80, 0x40), api.ErrShort},
		{append(noughts(8191, 0x80, 0x40), 0x80), api.ErrShort},
		{noughts(8192, 0x80, 0x40), api.ErrForm},
		{noughts(9000, 0x80, 0x40), api.ErrForm},
		{[]byte{0x80, 0x40, 0xff, 0x3f}, api.ErrForm},
		{[]byte{0x81, 0x40}, api.ErrForm},
		{noughts(8193, 0x81, 0x40), api.ErrForm},
		{[]byte{1}, api.ErrShort},
		{[]byte{1, 0xff}, api.ErrShort},
		{[]byte{1, 0xff, 0x3f}, api.ErrForm},
		{[]byte{1, 0x80, 0x40}, api.ErrForm},
		{[]byte{1, 0x80, 0x80, 1}, api.ErrForm},
		{[]byte{2, 0xff, 0x3f}, api.ErrForm},
		{[]byte{2, 0xfe, 0x3f}, api.ErrShort},
		{[]byte{2, 0xfe, 0x3f, 0x80}, api.ErrShort},
		{[]byte{2, 0xfe, 0x3f, 0}, api.ErrForm},
		{[]byte{2, 0xfe, 0x3f, 5}, api.ErrForm},
		{[]byte{2, 0xfd, 0x3f, 1}, api.ErrForm},
		{[]byte{2, 0, 0xfe, 0x3f}, api.ErrForm},
		{[]byte{3, 0, 0xfe, 0x3f}, api.ErrForm},
		{[]byte{3, 0, 0xfd, 0x3f}, api.ErrShort},
		{[]byte{3, 0, 0}, api.ErrShort},
		{[]byte{3, 0, 0x80}, api.ErrShort},
		{[]byte{3, 0, 0x80, 0}, api.ErrForm},
		{[]byte{3, 0, 0, 0x80, 0}, api.ErrForm},
		{slices.Concat([]byte{1}, tenth), api.ErrShort},
		{slices.Concat([]byte{1}, tenth, []byte{2}), api.ErrForm},
		{slices.Concat([]byte{2, 0}, tenth, []byte{128}), api.ErrForm},
	} {
		unread(t, x.b, x.want)
	}
	// numbers whose eightfold, or whose eightfold and the place ahead, wrap round to a place that may be
	for _, n := range []uint64{8191, 1 << 32, 1 << 60, 1 << 61, 1<<61 - 1, 1<<61 + 1, 1 << 63, 1<<63 + 1, math.MaxInt64, math.MaxUint64 - 1, math.MaxUint64} {
		unread(t, slices.Concat([]byte{1}, num.Var(n)), api.ErrForm)
		unread(t, slices.Concat([]byte{2, 3}, num.Var(n)), api.ErrForm)
		unread(t, slices.Concat([]byte{3, 3}, num.Var(n), []byte{0}), api.ErrForm)
		// as a count it is too many at once, whatever follows (8191 alone isn't)
		if n > reloc.Most {
			unread(t, num.Var(n), api.ErrForm)
			unread(t, slices.Concat(num.Var(n), []byte{0, 0}), api.ErrForm)
		}
	}
}

// plainRead reads a table in the document's words: the places, how many bytes they are told by, the fault.
func plainRead(b []byte) ([]int, int, api.Errno) {
	r, offs, at := num.Open(b), []int{}, 0
	count := r.Var()
	if r.Err() == api.OK && count > 8192 {
		return nil, 0, api.ErrForm
	}
	for i := range count {
		eighth := r.Var()
		if r.Err() != api.OK {
			return nil, 0, r.Err()
		}
		if eighth > 8190 {
			return nil, 0, api.ErrForm
		}
		at += 8 * int(eighth)
		if i > 0 {
			at += 8
		}
		if at > 65535-8 {
			return nil, 0, api.ErrForm
		}
		offs = append(offs, at)
	}
	return offs, len(b) - r.Left(), r.Err()
}

// reads holds that bytes are read as the document says, and that they are the only ones of the table.
func reads(t *testing.T, b []byte) {
	t.Helper()
	want, size, e := plainRead(b)
	r := num.Open(b)
	got := reloc.Read(r)
	if !slices.Equal(got, want) || r.Err() != e || e == api.OK && r.Left() != len(b)-size {
		t.Fatalf("Read of % x: %v, %v, not %v, %v", b, got, r.Err(), want, e)
	}
	if e != api.OK {
		return
	}
	if again, e := reloc.Bytes(got); !bytes.Equal(again, b[:size]) || e != api.OK {
		t.Fatalf("Bytes(%v): % x, %v, not % x", got, again, e, b[:size])
	}
}

// P16.1
func TestReadOfAllShortBytes(t *testing.T) {
	few := []byte{0, 1, 2, 3, 0x3f, 0x40, 0x7f, 0x80, 0x81, 0xfe, 0xff}
	var longer func(b []byte)
	longer = func(b []byte) {
		reads(t, b)
		if len(b) == 5 {
			return
		}
		for _, c := range few {
			longer(append(bytes.Clone(b), c))
		}
	}
	longer(nil)
}

// P16.1
func TestReadOfAnyBytes(t *testing.T) {
	chance := noise(4)
	for range 50000 {
		b := make([]byte, chance(14))
		for i := range b {
			b[i] = byte(chance(1 + chance(256)))
		}
		reads(t, b)
	}
}

// P16.1
func TestReadBehindAFault(t *testing.T) {
	for _, e := range []api.Errno{api.ErrShort, api.ErrForm, api.ErrSum, api.ErrCorrupt, -5} {
		for _, b := range [][]byte{nil, {0}, {3, 0, 0, 1}, {1, 0xff, 0x3f}, {0x81, 0x40}} {
			r := num.Open(b)
			r.Fail(e)
			if offs := reloc.Read(r); len(offs) != 0 || r.Err() != e {
				t.Errorf("behind %v: %v, %v", e, offs, r.Err())
			}
		}
	}
	if offs := reloc.Read(nil); len(offs) != 0 {
		t.Errorf("Read of a nil reader: %v", offs)
	}
	// of a reader that no maker answered nothing is promised but that the call ends
	reloc.Read(new(num.Reader))
}

// words are the eight bytes of each number, one behind the other.
func words(ns ...uint64) []byte {
	b := []byte{}
	for _, n := range ns {
		b = binary.LittleEndian.AppendUint64(b, n)
	}
	return b
}

// P16.2
func TestApply(t *testing.T) {
	for _, x := range []struct {
		b           []byte
		offs        []int
		from, to, n int
		want        []byte
	}{
		{words(300), []int{0}, 256, 512, 256, words(556)},
		{words(556), []int{0}, 512, 256, 256, words(300)},
		{words(300), []int{0}, 256, 256, 256, words(300)},
		{words(300, 0, 301), []int{0, 8, 16}, 256, 1024, 256, words(1068, 0, 1069)},
		{words(300, 300, 300), []int{8}, 256, 1024, 256, words(300, 1068, 300)},
		{words(7, 300, math.MaxUint64), []int{8}, 256, 1024, 256, words(7, 1068, math.MaxUint64)},
		{words(511), []int{0}, 256, api.MaxBase, 256, words(api.MaxBase + 255)},
		{words(api.MaxBase + 255), []int{0}, api.MaxBase, 256, 256, words(511)},
		{words(256 + 1<<20 - 1), []int{0}, 256, 1 << 30, 1 << 20, words(1<<30 + 1<<20 - 1)},
		{words(0), []int{0}, 256, 512, 0, words(0)},
		{append(words(300), 1, 2, 3), []int{0}, 256, 512, 256, append(words(556), 1, 2, 3)},
		{words(300), nil, 256, 512, 0, words(300)},
		{nil, nil, 256, 512, 256, nil},
		{[]byte{}, []int{}, 256, 512, 0, nil},
		{[]byte{1, 2, 3}, nil, 256, 512, 256, []byte{1, 2, 3}},
	} {
		if got, e := reloc.Apply(x.b, x.offs, x.from, x.to, x.n); !bytes.Equal(got, x.want) || e != api.OK {
			t.Errorf("Apply(% x, %v, %d, %d, %d): % x, %v", x.b, x.offs, x.from, x.to, x.n, got, e)
		}
	}
}

// refuses holds that Apply tells an error, and nothing beside it.
func refuses(t *testing.T, b []byte, offs []int, from, to, n int, want api.Errno) {
	t.Helper()
	if got, e := reloc.Apply(b, offs, from, to, n); len(got) != 0 || e != want {
		t.Errorf("Apply of %d bytes, %v, %d, %d, %d: %d bytes, %v, not %v", len(b), offs[:min(len(offs), 5)], from, to, n, len(got), e, want)
	}
}

// P16.2
func TestApplyOfArguments(t *testing.T) {
	for _, base := range []int{math.MinInt, -256, -1, 0, 1, 100, 255, 257, 300, 511, api.MaxBase - 1, api.MaxBase + 1, api.MaxBase + 256, math.MaxInt, math.MaxInt - 255} {
		refuses(t, nil, nil, base, 512, 256, api.ErrArg)
		refuses(t, nil, nil, 512, base, 256, api.ErrArg)
		refuses(t, nil, nil, base, base, 256, api.ErrArg)
	}
	for _, n := range []int{math.MinInt, -256, -1, 1<<20 + 1, 1<<20 + 256, math.MaxInt} {
		refuses(t, nil, nil, 256, 512, n, api.ErrArg)
	}
	for _, base := range []int{256, 512, 1 << 30, api.MaxBase - 256, api.MaxBase} {
		for _, n := range []int{0, 1, 255, 256, 1 << 20} {
			if _, e := reloc.Apply(nil, nil, base, 512, n); e != api.OK {
				t.Errorf("from %d, n %d: %v", base, n, e)
			}
			if _, e := reloc.Apply(nil, nil, 512, base, n); e != api.OK {
				t.Errorf("to %d, n %d: %v", base, n, e)
			}
		}
	}
}

// P16.2
func TestApplyOfWrongTables(t *testing.T) {
	for _, offs := range wrongs() {
		refuses(t, make([]byte, 200000), offs, 256, 512, 256, api.ErrForm)
	}
	for n := range 32 {
		refuses(t, make([]byte, n), []int{0, 8, 24}, 256, 512, 256, api.ErrForm)
	}
	refuses(t, nil, []int{0}, 256, 512, 256, api.ErrForm)
	refuses(t, make([]byte, 16), []int{16}, 256, 512, 256, api.ErrForm)
	refuses(t, make([]byte, 65535), side(8192), 256, 512, 256, api.ErrForm)
	// the table is held against the bytes, be they more than MaxBody
	for _, offs := range [][]int{side(8192), {last + 8}, {1 << 17}} {
		b := bytes.Repeat(words(300), 1<<17)
		got, e := reloc.Apply(b, offs, 256, 512, 256)
		if e != api.OK || len(got) != len(b) || num.Get(got[offs[len(offs)-1]:]) != 556 || num.Get(got[offs[len(offs)-1]+8:]) != 300 {
			t.Errorf("a table of %d places: %v", len(offs), e)
		}
	}
}

// P16.2
func TestApplyOfWords(t *testing.T) {
	for _, from := range []int{256, 512, 1 << 30, api.MaxBase} {
		for _, n := range []int{1, 44, 255, 256, 257, 1 << 20} {
			for _, to := range []int{256, 1024, 1 << 32, api.MaxBase} {
				for _, w := range []uint64{0, uint64(from), uint64(from + n - 1)} {
					want := w
					if w != 0 {
						want = w - uint64(from) + uint64(to)
					}
					if got, e := reloc.Apply(words(w), []int{0}, from, to, n); !bytes.Equal(got, words(want)) || e != api.OK {
						t.Errorf("%d, from %d to %d, n %d: % x, %v", w, from, to, n, got, e)
					}
				}
				for _, w := range []uint64{1, uint64(from - 1), uint64(from + n), 1 << 63, 1<<63 + uint64(from), 1<<48 + uint64(from), -uint64(from), math.MaxUint64} {
					refuses(t, words(w), []int{0}, from, to, n, api.ErrAddr)
					refuses(t, words(w, uint64(from)), []int{0, 8}, from, to, n, api.ErrAddr)
					refuses(t, words(uint64(from), 0, w), []int{0, 8, 16}, from, to, n, api.ErrAddr)
					refuses(t, words(0, w, uint64(from)), []int{0, 8, 16}, from, to, n, api.ErrAddr)
				}
			}
		}
		refuses(t, words(uint64(from)), []int{0}, from, 512, 0, api.ErrAddr)
	}
}

// P16.2: the error that the chapter names first is told.
func TestApplyTellsTheFirstError(t *testing.T) {
	wrong := words(1)
	for _, bad := range [][3]int{{100, 512, 256}, {256, 100, 256}, {256, 512, -1}, {256, 512, 1<<20 + 1}, {0, 0, -1}} {
		refuses(t, wrong, []int{4}, bad[0], bad[1], bad[2], api.ErrArg)
		refuses(t, wrong, []int{0}, bad[0], bad[1], bad[2], api.ErrArg)
		refuses(t, wrong, side(8193), bad[0], bad[1], bad[2], api.ErrArg)
	}
	refuses(t, wrong, []int{0, 8}, 256, 512, 256, api.ErrForm)
	refuses(t, wrong, []int{0, 0}, 256, 512, 256, api.ErrForm)
	refuses(t, words(1, 1, 300), []int{0, 8, 17}, 256, 512, 256, api.ErrForm)
	refuses(t, wrong, []int{0}, 256, 512, 256, api.ErrAddr)
}

// some is a table, and bytes with addresses of an arena of n bytes at its places, and any others elsewhere.
func some(chance func(int) int, from, n int) ([]byte, []int) {
	b := make([]byte, chance(200))
	for i := range b {
		b[i] = byte(chance(256))
	}
	offs := []int{}
	for p := 8 * chance(3); p+8 <= len(b); p += 8 + 8*chance(3) {
		w := uint64(0)
		if chance(4) > 0 {
			w = uint64(from + chance(n))
		}
		binary.LittleEndian.PutUint64(b[p:], w)
		offs = append(offs, p)
	}
	return b, offs
}

// moved is Apply of what it takes.
func moved(t *testing.T, b []byte, offs []int, from, to, n int) []byte {
	t.Helper()
	c, e := reloc.Apply(b, offs, from, to, n)
	if e != api.OK || len(c) != len(b) {
		t.Fatalf("Apply(% x, %v, %d, %d, %d): % x, %v", b, offs, from, to, n, c, e)
	}
	return c
}

// P16.2, P16.3
func TestThereAndBack(t *testing.T) {
	chance := noise(163)
	bases := []int{256, 512, 768, 4096, 1 << 20, 1 << 30, api.MaxBase - 256, api.MaxBase}
	for range 5000 {
		from, to, third := bases[chance(len(bases))], bases[chance(len(bases))], bases[chance(len(bases))]
		n := 1 + chance(1+chance(1<<20))
		b, offs := some(chance, from, n)
		there := moved(t, b, offs, from, to, n)
		if back := moved(t, there, offs, to, from, n); !bytes.Equal(back, b) {
			t.Fatalf("from %d to %d and back: % x, not % x", from, to, back, b)
		}
		if way := moved(t, moved(t, b, offs, from, third, n), offs, third, to, n); !bytes.Equal(way, there) {
			t.Fatalf("from %d to %d by way of %d: % x, not % x", from, to, third, way, there)
		}
		stays(t, b, there, offs)
		for _, p := range offs {
			was, is := binary.LittleEndian.Uint64(b[p:]), binary.LittleEndian.Uint64(there[p:])
			if was == 0 && is != 0 || was != 0 && is-uint64(to) != was-uint64(from) {
				t.Fatalf("from %d to %d: at %d %d became %d", from, to, p, was, is)
			}
		}
	}
}

// stays holds that bytes in no word of a table are as they were.
func stays(t *testing.T, b, c []byte, offs []int) {
	t.Helper()
	for i := range b {
		if !slices.Contains(offs, i-i%8) && b[i] != c[i] {
			t.Fatalf("the byte %d is in no word of %v: %d became %d", i, offs, b[i], c[i])
		}
	}
}

// Rule 4
func TestNothingHandedInIsChanged(t *testing.T) {
	for _, list := range append(tables()[:30], wrongs()...) {
		offs, whole := room(list, 1, 2, 3)
		before := slices.Clone(whole)
		b, all := room(bytes.Repeat(words(300), 40), 9, 9, 9, 9, 9, 9, 9, 9, 9)
		was := bytes.Clone(all)
		reloc.Right(offs, api.MaxBody)
		reloc.Bytes(offs)
		reloc.Apply(b, offs, 256, 512, 256)
		reloc.Apply(b, offs, 256, 512, 44)
		if !slices.Equal(whole, before) {
			t.Errorf("%v became %v", before, whole)
		}
		if !bytes.Equal(all, was) {
			t.Errorf("the bytes became % x", all)
		}
	}
	// bytes some of which were moved already when a wrong word is met
	b := words(300, 301, 1)
	if refuses(t, b, []int{0, 8, 16}, 256, 512, 256, api.ErrAddr); !bytes.Equal(b, words(300, 301, 1)) {
		t.Errorf("the bytes became % x", b)
	}
}

// Rule 4
func TestAnswersAreNewMemory(t *testing.T) {
	for _, x := range []struct {
		offs []int
		to   int
	}{{[]int{0, 8}, 512}, {[]int{0, 8}, 256}, {[]int{16}, 512}, {nil, 512}, {nil, 256}} {
		b, whole := room(words(300, 301, 0), 5, 6, 7)
		before := bytes.Clone(whole)
		first := moved(t, b, x.offs, 256, x.to, 256)
		second := moved(t, b, x.offs, 256, x.to, 256)
		want := bytes.Clone(first)
		spoil(first, 77)
		if !bytes.Equal(whole, before) || !bytes.Equal(second, want) {
			t.Errorf("what Apply of %v answers is shared", x.offs)
		}
		spoil(whole, 88)
		if !bytes.Equal(second, want) {
			t.Errorf("what Apply of %v answers is the argument's", x.offs)
		}
	}
	for _, offs := range tables()[:25] {
		first, _ := reloc.Bytes(offs)
		second, _ := reloc.Bytes(offs)
		source := bytes.Clone(second)
		spoil(first, 77)
		if !bytes.Equal(second, source) {
			t.Errorf("two answers of Bytes(%v) share memory", offs)
		}
		r := num.Open(slices.Concat(source, source))
		spoil(reloc.Read(r), -77)
		if again := reloc.Read(r); !slices.Equal(again, offs) {
			t.Errorf("behind a spoilt table: %v, not %v", again, offs)
		}
	}
}

func TestExamples(t *testing.T) {
	offs := []int{0, 8, 24}
	if b, e := reloc.Bytes(offs); !bytes.Equal(b, []byte{3, 0, 0, 1}) || e != api.OK {
		t.Errorf("Bytes: % x, %v", b, e)
	}
	if reloc.Right(offs, 31) || !reloc.Right(offs, 32) {
		t.Error("Right")
	}
	if b, e := reloc.Apply(num.Put(300, 8), []int{0}, 256, 512, 256); !bytes.Equal(b, num.Put(556, 8)) || e != api.OK {
		t.Errorf("Apply: % x, %v", b, e)
	}
	refuses(t, num.Put(300, 8), []int{0}, 256, 512, 44, api.ErrAddr)
	if reloc.Most != 8192 {
		t.Error(reloc.Most)
	}
}
