package kind_test

import (
	"bytes"
	"math"
	"slices"
	"testing"

	"hayloft/api"
	"hayloft/kind"
	"hayloft/num"
)

// of is a kind of so many bytes, with pointer fields.
func of(size int, ptrs ...int) api.Kind {
	return api.Kind{Size: size, Ptrs: ptrs}
}

// words are so many pointer fields, one right behind the other.
func words(n int) []int {
	ptrs := []int{}
	for i := range n {
		ptrs = append(ptrs, 8*i)
	}
	return ptrs
}

func same(k, l api.Kind) bool {
	return k.Size == l.Size && slices.Equal(k.Ptrs, l.Ptrs)
}

func copied(k api.Kind) api.Kind {
	return api.Kind{Size: k.Size, Ptrs: slices.Clone(k.Ptrs)}
}

// spoil changes a list, and its spare room.
func spoil(list []int) {
	list = list[:cap(list)]
	for i := range list {
		list[i] = -77
	}
}

// noise is a row of numbers that look like chance, the same ones each time.
func noise(seed uint64) func(below int) int {
	return func(below int) int {
		seed = seed*6364136223846793005 + 1442695040888963407
		return int(seed>>33) % below
	}
}

// rights are kinds with which nothing is wrong: the least, the greatest, and some by chance.
func rights() []api.Kind {
	all := []api.Kind{
		of(1), of(7), of(8), of(8, 0), of(9, 0), of(15, 0), of(16, 8), of(16, 0, 8), of(24, 0, 16), of(127), of(128),
		of(api.MaxSize), of(api.MaxSize, 0), of(api.MaxSize, api.MaxSize-8), of(api.MaxSize, 0, api.MaxSize-8),
		of(api.MaxSize-1, api.MaxSize-16), of(api.MaxSize, 8*127), of(api.MaxSize, 8*128), of(api.MaxSize, 0, 8*128), of(api.MaxSize, 0, 8*129),
		of(8*api.MaxPtrs, words(api.MaxPtrs)...), of(api.MaxSize, words(api.MaxPtrs)...),
	}
	last := []int{}
	for i := range api.MaxPtrs {
		last = append(last, api.MaxSize-8*(api.MaxPtrs-i))
	}
	all = append(all, of(api.MaxSize, last...))
	chance := noise(9)
	for range 500 {
		k := of(1 + chance(1+chance(api.MaxSize)))
		for p := 8 * chance(8); p <= k.Size-8 && len(k.Ptrs) < api.MaxPtrs; p += 8 + 8*chance(40) {
			k.Ptrs = append(k.Ptrs, p)
		}
		all = append(all, k)
	}
	return all
}

// wrongs are kinds that aren't right, with what is wrong.
func wrongs() map[api.Errno][]api.Kind {
	many := words(api.MaxPtrs + 1)
	bad := slices.Clone(many)
	bad[3] = 5
	return map[api.Errno][]api.Kind{
		api.ErrArg: {
			of(math.MinInt), of(-api.MaxSize), of(-1), of(0), of(api.MaxSize + 1), of(math.MaxInt),
			of(0, 0), of(-8, -16), of(math.MinInt, 0), of(math.MaxInt, 0, 8), of(math.MinInt, math.MaxInt-7),
			of(0, many...), of(api.MaxSize+1, many...), of(0, 3), of(api.MaxSize+1, bad...),
		},
		api.ErrLong: {of(api.MaxSize, many...), of(1, many...), of(api.MaxSize, bad...), of(api.MaxSize, make([]int, 5000)...)},
		api.ErrKind: {
			of(1, 0), of(7, 0), of(20, 16), of(24, -8), of(24, -1), of(24, 1), of(24, 4), of(24, 7), of(24, 9), of(24, 17), of(24, 24),
			of(23, 16), of(24, 8, 8), of(24, 8, 0), of(24, 0, 0), of(24, 0, 8, 0), of(24, 0, 8, 4), of(24, 0, 8, 24), of(24, -8, 0),
			of(24, math.MinInt), of(24, math.MaxInt), of(24, math.MaxInt-7), of(24, 0, math.MinInt), of(24, 0, math.MaxInt-7),
			of(api.MaxSize, api.MaxSize), of(api.MaxSize, api.MaxSize-7), of(api.MaxSize-1, api.MaxSize-8), of(8*api.MaxPtrs-1, words(api.MaxPtrs)...),
			of(api.MaxSize, bad[:api.MaxPtrs]...),
		},
	}
}

// P9.1
func TestCheck(t *testing.T) {
	for _, k := range rights() {
		if e := kind.Check(k); e != api.OK {
			t.Errorf("Check(%v): %v", k, e)
		}
	}
	for want, kinds := range wrongs() {
		for _, k := range kinds {
			if e := kind.Check(k); e != want {
				t.Errorf("Check(%v): %v, not %v", k, e, want)
			}
		}
	}
	if e := kind.Check(of(8, []int{}...)); e != api.OK {
		t.Errorf("Check of an empty list: %v", e)
	}
}

// plainCheck says in the document's words what is wrong with a kind of few fields.
func plainCheck(k api.Kind) api.Errno {
	if k.Size < 1 || k.Size > 4096 {
		return api.ErrArg
	}
	for i, p := range k.Ptrs {
		multiple := p%8 == 0
		if !multiple || p < 0 || p > k.Size-8 || i > 0 && p <= k.Ptrs[i-1] {
			return api.ErrKind
		}
	}
	return api.OK
}

// P9.1
func TestCheckOfAllSmallKinds(t *testing.T) {
	for size := -2; size <= 34; size++ {
		for p := -17; p <= 41; p++ {
			for q := -17; q <= 41; q++ {
				for _, k := range []api.Kind{of(size, p), of(size, p, q), of(size, 0, p, q)} {
					if e := kind.Check(k); e != plainCheck(k) {
						t.Fatalf("Check(%v): %v, not %v", k, e, plainCheck(k))
					}
				}
			}
		}
	}
}

// free says of each byte of an object whether it is in no pointer field.
func free(k api.Kind) []bool {
	all := slices.Repeat([]bool{true}, k.Size)
	for _, p := range k.Ptrs {
		clear(all[p : p+8])
	}
	return all
}

// P9.2
func TestPlain(t *testing.T) {
	for _, k := range []api.Kind{of(1), of(7), of(8), of(8, 0), of(15, 0), of(24), of(24, 0, 16), of(24, 8), of(29, 0, 8), of(45, 8, 24, 32)} {
		all := free(k)
		for at := -10; at <= k.Size+10; at++ {
			for n := -10; n <= k.Size+20; n++ {
				want := n >= 0 && at >= 0 && at+n <= k.Size && !slices.Contains(all[at:at+n], false)
				if got := kind.Plain(k, at, n); got != want {
					t.Fatalf("Plain(%v, %d, %d): %v", k, at, n, got)
				}
			}
		}
	}
}

// P9.2
func TestPlainAtTheEdges(t *testing.T) {
	k := of(40, 8, 24)
	last := of(api.MaxSize, api.MaxSize-8)
	for _, x := range []struct {
		k     api.Kind
		at, n int
		want  bool
	}{
		{k, 0, 8, true}, {k, 0, 9, false}, {k, 7, 1, true}, {k, 8, 1, false}, {k, 15, 1, false}, {k, 16, 1, true},
		{k, 16, 8, true}, {k, 16, 9, false}, {k, 15, 8, false}, {k, 10, 3, false}, {k, 8, 8, false}, {k, 0, 40, false}, {k, 5, 15, false},
		{k, 32, 8, true}, {k, 32, 9, false}, {k, 31, 1, false}, {k, 40, 0, true}, {k, 40, 1, false}, {k, 41, 0, false},
		{k, 0, 0, true}, {k, 8, 0, true}, {k, 12, 0, true}, {k, 0, -1, false}, {k, 40, -1, false}, {k, 41, -1, false}, {k, -1, 0, false}, {k, -1, 1, false}, {k, -1, 2, false},
		{k, 16, math.MaxInt, false}, {k, 16, math.MaxInt - 15, false}, {k, math.MaxInt, 1, false}, {k, math.MaxInt, 0, false},
		{k, math.MaxInt, math.MaxInt, false}, {k, math.MinInt, 0, false}, {k, math.MinInt, math.MaxInt, false}, {k, math.MinInt, math.MinInt, false},
		{k, 0, math.MinInt, false}, {k, 1, math.MinInt, false}, {k, -8, 16, false}, {k, math.MaxInt, math.MinInt, false},
		{last, 0, api.MaxSize - 8, true}, {last, 0, api.MaxSize - 7, false}, {last, api.MaxSize, 0, true}, {last, api.MaxSize - 1, 1, false},
		{of(api.MaxSize), 0, api.MaxSize, true}, {of(api.MaxSize), 0, api.MaxSize + 1, false}, {of(api.MaxSize), 1, api.MaxSize, false},
	} {
		if got := kind.Plain(x.k, x.at, x.n); got != x.want {
			t.Errorf("Plain(%v, %d, %d): %v", x.k, x.at, x.n, got)
		}
	}
}

// P9.2
func TestField(t *testing.T) {
	for _, k := range rights() {
		for i, want := range k.Ptrs {
			if p, ok := kind.Field(k, i); p != want || !ok {
				t.Errorf("Field(%v, %d): %d, %v", k, i, p, ok)
			}
		}
		for _, i := range []int{math.MinInt, -1, len(k.Ptrs), len(k.Ptrs) + 1, api.MaxPtrs, math.MaxInt} {
			if p, ok := kind.Field(k, i); p != 0 || ok {
				t.Errorf("Field(%v, %d): %d, %v", k, i, p, ok)
			}
		}
	}
}

// P9.2, P9.3
func TestKindsThatArentRight(t *testing.T) {
	for _, kinds := range wrongs() {
		for _, k := range kinds {
			for _, at := range []int{math.MinInt, -1, 0, 1, 8, k.Size, math.MaxInt} {
				for _, n := range []int{math.MinInt, -1, 0, 1, 8, k.Size, math.MaxInt} {
					if kind.Plain(k, at, n) {
						t.Errorf("Plain(%v, %d, %d)", k, at, n)
					}
				}
			}
			for i := -1; i <= len(k.Ptrs); i++ {
				if p, ok := kind.Field(k, i); p != 0 || ok {
					t.Errorf("Field(%v, %d): %d, %v", k, i, p, ok)
				}
			}
			if b := kind.Bytes(k); len(b) != 0 {
				t.Errorf("Bytes(%v): % x", k, b)
			}
		}
	}
}

// P9.3
func TestBytes(t *testing.T) {
	most := append([]byte{0x80, 0x20, 16}, make([]byte, 16)...)
	for _, x := range []struct {
		k    api.Kind
		want []byte
	}{
		{of(1), []byte{1, 0}},
		{of(8, 0), []byte{8, 1, 0}},
		{of(16, 8), []byte{16, 1, 1}},
		{of(16, 0, 8), []byte{16, 2, 0, 0}},
		{of(24, 0, 16), []byte{24, 2, 0, 1}},
		{of(100, 16, 40, 72), []byte{100, 3, 2, 2, 3}},
		{of(127), []byte{127, 0}},
		{of(128), []byte{128, 1, 0}},
		{of(api.MaxSize), []byte{0x80, 0x20, 0}},
		{of(api.MaxSize, api.MaxSize-8), []byte{0x80, 0x20, 1, 0xff, 3}},
		{of(api.MaxSize, 0, api.MaxSize-8), []byte{0x80, 0x20, 2, 0, 0xfe, 3}},
		{of(api.MaxSize, words(api.MaxPtrs)...), most},
	} {
		if got := kind.Bytes(x.k); !bytes.Equal(got, x.want) {
			t.Errorf("Bytes(%v): % x", x.k, got)
		}
	}
}

// P9.3
func TestReadOfBytes(t *testing.T) {
	for _, k := range rights() {
		b := kind.Bytes(k)
		for _, tail := range [][]byte{nil, {0}, {255, 255}, b} {
			r := num.Open(slices.Concat(b, tail))
			if got := kind.Read(r); !same(got, k) || r.Err() != api.OK || r.Left() != len(tail) {
				t.Errorf("Read of % x: %v, %v, %d left", b, got, r.Err(), r.Left())
			}
			if rest := r.Bytes(len(tail)); !bytes.Equal(rest, tail) {
				t.Errorf("behind % x stands % x", b, rest)
			}
		}
		for n := range b {
			unread(t, b[:n], api.ErrShort)
		}
	}
}

// P9.3
func TestReadOfKindsBehindOneAnother(t *testing.T) {
	b := []byte{}
	for _, k := range rights() {
		b = append(b, kind.Bytes(k)...)
	}
	r := num.Open(b)
	for _, k := range rights() {
		if got := kind.Read(r); !same(got, k) {
			t.Fatalf("%v, not %v", got, k)
		}
	}
	if e := r.End(); e != api.OK {
		t.Error(e)
	}
}

// unread holds that bytes are a fault, and what is read of them the zero kind.
func unread(t *testing.T, b []byte, want api.Errno) {
	t.Helper()
	r := num.Open(b)
	if k := kind.Read(r); k.Size != 0 || len(k.Ptrs) != 0 || r.Err() != want || r.Left() != 0 {
		t.Errorf("Read of % x: %v, %v, %d left, not %v", b, k, r.Err(), r.Left(), want)
	}
}

// P9.3
func TestReadOfOtherBytes(t *testing.T) {
	tenth := bytes.Repeat([]byte{255}, 9)
	for _, x := range []struct {
		b    []byte
		want api.Errno
	}{
		{nil, api.ErrShort},
		{[]byte{0}, api.ErrForm},
		{[]byte{0, 0}, api.ErrForm},
		{[]byte{0x81, 0x20}, api.ErrForm},
		{[]byte{0x81, 0x20, 0}, api.ErrForm},
		{[]byte{0x81}, api.ErrShort},
		{[]byte{0x98, 0, 0}, api.ErrForm},
		{[]byte{0x80, 0, 0}, api.ErrForm},
		{tenth, api.ErrShort},
		{append(bytes.Clone(tenth), 1), api.ErrForm},
		{append(bytes.Clone(tenth), 2), api.ErrForm},
		{[]byte{24}, api.ErrShort},
		{[]byte{24, 0x82}, api.ErrShort},
		{[]byte{24, 17}, api.ErrForm},
		{[]byte{24, 0x80, 1}, api.ErrForm},
		{[]byte{0x80, 0x20, 17}, api.ErrForm},
		{append([]byte{0x80, 0x20, 17}, make([]byte, 17)...), api.ErrForm},
		{[]byte{24, 0x82, 0, 0, 1}, api.ErrForm},
		{append([]byte{24}, append(bytes.Clone(tenth), 1)...), api.ErrForm},
		{[]byte{24, 16}, api.ErrShort},
		{[]byte{24, 16, 0, 0, 0}, api.ErrShort},
		{[]byte{24, 16, 0, 0, 0, 0}, api.ErrForm},
		{[]byte{24, 2, 0, 2}, api.ErrForm},
		{[]byte{24, 2, 3}, api.ErrForm},
		{[]byte{24, 2, 2}, api.ErrShort},
		{[]byte{24, 2, 2, 0}, api.ErrForm},
		{[]byte{24, 2, 2, 0x80}, api.ErrShort},
		{[]byte{24, 2, 0x80, 0, 1}, api.ErrForm},
		{[]byte{24, 2, 0, 0x81, 0}, api.ErrForm},
		{[]byte{24, 2, 0, 0x81}, api.ErrShort},
		{[]byte{23, 2, 0, 1}, api.ErrForm},
		{[]byte{7, 1}, api.ErrShort},
		{[]byte{7, 1, 0}, api.ErrForm},
		{[]byte{1, 1, 0}, api.ErrForm},
		{[]byte{15, 1, 1}, api.ErrForm},
		{[]byte{0x80, 0x20, 1, 0x80, 4}, api.ErrForm},
		{[]byte{0x80, 0x20, 2, 0, 0xff, 3}, api.ErrForm},
	} {
		unread(t, x.b, x.want)
	}
	// numbers whose eightfold, or whose eightfold and the place ahead, wrap round to a place in the object
	for _, n := range []uint64{1 << 60, 1 << 61, 1<<61 + 1, 1 << 63, 1<<63 + 1, math.MaxInt64, math.MaxUint64 - 1, math.MaxUint64} {
		unread(t, slices.Concat([]byte{64, 1}, num.Var(n)), api.ErrForm)
		unread(t, slices.Concat([]byte{64, 2, 3}, num.Var(n)), api.ErrForm)
		unread(t, slices.Concat([]byte{64, 3, 3}, num.Var(n), []byte{0}), api.ErrForm)
		unread(t, slices.Concat(num.Var(n), []byte{0}), api.ErrForm)
		unread(t, slices.Concat([]byte{64}, num.Var(n)), api.ErrForm)
	}
}

// plainRead reads in the document's words a kind of numbers below 128 for a byte each; a byte from 128 on is a number that never ends well.
func plainRead(b []byte) (api.Kind, int, api.Errno) {
	k, count, at := api.Kind{}, 0, 0
	for i := 0; i < 2+count; i++ {
		if i == len(b) {
			return api.Kind{}, 0, api.ErrShort
		}
		n := int(b[i])
		switch {
		case n >= 128 && i+1 == len(b):
			return api.Kind{}, 0, api.ErrShort
		case n >= 128 || i == 0 && n == 0 || i == 1 && n > 16:
			return api.Kind{}, 0, api.ErrForm
		case i == 0:
			k.Size = n
		case i == 1:
			count = n
		default:
			at += 8 * n
			if at+8 > k.Size {
				return api.Kind{}, 0, api.ErrForm
			}
			k.Ptrs = append(k.Ptrs, at)
			at += 8
		}
	}
	return k, 2 + count, api.OK
}

// P9.3
func TestReadOfAllShortBytes(t *testing.T) {
	// behind 128 a nought is no digit, and so every number that 128 begins is wrong here
	few := []byte{0, 1, 2, 3, 8, 15, 16, 17, 24, 31, 32, 128}
	holds := func(b []byte) {
		want, size, e := plainRead(b)
		r := num.Open(b)
		got := kind.Read(r)
		if !same(got, want) || r.Err() != e || e == api.OK && r.Left() != len(b)-size {
			t.Fatalf("Read of % x: %v, %v, not %v, %v", b, got, r.Err(), want, e)
		}
		if e == api.OK && !bytes.Equal(kind.Bytes(got), b[:size]) {
			t.Fatalf("Bytes(%v): % x, not % x", got, kind.Bytes(got), b[:size])
		}
	}
	var longer func(b []byte)
	longer = func(b []byte) {
		holds(b)
		if len(b) == 5 {
			return
		}
		for _, c := range few {
			if len(b) == 0 || b[len(b)-1] < 128 || c == 0 {
				longer(append(bytes.Clone(b), c))
			}
		}
	}
	longer(nil)
}

// P9.3
func TestReadOfAnyBytes(t *testing.T) {
	chance := noise(3)
	for range 50000 {
		b := make([]byte, chance(12))
		for i := range b {
			b[i] = byte(chance(1 + chance(256)))
		}
		r := num.Open(b)
		k := kind.Read(r)
		if r.Err() != api.OK {
			unread(t, b, r.Err())
			continue
		}
		if read := b[:len(b)-r.Left()]; !bytes.Equal(kind.Bytes(k), read) {
			t.Errorf("Read of % x: %v, whose Bytes are % x", read, k, kind.Bytes(k))
		}
	}
}

// P9.3
func TestReadBehindAFault(t *testing.T) {
	for _, e := range []api.Errno{api.ErrShort, api.ErrForm, api.ErrSum, api.ErrCorrupt, -5} {
		r := num.Open(kind.Bytes(of(24, 0, 16)))
		r.Fail(e)
		if k := kind.Read(r); k.Size != 0 || len(k.Ptrs) != 0 || r.Err() != e {
			t.Errorf("behind %v: %v, %v", e, k, r.Err())
		}
	}
	if k := kind.Read(nil); k.Size != 0 || len(k.Ptrs) != 0 {
		t.Errorf("Read of a nil reader: %v", k)
	}
}

// tableHas holds that a table has these kinds, however it is asked.
func tableHas(t *testing.T, x *kind.Table, want []api.Kind) {
	t.Helper()
	if n := x.Len(); n != len(want) {
		t.Errorf("Len: %d, not %d", n, len(want))
	}
	if all := x.All(); !slices.EqualFunc(all, want, same) {
		t.Errorf("All: %v, not %v", all, want)
	}
	for id, k := range want {
		if got, e := x.Get(id); !same(got, k) || e != api.OK {
			t.Errorf("Get(%d): %v, %v, not %v", id, got, e, k)
		}
	}
	for _, id := range []int{math.MinInt, -1, len(want), len(want) + 1, api.MaxKinds, math.MaxInt} {
		if got, e := x.Get(id); got.Size != 0 || len(got.Ptrs) != 0 || e != api.ErrKind {
			t.Errorf("Get(%d) of %d: %v, %v", id, len(want), got, e)
		}
	}
}

// addsWrongs holds that no wrong kind gets into a table.
func addsWrongs(t *testing.T, x *kind.Table) {
	t.Helper()
	for want, kinds := range wrongs() {
		for _, k := range kinds {
			if id, e := x.Add(k); id != 0 || e != want {
				t.Errorf("Add(%v): %d, %v, not %v", k, id, e, want)
			}
		}
	}
}

// P9.4
func TestTable(t *testing.T) {
	x, want := kind.New(), []api.Kind{}
	for i, k := range rights()[:api.MaxKinds] {
		addsWrongs(t, x)
		tableHas(t, x, want)
		if i%5 == 4 {
			k = copied(want[i-2]) // it is there already
		}
		if id, e := x.Add(k); id != i || e != api.OK {
			t.Errorf("Add(%v): %d, %v", k, id, e)
		}
		want = append(want, k)
	}
	for _, k := range rights() {
		if id, e := x.Add(k); id != 0 || e != api.ErrFull {
			t.Errorf("Add(%v) to a full table: %d, %v", k, id, e)
		}
	}
	addsWrongs(t, x)
	tableHas(t, x, want)
}

// P9.4
func TestTablesHaveNothingInCommon(t *testing.T) {
	x, y := kind.New(), kind.New()
	k, l := of(24, 0, 16), of(32, 24)
	for range 3 {
		x.Add(k)
		y.Add(l)
	}
	tableHas(t, x, []api.Kind{k, k, k})
	tableHas(t, y, []api.Kind{l, l, l})
	tableHas(t, kind.New(), nil)
}

// P9.4
func TestNilTable(t *testing.T) {
	var x *kind.Table
	for _, k := range []api.Kind{of(8, 0), of(0), of(8, 3)} {
		if id, e := x.Add(k); id != 0 || e != api.ErrNil {
			t.Errorf("Add(%v): %d, %v", k, id, e)
		}
	}
	for _, id := range []int{math.MinInt, -1, 0, 1, math.MaxInt} {
		if k, e := x.Get(id); k.Size != 0 || len(k.Ptrs) != 0 || e != api.ErrNil {
			t.Errorf("Get(%d): %v, %v", id, k, e)
		}
	}
	if n, all := x.Len(), x.All(); n != 0 || len(all) != 0 {
		t.Errorf("Len and All: %d, %v", n, all)
	}
}

// P9.4: of a table that no maker answered nothing is promised but that the calls end.
func TestTableOfNoMaker(t *testing.T) {
	x := new(kind.Table)
	x.Get(0)
	x.All()
	x.Add(of(8, 0))
	x.Get(0)
	x.Len()
}

// P9.4, and rule 4
func TestTableSharesNothing(t *testing.T) {
	x := kind.New()
	want := []api.Kind{}
	for _, k := range rights()[:20] {
		want = append(want, copied(k))
		room := slices.Grow(slices.Clone(k.Ptrs), 5)
		x.Add(api.Kind{Size: k.Size, Ptrs: room})
		spoil(room)
	}
	tableHas(t, x, want)
	for id := range want {
		k, _ := x.Get(id)
		l, _ := x.Get(id)
		spoil(k.Ptrs)
		if !same(l, want[id]) {
			t.Errorf("two answers of Get(%d) share memory", id)
		}
	}
	tableHas(t, x, want)
	all, again := x.All(), x.All()
	for i := range all {
		spoil(all[i].Ptrs)
		if i+1 < len(all) && !same(all[i+1], want[i+1]) {
			t.Errorf("two lists of All share memory, at %d", i)
		}
	}
	clear(all[:cap(all)])
	if !slices.EqualFunc(again, want, same) {
		t.Error("two answers of All share memory")
	}
	tableHas(t, x, want)
}

// P9.3, and rule 4
func TestBytesAndReadShareNothing(t *testing.T) {
	for _, k := range rights() {
		b := kind.Bytes(k)
		again := kind.Bytes(k)
		source := bytes.Clone(b)
		r := num.Open(slices.Concat(source, source))
		first := kind.Read(r)
		spoil(first.Ptrs)
		if second := kind.Read(r); !same(second, k) {
			t.Errorf("behind a spoilt kind: %v, not %v", second, k)
		}
		clear(b[:cap(b)])
		if !bytes.Equal(again, source) {
			t.Errorf("two answers of Bytes(%v) share memory", k)
		}
	}
}

// Rule 4
func TestNothingHandedInIsChanged(t *testing.T) {
	kinds := rights()
	for _, wrong := range wrongs() {
		kinds = append(kinds, wrong...)
	}
	for _, k := range kinds {
		room := append(slices.Clone(k.Ptrs), 1, 2, 3)
		before := slices.Clone(room)
		l := api.Kind{Size: k.Size, Ptrs: room[:len(k.Ptrs)]}
		kind.Check(l)
		kind.Plain(l, 0, 1)
		kind.Field(l, 0)
		kind.Bytes(l)
		x := kind.New()
		x.Add(l)
		x.Add(l)
		if !slices.Equal(room, before) {
			t.Errorf("%v became %v", before, room)
		}
	}
}

func TestExamples(t *testing.T) {
	k := of(24, 0, 16)
	if e, f := kind.Check(k), kind.Check(of(20, 16)); e != api.OK || f != api.ErrKind {
		t.Errorf("Check: %v, %v", e, f)
	}
	if !kind.Plain(k, 8, 8) || kind.Plain(k, 8, 9) {
		t.Error("Plain")
	}
	if b := kind.Bytes(k); !bytes.Equal(b, []byte{24, 2, 0, 1}) {
		t.Errorf("Bytes: % x", b)
	}
	unread(t, []byte{24, 2, 0, 2}, api.ErrForm)
}
