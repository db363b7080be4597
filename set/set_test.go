package set_test

import (
	"bytes"
	"math"
	"slices"
	"testing"

	"hayloft/api"
	"hayloft/set"
)

// lengths are those at the edges of bytes and of words, and the least and the greatest.
func lengths() []int {
	return []int{0, 1, 2, 7, 8, 9, 10, 15, 16, 17, 56, 57, 63, 64, 65, 70, 71, 72, 73, 127, 128, 129, 191, 192, 193, 200, 1000}
}

// outside are places that a set of n places doesn't have.
func outside(n int) []int {
	return []int{-1, -2, -8, -63, -64, -65, math.MinInt + 1, math.MinInt, n, n + 1, n + 7, n + 8, n + 63, n + 64, n + 65, api.MaxBits, 1 << 40, math.MaxInt - 1, math.MaxInt}
}

// holding is a set of n places, of which these are in.
func holding(n int, places ...int) *set.Set {
	s := set.New(n)
	for _, i := range places {
		s.Add(i)
	}
	return s
}

// plain is a set as a list of bools, of which the calls are told one place at a time.
type plain []bool

func (p plain) set() *set.Set {
	return holding(len(p), p.list()...)
}

func (p plain) list() []int {
	var list []int
	for i, in := range p {
		if in {
			list = append(list, i)
		}
	}
	return list
}

func (p plain) next(from int, in bool) int {
	for i, x := range p {
		if i >= from && x == in {
			return i
		}
	}
	return -1
}

func (p plain) bytes() []byte {
	var b []byte
	for i, in := range p {
		if i%8 == 0 {
			b = append(b, 0)
		}
		if in {
			b[i/8] += []byte{1, 2, 4, 8, 16, 32, 64, 128}[i%8]
		}
	}
	return b
}

// shapes are sets of n places: none in, all, all but one, one alone, every third, and two of no great order.
func shapes(n int) []plain {
	rules := []func(int) bool{
		func(int) bool { return false },
		func(int) bool { return true },
		func(i int) bool { return i != n/2 },
		func(i int) bool { return i == n/2 },
		func(i int) bool { return i == n-1 },
		func(i int) bool { return i != n-1 },
		func(i int) bool { return i == 0 },
		func(i int) bool { return i%3 == 1 },
		func(i int) bool { return uint32(i*i+7*i+3)*2654435769>>31 == 1 },
		func(i int) bool { return i/64%2 == 1 },
	}
	var all []plain
	for _, in := range rules {
		p := make(plain, n)
		for i := range p {
			p[i] = in(i)
		}
		all = append(all, p)
	}
	return all
}

// check holds all that a set tells against the list of bools.
func check(t *testing.T, name string, s *set.Set, p plain) {
	t.Helper()
	if s.Len() != len(p) || s.Count() != len(p.list()) || !slices.Equal(s.List(), p.list()) {
		t.Errorf("%s: %d places, %d in: %v, not %v", name, s.Len(), s.Count(), s.List(), p.list())
	}
	if !bytes.Equal(s.Bytes(), p.bytes()) {
		t.Errorf("%s: % x, not % x", name, s.Bytes(), p.bytes())
	}
	for i, in := range p {
		if s.Has(i) != in {
			t.Errorf("%s: Has(%d): %v", name, i, !in)
		}
	}
}

// P3.1
func TestNew(t *testing.T) {
	for _, n := range append(lengths(), api.MaxBits-1, api.MaxBits) {
		check(t, "new", set.New(n), make(plain, n))
	}
	for _, n := range []int{-1, -8, -64, math.MinInt} {
		check(t, "below 0", set.New(n), nil)
	}
	for _, n := range []int{api.MaxBits + 1, 1 << 40, math.MaxInt} {
		check(t, "above MaxBits", set.New(n), make(plain, api.MaxBits))
	}
}

// P3.1
func TestAddAndDel(t *testing.T) {
	for _, n := range lengths() {
		s, p := set.New(n), make(plain, n)
		for k := range n {
			i := (k*k + k) % n
			was := p[i]
			if s.Has(i) != was || s.Add(i) == was || !s.Has(i) || s.Add(i) || !s.Has(i) {
				t.Errorf("of %d places %d isn't put in once", n, i)
			}
			p[i] = true
		}
		check(t, "added", s, p)
		for k := range n {
			i := (k * 3) % n
			was := p[i]
			if s.Has(i) != was || s.Del(i) != was || s.Has(i) || s.Del(i) || s.Has(i) {
				t.Errorf("of %d places %d isn't taken out once", n, i)
			}
			p[i] = false
		}
		check(t, "taken out", s, p)
	}
}

// P3.1
func TestEachPlaceAlone(t *testing.T) {
	for _, n := range []int{1, 10, 64, 65, 130} {
		for i := range n {
			p := make(plain, n)
			p[i] = true
			s := set.New(n)
			if !s.Add(i) {
				t.Errorf("Add(%d) of %d places", i, n)
			}
			check(t, "one in", s, p)
			if !s.Del(i) {
				t.Errorf("Del(%d) of %d places", i, n)
			}
			check(t, "none in", s, make(plain, n))
		}
	}
}

// P3.1
func TestPlacesThatAreNone(t *testing.T) {
	for _, n := range lengths() {
		for _, p := range shapes(n) {
			s := p.set()
			for _, i := range outside(n) {
				if s.Has(i) || s.Add(i) || s.Has(i) || s.Del(i) || s.Has(i) {
					t.Errorf("of %d places %d is one", n, i)
				}
			}
			check(t, "asked for places that are none", s, p)
		}
	}
}

// P3.1, P3.2
func TestTheGreatestSet(t *testing.T) {
	const last = api.MaxBits - 1
	s := set.New(api.MaxBits)
	for _, i := range []int{last, 32768, 64} {
		if !s.Add(i) || s.Add(i) {
			t.Error(i)
		}
	}
	if s.Add(api.MaxBits) || s.Has(api.MaxBits) || s.Count() != 3 || !slices.Equal(s.List(), []int{64, 32768, last}) {
		t.Error(s.List())
	}
	if s.First(32769) != last || s.First(last) != last || s.First(api.MaxBits) != -1 || s.Gap(last) != -1 || s.Gap(last-1) != last-1 {
		t.Error("next")
	}
	for i := range api.MaxBits {
		s.Add(i)
	}
	if s.Count() != api.MaxBits || s.Gap(0) != -1 || s.Gap(math.MinInt) != -1 || len(s.List()) != api.MaxBits || !bytes.Equal(s.Bytes(), bytes.Repeat([]byte{255}, api.MaxBits/8)) {
		t.Error("full")
	}
	if back, e := set.Read(api.MaxBits, s.Bytes()); e != api.OK || back.Count() != api.MaxBits || back.Len() != api.MaxBits {
		t.Error("read", e)
	}
}

// P3.2
func TestFirstAndGap(t *testing.T) {
	for _, n := range lengths() {
		for _, p := range shapes(n) {
			s := p.set()
			froms := outside(n)
			for from := range n {
				froms = append(froms, from)
			}
			for _, from := range froms {
				if got, want := s.First(from), p.next(from, true); got != want {
					t.Errorf("of %d places, %v in: First(%d): %d, not %d", n, p.list(), from, got, want)
				}
				if got, want := s.Gap(from), p.next(from, false); got != want {
					t.Errorf("of %d places, %v in: Gap(%d): %d, not %d", n, p.list(), from, got, want)
				}
			}
			check(t, "asked", s, p)
		}
	}
}

// P3.2
func TestFirstAndGapAtTheEnds(t *testing.T) {
	for _, x := range []struct {
		s          *set.Set
		from       int
		first, gap int
	}{
		{set.New(0), 0, -1, -1},
		{set.New(0), -5, -1, -1},
		{set.New(0), 5, -1, -1},
		{set.New(70), math.MinInt, -1, 0},
		{set.New(70), 69, -1, 69},
		{set.New(70), 70, -1, -1},
		{set.New(70), math.MaxInt, -1, -1},
		{holding(3, 0, 1, 2), -1, 0, -1},
		{holding(3, 0, 1, 2), 2, 2, -1},
		{holding(3, 0, 1, 2), 3, -1, -1},
		{holding(200, 199), 0, 199, 0},
		{holding(200, 0), 1, -1, 1},
	} {
		if x.s.First(x.from) != x.first || x.s.Gap(x.from) != x.gap {
			t.Errorf("%d places, from %d: %d, %d", x.s.Len(), x.from, x.s.First(x.from), x.s.Gap(x.from))
		}
	}
}

// P3.2, P3.3
func TestCountListAndBytes(t *testing.T) {
	for _, n := range lengths() {
		for _, p := range shapes(n) {
			check(t, "shape", p.set(), p)
		}
	}
}

// P3.3
func TestReadIsWhatBytesTell(t *testing.T) {
	for _, n := range lengths() {
		for _, p := range shapes(n) {
			s, e := set.Read(n, p.bytes())
			if e != api.OK || s == nil {
				t.Errorf("Read(%d, % x): %v", n, p.bytes(), e)
				continue
			}
			check(t, "read", s, p)
			if s.Add(n) || s.Add(-1) || n > 0 && s.Add(n/2) == p[n/2] {
				t.Errorf("of %d places that were read, what is put in", n)
			}
		}
	}
}

// P3.3
func TestReadRefuses(t *testing.T) {
	for _, x := range []struct {
		n    int
		b    []byte
		want api.Errno
	}{
		{-1, nil, api.ErrArg},
		{-1, []byte{255}, api.ErrArg},
		{-64, nil, api.ErrArg},
		{math.MinInt, nil, api.ErrArg},
		{api.MaxBits + 1, nil, api.ErrArg},
		{api.MaxBits + 1, make([]byte, api.MaxBits/8+1), api.ErrArg},
		{math.MaxInt, make([]byte, 9), api.ErrArg},
		{1, nil, api.ErrShort},
		{8, []byte{}, api.ErrShort},
		{9, []byte{255}, api.ErrShort},
		{65, bytes.Repeat([]byte{255}, 8), api.ErrShort},
		{api.MaxBits, make([]byte, api.MaxBits/8-1), api.ErrShort},
		{0, []byte{0}, api.ErrLong},
		{0, []byte{1}, api.ErrLong},
		{8, []byte{1, 0}, api.ErrLong},
		{10, []byte{255, 255, 255}, api.ErrLong},
		{api.MaxBits, make([]byte, api.MaxBits/8+1), api.ErrLong},
		{10, []byte{2, 4}, api.ErrForm},
		{10, []byte{2, 128}, api.ErrForm},
		{api.MaxBits - 1, bytes.Repeat([]byte{255}, api.MaxBits/8), api.ErrForm},
	} {
		if s, e := set.Read(x.n, x.b); e != x.want || s != nil {
			t.Errorf("Read(%d, %d bytes): %v, %v, not %v", x.n, len(x.b), s, e, x.want)
		}
	}
}

// P3.3: each bit behind the last place, alone and with all the places in.
func TestReadSeesWhatIsLeftOver(t *testing.T) {
	for n := 1; n <= 200; n++ {
		size := (n + 7) / 8
		for bit := n; bit < 8*size; bit++ {
			for _, b := range [][]byte{make([]byte, size), plain(slices.Repeat([]bool{true}, n)).bytes()} {
				b[size-1] |= 1 << (bit % 8)
				if s, e := set.Read(n, b); e != api.ErrForm || s != nil {
					t.Errorf("Read(%d, % x): %v", n, b, e)
				}
				if s, e := set.Read(n, b[:size-1]); e != api.ErrShort || s != nil {
					t.Errorf("Read(%d, % x): %v", n, b[:size-1], e)
				}
				if s, e := set.Read(n, append(b, 0)); e != api.ErrLong || s != nil {
					t.Errorf("Read(%d, % x 0): %v", n, b, e)
				}
			}
		}
	}
}

// P3.4
func TestCopyHasNothingInCommon(t *testing.T) {
	for _, n := range lengths() {
		for _, p := range shapes(n) {
			s := p.set()
			c := s.Copy()
			check(t, "copy", c, p)
			for i := range n {
				s.Add(i)
			}
			check(t, "copy of what was filled", c, p)
			for i := range n {
				c.Del(i)
			}
			check(t, "set whose copy was emptied", s, plain(slices.Repeat([]bool{true}, n)))
			check(t, "copy that was emptied", c, make(plain, n))
		}
	}
	if c := set.New(0).Copy(); c == nil || c.Len() != 0 {
		t.Error("copy of a set of no places")
	}
}

// P3.4
func TestNilSet(t *testing.T) {
	var s *set.Set
	for _, i := range append(outside(0), 1, 63, 64) {
		if s.Has(i) || s.Add(i) || s.Del(i) || s.First(i) != -1 || s.Gap(i) != -1 {
			t.Error(i)
		}
	}
	if s.Len() != 0 || s.Count() != 0 || len(s.List()) != 0 || len(s.Bytes()) != 0 || s.Copy() != nil {
		t.Error("a nil set has something")
	}
}

// Rule 6: of a set that no maker made the calls end.
func TestSetOfNoMaker(t *testing.T) {
	s := new(set.Set)
	for _, i := range outside(0) {
		s.Add(i)
		s.Del(i)
		s.Has(i)
		s.First(i)
		s.Gap(i)
	}
	s.Len()
	s.Count()
	s.List()
	s.Bytes()
	s.Copy()
}

// Rule 4: what is read is neither kept nor changed, its spare room included.
func TestReadKeepsNothing(t *testing.T) {
	whole := []byte{9, 2, 2, 9, 9}
	b := whole[1:3]
	s, e := set.Read(10, b)
	if e != api.OK {
		t.Fatal(e)
	}
	s.Add(0)
	s.Del(9)
	s.Bytes()
	if !bytes.Equal(whole, []byte{9, 2, 2, 9, 9}) {
		t.Errorf("% x: what was handed in has changed", whole)
	}
	b[0], b[1] = 255, 255
	if !slices.Equal(s.List(), []int{0, 1}) {
		t.Error(s.List(), "what was handed in is kept")
	}
}

// Rule 4: what is handed out isn't kept, and is no other answer's memory.
func TestAnswersAreNewMemory(t *testing.T) {
	s := holding(70, 1, 64, 69)
	b, list := s.Bytes(), s.List()
	clear(b[:cap(b)])
	clear(list[:cap(list)])
	if !slices.Equal(s.List(), []int{1, 64, 69}) || !bytes.Equal(s.Bytes(), []byte{2, 0, 0, 0, 0, 0, 0, 0, 33}) {
		t.Error(s.List(), s.Bytes())
	}
	b, list = s.Bytes(), s.List()
	s.Del(1)
	s.Add(2)
	if b[0] != 2 || list[0] != 1 {
		t.Error("an answer changes with its set")
	}
}

// Two sets have nothing in common, made or read.
func TestSetsAreApart(t *testing.T) {
	a, b := set.New(70), set.New(70)
	a.Add(5)
	if b.Has(5) || b.Count() != 0 {
		t.Error("made")
	}
	told := a.Bytes()
	c, _ := set.Read(70, told)
	d, _ := set.Read(70, told)
	c.Add(6)
	if d.Has(6) || a.Has(6) {
		t.Error("read")
	}
}

// The chapter's examples.
func TestExamples(t *testing.T) {
	s := set.New(10)
	if !s.Add(1) || !s.Add(9) {
		t.Error("Add")
	}
	if !bytes.Equal(s.Bytes(), []byte{2, 2}) || s.Count() != 2 || s.First(2) != 9 || s.Gap(1) != 2 || s.Gap(9) != -1 {
		t.Error(s.Bytes(), s.Count(), s.First(2), s.Gap(1), s.Gap(9))
	}
	if r, e := set.Read(10, []byte{2, 4}); r != nil || e != api.ErrForm {
		t.Error(r, e)
	}
}

// Puttings in and takings out of no great order, held against the list of bools all along.
func TestManySteps(t *testing.T) {
	for _, n := range []int{1, 9, 64, 100, 193} {
		s, p := set.New(n), make(plain, n)
		x := uint64(n)
		for step := range 3000 {
			x = x*6364136223846793005 + 1442695040888963407
			i := int(x>>33)%(n+4) - 2
			is := i >= 0 && i < n
			if x>>63 == 1 {
				if want := is && !p[i]; s.Add(i) != want {
					t.Fatalf("%d places, step %d: Add(%d): %v", n, step, i, !want)
				}
			} else if want := is && p[i]; s.Del(i) != want {
				t.Fatalf("%d places, step %d: Del(%d): %v", n, step, i, !want)
			}
			if is {
				p[i] = x>>63 == 1
			}
			if s.First(i) != p.next(i, true) || s.Gap(i) != p.next(i, false) {
				t.Fatalf("%d places, step %d: from %d: %d, %d", n, step, i, s.First(i), s.Gap(i))
			}
			if step%50 == 0 {
				check(t, "on the way", s, p)
			}
		}
		check(t, "at the end", s, p)
	}
}
