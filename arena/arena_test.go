package arena_test

import (
	"bytes"
	"math"
	"slices"
	"testing"

	"hayloft/api"
	"hayloft/arena"
)

// plain has a byte at each address that there is: what the package's answers are held against.
type plain struct {
	base, end int
	at        map[int]byte
}

func plainly(base, pages int) plain {
	p := plain{base: base, end: base + pages*api.PageSize, at: map[int]byte{}}
	for addr := p.base; addr < p.end; addr++ {
		p.at[addr] = 0
	}
	return p
}

func (p plain) in(addr, n int) bool {
	// addresses wrap round here, to ones that aren't there
	for i := 0; i < n; i++ {
		if _, there := p.at[addr+i]; !there {
			return false
		}
	}
	return n > 0 || n == 0 && p.base <= addr && addr <= p.end
}

func (p plain) read(addr, n int) ([]byte, api.Errno) {
	if !p.in(addr, n) {
		return nil, api.ErrAddr
	}
	b := []byte{}
	for i := range n {
		b = append(b, p.at[addr+i])
	}
	return b, api.OK
}

func (p plain) write(addr int, b []byte) api.Errno {
	if !p.in(addr, len(b)) {
		return api.ErrAddr
	}
	for i, x := range b {
		p.at[addr+i] = x
	}
	return api.OK
}

func (p plain) zero(addr, n int) api.Errno {
	if !p.in(addr, n) {
		return api.ErrAddr
	}
	return p.write(addr, make([]byte, n))
}

func (p plain) move(from, to, n int) api.Errno {
	b, e := p.read(from, n)
	if e != api.OK {
		return e
	}
	return p.write(to, b)
}

func (p plain) word(addr int) (uint64, api.Errno) {
	b, e := p.read(addr, 8)
	w := uint64(0)
	for i := len(b) - 1; i >= 0; i-- {
		w = w*256 + uint64(b[i])
	}
	return w, e
}

func (p plain) put(addr int, w uint64) api.Errno {
	b := []byte{}
	for range 8 {
		b = append(b, byte(w%256))
		w /= 256
	}
	return p.write(addr, b)
}

// noise is a row of numbers that look like chance, the same ones each time.
func noise(seed uint64) func(below int) int {
	return func(below int) int {
		seed = seed*6364136223846793005 + 1442695040888963407
		return int(seed>>33) % below
	}
}

// fresh is an arena, all noughts.
func fresh(t testing.TB, base, pages int) *arena.Arena {
	t.Helper()
	a, e := arena.New(base, pages)
	if e != api.OK || a == nil {
		t.Fatalf("New(%d, %d): %v, %v", base, pages, a, e)
	}
	return a
}

// filled is an arena, and a plain one, no byte of which is a nought or like the ones beside it.
func filled(t testing.TB, base, pages int) (*arena.Arena, plain) {
	t.Helper()
	a, p := fresh(t, base, pages), plainly(base, pages)
	b := make([]byte, pages*api.PageSize)
	for i := range b {
		b[i] = byte(1 + i%251)
	}
	if e := a.Write(base, b); e != api.OK {
		t.Fatalf("Write of all: %v", e)
	}
	p.write(base, b)
	return a, p
}

// alike holds all that an arena is against the plain one.
func alike(t testing.TB, told any, a *arena.Arena, p plain) {
	t.Helper()
	if a.Base() != p.base || a.End() != p.end || a.Pages() != len(p.at)/api.PageSize {
		t.Fatalf("%v: Base %d, End %d, Pages %d", told, a.Base(), a.End(), a.Pages())
	}
	want, _ := p.read(p.base, len(p.at))
	if got := a.Bytes(); !bytes.Equal(got, want) {
		t.Fatalf("%v: Bytes\n%v, want\n%v", told, got, want)
	}
	if got, e := a.Read(p.base, len(p.at)); e != api.OK || !bytes.Equal(got, want) {
		t.Fatalf("%v: Read of all\n%v, %v, want\n%v", told, got, e, want)
	}
}

// bases are some that may be.
func bases() []int {
	return []int{api.PageSize, 2 * api.PageSize, 3 * api.PageSize, 65536, 1 << 30, 1<<32 - api.PageSize, 1 << 32, api.MaxBase - api.PageSize, api.MaxBase}
}

// notBases are numbers that are none.
func notBases() []int {
	return []int{math.MinInt, math.MinInt + 1, -api.MaxBase, -1 << 32, -2 * api.PageSize, -api.PageSize, -api.PageSize + 1, -1,
		0, 1, 8, 100, api.PageSize / 2, api.PageSize - 1, api.PageSize + 1, api.PageSize + 64, api.PageSize * 3 / 2, 2*api.PageSize - 1, 2*api.PageSize + 8,
		1<<32 + 1, api.MaxBase - 1, api.MaxBase + 1, api.MaxBase + api.PageSize - 1, api.MaxBase + api.PageSize, api.MaxBase + api.PageSize + 1,
		2 * api.MaxBase, 1 << 62, math.MaxInt - 255, math.MaxInt - 1, math.MaxInt}
}

// notPages are numbers of pages that no arena has.
func notPages() []int {
	return []int{math.MinInt, math.MinInt + 1, -1 << 56, -api.MaxPages, -1, 0, api.MaxPages + 1, 2 * api.MaxPages,
		1 << 32, 1<<32 + 1, 1 << 55, 1 << 56, 1<<56 + 1, 1 << 62, math.MaxInt}
}

// edges are addresses at which an arena begins, ends or has a border, those beside them, and ones far off.
func edges(p plain) []int {
	list := []int{math.MinInt, math.MinInt + 1, math.MinInt + 8, -1 << 32, -p.base, -8, -1, 0, 1, math.MaxInt - 8, math.MaxInt - 1, math.MaxInt}
	for at := p.base - api.PageSize; at <= p.end+api.PageSize; at += api.PageSize {
		list = append(list, at-9, at-8, at-7, at-1, at, at+1, at+7, at+8, at+100)
	}
	return append(list, p.base+1<<32, p.end-1<<32)
}

// counts are numbers of bytes: few, as many as there are, more, and ones whose sum with an address no int holds.
func counts(p plain) []int {
	size := len(p.at)
	return []int{math.MinInt, -1 << 32, -size, -2, -1, 0, 1, 2, 7, 8, 9, api.PageSize - 1, api.PageSize, api.PageSize + 1,
		size - 1, size, size + 1, p.end, 1 << 32, 1<<32 + 1, math.MaxInt - p.end, math.MaxInt - p.base, math.MaxInt - p.base + 1, math.MaxInt - 1, math.MaxInt}
}

// P8.1
func TestGood(t *testing.T) {
	for _, base := range bases() {
		if !arena.Good(base) {
			t.Errorf("Good(%d): false", base)
		}
	}
	for _, base := range notBases() {
		if arena.Good(base) {
			t.Errorf("Good(%d): true", base)
		}
	}
	for base := -600; base <= 2000; base++ {
		if want := base == 256 || base == 512 || base == 768 || base == 1024 || base == 1280 || base == 1536 || base == 1792; arena.Good(base) != want {
			t.Errorf("Good(%d): %v", base, !want)
		}
	}
}

// P8.1
func TestNew(t *testing.T) {
	for _, base := range bases() {
		for _, pages := range []int{1, 2, 3} {
			alike(t, [2]int{base, pages}, fresh(t, base, pages), plainly(base, pages))
		}
		for _, pages := range notPages() {
			checkNoArena(t, base, pages, api.ErrArg)
		}
	}
	for _, base := range notBases() {
		for _, pages := range []int{1, 2, api.MaxPages} {
			checkNoArena(t, base, pages, api.ErrAddr)
		}
		// a wrong count is told ahead of a wrong base
		for _, pages := range notPages() {
			checkNoArena(t, base, pages, api.ErrArg)
		}
	}
}

func checkNoArena(t *testing.T, base, pages int, want api.Errno) {
	t.Helper()
	if a, e := arena.New(base, pages); a != nil || e != want {
		t.Errorf("New(%d, %d): %v, %v, want %v", base, pages, a, e, want)
	}
}

// P8.1, P8.2: as many pages as there may be, at the least base and at the greatest one.
func TestTheGreatestArena(t *testing.T) {
	for _, base := range []int{api.PageSize, api.MaxBase} {
		for _, pages := range []int{api.MaxPages - 1, api.MaxPages} {
			a, size := fresh(t, base, pages), pages*api.PageSize
			if a.Base() != base || a.Pages() != pages || a.End() != base+size {
				t.Fatalf("%d, %d: Base %d, Pages %d, End %d", base, pages, a.Base(), a.Pages(), a.End())
			}
			if !bytes.Equal(a.Bytes(), make([]byte, size)) {
				t.Errorf("%d, %d: not noughts alone", base, pages)
			}
			if !a.In(base, size) || a.In(base, size+1) || a.In(base+1, size) || !a.In(base+size, 0) || a.In(base+size+1, 0) {
				t.Errorf("%d, %d: In", base, pages)
			}
			if a.Put(base+size-8, 7) != api.OK || a.Move(base+8, base, size-8) != api.OK || a.Move(base, base+1, size) != api.ErrAddr {
				t.Errorf("%d, %d: Put and Move", base, pages)
			}
			for addr, want := range map[int]uint64{base + size - 8: 7, base + size - 16: 7, base + size - 24: 0, base: 0} {
				if w, e := a.Word(addr); w != want || e != api.OK {
					t.Errorf("%d, %d: Word(%d): %d, %v", base, pages, addr, w, e)
				}
			}
			if page, off, ok := a.Place(base + size - 1); page != pages-1 || off != api.PageSize-1 || !ok {
				t.Errorf("%d, %d: Place of the last one: %d, %d, %v", base, pages, page, off, ok)
			}
			if addr, ok := a.Addr(pages-1, api.PageSize-1); addr != base+size-1 || !ok {
				t.Errorf("%d, %d: Addr of the last one: %d, %v", base, pages, addr, ok)
			}
		}
	}
}

// P8.2
func TestIn(t *testing.T) {
	for _, x := range []struct {
		addr, n int
		want    bool
	}{
		{512, 0, true}, {512, 1, true}, {512, 511, true}, {512, 512, true}, {512, 513, false}, {512, -1, false},
		{511, -1, false}, {511, 0, false}, {511, 1, false}, {511, 2, false}, {511, 513, false}, {511, 514, false},
		{513, 511, true}, {513, 512, false}, {767, 2, true}, {768, 256, true}, {768, 257, false},
		{1023, 0, true}, {1023, 1, true}, {1023, 2, false}, {1023, -1, false},
		{1024, 0, true}, {1024, 1, false}, {1024, -1, false}, {1024, -512, false},
		{1025, 0, false}, {1025, -1, false}, {1025, 1, false},
		{0, 0, false}, {0, 1, false}, {0, 512, false}, {0, 1024, false}, {-1, 0, false}, {-512, 1024, false},
		{600, math.MaxInt, false}, {512, math.MaxInt, false}, {1024, math.MaxInt, false}, {math.MaxInt, 0, false}, {math.MaxInt, 1, false},
		{math.MaxInt, math.MaxInt, false}, {math.MinInt, 0, false}, {math.MinInt, math.MaxInt, false}, {math.MinInt, math.MinInt, false},
		{600, math.MinInt, false}, {math.MaxInt, math.MinInt, false}, {600 + 1<<32, 1, false}, {600, 1 << 32, false}, {600 - 1<<32, 1 << 32, false},
	} {
		if got := fresh(t, 512, 2).In(x.addr, x.n); got != x.want {
			t.Errorf("In(%d, %d): %v", x.addr, x.n, got)
		}
	}
}

// P8.2: all addresses of an arena and around it, with all counts.
func TestInOfAllAddresses(t *testing.T) {
	a := fresh(t, 256, 1)
	for addr := 250; addr <= 518; addr++ {
		for n := -3; n <= 262; n++ {
			if want := n >= 0 && addr >= 256 && addr+n <= 512; a.In(addr, n) != want {
				t.Fatalf("In(%d, %d): %v", addr, n, !want)
			}
		}
	}
}

// P8.2, P8.3: each call that takes an address, at the edges; nothing else changes, and nothing at all beside an error.
func TestEdges(t *testing.T) {
	for _, base := range []int{api.PageSize, 512, 1 << 32, api.MaxBase} {
		for _, pages := range []int{1, 2, 3} {
			a, p := filled(t, base, pages)
			for _, addr := range edges(p) {
				for _, n := range counts(p) {
					checkBytesAt(t, a, p, addr, n)
				}
				checkWordAt(t, a, p, addr)
			}
		}
	}
}

// checkBytesAt asks In and Read of some bytes, lays others there, makes them noughts and fills them anew.
func checkBytesAt(t *testing.T, a *arena.Arena, p plain, addr, n int) {
	t.Helper()
	told := [3]int{p.base, addr, n}
	if got := a.In(addr, n); got != p.in(addr, n) {
		t.Fatalf("%v: In: %v", told, got)
	}
	old, want := p.read(addr, n)
	if got, e := a.Read(addr, n); e != want || !bytes.Equal(got, old) {
		t.Fatalf("%v: Read: %v, %v, want %v, %v", told, got, e, old, want)
	}
	if n >= 0 && n <= len(p.at)+1 {
		b := bytes.Repeat([]byte{200, 0, 255}, n)[:n]
		if e, want := a.Write(addr, b), p.write(addr, b); e != want {
			t.Fatalf("%v: Write: %v, want %v", told, e, want)
		}
		alike(t, told, a, p)
	}
	if e := a.Zero(addr, n); e != p.zero(addr, n) {
		t.Fatalf("%v: Zero: %v", told, e)
	}
	alike(t, told, a, p)
	a.Write(addr, old)
	p.write(addr, old)
}

// checkWordAt asks the word at an address, and puts others there.
func checkWordAt(t *testing.T, a *arena.Arena, p plain, addr int) {
	t.Helper()
	told := [2]int{p.base, addr}
	old, _ := p.read(addr, 8)
	for _, w := range []uint64{0x0102030405060708, 0, 1, 1 << 63, math.MaxUint64} {
		was, want := p.word(addr)
		if got, e := a.Word(addr); got != was || e != want {
			t.Fatalf("%v: Word: %#x, %v, want %#x, %v", told, got, e, was, want)
		}
		if e := a.Put(addr, w); e != p.put(addr, w) {
			t.Fatalf("%v: Put(%#x): %v", told, w, e)
		}
		alike(t, told, a, p)
	}
	a.Write(addr, old)
	p.write(addr, old)
}

// P8.2: no bytes, at all addresses and at End, where no byte is.
func TestNoBytes(t *testing.T) {
	a, p := filled(t, 768, 2)
	for _, addr := range []int{768, 769, 1000, 1023, 1024, 1279, 1280} {
		if b, e := a.Read(addr, 0); e != api.OK || len(b) != 0 {
			t.Errorf("Read(%d, 0): %v, %v", addr, b, e)
		}
		if a.Write(addr, nil) != api.OK || a.Write(addr, []byte{}) != api.OK || a.Zero(addr, 0) != api.OK {
			t.Errorf("%d: Write and Zero", addr)
		}
		if a.Move(addr, 768, 0) != api.OK || a.Move(1280, addr, 0) != api.OK {
			t.Errorf("%d: Move", addr)
		}
	}
	for _, addr := range []int{767, 1281, 0, -1, math.MaxInt, math.MinInt} {
		if _, e := a.Read(addr, 0); e != api.ErrAddr || a.Write(addr, nil) != api.ErrAddr || a.Zero(addr, 0) != api.ErrAddr {
			t.Errorf("%d: %v", addr, e)
		}
		if a.Move(addr, 768, 0) != api.ErrAddr || a.Move(768, addr, 0) != api.ErrAddr {
			t.Errorf("%d: Move", addr)
		}
	}
	alike(t, "no bytes", a, p)
}

// P8.2: bytes that lie over one another, or beside one another, in both directions.
func TestMove(t *testing.T) {
	for _, x := range [][3]int{
		{512, 513, 3}, {513, 512, 3}, // by one byte
		{512, 513, 767}, {513, 512, 767}, // all but one
		{520, 620, 300}, {620, 520, 300}, // by many, over a border
		{512, 768, 512}, {768, 512, 512}, // by a page
		{760, 764, 8}, {764, 760, 8}, // from border to border
		{767, 768, 1}, {768, 767, 1}, {767, 768, 2}, {1023, 1022, 2},
		{512, 520, 8}, {520, 512, 8}, // side by side
		{512, 1200, 80}, {1200, 512, 80}, // far apart
		{600, 600, 100}, {512, 512, 768}, // to where they are
		{1279, 512, 1}, {512, 1279, 1}, {1280, 512, 0},
		{512, 514, 700}, {519, 512, 700}, {512, 768, 257}, {768, 512, 257},
	} {
		a, p := filled(t, 512, 3)
		if e := a.Move(x[0], x[1], x[2]); e != api.OK || p.move(x[0], x[1], x[2]) != api.OK {
			t.Errorf("Move%v: %v", x, e)
		}
		alike(t, x, a, p)
	}
}

// P8.2
func TestMoveOfAllFewBytes(t *testing.T) {
	a, p := filled(t, 512, 2)
	for from := 762; from < 775; from++ {
		for to := 762; to < 775; to++ {
			for n := range 8 {
				if e := a.Move(from, to, n); e != p.move(from, to, n) {
					t.Fatalf("Move(%d, %d, %d): %v", from, to, n, e)
				}
				alike(t, [3]int{from, to, n}, a, p)
				// bytes that came to be alike would hide what the next move does
				for addr := 760; addr < 785; addr++ {
					fill := []byte{byte(addr - 700)}
					a.Write(addr, fill)
					p.write(addr, fill)
				}
			}
		}
	}
}

// P8.2: places of which one is wrong, or both.
func TestMoveOfWrongPlaces(t *testing.T) {
	a, p := filled(t, 512, 2)
	for _, x := range [][3]int{
		{511, 600, 1}, {600, 511, 1}, {1024, 600, 1}, {600, 1024, 1}, {1023, 600, 2}, {600, 1023, 2}, {511, 512, 8}, {512, 511, 8},
		{512, 1020, 5}, {1020, 512, 5}, {512, 513, 512}, {513, 512, 512}, {512, 512, 513}, {512, 768, 257}, {768, 512, 257},
		{1025, 600, 0}, {600, 1025, 0}, {511, 600, 0}, {600, 511, 0}, {600, 700, -1}, {512, 1024, -1}, {1024, 512, -1},
		{0, 600, 4}, {600, 0, 4}, {-600, 600, 4}, {600, -600, 4}, {0, 0, 0}, {0, 0, 4}, {256, 256, 256}, {1024, 1024, 1},
		{600, 700, math.MaxInt}, {600, 700, math.MinInt}, {512, 512, math.MaxInt}, {math.MaxInt, 600, 1}, {600, math.MaxInt, 1},
		{math.MinInt, 600, 1}, {600, math.MinInt, 1}, {math.MaxInt, math.MaxInt, math.MaxInt}, {math.MinInt, math.MinInt, math.MinInt},
		{math.MaxInt - 100, 600, 300}, {600, math.MaxInt - 100, 300}, {600 + 1<<32, 600, 1}, {600, 600 + 1<<32, 1},
	} {
		if e := a.Move(x[0], x[1], x[2]); e != api.ErrAddr {
			t.Errorf("Move%v: %v", x, e)
		}
		alike(t, x, a, p)
	}
}

// P8.3: the lowest byte comes first.
func TestWordIsItsBytes(t *testing.T) {
	a := fresh(t, 512, 2)
	for _, addr := range []int{512, 513, 519, 520, 761, 764, 767, 768, 1009, 1016} {
		if e := a.Write(addr, []byte{1, 2, 3, 4, 5, 6, 7, 128}); e != api.OK {
			t.Errorf("Write(%d): %v", addr, e)
		}
		if w, e := a.Word(addr); w != 0x8007060504030201 || e != api.OK {
			t.Errorf("Word(%d): %#x, %v", addr, w, e)
		}
		for w, want := range map[uint64][]byte{
			0: {0, 0, 0, 0, 0, 0, 0, 0}, 1: {1, 0, 0, 0, 0, 0, 0, 0}, 256: {0, 1, 0, 0, 0, 0, 0, 0}, 0xfedcba9876543210: {0x10, 0x32, 0x54, 0x76, 0x98, 0xba, 0xdc, 0xfe},
			1 << 32: {0, 0, 0, 0, 1, 0, 0, 0}, 1 << 63: {0, 0, 0, 0, 0, 0, 0, 128}, math.MaxUint64: {255, 255, 255, 255, 255, 255, 255, 255},
		} {
			if e := a.Put(addr, w); e != api.OK {
				t.Errorf("Put(%d, %#x): %v", addr, w, e)
			}
			if b, e := a.Read(addr, 8); e != api.OK || !bytes.Equal(b, want) {
				t.Errorf("Put(%d, %#x): %v, %v", addr, w, b, e)
			}
			if got, e := a.Word(addr); got != w || e != api.OK {
				t.Errorf("Word(%d): %#x, %v, want %#x", addr, got, e, w)
			}
		}
	}
}

// P8.4
func TestPlaceAndAddr(t *testing.T) {
	for _, base := range bases() {
		a := fresh(t, base, 4)
		for page := range 4 {
			for off := range api.PageSize {
				want := base + page*api.PageSize + off
				if addr, ok := a.Addr(page, off); addr != want || !ok {
					t.Fatalf("%d: Addr(%d, %d): %d, %v", base, page, off, addr, ok)
				}
				if gotPage, gotOff, ok := a.Place(want); gotPage != page || gotOff != off || !ok {
					t.Fatalf("%d: Place(%d): %d, %d, %v", base, want, gotPage, gotOff, ok)
				}
			}
		}
	}
}

// P8.4
func TestPlacesThatAreNotThere(t *testing.T) {
	far := []int{math.MinInt, math.MinInt + 1, -1 << 62, -1 << 55, -1 << 32, -api.PageSize, -2, -1,
		1 << 32, 1<<32 + 1, 1 << 55, 1 << 56, 1<<56 + 1, 1 << 62, math.MaxInt - 1, math.MaxInt}
	for _, base := range bases() {
		a := fresh(t, base, 4)
		for _, addr := range append(slices.Clone(far), 0, 1, 255, base-256, base-1, base+1024, base+1025, base+1280, base+1<<32, -base, base+api.MaxBase) {
			if addr >= base && addr < a.End() {
				continue
			}
			if page, off, ok := a.Place(addr); page != 0 || off != 0 || ok {
				t.Errorf("%d: Place(%d): %d, %d, %v", base, addr, page, off, ok)
			}
		}
		wrong := append(slices.Clone(far), 4, 5, 255, 256)
		for _, page := range wrong {
			for _, off := range append(slices.Clone(far), 0, 1, 255, 256) {
				checkNoAddr(t, a, page, off)
			}
		}
		for page := range 4 {
			for _, off := range append(slices.Clone(far), 256, 257, 512, 1023) {
				checkNoAddr(t, a, page, off)
			}
		}
	}
}

func checkNoAddr(t *testing.T, a *arena.Arena, page, off int) {
	t.Helper()
	if addr, ok := a.Addr(page, off); addr != 0 || ok {
		t.Errorf("%d: Addr(%d, %d): %d, %v", a.Base(), page, off, addr, ok)
	}
}

// P8.4
func TestBytesAreInOrder(t *testing.T) {
	a := fresh(t, 1024, 2)
	a.Write(1024, []byte{1})
	a.Write(1279, []byte{2, 3})
	a.Write(1535, []byte{4})
	want := make([]byte, 512)
	want[0], want[255], want[256], want[511] = 1, 2, 3, 4
	if b := a.Bytes(); !bytes.Equal(b, want) {
		t.Error(b)
	}
}

// P8.4
func TestNilArena(t *testing.T) {
	var a *arena.Arena
	if a.Base() != 0 || a.Pages() != 0 || a.End() != 0 || len(a.Bytes()) != 0 {
		t.Error(a.Base(), a.Pages(), a.End(), a.Bytes())
	}
	for _, x := range [][2]int{{0, 0}, {0, 1}, {1, 0}, {0, -1}, {-1, -1}, {256, 8}, {512, 0}, {math.MaxInt, math.MaxInt}, {math.MinInt, math.MinInt}} {
		if a.In(x[0], x[1]) {
			t.Errorf("In%v", x)
		}
		if b, e := a.Read(x[0], x[1]); len(b) != 0 || e != api.ErrNil {
			t.Errorf("Read%v: %v, %v", x, b, e)
		}
		if a.Write(x[0], nil) != api.ErrNil || a.Write(x[0], []byte{1, 2}) != api.ErrNil || a.Zero(x[0], x[1]) != api.ErrNil {
			t.Errorf("Write and Zero%v", x)
		}
		if a.Move(x[0], x[0], x[1]) != api.ErrNil || a.Move(x[0], x[1], 0) != api.ErrNil {
			t.Errorf("Move%v", x)
		}
		if w, e := a.Word(x[0]); w != 0 || e != api.ErrNil || a.Put(x[0], 1) != api.ErrNil {
			t.Errorf("Word and Put%v: %d, %v", x, w, e)
		}
		if page, off, ok := a.Place(x[0]); page != 0 || off != 0 || ok {
			t.Errorf("Place(%d): %d, %d, %v", x[0], page, off, ok)
		}
		if addr, ok := a.Addr(x[0], x[1]); addr != 0 || ok {
			t.Errorf("Addr%v: %d, %v", x, addr, ok)
		}
	}
}

// P1: of an arena that New did not make it is promised that the calls end.
func TestArenaOfNoMaker(t *testing.T) {
	a := new(arena.Arena)
	for _, x := range []int{math.MinInt, -1, 0, 1, 8, 256, math.MaxInt} {
		for _, y := range []int{math.MinInt, -1, 0, 1, 8, 256, math.MaxInt} {
			askAll(a, x, y)
		}
	}
}

// P1
func TestAnyArguments(t *testing.T) {
	a, p := filled(t, 512, 2)
	for _, x := range edges(p) {
		for _, y := range append(counts(p), edges(p)...) {
			askAll(a, x, y)
		}
	}
	if a.Base() != 512 || a.Pages() != 2 || a.End() != 1024 || len(a.Bytes()) != 512 {
		t.Error(a.Base(), a.Pages(), a.End())
	}
}

// askAll makes each call that an arena has, with two numbers.
func askAll(a *arena.Arena, x, y int) {
	a.Base()
	a.Pages()
	a.End()
	a.In(x, y)
	a.Read(x, y)
	a.Write(x, nil)
	a.Write(x, make([]byte, 3))
	a.Zero(x, y)
	a.Move(x, y, 0)
	a.Move(x, y, 9)
	a.Move(x, 512, y)
	a.Move(512, x, y)
	a.Word(x)
	a.Put(x, uint64(y))
	a.Place(x)
	a.Addr(x, y)
	a.Addr(y, x)
	a.Bytes()
}

// Rule 4: what Read and Bytes hand out is nobody else's, and so is its spare room.
func TestAnswersAreNewMemory(t *testing.T) {
	a, p := filled(t, 512, 2)
	for name, ask := range map[string]func() []byte{
		"Bytes":                a.Bytes,
		"Read of all":          func() []byte { b, _ := a.Read(512, 512); return b },
		"Read of some":         func() []byte { b, _ := a.Read(700, 100); return b },
		"Read of no bytes":     func() []byte { b, _ := a.Read(700, 0); return b },
		"Read of nothing":      func() []byte { b, _ := a.Read(700, 600); return b },
		"Read of the last one": func() []byte { b, _ := a.Read(1023, 1); return b },
	} {
		first, second := ask(), ask()
		want := slices.Clone(second)
		spoil(first)
		alike(t, name, a, p)
		if !bytes.Equal(second, want) || !bytes.Equal(ask(), want) {
			t.Errorf("%s: %v and %v, want %v", name, second, ask(), want)
		}
	}
	old := a.Bytes()
	a.Zero(512, 512)
	if want, _ := p.read(512, 512); !bytes.Equal(old, want) {
		t.Errorf("what was handed out changes with the arena: %v", old)
	}
}

// spoil changes all bytes of a list, and its spare room.
func spoil(b []byte) {
	b = b[:cap(b)]
	for i := range b {
		b[i] ^= 255
	}
}

// Rule 4: what Write is handed is neither changed, nor kept, and its spare room is not looked at.
func TestWhatIsWrittenIsLeftAlone(t *testing.T) {
	whole := []byte{9, 8, 7, 6, 5, 4, 3, 2}
	b := whole[2:5]
	a, p := filled(t, 512, 1)
	if e := a.Write(600, b); e != api.OK || !bytes.Equal(whole, []byte{9, 8, 7, 6, 5, 4, 3, 2}) {
		t.Fatal(e, whole)
	}
	p.write(600, []byte{7, 6, 5})
	alike(t, "written", a, p)
	spoil(whole)
	alike(t, "spoilt", a, p)
	spoil(whole)
	a.Put(596, math.MaxUint64)
	a.Zero(600, 8)
	a.Move(520, 600, 8)
	if a.Write(766, b) != api.ErrAddr || !bytes.Equal(whole, []byte{9, 8, 7, 6, 5, 4, 3, 2}) {
		t.Error(whole)
	}
}

// Rule 4: what one arena told is written to itself, and to another one.
func TestBytesWrittenBack(t *testing.T) {
	a, p := filled(t, 512, 2)
	b, _ := a.Read(512, 300)
	if e := a.Write(513, b); e != api.OK {
		t.Fatal(e)
	}
	p.write(513, b)
	alike(t, "itself", a, p)
	other := fresh(t, 512, 2)
	if e := other.Write(512, a.Bytes()); e != api.OK {
		t.Fatal(e)
	}
	alike(t, "another one", other, p)
	other.Zero(512, 512)
	alike(t, "apart", a, p)
	alike(t, "apart", other, plainly(512, 2))
}

// step is a call; its addresses are told as places.
type step struct {
	call, x, y, n int
	b             []byte
}

// told is what a step is answered; an address is told as a place, too.
type told struct {
	yes  bool
	x, y int
	w    uint64
	b    string
	e    api.Errno
}

// do makes a step's call.
func do(a *arena.Arena, s step) told {
	base := a.Base()
	switch s.call {
	case 0:
		return told{yes: a.In(base+s.x, s.n), x: a.Pages(), y: a.End() - base}
	case 1:
		b, e := a.Read(base+s.x, s.n)
		return told{b: string(b), e: e}
	case 2:
		return told{e: a.Write(base+s.x, s.b)}
	case 3:
		return told{e: a.Zero(base+s.x, s.n)}
	case 4:
		return told{e: a.Move(base+s.x, base+s.y, s.n)}
	case 5:
		w, e := a.Word(base + s.x)
		return told{w: w, e: e}
	case 6:
		return told{e: a.Put(base+s.x, uint64(s.n)*0x9e3779b97f4a7c15)}
	case 7:
		page, off, ok := a.Place(base + s.x)
		return told{yes: ok, x: page, y: off}
	}
	addr, ok := a.Addr(s.x/api.PageSize, s.y)
	if ok {
		addr -= base
	}
	return told{yes: ok, x: addr}
}

// expect is what a step must be answered; it is made on the plain arena.
func expect(p plain, s step) told {
	size := len(p.at)
	switch s.call {
	case 0:
		return told{yes: p.in(p.base+s.x, s.n), x: size / api.PageSize, y: size}
	case 1:
		b, e := p.read(p.base+s.x, s.n)
		return told{b: string(b), e: e}
	case 2:
		return told{e: p.write(p.base+s.x, s.b)}
	case 3:
		return told{e: p.zero(p.base+s.x, s.n)}
	case 4:
		return told{e: p.move(p.base+s.x, p.base+s.y, s.n)}
	case 5:
		w, e := p.word(p.base + s.x)
		return told{w: w, e: e}
	case 6:
		return told{e: p.put(p.base+s.x, uint64(s.n)*0x9e3779b97f4a7c15)}
	case 7:
		if s.x < 0 || s.x >= size {
			return told{}
		}
		return told{yes: true, x: s.x / api.PageSize, y: s.x % api.PageSize}
	}
	page := s.x / api.PageSize
	if page < 0 || page >= size/api.PageSize || s.y < 0 || s.y >= api.PageSize {
		return told{}
	}
	return told{yes: true, x: page*api.PageSize + s.y}
}

// someStep is a step that mostly lies within so many bytes.
func someStep(next func(below int) int, size int) step {
	s := step{call: next(9), x: next(size+20) - 10, y: next(size+20) - 10, n: next(2+next(size)) - 1}
	for range next(30) {
		s.b = append(s.b, byte(next(256)))
	}
	return s
}

// P8.2 to P8.5: long rows of steps, made alike at several bases.
func TestManyStepsAtManyBases(t *testing.T) {
	for seed := range 12 {
		next := noise(uint64(seed))
		pages := 1 + next(3)
		p := plainly(api.PageSize, pages)
		var all []*arena.Arena
		for _, base := range bases() {
			all = append(all, fresh(t, base, pages))
		}
		for range 600 {
			s := someStep(next, len(p.at))
			want := expect(p, s)
			whole, _ := p.read(p.base, len(p.at))
			for _, a := range all {
				if got := do(a, s); got != want {
					t.Fatalf("%d: %+v: %+v, want %+v", a.Base(), s, got, want)
				}
				if !bytes.Equal(a.Bytes(), whole) {
					t.Fatalf("%d: %+v: Bytes %v, want %v", a.Base(), s, a.Bytes(), whole)
				}
			}
		}
	}
}

// P8.5: an address of one arena means nothing to another one.
func TestArenasAreApart(t *testing.T) {
	a, p := filled(t, 256, 2)
	b, q := filled(t, 512, 2)
	a.Zero(512, 256)
	p.zero(512, 256)
	b.Put(600, 3)
	q.put(600, 3)
	alike(t, "at 256", a, p)
	alike(t, "at 512", b, q)
	if a.Put(768, 1) != api.ErrAddr || b.Put(256, 1) != api.ErrAddr {
		t.Error("an address of the other one")
	}
	alike(t, "at 256", a, p)
	alike(t, "at 512", b, q)
}

// The chapter's examples.
func TestExamples(t *testing.T) {
	a := fresh(t, 512, 2)
	if a.End() != 1024 {
		t.Error(a.End())
	}
	if a.Write(512, []byte{1, 2, 3}) != api.OK || a.Move(512, 513, 3) != api.OK {
		t.Error("Write and Move")
	}
	if b, e := a.Read(512, 4); e != api.OK || !bytes.Equal(b, []byte{1, 1, 2, 3}) {
		t.Error(b, e)
	}
	if !a.In(1024, 0) || a.In(1023, 2) {
		t.Error("In")
	}
	if page, off, ok := a.Place(800); page != 1 || off != 32 || !ok {
		t.Error(page, off, ok)
	}
	checkNoArena(t, 100, 2, api.ErrAddr)
}
