package page_test

import (
	"bytes"
	"encoding/binary"
	"slices"
	"testing"

	"hayloft/api"
	"hayloft/page"
)

// noise is a row of numbers that look like chance, the same ones each time.
func noise(seed uint64) func(below int) int {
	return func(below int) int {
		seed = seed*6364136223846793005 + 1442695040888963407
		return int(seed>>33) % below
	}
}

// live, gone and of are a row of a handle that lives, a row without one, and a kind.
func live(gen, kind, at int) api.Row {
	return api.Row{Gen: gen, Live: true, Kind: kind, At: at}
}

func gone(gen int) api.Row {
	return api.Row{Gen: gen}
}

func of(size int, ptrs ...int) api.Kind {
	return api.Kind{Size: size, Ptrs: ptrs}
}

// words are so many pointer fields, one right behind the other.
func words(n int) []int {
	ptrs := []int{}
	for i := range n {
		ptrs = append(ptrs, 8*i)
	}
	return ptrs
}

func sameRow(a, b api.Row) bool {
	return a == b
}

func sameKind(a, b api.Kind) bool {
	return a.Size == b.Size && slices.Equal(a.Ptrs, b.Ptrs)
}

// copies have no list in common with the kinds they are copies of.
func copies(kinds []api.Kind) []api.Kind {
	all := slices.Clone(kinds)
	for i := range all {
		all[i].Ptrs = slices.Clone(all[i].Ptrs)
	}
	return all
}

// sort is one sort of pages: what the package does with them, and what the document says of one of their things.
type sort[T any] struct {
	name  string
	per   int
	write func([]T, int) ([]byte, api.Errno)
	read  func([]byte) ([]T, api.Errno)
	same  func(a, b T) bool
	right func(T) bool
	bytes func([]byte, T) []byte
	next  func(*pen) T
}

func ofRows() sort[api.Row] {
	return sort[api.Row]{"Rows", 32, page.Rows, page.ReadRows, sameRow, modelRow, appendRow, (*pen).row}
}

func ofKinds() sort[api.Kind] {
	return sort[api.Kind]{"Kinds", 16, page.Kinds, page.ReadKinds, sameKind, modelKind, appendKind, (*pen).kind}
}

// modelRow says in the document's words whether a row may be written.
func modelRow(r api.Row) bool {
	layer12 := r.Gen >= 0 && r.Gen <= 65535 && !(r.Live && r.Gen == 0) && !(!r.Live && (r.Kind != 0 || r.At != 0))
	return layer12 && r.Kind >= 0 && r.Kind <= 63 && r.At >= 0 && r.At <= 256*4096-1
}

func appendRow(b []byte, r api.Row) []byte {
	if !r.Live {
		return binary.AppendUvarint(b, uint64(r.Gen*2))
	}
	b = binary.AppendUvarint(b, uint64(r.Gen*2+1))
	b = binary.AppendUvarint(b, uint64(r.Kind))
	return binary.AppendUvarint(b, uint64(r.At))
}

// modelKind says in the document's words whether a kind is right.
func modelKind(k api.Kind) bool {
	if k.Size < 1 || k.Size > 4096 || len(k.Ptrs) > 16 {
		return false
	}
	for i, p := range k.Ptrs {
		if p%8 != 0 || p < 0 || p > k.Size-8 || i > 0 && p <= k.Ptrs[i-1] {
			return false
		}
	}
	return true
}

func appendKind(b []byte, k api.Kind) []byte {
	b = binary.AppendUvarint(b, uint64(k.Size))
	b = binary.AppendUvarint(b, uint64(len(k.Ptrs)))
	for i, p := range k.Ptrs {
		between := p / 8
		if i > 0 {
			between = p/8 - k.Ptrs[i-1]/8 - 1
		}
		b = binary.AppendUvarint(b, uint64(between))
	}
	return b
}

// pen goes through bytes, and stops at the first fault.
type pen struct {
	b     []byte
	fault api.Errno
}

// fail makes a fault, if there is none.
func (p *pen) fail(e api.Errno) {
	if p.fault == api.OK {
		p.fault = e
	}
}

// number reads a Var that is from least to most.
func (p *pen) number(least, most uint64) int {
	if p.fault != api.OK {
		return 0
	}
	n := uint64(0)
	for i, c := range p.b {
		if i == 9 && c > 1 || i > 0 && c == 0 {
			p.fail(api.ErrForm)
			return 0
		}
		n += uint64(c&127) << (7 * i)
		if c < 128 {
			p.b = p.b[i+1:]
			if n < least || n > most {
				p.fail(api.ErrForm)
				return 0
			}
			return int(n)
		}
	}
	p.fail(api.ErrShort)
	return 0
}

func (p *pen) row() api.Row {
	n := p.number(0, 131071)
	if n == 1 {
		p.fail(api.ErrForm)
	}
	if n%2 == 0 {
		return gone(n / 2)
	}
	kind := p.number(0, 63)
	return live(n/2, kind, p.number(0, 1<<20-1))
}

func (p *pen) kind() api.Kind {
	k := of(p.number(1, 4096))
	next := 0
	for range p.number(0, 16) {
		// so many words may be skipped at most; where no field has room, any number is too great
		room := k.Size - 8 - next
		if between := p.number(0, 1<<63); p.fault == api.OK && (room < 0 || between < 0 || between > room/8) {
			p.fail(api.ErrForm)
		} else {
			k.Ptrs = append(k.Ptrs, next+8*between)
			next += 8*between + 8
		}
	}
	return k
}

// modelWrite is the bytes of a page.
func (s sort[T]) modelWrite(list []T, i int) ([]byte, api.Errno) {
	for n := 0; len(list) > 0; n++ {
		here := list[:min(len(list), s.per)]
		list = list[len(here):]
		if n != i {
			continue
		}
		b := binary.AppendUvarint(nil, uint64(len(here)))
		for _, x := range here {
			if !s.right(x) {
				return nil, api.ErrForm
			}
			b = s.bytes(b, x)
		}
		return b, api.OK
	}
	return nil, api.ErrArg
}

// modelRead is the things that bytes are, or the fault that is met first.
func (s sort[T]) modelRead(b []byte) ([]T, api.Errno) {
	p := &pen{b: b}
	var all []T
	for range p.number(1, uint64(s.per)) {
		all = append(all, s.next(p))
	}
	if p.fault == api.OK && len(p.b) > 0 {
		p.fail(api.ErrLong)
	}
	if p.fault != api.OK {
		return nil, p.fault
	}
	return all, api.OK
}

// writes holds that a page is written as the model writes it, and read as it was.
func (s sort[T]) writes(t *testing.T, list []T, i int) api.Errno {
	t.Helper()
	b, e := s.write(list, i)
	want, wantErr := s.modelWrite(list, i)
	if e != wantErr || !bytes.Equal(b, want) {
		t.Fatalf("%s of %d things, %d: % x, %v, not % x, %v", s.name, len(list), i, b, e, want, wantErr)
	}
	if e == api.OK {
		s.isRead(t, b, list[i*s.per:min(len(list), (i+1)*s.per)])
	}
	return e
}

// isRead holds that bytes are read as these things.
func (s sort[T]) isRead(t *testing.T, b []byte, want []T) {
	t.Helper()
	if got, e := s.read(b); e != api.OK || !slices.EqualFunc(got, want, s.same) {
		t.Fatalf("Read%s of % x: %v, %v, not %v", s.name, b, got, e, want)
	}
}

// unread holds that bytes are met with an error, and that nothing is read of them.
func (s sort[T]) unread(t *testing.T, b []byte, want api.Errno) {
	t.Helper()
	if got, e := s.read(b); e != want || len(got) != 0 {
		t.Errorf("Read%s of % x: %v, %v, not %v", s.name, b, got, e, want)
	}
}

// refuses holds that a page is met with an error, and that nothing is written of it.
func (s sort[T]) refuses(t *testing.T, list []T, i int, want api.Errno) {
	t.Helper()
	if b, e := s.write(list, i); e != want || len(b) != 0 {
		t.Errorf("%s of %d things, %v .., %d: % x, %v, not %v", s.name, len(list), list[:min(3, len(list))], i, b, e, want)
	}
}

// reads holds that bytes are read as the model reads them, and that no others are the same things.
func (s sort[T]) reads(t *testing.T, b []byte) api.Errno {
	t.Helper()
	got, e := s.read(b)
	want, wantErr := s.modelRead(b)
	if e != wantErr || !slices.EqualFunc(got, want, s.same) {
		t.Fatalf("Read%s of % x: %v, %v, not %v, %v", s.name, b, got, e, want, wantErr)
	}
	if e != api.OK {
		return e
	}
	if again, e := s.write(got, 0); e != api.OK || !bytes.Equal(again, b) {
		t.Fatalf("%s of %v: % x, %v, not % x", s.name, got, again, e, b)
	}
	return api.OK
}

// someRows are so many rows that may be written: the least, the greatest, and some by chance.
func someRows(chance func(below int) int, n int) []api.Row {
	edges := []api.Row{{}, gone(1), gone(63), gone(64), gone(65535), live(1, 0, 0), live(1, 63, 1<<20-1), live(65535, 63, 1<<20-1), live(63, 3, 48), live(64, 0, 127), live(8191, 1, 128), live(8192, 1, 16383), live(2, 63, 16384)}
	var all []api.Row
	for range n {
		switch chance(4) {
		case 0:
			all = append(all, edges[chance(len(edges))])
		case 1:
			all = append(all, gone(chance(1+chance(65536))))
		default:
			all = append(all, live(1+chance(1+chance(65535)), chance(64), chance(1+chance(1<<20))))
		}
	}
	return all
}

// someKinds are so many right kinds: the least, the greatest, and some by chance.
func someKinds(chance func(below int) int, n int) []api.Kind {
	edges := []api.Kind{of(1), of(7), of(8), of(8, 0), of(16, 8), of(24, 0, 16), of(127), of(128), of(4096), of(4096, 4088), of(4096, 0, 4088), of(4095, 4080), of(128, words(16)...), of(4096, words(16)...)}
	var all []api.Kind
	for range n {
		k := edges[chance(len(edges))]
		if chance(4) > 0 {
			k = of(1 + chance(1+chance(4096)))
			for p := 8 * chance(8); p <= k.Size-8 && len(k.Ptrs) < 16; p += 8 + 8*chance(40) {
				k.Ptrs = append(k.Ptrs, p)
			}
		}
		all = append(all, k)
	}
	return copies(all)
}
