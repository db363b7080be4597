package root_test

import (
	"bytes"
	"encoding/binary"
	"slices"
	"testing"

	"hayloft/api"
	"hayloft/root"
)

// noise is a row of numbers that look like chance, the same ones each time.
func noise(seed uint64) func(below int) int {
	return func(below int) int {
		seed = seed*6364136223846793005 + 1442695040888963407
		return int(seed>>33) % below
	}
}

// ofKinds, ofRows and ofSpan are entries of a page of kinds, of a page of rows, and of a span.
func ofKinds(id, first, n int) api.Entry {
	return api.Entry{Type: 1, Id: id, First: first, Len: n}
}

func ofRows(id, first, n int) api.Entry {
	return api.Entry{Type: 2, Id: id, First: first, Len: n}
}

func ofSpan(id, first, n int) api.Entry {
	return api.Entry{Type: 3, Id: id, First: first, Len: n}
}

// example is the chapter's root; it is right on a disk of five sectors and more.
func example() root.Root {
	return root.Root{Base: 256, Pages: 1, Workers: 1, Handles: 2, Rows: 1, Kinds: 1, Entries: []api.Entry{ofKinds(0, 1, 11), ofRows(0, 2, 10), ofSpan(0, 3, 40)}}
}

// larger has two pages of kinds, three of rows, and four spans; it is right on a disk of 300 sectors and more.
func larger() root.Root {
	return root.Root{Base: 512, Pages: 300, Workers: 3, Handles: 200, Rows: 70, Kinds: 20, Entries: []api.Entry{
		ofKinds(0, 1, 60), ofKinds(1, 298, 20), ofRows(0, 127, 8), ofRows(1, 128, 127), ofRows(2, 129, 128), ofSpan(0, 7, 65542), ofSpan(1, 9, 9), ofSpan(129, 10, 16384), ofSpan(299, 11, 16383),
	}}
}

// copyOf has no list in common with the root it is a copy of.
func copyOf(r root.Root) root.Root {
	r.Entries = slices.Clone(r.Entries)
	return r
}

// changed is a root with something changed about it, that itself stays as it was.
func changed(r root.Root, change func(r *root.Root)) root.Root {
	r = copyOf(r)
	change(&r)
	return r
}

func sameRoot(a, b root.Root) bool {
	sizes := a.Base == b.Base && a.Pages == b.Pages && a.Workers == b.Workers && a.Handles == b.Handles && a.Rows == b.Rows && a.Kinds == b.Kinds
	return sizes && slices.Equal(a.Entries, b.Entries)
}

func isZero(r root.Root) bool {
	return sameRoot(r, root.Root{})
}

// modelList is the entries in the document's words: a page for each 16 kinds that were begun, for each 32 rows likewise, and the spans.
func modelList(kinds, rows int, pages []int) []api.Entry {
	var all []api.Entry
	for i := 0; kinds > 16*i; i++ {
		all = append(all, ofKinds(i, 0, 0))
	}
	for i := 0; rows > 32*i; i++ {
		all = append(all, ofRows(i, 0, 0))
	}
	for _, p := range pages {
		all = append(all, ofSpan(p, 0, 0))
	}
	return all
}

// modelRight says in the document's words whether a root is right, entry by entry.
func modelRight(r root.Root, sectors int) bool {
	if r.Base < 256 || r.Base > 1<<40 || r.Base%256 != 0 {
		return false
	}
	if r.Pages < 1 || r.Pages > 4096 || r.Workers < 1 || r.Workers > 8 || r.Handles < 1 || r.Handles > 4096 {
		return false
	}
	if r.Rows < 0 || r.Rows > r.Handles || r.Kinds < 0 || r.Kinds > 64 {
		return false
	}
	tables := modelList(r.Kinds, r.Rows, nil)
	if len(r.Entries) < len(tables) {
		return false
	}
	for i, e := range r.Entries {
		if e.First < 1 || e.First > sectors || e.First > sectors-2 || e.Len < 8 || e.Len > 65542 {
			return false
		}
		if i < len(tables) {
			if e.Type != tables[i].Type || e.Id != tables[i].Id {
				return false
			}
			continue
		}
		if e.Type != 3 || e.Id < 0 || e.Id > r.Pages-1 || i > len(tables) && e.Id <= r.Entries[i-1].Id {
			return false
		}
	}
	return true
}

// bounded is one of a Body's numbers, and the least and the greatest that may stand in its place.
type bounded struct{ n, least, most uint64 }

// numbersOf is the numbers of a right root's Body, in order.
func numbersOf(r root.Root, sectors int) []bounded {
	spans := len(r.Entries) - len(modelList(r.Kinds, r.Rows, nil))
	all := []bounded{
		{uint64(r.Base / 256), 1, 1 << 32}, {uint64(r.Pages), 1, 4096}, {uint64(r.Workers), 1, 8}, {uint64(r.Handles), 1, 4096},
		{uint64(r.Rows), 0, uint64(r.Handles)}, {uint64(r.Kinds), 0, 64}, {uint64(spans), 0, uint64(r.Pages)},
	}
	ahead := -1
	for _, e := range r.Entries {
		if e.Type == 3 {
			all = append(all, bounded{uint64(e.Id - ahead - 1), 0, uint64(r.Pages - 1 - ahead - 1)})
			ahead = e.Id
		}
		all = append(all, bounded{uint64(e.First), 1, uint64(sectors - 2)}, bounded{uint64(e.Len), 8, 65542})
	}
	return all
}

// bytesOf is numbers one behind the other.
func bytesOf(numbers ...uint64) []byte {
	var b []byte
	for _, n := range numbers {
		b = binary.AppendUvarint(b, n)
	}
	return b
}

// modelBody is a root's bytes.
func modelBody(r root.Root, sectors int) ([]byte, api.Errno) {
	if !modelRight(r, sectors) {
		return nil, api.ErrForm
	}
	var b []byte
	for _, x := range numbersOf(r, sectors) {
		b = append(b, bytesOf(x.n)...)
	}
	return b, api.OK
}

// pen goes through bytes, and stops at the first fault.
type pen struct {
	b     []byte
	fault api.Errno
}

// fail makes a fault, if there is none.
func (p *pen) fail(e api.Errno) {
	if p.fault == api.OK {
		p.fault = e
	}
}

// number reads a Var that is from least to most.
func (p *pen) number(least, most int) int {
	if p.fault != api.OK {
		return 0
	}
	n := uint64(0)
	for i, c := range p.b {
		if i == 9 && c > 1 || i > 0 && c == 0 {
			p.fail(api.ErrForm)
			return 0
		}
		n += uint64(c&127) << (7 * i)
		if c < 128 {
			p.b = p.b[i+1:]
			// as ints those above 1<<63 are below 0
			if int(n) < least || int(n) > most {
				p.fail(api.ErrForm)
				return 0
			}
			return int(n)
		}
	}
	p.fail(api.ErrShort)
	return 0
}

// frame reads where a frame lies.
func (p *pen) frame(e api.Entry, sectors int) api.Entry {
	most := -1
	if sectors > 0 {
		most = sectors - 2
	}
	e.First = p.number(1, most)
	e.Len = p.number(8, 65542)
	return e
}

// modelRead is the root that bytes are, or the fault that is met first.
func modelRead(b []byte, sectors int) (root.Root, api.Errno) {
	p := &pen{b: b}
	r := root.Root{Base: p.number(1, 1<<32) * 256}
	r.Pages = p.number(1, 4096)
	r.Workers = p.number(1, 8)
	r.Handles = p.number(1, 4096)
	r.Rows = p.number(0, r.Handles)
	r.Kinds = p.number(0, 64)
	spans := p.number(0, r.Pages)
	for _, e := range modelList(r.Kinds, r.Rows, nil) {
		r.Entries = append(r.Entries, p.frame(e, sectors))
	}
	ahead := -1
	for range spans {
		id := ahead + 1 + p.number(0, 1<<62)
		if p.fault == api.OK && id >= r.Pages {
			p.fail(api.ErrForm)
		}
		r.Entries = append(r.Entries, p.frame(ofSpan(id, 0, 0), sectors))
		ahead = id
	}
	if p.fault == api.OK && len(p.b) > 0 {
		p.fail(api.ErrLong)
	}
	if p.fault != api.OK {
		return root.Root{}, p.fault
	}
	return r, api.OK
}

// writes holds that Right and Body tell of a root what the model tells, and that what is written is read as it was.
func writes(t *testing.T, r root.Root, sectors int) bool {
	t.Helper()
	right := modelRight(r, sectors)
	if root.Right(r, sectors) != right {
		t.Fatalf("Right of %+v, %d: %v", r, sectors, !right)
	}
	b, e := root.Body(r, sectors)
	want, wantErr := modelBody(r, sectors)
	if e != wantErr || !bytes.Equal(b, want) {
		t.Fatalf("Body of %+v, %d: % x, %v, not % x, %v", r, sectors, b, e, want, wantErr)
	}
	if right {
		isRead(t, b, sectors, r)
	}
	return right
}

// isRead holds that bytes are read as this root.
func isRead(t *testing.T, b []byte, sectors int, want root.Root) {
	t.Helper()
	if r, e := root.Read(b, sectors); e != api.OK || !sameRoot(r, want) {
		t.Fatalf("Read of % x, %d: %+v, %v, not %+v", b, sectors, r, e, want)
	}
}

// unread holds that bytes are met with an error, and that nothing is read of them.
func unread(t *testing.T, b []byte, sectors int, want api.Errno) {
	t.Helper()
	if r, e := root.Read(b, sectors); e != want || !isZero(r) {
		t.Errorf("Read of % x, %d: %+v, %v, not %v", b, sectors, r, e, want)
	}
}

// reads holds that bytes are read as the model reads them, and that a root that is read is right and has no other Body.
func reads(t *testing.T, b []byte, sectors int) api.Errno {
	t.Helper()
	r, e := root.Read(b, sectors)
	want, wantErr := modelRead(b, sectors)
	if e != wantErr || !sameRoot(r, want) {
		t.Fatalf("Read of % x, %d: %+v, %v, not %+v, %v", b, sectors, r, e, want, wantErr)
	}
	if e != api.OK {
		return e
	}
	if !root.Right(r, sectors) {
		t.Fatalf("Read of % x, %d: %+v isn't right", b, sectors, r)
	}
	if again, f := root.Body(r, sectors); f != api.OK || !bytes.Equal(again, b) {
		t.Fatalf("Body of %+v, %d: % x, %v, not % x", r, sectors, again, f, b)
	}
	return api.OK
}

// someRoot is a root that is right on a disk of so many sectors: sizes at their ends, and by chance.
func someRoot(chance func(below int) int, sectors int) root.Root {
	from := func(least, most int) int {
		switch chance(6) {
		case 0:
			return least
		case 1:
			return most
		case 2:
			return least + chance(min(most-least, 4)+1)
		}
		return least + chance(most-least+1)
	}
	r := root.Root{Base: 256 * (1 + chance(1+chance(1<<31))), Pages: from(1, 4096), Workers: from(1, 8), Handles: from(1, 300), Kinds: from(0, 64)}
	switch chance(8) {
	case 0:
		r.Base = 1 << 40
	case 1:
		r.Handles = 4096
	}
	r.Rows = from(0, r.Handles)
	var pages []int
	for p := chance(min(r.Pages, 3)); p < r.Pages && len(pages) < 40; p += 1 + chance(1+chance(1+r.Pages/8)) {
		pages = append(pages, p)
	}
	for _, e := range modelList(r.Kinds, r.Rows, pages) {
		e.First = from(1, sectors-2)
		e.Len = from(8, 65542)
		r.Entries = append(r.Entries, e)
	}
	return r
}
