package load_test

import (
	"encoding/binary"
	"testing"

	"hayloft/api"
	"hayloft/disk"
)

// piece is a frame of a forgery.
type piece struct {
	of, id  int                   // as its entry says
	kind    int                   // as the frame says
	body    []byte                // of the frame
	fields  []int                 // where in the body addresses stand
	harm    func(b []byte) []byte // what is done to the frame's bytes; nil: nothing
	room    []int                 // the sectors that its chain may have
	n       int                   // how many bytes the entry says it has; 0: as many as it has
	foreign bool                  // its chain is laid otherwise
}

// forgery is a checkpoint that is laid on a disk, right or not.
type forgery struct {
	seq, slot                                  int
	base, pages, workers, handles, rows, kinds int
	pieces                                     []*piece
	top                                        *piece               // of the root; without a body it has that of the numbers above
	after                                      []func(d *disk.Disk) // what is done to the disk, once all is laid
}

// forge is a right checkpoint of a view, in the sectors from one on; each piece has room for one sector more than it needs.
func forge(v api.View, seq, slot, from int) *forgery {
	f := &forgery{
		seq: seq, slot: slot,
		base: v.Base, pages: v.Pages, workers: 2, handles: len(v.Rows) + 1, rows: len(v.Rows), kinds: len(v.Kinds),
	}
	room := func(n int) []int {
		var l []int
		for range n {
			l = append(l, from)
			from++
		}
		return l
	}
	add := func(of, id int, body []byte) *piece {
		p := &piece{of: of, id: id, kind: of, body: body, room: room(count(len(body)+7) + 1)}
		f.pieces = append(f.pieces, p)
		return p
	}
	for i := 0; 16*i < len(v.Kinds); i++ {
		add(1, i, kindsBody(v.Kinds[16*i:min(16*i+16, len(v.Kinds))]))
	}
	for i := 0; 32*i < len(v.Rows); i++ {
		add(2, i, rowsBody(v.Rows[32*i:min(32*i+32, len(v.Rows))]))
	}
	for _, d := range v.Spans {
		add(3, d.Page, spanBody(v, d)).fields = addressesIn(v, d)
	}
	f.top = &piece{of: 4, kind: 4, room: room(20 + len(v.Spans)/5)}
	return f
}

// addressesIn is where in a span's body addresses stand.
func addressesIn(v api.View, d api.Span) []int {
	var l []int
	size := slotBytes(d)
	from := len(spanBody(v, d)) - size*len(d.Live)
	room := roomOf(v)
	for i, slot := range d.Live {
		at := 256*d.Page + slot*size
		for _, p := range fieldsIn(v, at) {
			if binary.LittleEndian.Uint64(room[at+p:]) != 0 {
				l = append(l, from+i*size+p)
			}
		}
	}
	return l
}

// leads has the last address in a span's body be another one.
func (p *piece) leads(to int) {
	b := append([]byte{}, p.body...)
	binary.LittleEndian.PutUint64(b[p.fields[len(p.fields)-1]:], uint64(to))
	p.body = b
}

// bytes are the frame's.
func (p *piece) bytes() []byte {
	b := framed(p.kind, p.body)
	if p.harm != nil {
		b = p.harm(b)
	}
	return b
}

// sectors are those of its chain.
func (p *piece) sectors() []int {
	if p.foreign {
		return p.room
	}
	return p.room[:count(len(p.bytes()))]
}

// first and last are the ends of its chain.
func (p *piece) first() int {
	return p.room[0]
}

func (p *piece) last() int {
	l := p.sectors()
	return l[len(l)-1]
}

// size is how many bytes its entry says it has.
func (p *piece) size() int {
	if p.n != 0 {
		return p.n
	}
	return len(p.bytes())
}

// root is the root's piece, with its body.
func (f *forgery) root() *piece {
	p := *f.top
	if p.body == nil {
		p.body = f.rootBody()
	}
	return &p
}

// rootBody is what layer 20 tells of the numbers.
func (f *forgery) rootBody() []byte {
	spans := 0
	for _, p := range f.pieces {
		if p.of == 3 {
			spans++
		}
	}
	b := vars(f.base/256, f.pages, f.workers, f.handles, f.rows, f.kinds, spans)
	next := 0
	for _, p := range f.pieces {
		if p.of == 3 {
			b = append(b, vars(p.id-next)...)
			next = p.id + 1
		}
		b = append(b, vars(p.first(), p.size())...)
	}
	return b
}

// lay lays all of it on a disk.
func (f *forgery) lay(t *testing.T, d *disk.Disk) {
	t.Helper()
	top := f.root()
	for _, p := range append(f.pieces[:len(f.pieces):len(f.pieces)], top) {
		if p.foreign {
			continue
		}
		b, l := p.bytes(), p.sectors()
		for i, s := range l {
			next := 0
			if i+1 < len(l) {
				next = l[i+1]
			}
			write(t, d, s, link(b[56*i:min(len(b), 56*i+56)], next))
		}
	}
	write(t, d, f.slot*(d.Len()-1), manifestBytes(f.seq, top.first(), top.size()))
	for _, do := range f.after {
		do(d)
	}
}

// then has something be done to the disk, once all is laid.
func (f *forgery) then(do func(d *disk.Disk)) {
	f.after = append(f.after, do)
}

// on is a disk of so many sectors with these checkpoints, one laid behind the other.
func on(t *testing.T, sectors int, l ...*forgery) *disk.Disk {
	t.Helper()
	d, e := disk.New(sectors)
	if e != api.OK {
		t.Fatal(e)
	}
	for _, f := range l {
		f.lay(t, d)
	}
	return d
}

// write writes a sector.
func write(t *testing.T, d *disk.Disk, sector int, b []byte) {
	t.Helper()
	if e := d.Write(sector, b); e != api.OK {
		t.Fatal(sector, e)
	}
}

// turn turns bits of a sector, from one of them on.
func turn(d *disk.Disk, sector, from int, bits ...int) {
	b, _ := d.Read(sector)
	for _, bit := range append([]int{0}, bits...) {
		b[(from+bit)/8] ^= 1 << ((from + bit) % 8)
	}
	d.Write(sector, b)
}

// shares has the last sector of a piece be that of another one; what is in it ahead of that is junk.
func (f *forgery) shares(p *piece, of func() *piece) {
	own := p.first()
	p.foreign = true
	// how long the root is hangs on what it tells of this piece
	for range 3 {
		x := of()
		p.room = []int{own, x.last()}
		p.n = 56 + x.size() - 56*(len(x.sectors())-1)
	}
	f.then(func(d *disk.Disk) {
		d.Write(own, link([]byte("junk"), of().last()))
	})
}

// trouble is something that goes against a piece; of two troubles of one piece that with the lesser rank is met first.
type trouble struct {
	name  string
	rank  int
	err   api.Errno
	apply func(f *forgery, p *piece)
}

// The ranks, in the chapter's order.
const (
	inChain = iota
	inSectors
	inFrame
	inKind
	inBody
	inCount
	inMove
)

// harms has something be done to the bytes of a piece's frame.
func harms(how func(b []byte) []byte) func(f *forgery, p *piece) {
	return func(f *forgery, p *piece) { p.harm = how }
}

// says has a piece's body be another one.
func says(how func(b []byte) []byte) func(f *forgery, p *piece) {
	return func(f *forgery, p *piece) {
		if p.body == nil {
			p.body = f.rootBody()
		}
		p.body = how(append([]byte{}, p.body...))
	}
}

func cutByOne(b []byte) []byte    { return b[:len(b)-1] }
func longerByOne(b []byte) []byte { return append(b, 0) }

// commonTroubles are those of any piece, the root's among them; each is met at its first sector.
func commonTroubles() []trouble {
	return []trouble{
		{"a bit of the first sector", inChain, api.ErrSum, func(f *forgery, p *piece) {
			f.then(func(d *disk.Disk) { turn(d, p.first(), 300) })
		}},
		{"a chain that leads back", inChain, api.ErrForm, func(f *forgery, p *piece) {
			p.n = 57
			f.then(func(d *disk.Disk) { d.Write(p.first(), link(nil, p.first())) })
		}},
		{"a frame with one byte fewer", inFrame, api.ErrShort, harms(cutByOne)},
		{"a frame with one byte more", inFrame, api.ErrLong, harms(longerByOne)},
		{"another sum", inFrame, api.ErrSum, harms(func(b []byte) []byte { b[len(b)-1] ^= 128; return b })},
		{"another body under the same sum", inFrame, api.ErrSum, harms(func(b []byte) []byte { b[3]++; return b })},
		{"a frame of the kind 0", inFrame, api.ErrForm, func(f *forgery, p *piece) { p.kind = 0 }},
		{"a frame of the next kind", inKind, api.ErrKind, func(f *forgery, p *piece) { p.kind++ }},
		{"a frame of the kind ahead", inKind, api.ErrKind, func(f *forgery, p *piece) { p.kind = 1 + (p.kind+2)%4 }},
		{"a frame of the kind 255", inKind, api.ErrKind, func(f *forgery, p *piece) { p.kind = 255 }},
		{"a body with one byte fewer", inBody, api.ErrShort, says(cutByOne)},
		{"a body with one byte more", inBody, api.ErrLong, says(longerByOne)},
		{"a body of two bytes", inBody, api.ErrShort, says(func(b []byte) []byte { return b[:2] })},
		{"a body with no number at first", inBody, api.ErrForm, says(func(b []byte) []byte { return append([]byte{128, 0}, b[1:]...) })},
	}
}

// troublesOf are those of a piece of a forgery of a view; each is met at its first sector.
func troublesOf(v api.View, f *forgery, i int) []trouble {
	p := f.pieces[i]
	all := commonTroubles()
	all = append(all, trouble{"a sector of the root", inSectors, api.ErrTwice, func(f *forgery, p *piece) { f.shares(p, f.root) }})
	for k := range i {
		all = append(all, trouble{"a sector of an earlier one", inSectors, api.ErrTwice, func(f *forgery, p *piece) {
			f.shares(p, func() *piece { return f.pieces[k] })
		}})
	}
	body := func(name string, b []byte) {
		all = append(all, trouble{name, inCount, api.ErrForm, says(func([]byte) []byte { return b })})
	}
	switch p.of {
	case 1:
		own := v.Kinds[16*p.id : min(16*p.id+16, len(v.Kinds))]
		more := append(own[:len(own):len(own)], kindOf(5))
		if len(own) > 1 {
			body("one kind fewer", kindsBody(own[1:]))
		}
		if len(own) < 16 {
			body("one kind more", kindsBody(more))
		}
		all = append(all, trouble{"no kinds", inBody, api.ErrForm, says(func([]byte) []byte { return []byte{0, 0} })})
	case 2:
		own := v.Rows[32*p.id : min(32*p.id+32, len(v.Rows))]
		more := append(own[:len(own):len(own)], gone(5))
		if len(own) > 1 {
			body("one row fewer", rowsBody(own[1:]))
		}
		if len(own) < 32 {
			body("one row more", rowsBody(more))
		}
		all = append(all, trouble{"no rows", inBody, api.ErrForm, says(func([]byte) []byte { return []byte{0, 0} })})
	case 3:
		all = append(all, spanTroubles()...)
	}
	return all
}

// spanTroubles are those of a span alone.
func spanTroubles() []trouble {
	all := []trouble{
		{"another class", inBody, api.ErrForm, says(func(b []byte) []byte { b[1] = 8; return b })},
		{"the page behind", inCount, api.ErrForm, says(func(b []byte) []byte { b[0]++; return b })},
		{"the last page but 15", inCount, api.ErrForm, says(func(b []byte) []byte { return append(vars(4080), b[1:]...) })},
	}
	for _, to := range []func(f *forgery) int{
		func(f *forgery) int { return f.base + 256*f.pages },
		func(f *forgery) int { return f.base - 1 },
		func(f *forgery) int { return 1 },
		func(f *forgery) int { return -1 },
		func(f *forgery) int { return f.base + 1<<40 },
	} {
		all = append(all, trouble{"an address outside", inMove, api.ErrAddr, func(f *forgery, p *piece) {
			p.leads(to(f))
		}})
	}
	return all
}
