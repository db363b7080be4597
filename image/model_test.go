package image_test

import (
	"encoding/binary"
	"slices"
	"testing"

	"hayloft/api"
	"hayloft/image"
)

// sizes are the bytes of a slot of each small class, as the document tells them.
var sizes = []int{16, 24, 32, 48, 64, 96, 128}

// noise is a row of numbers that look like chance, the same ones each time.
func noise(seed uint64) func(below int) int {
	return func(below int) int {
		seed = seed*6364136223846793005 + 1442695040888963407
		return int(seed>>33) % below
	}
}

// kindOf, of, live and gone are a kind, a span with its live slots, a row of a handle that lives, and a row without one.
func kindOf(size int, ptrs ...int) api.Kind {
	return api.Kind{Size: size, Ptrs: ptrs}
}

func of(page, class, size int, live ...int) api.Span {
	return api.Span{Page: page, Class: class, Size: size, Live: live}
}

func live(gen, kind, at int) api.Row {
	return api.Row{Gen: gen, Live: true, Kind: kind, At: at}
}

func gone(gen int) api.Row {
	return api.Row{Gen: gen}
}

// word and putWord are the number of eight bytes, the lowest first.
func word(b []byte, at int) uint64 {
	return binary.LittleEndian.Uint64(b[at : at+8])
}

func putWord(b []byte, at int, n uint64) {
	binary.LittleEndian.PutUint64(b[at:at+8], n)
}

// upTo are the numbers below n.
func upTo(n int) []int {
	var all []int
	for i := range n {
		all = append(all, i)
	}
	return all
}

// anyBytes are so many bytes.
func anyBytes(chance func(below int) int, n int) []byte {
	b := make([]byte, n)
	for i := range b {
		b[i] = byte(chance(256))
	}
	return b
}

func sameKind(a, b api.Kind) bool {
	return a.Size == b.Size && slices.Equal(a.Ptrs, b.Ptrs)
}

func sameSpan(a, b api.Span) bool {
	return a.Page == b.Page && a.Class == b.Class && a.Size == b.Size && slices.Equal(a.Live, b.Live)
}

func sameView(a, b api.View) bool {
	return a.Base == b.Base && a.Pages == b.Pages && slices.EqualFunc(a.Kinds, b.Kinds, sameKind) && slices.Equal(a.Rows, b.Rows) &&
		slices.EqualFunc(a.Spans, b.Spans, sameSpan) && slices.Equal(a.Bytes, b.Bytes)
}

func sameImage(a, b image.Image) bool {
	return sameSpan(a.Span, b.Span) && a.Base == b.Base && slices.Equal(a.Offs, b.Offs) && slices.Equal(a.Bytes, b.Bytes)
}

// isZero says whether an image is what stands beside an error.
func isZero(m image.Image) bool {
	return sameImage(m, image.Image{})
}

// copyOf and copyOfImage have nothing in common with what they are copies of.
func copyOf(v api.View) api.View {
	v.Kinds, v.Rows, v.Spans, v.Bytes = slices.Clone(v.Kinds), slices.Clone(v.Rows), slices.Clone(v.Spans), slices.Clone(v.Bytes)
	for i := range v.Kinds {
		v.Kinds[i].Ptrs = slices.Clone(v.Kinds[i].Ptrs)
	}
	for i := range v.Spans {
		v.Spans[i].Live = slices.Clone(v.Spans[i].Live)
	}
	return v
}

func copyOfImage(m image.Image) image.Image {
	m.Span.Live, m.Offs, m.Bytes = slices.Clone(m.Span.Live), slices.Clone(m.Offs), slices.Clone(m.Bytes)
	return m
}

// classOf, slotBytes, slotsOf, pagesOf and placeOf say in the document's words what the layers below tell.
func classOf(size int) int {
	for class, n := range sizes {
		if size <= n {
			return class
		}
	}
	return 7
}

func slotBytes(d api.Span) int {
	if d.Class == 7 {
		return d.Size
	}
	return sizes[d.Class]
}

func slotsOf(class int) int {
	if class == 7 {
		return 1
	}
	return 256 / sizes[class]
}

func pagesOf(d api.Span) int {
	return (slotBytes(d) + 255) / 256
}

func placeOf(d api.Span, slot int) int {
	return 256*d.Page + slotBytes(d)*slot
}

// modelNew says whether there may be a span of that page, class and size.
func modelNew(page, class, size int) bool {
	if class < 0 || class > 7 || class < 7 && size != 0 || class == 7 && (size < 129 || size > 4096) {
		return false
	}
	return page >= 0 && page <= 4096-pagesOf(of(page, class, size))
}

// modelOf says whether there may be such a span with these live slots.
func modelOf(d api.Span) bool {
	if !modelNew(d.Page, d.Class, d.Size) {
		return false
	}
	for i, slot := range d.Live {
		if slot < 0 || slot >= slotsOf(d.Class) || i > 0 && slot <= d.Live[i-1] {
			return false
		}
	}
	return true
}

// modelSize is how many bytes an image of a span has.
func modelSize(d api.Span) int {
	if !modelOf(d) {
		return 0
	}
	return len(d.Live) * slotBytes(d)
}

// modelGood says whether an arena may be at a base.
func modelGood(base int) bool {
	return base >= 256 && base <= 1<<40 && base%256 == 0
}

// modelRight says whether an image is right.
func modelRight(m image.Image) bool {
	if !modelOf(m.Span) || len(m.Bytes) != modelSize(m.Span) {
		return false
	}
	for i, p := range m.Offs {
		if p < 0 || p%8 != 0 || p > len(m.Bytes)-8 || i > 0 && p <= m.Offs[i-1] {
			return false
		}
	}
	return modelGood(m.Base) || len(m.Offs) == 0 && m.Base == 0
}

// modelMake is the image of a span of a sound view.
func modelMake(v api.View, d api.Span) image.Image {
	m := image.Image{Span: d}
	for i, slot := range d.Live {
		at, size := placeOf(d, slot), slotBytes(d)
		m.Bytes = append(m.Bytes, v.Bytes[at:at+size]...)
		for _, r := range v.Rows {
			if !r.Live || r.At != at {
				continue
			}
			for _, p := range v.Kinds[r.Kind].Ptrs {
				if word(v.Bytes, at+p) != 0 {
					m.Base = v.Base
					m.Offs = append(m.Offs, i*size+p)
				}
			}
		}
	}
	return m
}

// modelBody are a right image's bytes.
func modelBody(m image.Image) []byte {
	var b []byte
	for _, n := range []int{m.Span.Page, m.Span.Class, m.Span.Size} {
		b = binary.AppendUvarint(b, uint64(n))
	}
	in := make([]byte, (slotsOf(m.Span.Class)+7)/8)
	for _, slot := range m.Span.Live {
		in[slot/8] |= 1 << (slot % 8)
	}
	b = append(b, in...)
	b = binary.AppendUvarint(b, uint64(m.Base/256))
	b = binary.AppendUvarint(b, uint64(len(m.Offs)))
	ahead := -8
	for _, p := range m.Offs {
		b = binary.AppendUvarint(b, uint64(p-ahead)/8-1)
		ahead = p
	}
	return append(b, m.Bytes...)
}

// pen goes through bytes for modelRead, and stops at the first fault.
type pen struct {
	b     []byte
	fault api.Errno
}

// fail makes a fault, if there is none.
func (p *pen) fail(e api.Errno) {
	if p.fault == api.OK {
		p.fault = e
	}
}

// number reads a Var that is at most most.
func (p *pen) number(most uint64) int {
	if p.fault != api.OK {
		return 0
	}
	n := uint64(0)
	for i, c := range p.b {
		if i == 9 && c > 1 || i > 0 && c == 0 {
			p.fail(api.ErrForm)
			return 0
		}
		n += uint64(c&127) << (7 * i)
		if c < 128 {
			p.b = p.b[i+1:]
			if n > most {
				p.fail(api.ErrForm)
				return 0
			}
			return int(n)
		}
	}
	p.fail(api.ErrShort)
	return 0
}

// bytes reads so many bytes.
func (p *pen) bytes(n int) []byte {
	if p.fault == api.OK && n > len(p.b) {
		p.fail(api.ErrShort)
	}
	if p.fault != api.OK {
		return make([]byte, n)
	}
	b := p.b[:n]
	p.b = p.b[n:]
	return b
}

// offs reads a table.
func (p *pen) offs() []int {
	var offs []int
	next := 0
	for range p.number(8192) {
		words := p.number(1 << 63)
		if p.fault == api.OK && (words < 0 || words > 65535 || next+8*words > 65535-8) {
			p.fail(api.ErrForm)
		}
		if p.fault != api.OK {
			return nil
		}
		offs = append(offs, next+8*words)
		next += 8*words + 8
	}
	return offs
}

// modelRead is the right image whose Body bytes are, or the fault that is met first.
func modelRead(b []byte) (image.Image, api.Errno) {
	p := &pen{b: b}
	m := image.Image{}
	m.Span.Page = p.number(4095)
	m.Span.Class = p.number(7)
	m.Span.Size = p.number(4096)
	if p.fault == api.OK && !modelNew(m.Span.Page, m.Span.Class, m.Span.Size) {
		p.fail(api.ErrForm)
	}
	places := slotsOf(m.Span.Class)
	for i, c := range p.bytes((places + 7) / 8) {
		for bit := range 8 {
			if c>>bit&1 == 0 {
				continue
			}
			if 8*i+bit >= places {
				p.fail(api.ErrForm)
			}
			m.Span.Live = append(m.Span.Live, 8*i+bit)
		}
	}
	m.Base = 256 * p.number(1<<32)
	m.Offs = p.offs()
	if p.fault != api.OK {
		return image.Image{}, p.fault
	}
	if len(p.b) < modelSize(m.Span) {
		return image.Image{}, api.ErrShort
	}
	if len(p.b) > modelSize(m.Span) {
		return image.Image{}, api.ErrLong
	}
	m.Bytes = p.b
	if !modelRight(m) {
		return image.Image{}, api.ErrForm
	}
	return m, api.OK
}

// modelMove is an image at another base.
func modelMove(m image.Image, base, n int) (image.Image, api.Errno) {
	if !modelRight(m) {
		return image.Image{}, api.ErrForm
	}
	if !modelGood(base) || n < 0 || n > 256*4096 {
		return image.Image{}, api.ErrArg
	}
	to := copyOfImage(m)
	to.Base = 0
	for _, p := range m.Offs {
		to.Base = base
		address := word(m.Bytes, p)
		if address == 0 {
			continue
		}
		if address > 1<<62 || int(address) < m.Base || int(address) >= m.Base+n {
			return image.Image{}, api.ErrAddr
		}
		putWord(to.Bytes, p, uint64(int(address)-m.Base+base))
	}
	return to, api.OK
}

// makes holds that the image of a span is this one.
func makes(t *testing.T, what any, v api.View, i int, want image.Image) {
	t.Helper()
	if m, e := image.Make(v, i); e != api.OK || !sameImage(m, want) || !image.Right(m) {
		t.Errorf("%v: Make of the span %d: %v, %v, not %v", what, i, m, e, want)
	}
	if !sameImage(modelMake(v, v.Spans[i]), want) {
		t.Errorf("%v: the model of the span %d: %v", what, i, modelMake(v, v.Spans[i]))
	}
}

// refuses holds that no image is made.
func refuses(t *testing.T, what any, v api.View, i int, want api.Errno) {
	t.Helper()
	if m, e := image.Make(v, i); e != want || !isZero(m) {
		t.Errorf("%v: Make(%d): %v, %v, not %v", what, i, m, e, want)
	}
}

// reads holds that bytes are read as the model reads them.
func reads(t *testing.T, b []byte) api.Errno {
	t.Helper()
	m, e := image.Read(b)
	want, wantErr := modelRead(b)
	if e != wantErr || !sameImage(m, want) {
		t.Fatalf("Read(%x): %v, %v, not %v, %v", b, m, e, want, wantErr)
	}
	return e
}

// moves holds that an image is moved as the model moves it.
func moves(t *testing.T, m image.Image, base, n int) api.Errno {
	t.Helper()
	to, e := image.Move(m, base, n)
	want, wantErr := modelMove(m, base, n)
	if e != wantErr || !sameImage(to, want) {
		t.Fatalf("Move(%v, %d, %d): %v, %v, not %v, %v", m, base, n, to, e, want, wantErr)
	}
	return e
}

// anyKinds are some kinds that are right, at least one.
func anyKinds(chance func(below int) int) []api.Kind {
	var kinds []api.Kind
	for range 1 + chance(6) {
		k := kindOf(1 + chance(128))
		if chance(4) == 0 {
			k.Size = 129 + chance(700)
		}
		for p := 8 * chance(4); p <= k.Size-8 && len(k.Ptrs) < 16; p += 8 + 8*chance(5) {
			k.Ptrs = append(k.Ptrs, p)
		}
		kinds = append(kinds, k)
	}
	return kinds
}

// anyView is a sound view of at most so many pages: of any kinds, with any objects in any slots, with rows in any order, and with any bytes outside of fields.
func anyView(chance func(below int) int, most int) api.View {
	v := api.View{Base: 256 * (1 + chance(1000)), Pages: 1 + chance(most), Kinds: anyKinds(chance)}
	v.Bytes = anyBytes(chance, 256*v.Pages)
	for page := chance(2); page < v.Pages; page += chance(2) * chance(3) {
		d, rows := anySpan(chance, v, page)
		if page+pagesOf(d) > v.Pages {
			break
		}
		v.Spans = append(v.Spans, d)
		v.Rows = append(v.Rows, rows...)
		page += pagesOf(d)
	}
	for range chance(4) {
		v.Rows = append(v.Rows, gone(chance(3)))
	}
	for i := range v.Rows {
		j := i + chance(len(v.Rows)-i)
		v.Rows[i], v.Rows[j] = v.Rows[j], v.Rows[i]
	}
	for len(v.Rows) > 0 && v.Rows[len(v.Rows)-1].Gen == 0 {
		v.Rows = v.Rows[:len(v.Rows)-1]
	}
	leadAnywhere(chance, v)
	return v
}

// anySpan is a span for one of a view's kinds, with any live slots, and rows for these.
func anySpan(chance func(below int) int, v api.View, page int) (api.Span, []api.Row) {
	size := v.Kinds[chance(len(v.Kinds))].Size
	d := of(page, classOf(size), 0)
	if d.Class == 7 {
		d.Size = size
	}
	// all kinds whose objects go into its slots
	var fit []int
	for i, k := range v.Kinds {
		if classOf(k.Size) == d.Class && (d.Class < 7 || k.Size == size) {
			fit = append(fit, i)
		}
	}
	var rows []api.Row
	for slot := range slotsOf(d.Class) {
		if chance(2) == 0 {
			d.Live = append(d.Live, slot)
			rows = append(rows, live(1+chance(65535), fit[chance(len(fit))], placeOf(d, slot)))
		}
	}
	return d, rows
}

// leadAnywhere makes each pointer field lead to any object, or to none.
func leadAnywhere(chance func(below int) int, v api.View) {
	for _, r := range v.Rows {
		if !r.Live {
			continue
		}
		for _, p := range v.Kinds[r.Kind].Ptrs {
			to := v.Rows[chance(len(v.Rows))]
			if to.Live && chance(4) > 0 {
				putWord(v.Bytes, r.At+p, uint64(v.Base+to.At))
			} else {
				putWord(v.Bytes, r.At+p, 0)
			}
		}
	}
}

// atBase is a view at another base, the difference added to each field that isn't 0.
func atBase(v api.View, base int) api.View {
	to := copyOf(v)
	to.Base = base
	for _, r := range to.Rows {
		if !r.Live {
			continue
		}
		for _, p := range to.Kinds[r.Kind].Ptrs {
			if n := word(to.Bytes, r.At+p); n != 0 {
				putWord(to.Bytes, r.At+p, n+uint64(base)-uint64(v.Base))
			}
		}
	}
	return to
}

// anyImage is a right image: of any span, with addresses at any places, and with any other bytes.
func anyImage(chance func(below int) int) image.Image {
	m := image.Image{Span: of(chance(4096), chance(7), 0)}
	if chance(3) == 0 {
		m.Span = of(chance(4000), 7, 129+chance(1+chance(3968)))
	}
	for slot := range slotsOf(m.Span.Class) {
		if chance(3) > 0 {
			m.Span.Live = append(m.Span.Live, slot)
		}
	}
	m.Bytes = anyBytes(chance, modelSize(m.Span))
	if chance(3) > 0 {
		m.Base = 256 * (1 + chance(1+chance(1<<30)))
	}
	for p := 8 * chance(8); m.Base > 0 && p <= len(m.Bytes)-8; p += 8 + 8*chance(1+chance(60)) {
		m.Offs = append(m.Offs, p)
		address := uint64(0)
		if chance(6) > 0 {
			address = uint64(m.Base + chance(1+chance(256*4096)))
		}
		putWord(m.Bytes, p, address)
	}
	return m
}
