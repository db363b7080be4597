package audit_test

import (
	"slices"
	"testing"

	"hayloft/api"
	"hayloft/audit"
)

// sizes are the bytes of a slot of each small class, as the document tells them.
var sizes = []int{16, 24, 32, 48, 64, 96, 128}

// noise is a row of numbers that look like chance, the same ones each time.
func noise(seed uint64) func(below int) int {
	return func(below int) int {
		seed = seed*6364136223846793005 + 1442695040888963407
		return int(seed>>33) % below
	}
}

// kindOf, of, live and gone are a kind, a span with its live slots, a row of a handle that lives, and a row without one.
func kindOf(size int, ptrs ...int) api.Kind {
	return api.Kind{Size: size, Ptrs: ptrs}
}

func of(page, class, size int, live ...int) api.Span {
	return api.Span{Page: page, Class: class, Size: size, Live: live}
}

func live(gen, kind, at int) api.Row {
	return api.Row{Gen: gen, Live: true, Kind: kind, At: at}
}

func gone(gen int) api.Row {
	return api.Row{Gen: gen}
}

// word and putWord are the number of eight bytes of a view, the lowest first.
func word(v api.View, at int) uint64 {
	n := uint64(0)
	for i := range 8 {
		n += uint64(v.Bytes[at+i]) << (8 * i)
	}
	return n
}

func putWord(v api.View, at int, n uint64) {
	for i := range 8 {
		v.Bytes[at+i] = byte(n >> (8 * i))
	}
}

// copyOf is a view that has nothing in common with the other.
func copyOf(v api.View) api.View {
	v.Kinds, v.Rows, v.Spans, v.Bytes = slices.Clone(v.Kinds), slices.Clone(v.Rows), slices.Clone(v.Spans), slices.Clone(v.Bytes)
	for i := range v.Kinds {
		v.Kinds[i].Ptrs = slices.Clone(v.Kinds[i].Ptrs)
	}
	for i := range v.Spans {
		v.Spans[i].Live = slices.Clone(v.Spans[i].Live)
	}
	return v
}

func sameKind(a, b api.Kind) bool {
	return a.Size == b.Size && slices.Equal(a.Ptrs, b.Ptrs)
}

func sameSpan(a, b api.Span) bool {
	return a.Page == b.Page && a.Class == b.Class && a.Size == b.Size && slices.Equal(a.Live, b.Live)
}

func sameView(a, b api.View) bool {
	return a.Base == b.Base && a.Pages == b.Pages && slices.EqualFunc(a.Kinds, b.Kinds, sameKind) && slices.Equal(a.Rows, b.Rows) &&
		slices.EqualFunc(a.Spans, b.Spans, sameSpan) && slices.Equal(a.Bytes, b.Bytes)
}

func sameObject(a, b audit.Object) bool {
	return a.Handle == b.Handle && a.Kind == b.Kind && slices.Equal(a.Bytes, b.Bytes) && slices.Equal(a.To, b.To)
}

func sameObjects(a, b []audit.Object) bool {
	return slices.EqualFunc(a, b, sameObject)
}

// classOf, slotBytes, slotsOf, pagesOf and placeOf say in the document's words what the layers below tell.
func classOf(size int) int {
	for class, n := range sizes {
		if size <= n {
			return class
		}
	}
	return 7
}

func slotBytes(d api.Span) int {
	if d.Class == 7 {
		return d.Size
	}
	return sizes[d.Class]
}

func slotsOf(d api.Span) int {
	if d.Class == 7 {
		return 1
	}
	return 256 / sizes[d.Class]
}

func pagesOf(d api.Span) int {
	return (slotBytes(d) + 255) / 256
}

func placeOf(d api.Span, slot int) int {
	return 256*d.Page + slotBytes(d)*slot
}

// modelCheck is in the document's words the least rule that is broken, and the least number at which it is.
func modelCheck(v api.View) (int, int) {
	rules := []struct {
		numbers int
		broken  func(v api.View, at int) bool
	}{
		{1, func(v api.View, _ int) bool { return breaks1(v) }}, {len(v.Kinds), breaks2}, {len(v.Spans), breaks3}, {len(v.Rows), breaks4},
		{len(v.Rows), breaks5}, {len(v.Spans), breaks6}, {len(v.Rows), breaks7},
	}
	for i, r := range rules {
		for at := range r.numbers {
			if r.broken(v, at) {
				return i + 1, at
			}
		}
	}
	return 0, 0
}

func breaks1(v api.View) bool {
	if v.Pages < 1 || v.Pages > 4096 || v.Base < 256 || v.Base > 1<<40 || v.Base%256 != 0 {
		return true
	}
	return len(v.Bytes) != 256*v.Pages || len(v.Kinds) > 64 || len(v.Rows) > 4096
}

func breaks2(v api.View, at int) bool {
	k := v.Kinds[at]
	if k.Size < 1 || k.Size > 4096 || len(k.Ptrs) > 16 {
		return true
	}
	for i, p := range k.Ptrs {
		if p < 0 || p%8 != 0 || p > k.Size-8 || i > 0 && p <= k.Ptrs[i-1] {
			return true
		}
	}
	return false
}

// breaks3 takes it that the spans ahead break no rule.
func breaks3(v api.View, at int) bool {
	d := v.Spans[at]
	if d.Class < 0 || d.Class > 7 || d.Class < 7 && d.Size != 0 || d.Class == 7 && (d.Size < 129 || d.Size > 4096) {
		return true
	}
	if d.Page < 0 || d.Page > 4096-pagesOf(d) || d.Page+pagesOf(d) > v.Pages {
		return true
	}
	for i, slot := range d.Live {
		if slot < 0 || slot >= slotsOf(d) || i > 0 && slot <= d.Live[i-1] {
			return true
		}
	}
	return at > 0 && d.Page < v.Spans[at-1].Page+pagesOf(v.Spans[at-1])
}

func breaks4(v api.View, at int) bool {
	r := v.Rows[at]
	if r.Gen < 0 || r.Gen > 65535 || at == len(v.Rows)-1 && r.Gen == 0 {
		return true
	}
	if !r.Live {
		return r.Kind != 0 || r.At != 0
	}
	if r.Gen == 0 || r.Kind < 0 || r.Kind >= len(v.Kinds) {
		return true
	}
	size := v.Kinds[r.Kind].Size
	for _, d := range v.Spans {
		for _, slot := range d.Live {
			if placeOf(d, slot) == r.At && d.Class == classOf(size) && (d.Class < 7 || d.Size == size) {
				return false
			}
		}
	}
	return true
}

func breaks5(v api.View, at int) bool {
	r := v.Rows[at]
	return r.Live && slices.ContainsFunc(v.Rows[:at], func(o api.Row) bool { return o.Live && o.At == r.At })
}

func breaks6(v api.View, at int) bool {
	d := v.Spans[at]
	for _, slot := range d.Live {
		if !slices.ContainsFunc(v.Rows, func(r api.Row) bool { return r.Live && r.At == placeOf(d, slot) }) {
			return true
		}
	}
	return false
}

func breaks7(v api.View, at int) bool {
	r := v.Rows[at]
	if !r.Live {
		return false
	}
	for _, p := range v.Kinds[r.Kind].Ptrs {
		if n := word(v, r.At+p); n != 0 && modelNamed(v, n) == 0 {
			return true
		}
	}
	return false
}

// modelNamed is the handle of the object at an address; 0, if none is there.
func modelNamed(v api.View, address uint64) api.Handle {
	for i, r := range v.Rows {
		if r.Live && uint64(v.Base+r.At) == address {
			return api.Handle(i + 1 + 65536*r.Gen)
		}
	}
	return 0
}

// modelObjects is in the document's words what can be seen of a sound view.
func modelObjects(v api.View) []audit.Object {
	var all []audit.Object
	for i, r := range v.Rows {
		if !r.Live {
			continue
		}
		k := v.Kinds[r.Kind]
		o := audit.Object{Handle: api.Handle(i + 1 + 65536*r.Gen), Kind: r.Kind}
		for at := range k.Size {
			b := v.Bytes[r.At+at]
			if slices.ContainsFunc(k.Ptrs, func(p int) bool { return at >= p && at < p+8 }) {
				b = 0
			}
			o.Bytes = append(o.Bytes, b)
		}
		for _, p := range k.Ptrs {
			o.To = append(o.To, modelNamed(v, word(v, r.At+p)))
		}
		all = append(all, o)
	}
	return all
}

// breaksAt holds that a view breaks this rule first, at this number, and that nothing is seen of it.
func breaksAt(t *testing.T, what any, v api.View, rule, at int) {
	t.Helper()
	if gotRule, gotAt := audit.Check(v); gotRule != rule || gotAt != at {
		t.Errorf("%v: Check: %d, %d, not %d, %d", what, gotRule, gotAt, rule, at)
	}
	if l := audit.Objects(v); len(l) != 0 {
		t.Errorf("%v: Objects: %v", what, l)
	}
	if modelRule, modelAt := modelCheck(v); modelRule != rule || modelAt != at {
		t.Errorf("%v: the model tells %d, %d, not %d, %d", what, modelRule, modelAt, rule, at)
	}
}

// isSound holds that a view is sound, and that just these objects are seen of it.
func isSound(t *testing.T, what any, v api.View, objects []audit.Object) {
	t.Helper()
	if rule, at := audit.Check(v); rule != 0 || at != 0 {
		t.Errorf("%v: Check: %d, %d", what, rule, at)
	}
	if l := audit.Objects(v); !sameObjects(l, objects) {
		t.Errorf("%v: Objects: %v, not %v", what, l, objects)
	}
	if rule, at := modelCheck(v); rule != 0 || at != 0 {
		t.Errorf("%v: the model tells %d, %d", what, rule, at)
	}
}

// anyKinds are some kinds that are right, at least one.
func anyKinds(chance func(below int) int) []api.Kind {
	var kinds []api.Kind
	for range 1 + chance(6) {
		k := kindOf(1 + chance(128))
		if chance(4) == 0 {
			k.Size = 129 + chance(700)
		}
		for p := 8 * chance(4); p <= k.Size-8 && len(k.Ptrs) < 16; p += 8 + 8*chance(5) {
			k.Ptrs = append(k.Ptrs, p)
		}
		kinds = append(kinds, k)
	}
	return kinds
}

// anyView is a sound view of at most so many pages: of any kinds, with any objects in any slots, with rows in any order, and with any bytes outside of fields.
func anyView(chance func(below int) int, most int) api.View {
	v := api.View{Base: 256 * (1 + chance(1000)), Pages: 1 + chance(most), Kinds: anyKinds(chance)}
	v.Bytes = make([]byte, 256*v.Pages)
	for i := range v.Bytes {
		v.Bytes[i] = byte(chance(256))
	}
	for page := chance(2); page < v.Pages; page += chance(2) * chance(3) {
		d, rows := anySpan(chance, v, page)
		if page+pagesOf(d) > v.Pages {
			break
		}
		v.Spans = append(v.Spans, d)
		v.Rows = append(v.Rows, rows...)
		page += pagesOf(d)
	}
	for range chance(4) {
		v.Rows = append(v.Rows, gone(chance(3)))
	}
	for i := range v.Rows {
		j := i + chance(len(v.Rows)-i)
		v.Rows[i], v.Rows[j] = v.Rows[j], v.Rows[i]
	}
	for len(v.Rows) > 0 && v.Rows[len(v.Rows)-1].Gen == 0 {
		v.Rows = v.Rows[:len(v.Rows)-1]
	}
	leadAnywhere(chance, v)
	return v
}

// anySpan is a span for one of a view's kinds, with any live slots, and rows for these.
func anySpan(chance func(below int) int, v api.View, page int) (api.Span, []api.Row) {
	size := v.Kinds[chance(len(v.Kinds))].Size
	d := of(page, classOf(size), 0)
	if d.Class == 7 {
		d.Size = size
	}
	// all kinds whose objects go into its slots
	var fit []int
	for i, k := range v.Kinds {
		if classOf(k.Size) == d.Class && (d.Class < 7 || k.Size == size) {
			fit = append(fit, i)
		}
	}
	var rows []api.Row
	for slot := range slotsOf(d) {
		if chance(2) == 0 {
			d.Live = append(d.Live, slot)
			rows = append(rows, live(1+chance(65535), fit[chance(len(fit))], placeOf(d, slot)))
		}
	}
	return d, rows
}

// leadAnywhere makes each pointer field lead to any object, or to none.
func leadAnywhere(chance func(below int) int, v api.View) {
	for _, r := range v.Rows {
		if !r.Live {
			continue
		}
		for _, p := range v.Kinds[r.Kind].Ptrs {
			to := v.Rows[chance(len(v.Rows))]
			if to.Live && chance(4) > 0 {
				putWord(v, r.At+p, uint64(v.Base+to.At))
			} else {
				putWord(v, r.At+p, 0)
			}
		}
	}
}
