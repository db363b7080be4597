package cache_test

import (
	"math"
	"slices"
	"testing"

	"hayloft/api"
	"hayloft/cache"
)

// sizes are the bytes of a slot of each small class, as the document tells them.
var sizes = []int{16, 24, 32, 48, 64, 96, 128}

// What a slot of the model is; kept+w, if the worker w keeps it.
const (
	free = iota
	live
	kept
)

// lot is a span of the model.
type lot struct {
	page, pages, class, size int
	slots                    []int
}

// model is in the document's words what a cache must be; the slots alone say what there is, and all is looked for one by one.
type model struct {
	pages, workers int
	lots           []lot
}

// classOf is the class of an object of so many bytes; -1, if there is none.
func classOf(n int) int {
	if n < 1 || n > 4096 {
		return -1
	}
	for class, bytes := range sizes {
		if n <= bytes {
			return class
		}
	}
	return 7
}

// newLot is a span none of whose slots is taken, of a class with a slot of so many bytes.
func newLot(page, class, size int) lot {
	if class == 7 {
		return lot{page: page, pages: (size + 255) / 256, class: class, size: size, slots: make([]int, 1)}
	}
	return lot{page: page, pages: 1, class: class, slots: make([]int, 256/sizes[class])}
}

// modelOf is the model of spans that may stand.
func modelOf(pages, workers int, spans []api.Span) *model {
	m := &model{pages: pages, workers: workers}
	for _, d := range spans {
		l := newLot(d.Page, d.Class, d.Size)
		for _, slot := range d.Live {
			l.slots[slot] = live
		}
		m.lots = append(m.lots, l)
	}
	return m
}

// at is the place of a slot.
func (l lot) at(slot int) int {
	if l.class == 7 {
		return 256 * l.page
	}
	return 256*l.page + slot*sizes[l.class]
}

// pageFree says whether a page is there and in no span.
func (m *model) pageFree(page int) bool {
	return page >= 0 && page < m.pages && !slices.ContainsFunc(m.lots, func(l lot) bool {
		return page >= l.page && page < l.page+l.pages
	})
}

// room is the least page from which on so many are free; -1, if there is none.
func (m *model) room(pages int) int {
	for page := range m.pages {
		whole := true
		for i := range pages {
			whole = whole && m.pageFree(page+i)
		}
		if whole {
			return page
		}
	}
	return -1
}

// add puts a span of that class into the least room for it, and says whether there is any.
func (m *model) add(class, size int) (lot, bool) {
	l := newLot(0, class, size)
	l.page = m.room(l.pages)
	if l.page < 0 {
		return lot{}, false
	}
	m.lots = append(m.lots, l)
	slices.SortFunc(m.lots, func(a, b lot) int { return a.page - b.page })
	return l, true
}

// slotsThat are all slots of a small class of that state, by their places.
func (m *model) slotsThat(class, state int) []*int {
	var all []*int
	for _, l := range m.lots {
		for slot := range l.slots {
			if l.class == class && l.slots[slot] == state {
				all = append(all, &l.slots[slot])
			}
		}
	}
	return all
}

// placesThat are their places.
func (m *model) placesThat(class, state int) []int {
	var all []int
	for _, l := range m.lots {
		for slot := range l.slots {
			if l.class == class && l.slots[slot] == state {
				all = append(all, l.at(slot))
			}
		}
	}
	return all
}

func (m *model) take(w, n int) (int, api.Errno) {
	class := classOf(n)
	if w < 0 || w >= m.workers || class < 0 {
		return 0, api.ErrArg
	}
	if class == 7 {
		l, ok := m.add(7, n)
		if !ok {
			return 0, api.ErrMemory
		}
		l.slots[0] = live
		return 256 * l.page, api.OK
	}
	if len(m.slotsThat(class, kept+w)) == 0 {
		if len(m.slotsThat(class, free)) == 0 {
			if _, ok := m.add(class, 0); !ok {
				return 0, api.ErrMemory
			}
		}
		for i, slot := range m.slotsThat(class, free) {
			if i < 4 {
				*slot = kept + w
			}
		}
	}
	at := m.placesThat(class, kept+w)[0]
	*m.slotsThat(class, kept+w)[0] = live
	return at, api.OK
}

// lives is which span and slot is live and begins at a place.
func (m *model) lives(at int) (int, int, bool) {
	for i, l := range m.lots {
		for slot, state := range l.slots {
			if state == live && l.at(slot) == at {
				return i, slot, true
			}
		}
	}
	return 0, 0, false
}

func (m *model) give(w, at int) api.Errno {
	if w < 0 || w >= m.workers {
		return api.ErrArg
	}
	i, slot, ok := m.lives(at)
	if !ok {
		return api.ErrAddr
	}
	l := m.lots[i]
	if l.class == 7 {
		m.lots = slices.Delete(m.lots, i, i+1)
		return api.OK
	}
	l.slots[slot] = kept + w
	if his := m.slotsThat(l.class, kept+w); len(his) > 8 {
		for _, slot := range his[len(his)-4:] {
			*slot = free
		}
	}
	return api.OK
}

func (m *model) flush(w int) api.Errno {
	if w < 0 || w >= m.workers {
		return api.ErrArg
	}
	for class := range sizes {
		for _, slot := range m.slotsThat(class, kept+w) {
			*slot = free
		}
	}
	return api.OK
}

func (m *model) scavenge() int {
	pages := 0
	m.lots = slices.DeleteFunc(m.lots, func(l lot) bool {
		if slices.Max(l.slots) > free {
			return false
		}
		pages += l.pages
		return true
	})
	return pages
}

func (m *model) spans() []api.Span {
	var all []api.Span
	for _, l := range m.lots {
		d := api.Span{Page: l.page, Class: l.class, Size: l.size}
		for slot, state := range l.slots {
			if state == live {
				d.Live = append(d.Live, slot)
			}
		}
		all = append(all, d)
	}
	return all
}

func (m *model) freeRuns() []api.Run {
	var all []api.Run
	for page := range m.pages {
		switch {
		case !m.pageFree(page):
		case m.pageFree(page - 1):
			all[len(all)-1].Len++
		default:
			all = append(all, api.Run{At: page, Len: 1})
		}
	}
	return all
}

func same(d, e api.Span) bool {
	return d.Page == e.Page && d.Class == e.Class && d.Size == e.Size && slices.Equal(d.Live, e.Live)
}

// both is a cache and its model: what is done is done to both, and must be answered alike and leave them alike.
type both struct {
	t *testing.T
	c *cache.Cache
	m *model
}

// from is a cache of spans that may stand, with its model.
func from(t *testing.T, pages, workers int, spans ...api.Span) both {
	t.Helper()
	c, e := cache.From(pages, workers, spans)
	if c == nil || e != api.OK {
		t.Fatalf("From(%d, %d, %v): %v", pages, workers, spans, e)
	}
	x := both{t, c, modelOf(pages, workers, spans)}
	x.alike()
	return x
}

// alike holds that all that can be asked of the cache is as the model says.
func (x both) alike() {
	x.t.Helper()
	if got := x.c.Spans(); !slices.EqualFunc(got, x.m.spans(), same) {
		x.t.Fatalf("Spans: %v, not %v", got, x.m.spans())
	}
	if got := x.c.Free(); !slices.Equal(got, x.m.freeRuns()) {
		x.t.Fatalf("Free: %v, not %v", got, x.m.freeRuns())
	}
	for w := -1; w <= x.m.workers; w++ {
		for class := -1; class <= 8; class++ {
			var want []int
			if w >= 0 && w < x.m.workers && class >= 0 && class < 7 {
				want = x.m.placesThat(class, kept+w)
			}
			if got := x.c.Kept(w, class); !slices.Equal(got, want) {
				x.t.Fatalf("Kept(%d, %d): %v, not %v", w, class, got, want)
			}
		}
	}
	lives := map[int]bool{}
	for _, l := range x.m.lots {
		for slot, state := range l.slots {
			lives[l.at(slot)] = state == live
		}
	}
	// the bytes of more than some pages would take long
	for at := -300; at < 256*min(x.m.pages, 12)+300; at++ {
		if x.c.Live(at) != lives[at] {
			x.t.Fatalf("Live(%d): %v", at, !lives[at])
		}
	}
	for at := range lives {
		if x.c.Live(at) != lives[at] {
			x.t.Fatalf("Live(%d): %v", at, !lives[at])
		}
	}
}

func (x both) take(w, n int) (int, api.Errno) {
	x.t.Helper()
	at, e := x.c.Take(w, n)
	if wantAt, want := x.m.take(w, n); at != wantAt || e != want {
		x.t.Fatalf("Take(%d, %d): %d, %v, not %d, %v", w, n, at, e, wantAt, want)
	}
	x.alike()
	return at, e
}

func (x both) give(w, at int) api.Errno {
	x.t.Helper()
	e := x.c.Give(w, at)
	if want := x.m.give(w, at); e != want {
		x.t.Fatalf("Give(%d, %d): %v, not %v", w, at, e, want)
	}
	x.alike()
	return e
}

func (x both) flush(w int) api.Errno {
	x.t.Helper()
	e := x.c.Flush(w)
	if want := x.m.flush(w); e != want {
		x.t.Fatalf("Flush(%d): %v, not %v", w, e, want)
	}
	x.alike()
	return e
}

func (x both) scavenge() int {
	x.t.Helper()
	n := x.c.Scavenge()
	if want := x.m.scavenge(); n != want {
		x.t.Fatalf("Scavenge: %d, not %d", n, want)
	}
	x.alike()
	return n
}

// takes holds that Takes of one size are answered with these places, one by one.
func (x both) takes(w, n int, places ...int) {
	x.t.Helper()
	for _, want := range places {
		if at, e := x.take(w, n); at != want || e != api.OK {
			x.t.Fatalf("Take(%d, %d): %d, %v, not %d", w, n, at, e, want)
		}
	}
}

// noMemory holds that there is no place for so many bytes.
func (x both) noMemory(w, n int) {
	x.t.Helper()
	if at, e := x.take(w, n); at != 0 || e != api.ErrMemory {
		x.t.Fatalf("Take(%d, %d): %d, %v, not ErrMemory", w, n, at, e)
	}
}

// gives holds that each of these places can be given.
func (x both) gives(w int, places ...int) {
	x.t.Helper()
	for _, at := range places {
		if e := x.give(w, at); e != api.OK {
			x.t.Fatalf("Give(%d, %d): %v", w, at, e)
		}
	}
}

// keeps holds that these are the places that a worker keeps of a class.
func (x both) keeps(w, class int, places ...int) {
	x.t.Helper()
	if got := x.c.Kept(w, class); !slices.Equal(got, places) {
		x.t.Fatalf("Kept(%d, %d): %v, not %v", w, class, got, places)
	}
}

// isFree holds that these are the free pages.
func (x both) isFree(want ...api.Run) {
	x.t.Helper()
	if got := x.c.Free(); !slices.Equal(got, want) {
		x.t.Fatalf("Free: %v, not %v", got, want)
	}
}

// anyInts are numbers at the edges of what there is.
var anyInts = []int{math.MinInt, math.MinInt + 1, -api.PageSize, -2, -1, 0, 1, 2, api.PageSize, api.MaxPages, math.MaxInt - 1, math.MaxInt}

// noise is a row of numbers that look like chance, the same ones each time.
func noise(seed uint64) func(below int) int {
	return func(below int) int {
		seed = seed*6364136223846793005 + 1442695040888963407
		return int(seed>>33) % below
	}
}

// of is data of a span, with the slots that are live.
func of(page, class, size int, live ...int) api.Span {
	return api.Span{Page: page, Class: class, Size: size, Live: live}
}

// run is some pages side by side.
func run(at, pages int) api.Run {
	return api.Run{At: at, Len: pages}
}

// upto are the numbers below n.
func upto(n int) []int {
	all := []int{}
	for i := range n {
		all = append(all, i)
	}
	return all
}
