package span_test

import (
	"math"
	"slices"
	"testing"

	"hayloft/api"
	"hayloft/span"
)

// sizes are the bytes of a slot of each small class, as the document tells them.
var sizes = []int{16, 24, 32, 48, 64, 96, 128}

// anyInts are numbers at the edges of what there is.
var anyInts = []int{math.MinInt, math.MinInt + 1, -api.PageSize, -2, -1, 0, 1, 2, api.PageSize, api.MaxPages, math.MaxInt - 1, math.MaxInt}

// noise is a row of numbers that look like chance, the same ones each time.
func noise(seed uint64) func(below int) int {
	return func(below int) int {
		seed = seed*6364136223846793005 + 1442695040888963407
		return int(seed>>33) % below
	}
}

// of is data of a span, with the slots that are taken.
func of(page, class, size int, live ...int) api.Span {
	return api.Span{Page: page, Class: class, Size: size, Live: live}
}

func same(d, e api.Span) bool {
	return d.Page == e.Page && d.Class == e.Class && d.Size == e.Size && slices.Equal(d.Live, e.Live)
}

// upto are the slots below n.
func upto(n int) []int {
	slots := []int{}
	for i := range n {
		slots = append(slots, i)
	}
	return slots
}

// slotBytes, slotsOf and pagesOf say in the document's words what a span has of which nothing is taken.
func slotBytes(d api.Span) int {
	if d.Class == api.Large {
		return d.Size
	}
	return sizes[d.Class]
}

func slotsOf(d api.Span) int {
	if d.Class == api.Large {
		return 1
	}
	return api.PageSize / sizes[d.Class]
}

func pagesOf(d api.Span) int {
	pages := 1
	for pages*api.PageSize < slotBytes(d) {
		pages++
	}
	return pages
}

// rights are data of spans of each class, at the first and the last pages there may be, none of whose slots is taken.
func rights() []api.Span {
	all := []api.Span{}
	for class := range sizes {
		for _, page := range []int{0, 1, 2, 77, api.MaxPages - 2, api.MaxPages - 1} {
			all = append(all, of(page, class, 0))
		}
	}
	for _, size := range []int{129, 130, 255, 256, 257, 300, 511, 512, 513, 2048, 2049, api.MaxSize - 256, api.MaxSize - 255, api.MaxSize - 1, api.MaxSize} {
		last := api.MaxPages - pagesOf(of(0, api.Large, size))
		for _, page := range []int{0, 1, 2, last - 1, last} {
			all = append(all, of(page, api.Large, size))
		}
	}
	return all
}

// wrongs are data of which there is no span, with what is wrong; none of it is Live.
func wrongs() map[api.Errno][]api.Span {
	last := api.MaxPages - 1
	return map[api.Errno][]api.Span{
		api.ErrKind: {
			of(0, -1, 0), of(0, 8, 0), of(0, math.MinInt, 0), of(0, math.MaxInt, 0), of(0, 8, 300), of(0, -1, 300), of(0, 256, 0),
			of(-1, -1, 0), of(-1, 8, 0), of(api.MaxPages, 8, 0), of(0, 8, -1), of(0, -1, 5), of(0, 8, api.MaxSize+1),
			of(-1, -1, -1), of(api.MaxPages, 8, 5), of(math.MinInt, math.MinInt, math.MinInt), of(math.MaxInt, math.MaxInt, math.MaxInt),
		},
		api.ErrArg: {
			of(0, 0, 1), of(0, 0, -1), of(0, 0, 16), of(0, 1, 24), of(0, 3, 48), of(0, 6, 1), of(0, 6, -1), of(0, 6, 128), of(0, 6, 129), of(0, 6, 300),
			of(0, 2, math.MinInt), of(0, 2, math.MaxInt), of(last, 4, 64),
			of(0, 7, -1), of(0, 7, 0), of(0, 7, 1), of(0, 7, 100), of(0, 7, 127), of(0, 7, 128), of(0, 7, api.MaxSize+1), of(0, 7, -300),
			of(0, 7, math.MinInt), of(0, 7, math.MaxInt), of(last, 7, 128), of(last, 7, api.MaxSize+1),
			of(-1, 3, 5), of(api.MaxPages, 3, 48), of(-1, 7, 128), of(-1, 7, 0), of(api.MaxPages, 7, api.MaxSize+1), of(math.MinInt, 0, 1), of(math.MaxInt, 7, math.MaxInt),
		},
		api.ErrAddr: {
			of(-1, 0, 0), of(api.MaxPages, 0, 0), of(-1, 6, 0), of(api.MaxPages, 6, 0), of(api.MaxPages+1, 3, 0), of(math.MinInt, 0, 0), of(math.MaxInt, 0, 0),
			of(-1, 7, 129), of(api.MaxPages, 7, 129), of(-1, 7, 256), of(api.MaxPages, 7, 256), of(-1, 7, 257), of(last, 7, 257), of(last, 7, 300), of(last, 7, 512),
			of(last-1, 7, 513), of(last, 7, 513), of(-1, 7, api.MaxSize), of(last-14, 7, api.MaxSize), of(last, 7, api.MaxSize), of(last-14, 7, api.MaxSize-255), of(-16, 7, api.MaxSize),
			of(math.MinInt, 7, 129), of(math.MinInt, 7, api.MaxSize), of(math.MaxInt, 7, 129), of(math.MaxInt, 7, api.MaxSize), of(math.MaxInt-15, 7, api.MaxSize),
		},
	}
}

// spanHas holds that a span is the one that data tell, however it is asked.
func spanHas(t *testing.T, s *span.Span, want api.Span) {
	t.Helper()
	if s == nil {
		t.Fatalf("no span, but %v", want)
	}
	if d := s.Data(); !same(d, want) {
		t.Errorf("Data: %v, not %v", d, want)
	}
	told := [6]int{s.Page(), s.Class(), s.Pages(), s.Size(), s.Slots(), s.Live()}
	if told != [6]int{want.Page, want.Class, pagesOf(want), slotBytes(want), slotsOf(want), len(want.Live)} {
		t.Errorf("Page, Class, Pages, Size, Slots, Live of %v: %v", want, told)
	}
	for slot := -3; slot < slotsOf(want)+3; slot++ {
		if has := s.Has(slot); has != slices.Contains(want.Live, slot) {
			t.Errorf("Has(%d) of %v: %v", slot, want, has)
		}
	}
	for _, slot := range []int{math.MinInt, -64, slotsOf(want) + 48, 64, 256, math.MaxInt} {
		if s.Has(slot) {
			t.Errorf("Has(%d) of %v", slot, want)
		}
	}
}

// made is the span that data tell; there must be one.
func made(t *testing.T, d api.Span) *span.Span {
	t.Helper()
	s, e := span.Of(d)
	if s == nil || e != api.OK {
		t.Fatalf("Of(%v): %v", d, e)
	}
	return s
}

// P10.1, P10.2
func TestNew(t *testing.T) {
	for _, d := range rights() {
		s, e := span.New(d.Page, d.Class, d.Size)
		if e != api.OK {
			t.Errorf("New of %v: %v", d, e)
		}
		spanHas(t, s, d)
	}
}

// P10.1
func TestNoSuchSpan(t *testing.T) {
	for want, all := range wrongs() {
		for _, d := range all {
			if s, e := span.New(d.Page, d.Class, d.Size); s != nil || e != want {
				t.Errorf("New of %v: %v, not %v", d, e, want)
			}
			// what is wrong with Live comes behind all else
			for _, live := range [][]int{nil, {0}, {-1}, {1, 0}, {0, 0}, {1000}} {
				d.Live = live
				if s, e := span.Of(d); s != nil || e != want {
					t.Errorf("Of(%v): %v, not %v", d, e, want)
				}
			}
		}
	}
}

// plainNew says in the document's words what is wrong with a page, a class and a size.
func plainNew(d api.Span) api.Errno {
	if d.Class < 0 || d.Class > 7 {
		return api.ErrKind
	}
	if d.Class < 7 && d.Size != 0 || d.Class == 7 && (d.Size < 129 || d.Size > 4096) {
		return api.ErrArg
	}
	if d.Page < 0 || d.Page >= 4096 || d.Page+pagesOf(d)-1 >= 4096 {
		return api.ErrAddr
	}
	return api.OK
}

// P10.1
func TestNewOfAllThereIsNearTheEdges(t *testing.T) {
	pages := append(slices.Clone(anyInts), upto(3)...)
	for i := range 20 {
		pages = append(pages, api.MaxPages-18+i)
	}
	bytes := append(slices.Clone(anyInts), sizes...)
	for _, n := range []int{128, 256, 512, 1024, 3840, api.MaxSize} {
		bytes = append(bytes, n-1, n, n+1)
	}
	for _, class := range append(upto(9), anyInts...) {
		for _, page := range pages {
			for _, size := range bytes {
				d := of(page, class, size)
				want := plainNew(d)
				s, e := span.New(page, class, size)
				if e != want || (s == nil) != (want != api.OK) {
					t.Fatalf("New of %v: %v, not %v", d, e, want)
				}
				if o, e := span.Of(d); e != want || (o == nil) != (want != api.OK) {
					t.Fatalf("Of(%v): %v, not %v", d, e, want)
				}
			}
		}
	}
}

// P10.1, P10.2
func TestOf(t *testing.T) {
	chance := noise(10)
	for _, d := range rights() {
		slots := slotsOf(d)
		for _, live := range [][]int{nil, {}, {0}, {slots - 1}, upto(slots), upto(slots - 1), upto(slots)[1:]} {
			d.Live = live
			spanHas(t, made(t, d), d)
		}
		for range 10 {
			d.Live = slices.DeleteFunc(upto(slots), func(int) bool { return chance(2) == 0 })
			spanHas(t, made(t, d), d)
		}
	}
}

// P10.1
func TestOfLivesThatArentRight(t *testing.T) {
	for _, d := range rights() {
		last := slotsOf(d) - 1
		lists := [][]int{
			{-1}, {last + 1}, {last + 2}, {64}, {256}, {math.MinInt}, {math.MaxInt}, {-1, 0}, {0, 0}, {last, last}, {0, -1},
			{last, last + 1}, {0, last + 1}, {0, math.MinInt}, {0, math.MaxInt}, {math.MinInt, 0}, upto(last + 2), make([]int, 1000),
			append(upto(last+1), 0), append(upto(last+1), last), append([]int{0}, upto(last+1)...),
		}
		if last > 0 {
			falling := upto(last + 1)
			slices.Reverse(falling)
			lists = append(lists, falling, []int{1, 0}, []int{last, 0}, []int{0, 1, 1}, []int{0, 1, 0}, []int{1, 1}, []int{last - 1, last, last - 1})
		}
		if last > 1 {
			lists = append(lists, []int{2, 1}, []int{last, last - 1}, []int{0, last, last - 1})
		}
		for _, live := range lists {
			d.Live = live
			if s, e := span.Of(d); s != nil || e != api.ErrForm {
				t.Errorf("Of(%v): %v", d, e)
			}
		}
	}
}

// P10.3
func TestTake(t *testing.T) {
	for _, d := range rights() {
		s := made(t, d)
		for want := range slotsOf(d) {
			if slot, ok := s.Take(); slot != want || !ok {
				t.Errorf("Take of %v: %d, %v", d, slot, ok)
			}
			d.Live = append(d.Live, want)
			spanHas(t, s, d)
		}
		full(t, s, d)
	}
}

// full holds that nothing can be taken of a span any more, and that asking for it changes nothing.
func full(t *testing.T, s *span.Span, d api.Span) {
	t.Helper()
	for range 2 {
		if slot, ok := s.Take(); slot != 0 || ok {
			t.Errorf("Take of %v: %d, %v", d, slot, ok)
		}
		spanHas(t, s, d)
	}
}

// P10.3
func TestTakeBehindGive(t *testing.T) {
	for _, d := range rights() {
		slots := slotsOf(d)
		all := upto(slots)
		for _, given := range all {
			d.Live = all
			s := made(t, d)
			if !s.Give(given) {
				t.Errorf("Give(%d) of %v", given, d)
			}
			d.Live = slices.Concat(all[:given], all[given+1:])
			spanHas(t, s, d)
			if s.Give(given) {
				t.Errorf("Give(%d) of %v, twice", given, d)
			}
			spanHas(t, s, d)
			if slot, ok := s.Take(); slot != given || !ok {
				t.Errorf("Take of %v: %d, %v", d, slot, ok)
			}
			d.Live = all
			spanHas(t, s, d)
			full(t, s, d)
		}
	}
}

// P10.3
func TestGiveOfWhatIsntTaken(t *testing.T) {
	for _, d := range rights() {
		slots := slotsOf(d)
		for _, live := range [][]int{nil, upto(slots), {slots - 1}, upto(slots - 1)} {
			d.Live = live
			s := made(t, d)
			for _, slot := range slices.Concat(anyInts, upto(slots), []int{slots, slots + 1, 64, 64 + slots, 256}) {
				if slices.Contains(live, slot) {
					continue
				}
				if s.Give(slot) {
					t.Errorf("Give(%d) of %v", slot, d)
				}
			}
			spanHas(t, s, d)
		}
	}
}

// P10.3, P10.2
func TestTakeAndGiveInAnyOrder(t *testing.T) {
	chance := noise(4)
	for _, d := range rights() {
		slots := slotsOf(d)
		s, taken := made(t, d), make([]bool, slots)
		for range 200 {
			slot := chance(slots+2) - 1
			if chance(2) == 0 {
				want := slices.Index(taken, false)
				if got, ok := s.Take(); got != max(0, want) || ok != (want >= 0) {
					t.Fatalf("Take of %v: %d, %v, not %d", s.Data(), got, ok, want)
				}
				if want >= 0 {
					taken[want] = true
				}
			} else {
				want := slot >= 0 && slot < slots && taken[slot]
				if got := s.Give(slot); got != want {
					t.Fatalf("Give(%d) of %v: %v", slot, s.Data(), got)
				}
				if want {
					taken[slot] = false
				}
			}
			d.Live = slices.DeleteFunc(upto(slots), func(slot int) bool { return !taken[slot] })
			spanHas(t, s, d)
		}
	}
}

// P10.4
func TestAt(t *testing.T) {
	for _, d := range rights() {
		slots := slotsOf(d)
		for _, live := range [][]int{nil, upto(slots), {slots - 1}} {
			d.Live = live
			s := made(t, d)
			place := d.Page * api.PageSize
			for slot := range slots {
				if at, ok := s.At(slot); at != place || !ok {
					t.Errorf("At(%d) of %v: %d, %v", slot, d, at, ok)
				}
				place += slotBytes(d)
			}
			for _, slot := range slices.Concat(anyInts, []int{slots, slots + 1, 64, 256}) {
				if slot >= 0 && slot < slots {
					continue
				}
				if at, ok := s.At(slot); at != 0 || ok {
					t.Errorf("At(%d) of %v: %d, %v", slot, d, at, ok)
				}
			}
			spanHas(t, s, d)
		}
	}
}

// P10.4
func TestSlot(t *testing.T) {
	for _, d := range rights() {
		first, slots := d.Page*api.PageSize, slotsOf(d)
		begins := map[int]int{}
		for slot := range slots {
			begins[first+slot*slotBytes(d)] = slot
		}
		for _, live := range [][]int{nil, upto(slots), {slots - 1}} {
			d.Live = live
			s := made(t, d)
			places := slices.Clone(anyInts)
			for at := first - 300; at < first+pagesOf(d)*api.PageSize+300; at++ {
				places = append(places, at)
			}
			for _, at := range append(places, math.MinInt+first, math.MaxInt-first, -first, d.Page, 2*first) {
				want, begun := begins[at]
				if slot, ok := s.Slot(at); slot != want || ok != begun {
					t.Fatalf("Slot(%d) of %v: %d, %v", at, d, slot, ok)
				}
			}
			spanHas(t, s, d)
		}
	}
}

// P10.4
func TestNilSpan(t *testing.T) {
	var s *span.Span
	if d := s.Data(); !same(d, api.Span{}) {
		t.Errorf("Data: %v", d)
	}
	if told := [6]int{s.Page(), s.Class(), s.Pages(), s.Size(), s.Slots(), s.Live()}; told != [6]int{} {
		t.Errorf("Page, Class, Pages, Size, Slots, Live: %v", told)
	}
	if slot, ok := s.Take(); slot != 0 || ok {
		t.Errorf("Take: %d, %v", slot, ok)
	}
	for _, n := range anyInts {
		if s.Has(n) || s.Give(n) {
			t.Errorf("Has or Give of %d", n)
		}
		if at, ok := s.At(n); at != 0 || ok {
			t.Errorf("At(%d): %d, %v", n, at, ok)
		}
		if slot, ok := s.Slot(n); slot != 0 || ok {
			t.Errorf("Slot(%d): %d, %v", n, slot, ok)
		}
	}
}

// P1, rule 6: of a span that no maker answered nothing is promised but that the calls end.
func TestSpanOfNoMaker(t *testing.T) {
	s := new(span.Span)
	s.Data()
	s.Page()
	s.Class()
	s.Pages()
	s.Size()
	s.Slots()
	s.Live()
	s.Take()
	for _, n := range anyInts {
		s.Has(n)
		s.Give(n)
		s.At(n)
		s.Slot(n)
	}
}

// Rule 4
func TestSpanSharesNothing(t *testing.T) {
	for _, d := range rights() {
		d.Live = upto(slotsOf(d))
		room := append(slices.Clone(d.Live), 7, 8, 9)
		before := slices.Clone(room)
		s := made(t, api.Span{Page: d.Page, Class: d.Class, Size: d.Size, Live: room[:len(d.Live)]})
		s.Give(0)
		s.Take()
		if !slices.Equal(room, before) {
			t.Errorf("what Of was handed, %v, became %v", before, room)
		}
		spoil(room)
		spanHas(t, s, d)

		one, two := s.Data(), s.Data()
		spoil(one.Live)
		if !same(two, d) {
			t.Errorf("two answers of Data share memory: %v", two)
		}
		spanHas(t, s, d)
		s.Give(slotsOf(d) - 1)
		if !same(two, d) {
			t.Errorf("Data share memory with the span: %v", two)
		}
	}
}

// spoil changes a list, and its spare room.
func spoil(list []int) {
	list = list[:cap(list)]
	for i := range list {
		list[i] = -77
	}
}

// Rule 4
func TestListsThatAreTurnedDownStayAsTheyAre(t *testing.T) {
	for _, d := range []api.Span{of(0, 0, 0, 3, 2, 1), of(0, 8, 0, 3, 2, 1), of(0, 0, 0, 1, 1, 99), of(-1, 0, 0, 1, 2)} {
		room := append(slices.Clone(d.Live), 7, 8, 9)
		before := slices.Clone(room)
		d.Live = room[:len(d.Live)]
		span.Of(d)
		if !slices.Equal(room, before) {
			t.Errorf("%v became %v", before, room)
		}
	}
}

// P10.1: spans that are made of the same data go their own ways.
func TestSpansHaveNothingInCommon(t *testing.T) {
	for _, d := range rights() {
		one, two := made(t, d), made(t, d)
		again := made(t, one.Data())
		one.Take()
		spanHas(t, two, d)
		spanHas(t, again, d)
		again = made(t, one.Data())
		one.Give(0)
		spanHas(t, one, d)
		d.Live = []int{0}
		spanHas(t, again, d)
	}
}

func TestExamples(t *testing.T) {
	s, e := span.New(2, 1, 0)
	if e != api.OK || s.Slots() != 10 || s.Size() != 24 {
		t.Errorf("New(2, 1, 0): %v, %d slots of %d", e, s.Slots(), s.Size())
	}
	if slot, ok := s.Take(); slot != 0 || !ok {
		t.Errorf("Take: %d, %v", slot, ok)
	}
	if at, ok := s.At(3); at != 584 || !ok {
		t.Errorf("At(3): %d, %v", at, ok)
	}
	if slot, ok := s.Slot(584); slot != 3 || !ok {
		t.Errorf("Slot(584): %d, %v", slot, ok)
	}
	if slot, ok := s.Slot(585); slot != 0 || ok {
		t.Errorf("Slot(585): %d, %v", slot, ok)
	}
	large, e := span.New(2, 7, 300)
	if e != api.OK || large.Pages() != 2 || large.Slots() != 1 {
		t.Errorf("New(2, 7, 300): %v, %d pages, %d slots", e, large.Pages(), large.Slots())
	}
	if s, e := span.New(4095, 7, 300); s != nil || e != api.ErrAddr {
		t.Errorf("New(4095, 7, 300): %v", e)
	}
	if s, e := span.New(0, 7, 100); s != nil || e != api.ErrArg {
		t.Errorf("New(0, 7, 100): %v", e)
	}
}
