package slide_test

import (
	"math"
	"slices"
	"testing"

	"hayloft/api"
	"hayloft/slide"
)

// P13.1, P13.2: the chapter's examples.
func TestExamples(t *testing.T) {
	spans := []api.Span{of(1, 1, 0, 2, 5), of(4, 1, 0, 0), of(6, 7, 300, 0)}
	moves := []api.Move{move(304, 256, 24), move(376, 280, 24), move(1024, 304, 24), move(256, 0, 256), move(1536, 256, 512)}
	planIs(t, 9, spans, []api.Span{of(0, 1, 0, 0, 1, 2), of(1, 7, 300, 0)}, moves)
	goesWell(t, 9, spans)
	if at := slide.Where(1024, moves); at != 48 {
		t.Errorf("Where(1024): %d", at)
	}
}

// P13.1
func TestPages(t *testing.T) {
	for _, pages := range []int{1, 2, 9, api.MaxPages - 1, api.MaxPages} {
		goesWell(t, pages, nil)
		goesWell(t, pages, []api.Span{})
		goesWell(t, pages, []api.Span{of(0, 0, 0)})
		goesWell(t, pages, []api.Span{of(pages-1, 3, 0, 4)})
	}
	for _, pages := range []int{math.MinInt, math.MinInt + 1, -api.MaxPages, -2, -1, 0, api.MaxPages + 1, 2 * api.MaxPages, api.MaxUnits, 1 << 32, 1<<32 + 1, math.MaxInt - 1, math.MaxInt} {
		turnedDown(t, pages, nil)
		turnedDown(t, pages, []api.Span{})
		turnedDown(t, pages, []api.Span{of(0, 0, 0)})
		turnedDown(t, pages, []api.Span{of(0, 0, 0, 0, 1), of(1, 7, 300, 0)})
		turnedDown(t, pages, []api.Span{of(0, 9, 0)})
	}
}

// P13.1: without spans, or without live slots, nothing is behind it and nothing moves.
func TestPlanOfNothing(t *testing.T) {
	for _, spans := range [][]api.Span{
		nil,
		{},
		{of(0, 0, 0)},
		{of(8, 6, 0)},
		{{Page: 3, Class: 2, Live: []int{}}},
		{of(0, 7, 300)},
		{of(5, 7, 1024)},
		{of(0, 0, 0), of(1, 0, 0), of(5, 0, 0)},
		{of(0, 0, 0), of(1, 1, 0), of(2, 2, 0), of(3, 3, 0), of(4, 4, 0), of(5, 5, 0), of(6, 6, 0), of(7, 7, 512)},
	} {
		planIs(t, 9, spans, nil, nil)
		goesWell(t, 9, spans)
	}
}

// P13.1: spans side by side, with pages between them, over one another, in another order, and at the last page.
func TestWhichSpansMayStand(t *testing.T) {
	for _, spans := range [][]api.Span{
		{of(0, 0, 0), of(1, 0, 0)},
		{of(0, 0, 0), of(2, 0, 0), of(11, 0, 0)},
		{of(0, 7, 300), of(2, 0, 0)},
		{of(0, 7, 257, 0), of(2, 7, 513, 0), of(5, 7, 129, 0), of(6, 7, 256), of(7, 0, 0)},
		{of(5, 7, 300), of(8, 0, 0)},
		{of(11, 0, 0, 0)},
		{of(11, 7, 256, 0)},
		{of(10, 7, 257, 0)},
		{of(10, 7, 512, 0)},
		{of(9, 7, 513, 0)},
		{of(0, 7, 3072, 0)},
		{of(0, 7, 2817, 0)},
		{of(0, 7, 2816, 0), of(11, 6, 0, 1)},
	} {
		goesWell(t, 12, spans)
	}
	for _, spans := range [][]api.Span{
		{of(3, 0, 0), of(3, 0, 0)},
		{of(3, 0, 0), of(2, 0, 0)},
		{of(3, 0, 0), of(0, 0, 0)},
		{of(3, 0, 0), of(2, 7, 300)},
		{of(3, 0, 0), of(1, 7, 300)},
		{of(5, 7, 300), of(6, 0, 0)},
		{of(5, 7, 300), of(5, 0, 0)},
		{of(5, 7, 300), of(4, 0, 0)},
		{of(5, 7, 700), of(7, 0, 0)},
		{of(5, 7, 700), of(6, 7, 300)},
		{of(5, 7, 700), of(6, 0, 0), of(8, 0, 0)},
		{of(0, 7, 300), of(1, 0, 0)},
		{of(0, 0, 0), of(5, 7, 300), of(6, 0, 0), of(7, 0, 0)},
		{of(0, 0, 0), of(1, 0, 0), of(1, 0, 0)},
		{of(2, 0, 0), of(8, 0, 0), of(5, 0, 0), of(9, 0, 0)},
		{of(2, 0, 0), of(1, 0, 0), of(0, 0, 0)},
		{of(12, 0, 0)},
		{of(13, 0, 0)},
		{of(api.MaxPages-1, 0, 0)},
		{of(12, 7, 129)},
		{of(11, 7, 257)},
		{of(11, 7, 512)},
		{of(10, 7, 513)},
		{of(0, 7, 3073)},
		{of(8, 7, 1025)},
		{of(0, 7, api.MaxSize)},
		{of(0, 0, 0), of(11, 7, 300)},
		{of(11, 0, 0), of(12, 0, 0)},
		{of(12, 0, 0), of(0, 0, 0)},
		{of(12, 0, 0), of(13, 0, 0)},
	} {
		turnedDown(t, 12, spans)
	}
	last := api.MaxPages - 16
	goesWell(t, api.MaxPages, []api.Span{of(last, 7, api.MaxSize, 0)})
	turnedDown(t, api.MaxPages, []api.Span{of(last+1, 7, api.MaxSize, 0)})
	turnedDown(t, api.MaxPages-1, []api.Span{of(last, 7, api.MaxSize, 0)})
	turnedDown(t, 1, []api.Span{of(0, 0, 0), of(1, 0, 0)})
	turnedDown(t, 1, []api.Span{of(0, 7, 257)})
	goesWell(t, 1, []api.Span{of(0, 7, 256, 0)})
}

// P13.1: spans that layer 10's Of refuses, for each of its errors, as the first one, the last one, and between others.
func TestSpansThatArentRight(t *testing.T) {
	wrongs := []api.Span{
		// ErrKind
		of(5, -1, 0), of(5, 8, 0), of(5, 9, 300), of(5, math.MinInt, 0), of(5, math.MaxInt, 0), of(5, 256, 0),
		// ErrArg
		of(5, 0, 1), of(5, 0, 16), of(5, 6, 128), of(5, 6, -1), of(5, 3, math.MinInt), of(5, 3, math.MaxInt),
		of(5, 7, 0), of(5, 7, 1), of(5, 7, 128), of(5, 7, -1), of(5, 7, -300), of(5, 7, api.MaxSize+1), of(5, 7, math.MinInt), of(5, 7, math.MaxInt),
		// ErrAddr
		of(-1, 0, 0), of(-2, 7, 300), of(-16, 7, api.MaxSize, 0), of(math.MinInt, 0, 0), of(math.MinInt, 7, api.MaxSize),
		of(api.MaxPages, 0, 0), of(api.MaxPages-1, 7, 257), of(math.MaxInt, 0, 0), of(math.MaxInt, 7, api.MaxSize), of(math.MaxInt-15, 7, api.MaxSize),
		// ErrForm
		of(5, 0, 0, 16), of(5, 0, 0, -1), of(5, 0, 0, 1, 1), of(5, 0, 0, 2, 1), of(5, 0, 0, 0, 16), of(5, 0, 0, math.MinInt), of(5, 0, 0, math.MaxInt),
		of(5, 1, 0, 10), of(5, 3, 0, 5), of(5, 5, 0, 2), of(5, 6, 0, 2), of(5, 6, 0, 1, 0), of(5, 6, 0, 0, 1, 0), of(5, 1, 0, make([]int, 1000)...),
		of(5, 7, 300, 1), of(5, 7, 300, -1), of(5, 7, 300, 0, 0), of(5, 7, 300, 0, 1),
	}
	before, behind := of(3, 1, 0, 0, 3), of(11, 0, 0, 2)
	for _, d := range wrongs {
		for _, pages := range []int{12, 13, api.MaxPages} {
			turnedDown(t, pages, []api.Span{d})
			turnedDown(t, pages, []api.Span{before, d})
			turnedDown(t, pages, []api.Span{d, behind})
			turnedDown(t, pages, []api.Span{before, d, behind})
			turnedDown(t, pages, []api.Span{of(0, 0, 0), of(1, 0, 0), before, behind, d})
		}
	}
	goesWell(t, 12, []api.Span{before, behind})
}

// P13.1: all spans of a few pages, held against the document's words, those that may not stand among them.
func TestRightOfAllThereIsNearTheEdges(t *testing.T) {
	var some []api.Span
	for page := -1; page <= 4; page++ {
		some = append(some, of(page, 0, 0, 1), of(page, 6, 0), of(page, 7, 256, 0), of(page, 7, 257, 0), of(page, 7, 600))
	}
	some = append(some, of(0, 8, 0), of(1, 7, 128), of(1, 6, 0, 2), of(2, 6, 0, 1, 0))
	held := func(pages int, spans ...api.Span) {
		if modelRight(pages, spans) {
			goesWell(t, pages, spans)
		} else {
			turnedDown(t, pages, spans)
		}
	}
	for pages := -1; pages <= 5; pages++ {
		for _, a := range some {
			held(pages, a)
			for _, b := range some {
				held(pages, a, b)
				for _, c := range some {
					held(pages, a, b, c)
				}
			}
		}
	}
}

// spread is a small class's spans on every other page, with so many live slots in each: the last ones.
func spread(class int, live ...int) []api.Span {
	var spans []api.Span
	for i, n := range live {
		slots := slotsOf(of(0, class, 0))
		spans = append(spans, of(1+2*i, class, 0, upto(slots)[slots-n:]...))
	}
	return spans
}

// P13.1, P13.3: spans of one small class, full, empty and partly filled, whose live slots make just one span, one slot more and one less.
func TestOneClass(t *testing.T) {
	for class := range sizes {
		all := slotsOf(of(0, class, 0))
		for _, live := range [][]int{
			{0}, {1}, {all - 1}, {all},
			{0, 0}, {all, 0}, {0, all}, {all, all}, {all, 1}, {1, all}, {all - 1, all}, {all, all - 1},
			{1, all - 1}, {all - 1, 1}, {0, all - 1, 1}, {all - 1, 0, 1}, {1, all - 1, 0},
			{1, all - 1, 1}, {all - 1, 1, 1}, {1, 1, all - 1}, {all, 0, 1}, {0, 1, all}, {1, 0, all},
			{1, 0, all - 2}, {all - 2, 1}, {1, all - 2}, {0, 0, all - 1}, {all - 1, 0, 0},
			{1, all, all - 1}, {1, all, all}, {1, all - 1, all - 1}, {1, 1, 1, 1, 1}, {0, all, 0, all, 0}, {all, all, all, all},
		} {
			spans := spread(class, live...)
			total := 0
			for _, n := range live {
				total += n
			}
			goesWell(t, 12, spans)
			behind, _ := plan(t, 12, spans)
			var want []api.Span
			for page := 0; total > 0; page++ {
				want = append(want, of(page, class, 0, upto(min(all, total))...))
				total -= all
			}
			if !slices.EqualFunc(behind, want, same) {
				t.Errorf("Plan(12, %v): %v, not %v", spans, behind, want)
			}
		}
	}
}

// P13.1, P13.3: of one span, and of two, all sets of live slots that there are.
func TestAllLiveSlots(t *testing.T) {
	for class := 1; class < len(sizes); class++ {
		slots := slotsOf(of(0, class, 0))
		live := func(bits int) []int {
			return slices.DeleteFunc(upto(slots), func(slot int) bool { return bits>>slot&1 == 0 })
		}
		for one := range 1 << slots {
			goesWell(t, 1, []api.Span{of(0, class, 0, live(one)...)})
			goesWell(t, 3, []api.Span{of(1, class, 0, live(one)...)})
			if slots > 5 {
				continue
			}
			for two := range 1 << slots {
				goesWell(t, 3, []api.Span{of(0, class, 0, live(one)...), of(2, class, 0, live(two)...)})
			}
		}
	}
}

// P13.1: spans that need no move.
func TestNoMoves(t *testing.T) {
	for _, spans := range [][]api.Span{
		{of(0, 0, 0, 0)},
		{of(0, 0, 0, upto(16)...)},
		{of(0, 0, 0, upto(16)...), of(1, 0, 0, 0, 1)},
		{of(0, 7, 129, 0)},
		{of(0, 7, 300, 0), of(2, 7, 4096, 0), of(18, 6, 0, 0)},
		{of(0, 3, 0, 0, 1), of(1, 7, 300, 0), of(3, 2, 0, upto(8)...), of(4, 2, 0, 0)},
		{of(0, 6, 0, 0), of(1, 5, 0, 0), of(2, 4, 0, 0), of(3, 3, 0, 0), of(4, 2, 0, 0), of(5, 1, 0, 0), of(6, 0, 0, 0)},
	} {
		planIs(t, 20, spans, spans, nil)
		goesWell(t, 20, spans)
	}
	// spans without live slots behind all others go, and nothing moves
	planIs(t, 20, []api.Span{of(0, 0, 0, 0), of(1, 0, 0), of(4, 7, 300), of(9, 1, 0)}, []api.Span{of(0, 0, 0, 0)}, nil)
}

// P13.1: spans of which just live slots move, just whole spans, and both.
func TestPartsOfAPlan(t *testing.T) {
	// part 1 alone
	planIs(t, 9, []api.Span{of(0, 5, 0, 1)}, []api.Span{of(0, 5, 0, 0)}, []api.Move{move(96, 0, 96)})
	planIs(t, 9, []api.Span{of(0, 0, 0, 0, 1, 4, 15)}, []api.Span{of(0, 0, 0, 0, 1, 2, 3)}, []api.Move{move(64, 32, 16), move(240, 48, 16)})
	planIs(t, 9, []api.Span{of(0, 6, 0, 0), of(1, 6, 0, 1)}, []api.Span{of(0, 6, 0, 0, 1)}, []api.Move{move(384, 128, 128)})
	planIs(t, 9,
		[]api.Span{of(0, 4, 0, 2), of(1, 7, 300, 0), of(7, 4, 0, 0)},
		[]api.Span{of(0, 4, 0, 0, 1), of(1, 7, 300, 0)},
		[]api.Move{move(128, 0, 64), move(1792, 64, 64)})
	// part 2 alone
	planIs(t, 9, []api.Span{of(3, 5, 0, 0)}, []api.Span{of(0, 5, 0, 0)}, []api.Move{move(768, 0, 256)})
	planIs(t, 9, []api.Span{of(1, 2, 0, 0, 1, 2)}, []api.Span{of(0, 2, 0, 0, 1, 2)}, []api.Move{move(256, 0, 256)})
	planIs(t, 9,
		[]api.Span{of(0, 0, 0), of(2, 3, 0, 0, 1), of(3, 7, 300, 0), of(5, 4, 0), of(6, 7, 700, 0)},
		[]api.Span{of(0, 3, 0, 0, 1), of(1, 7, 300, 0), of(3, 7, 700, 0)},
		[]api.Move{move(512, 0, 256), move(768, 256, 512), move(1536, 768, 768)})
	planIs(t, 4, []api.Span{of(1, 7, 300, 0)}, []api.Span{of(0, 7, 300, 0)}, []api.Move{move(256, 0, 512)})
	// the first spans stay where they are
	planIs(t, 9,
		[]api.Span{of(0, 3, 0, 0, 1), of(1, 7, 300, 0), of(4, 6, 0, 0)},
		[]api.Span{of(0, 3, 0, 0, 1), of(1, 7, 300, 0), of(3, 6, 0, 0)},
		[]api.Move{move(1024, 768, 256)})
	// both: a span is emptied by part 1, so that the one behind it moves in part 2
	planIs(t, 9,
		[]api.Span{of(0, 6, 0, 0), of(1, 6, 0, 0), of(2, 7, 200, 0)},
		[]api.Span{of(0, 6, 0, 0, 1), of(1, 7, 200, 0)},
		[]api.Move{move(256, 128, 128), move(512, 256, 256)})
	planIs(t, 9, []api.Span{of(4, 5, 0, 1)}, []api.Span{of(0, 5, 0, 0)}, []api.Move{move(1120, 1024, 96), move(1024, 0, 256)})
}

// P13.1: a class's empty span ahead of others is filled, and stands where it stood among the spans.
func TestEmptySpansAreFilled(t *testing.T) {
	planIs(t, 9,
		[]api.Span{of(1, 6, 0), of(3, 7, 300, 0), of(6, 6, 0, 1)},
		[]api.Span{of(0, 6, 0, 0), of(1, 7, 300, 0)},
		[]api.Move{move(1664, 256, 128), move(256, 0, 256), move(768, 256, 512)})
	planIs(t, 9,
		[]api.Span{of(0, 5, 0), of(1, 5, 0), of(2, 0, 0, 0), of(3, 5, 0, 0, 1), of(4, 5, 0, 1)},
		[]api.Span{of(0, 5, 0, 0, 1), of(1, 5, 0, 0), of(2, 0, 0, 0)},
		[]api.Move{move(768, 0, 96), move(864, 96, 96), move(1120, 256, 96)})
}

// P13.1: the classes come from 0 on, wherever their spans stand, then the spans by their pages.
func TestOrder(t *testing.T) {
	planIs(t, 30,
		[]api.Span{of(1, 6, 0, 1), of(2, 5, 0, 1), of(4, 4, 0, 1), of(5, 7, 4096, 0), of(21, 3, 0, 1), of(22, 2, 0, 1), of(23, 1, 0, 1), of(29, 0, 0, 1)},
		[]api.Span{of(0, 6, 0, 0), of(1, 5, 0, 0), of(2, 4, 0, 0), of(3, 7, 4096, 0), of(19, 3, 0, 0), of(20, 2, 0, 0), of(21, 1, 0, 0), of(22, 0, 0, 0)},
		[]api.Move{
			move(7440, 7424, 16), move(5912, 5888, 24), move(5664, 5632, 32), move(5424, 5376, 48), move(1088, 1024, 64), move(608, 512, 96), move(384, 256, 128),
			move(256, 0, 256), move(512, 256, 256), move(1024, 512, 256), move(1280, 768, 4096), move(5376, 4864, 256), move(5632, 5120, 256), move(5888, 5376, 256), move(7424, 5632, 256),
		})
	// two classes by turns: each has moves of its own, in the order of its slots
	planIs(t, 9,
		[]api.Span{of(0, 6, 0, 1), of(1, 5, 0, 1), of(2, 6, 0, 0), of(3, 5, 0, 0, 1), of(4, 6, 0, 1), of(5, 5, 0, 0)},
		[]api.Span{of(0, 6, 0, 0, 1), of(1, 5, 0, 0, 1), of(2, 6, 0, 0), of(3, 5, 0, 0, 1)},
		[]api.Move{
			move(352, 256, 96), move(768, 352, 96), move(864, 768, 96), move(1280, 864, 96),
			move(128, 0, 128), move(512, 128, 128), move(1152, 512, 128),
		})
}

// P13.1, P13.3: Large spans, alone and between small ones, with live slots and without; those that come to lie over themselves, too.
func TestLarge(t *testing.T) {
	for _, size := range []int{129, 255, 256, 257, 300, 512, 513, 1024, api.MaxSize - 256, api.MaxSize - 255, api.MaxSize} {
		for page := range 18 {
			d := of(page, 7, size, 0)
			n := pagesOf(d)
			goesWell(t, 60, []api.Span{d})
			goesWell(t, 60, []api.Span{of(page, 7, size)})
			goesWell(t, 60, []api.Span{d, of(page+n, 7, 300), of(page+n+2, 7, size, 0)})
			goesWell(t, 60, []api.Span{d, of(page+n, 7, size, 0)})
			if page > 0 {
				goesWell(t, 60, []api.Span{of(page-1, 1, 0, 0, 9), d, of(page+n, 1, 0, 3), of(page+n+1, 1, 0)})
				goesWell(t, 60, []api.Span{of(page-1, 1, 0), d, of(page+n, 1, 0), of(page+n+1, 2, 0, 3)})
			}
		}
	}
	planIs(t, 17, []api.Span{of(1, 7, api.MaxSize, 0)}, []api.Span{of(0, 7, api.MaxSize, 0)}, []api.Move{move(256, 0, 4096)})
	planIs(t, 17, []api.Span{of(0, 7, 300), of(2, 7, 2049, 0)}, []api.Span{of(0, 7, 2049, 0)}, []api.Move{move(512, 0, 2304)})
	// of a Large span all of its pages move, more bytes than its object has
	planIs(t, 3, []api.Span{of(1, 7, 257, 0)}, []api.Span{of(0, 7, 257, 0)}, []api.Move{move(256, 0, 512)})
	planIs(t, 3, []api.Span{of(2, 7, 129, 0)}, []api.Span{of(0, 7, 129, 0)}, []api.Move{move(512, 0, 256)})
	// Large spans of the same size aren't gathered
	planIs(t, 6, []api.Span{of(0, 7, 129), of(1, 7, 129, 0), of(5, 7, 129, 0)}, []api.Span{of(0, 7, 129, 0), of(1, 7, 129, 0)}, []api.Move{move(256, 0, 256), move(1280, 256, 256)})
}

// anySpans are spans that may stand in so many pages, of any classes and with any live slots.
func anySpans(chance func(below int) int, pages int) []api.Span {
	classes, fullness := 1+chance(8), chance(5)
	var spans []api.Span
	for page := chance(3); page < pages; page += chance(2) * chance(3) {
		d := of(page, chance(classes), 0)
		if chance(8) == 0 {
			d.Class, d.Size = 7, 129+chance(1+min(4096, 256*(pages-page))-129)
		}
		if d.Class == 7 && d.Size == 0 {
			d.Size = 129 + chance(128)
		}
		d.Live = slices.DeleteFunc(upto(slotsOf(d)), func(int) bool { return chance(4) >= fullness })
		spans = append(spans, d)
		page += pagesOf(d)
	}
	return spans
}

// P13.1, P13.3
func TestAnySpans(t *testing.T) {
	chance := noise(13)
	for i := range 3000 {
		pages := 1 + chance(24)
		if i%100 == 0 {
			pages = 1 + chance(300)
		}
		goesWell(t, pages, anySpans(chance, pages))
	}
}

// P13.1, P13.3: as many spans and live slots as there may be.
func TestAllPages(t *testing.T) {
	var full, half, mixed []api.Span
	for page := range api.MaxPages {
		full = append(full, of(page, 0, 0, upto(16)...))
		half = append(half, of(page, 0, 0, 1, 3, 5, 7, 9, 11, 13, 15))
		class := page * 3 % 7
		mixed = append(mixed, of(page, class, 0, page%slotsOf(of(0, class, 0))))
	}
	for _, spans := range [][]api.Span{full, half, mixed} {
		if !slide.Right(api.MaxPages, spans) {
			t.Fatal("Right: false")
		}
		behind, moves := plan(t, api.MaxPages, spans)
		wantBehind, wantMoves := modelPlan(spans)
		if !slices.EqualFunc(behind, wantBehind, same) || !slices.Equal(moves, wantMoves) {
			t.Errorf("%d spans and %d moves, not %d and %d", len(behind), len(moves), len(wantBehind), len(wantMoves))
		}
		turnedDown(t, api.MaxPages-1, spans)
	}
	planIs(t, api.MaxPages, full, full, nil)
	if behind, moves := plan(t, api.MaxPages, half); len(behind) != api.MaxPages/2 || len(moves) != 8*api.MaxPages {
		t.Errorf("%d spans, %d moves", len(behind), len(moves))
	}
}

// P13.2
func TestWhere(t *testing.T) {
	one := []api.Move{move(100, 40, 10)}
	far := []api.Move{move(1024, 304, 24), move(256, 0, 256)}
	for _, x := range []struct {
		at    int
		moves []api.Move
		want  int
	}{
		// in no move, at its first byte and its last one, ahead of it and behind it
		{99, one, 99}, {100, one, 40}, {101, one, 41}, {109, one, 49}, {110, one, 110}, {40, one, 40}, {0, one, 0}, {-100, one, -100},
		// in several moves, one behind the other
		{1024, far, 48}, {1047, far, 71}, {1048, far, 1048}, {1023, far, 1023}, {256, far, 0}, {304, far, 48}, {511, far, 255}, {512, far, 512},
		// the other way round the second one isn't met
		{1024, []api.Move{far[1], far[0]}, 304},
		// a move twice: it isn't met by what it has brought away
		{100, []api.Move{one[0], one[0]}, 40},
		// a move that lies over itself twice
		{9, []api.Move{move(4, 2, 100), move(4, 2, 100), move(4, 2, 100), move(4, 2, 100)}, 3},
		// there and back
		{105, []api.Move{one[0], move(40, 100, 10)}, 105},
		// upwards, and to places below 0
		{3, []api.Move{move(0, 1000, 4)}, 1003}, {4, []api.Move{move(0, 1000, 4)}, 4}, {3, []api.Move{move(3, -5, 1)}, -5}, {-5, []api.Move{move(-5, 3, 1)}, 3},
		{-1, []api.Move{move(-10, -20, 10)}, -11}, {0, []api.Move{move(-10, -20, 10)}, 0}, {-10, []api.Move{move(-10, -20, 10)}, -20}, {-11, []api.Move{move(-10, -20, 10)}, -11},
		// to where it is
		{7, []api.Move{move(7, 7, 1)}, 7},
	} {
		if got := slide.Where(x.at, x.moves); got != x.want {
			t.Errorf("Where(%d, %v): %d, not %d", x.at, x.moves, got, x.want)
		}
	}
	for _, at := range []int{math.MinInt, math.MinInt + 1, -1, 0, 1, 300, math.MaxInt - 1, math.MaxInt} {
		for _, moves := range [][]api.Move{nil, {}, {move(at, 5, 0)}, {move(at, 5, -1)}, {move(at, 5, math.MinInt)}, {move(at-1, 5, 1)}, {move(at+1, 5, 1)}} {
			if got := slide.Where(at, moves); got != at {
				t.Errorf("Where(%d, %v): %d", at, moves, got)
			}
		}
	}
}

// P13.2: moves at the ends of the numbers that there are.
func TestWhereAtTheEnds(t *testing.T) {
	least, greatest := math.MinInt, math.MaxInt
	for _, x := range []struct {
		at   int
		move api.Move
		want int
	}{
		// the move goes on behind the greatest number
		{greatest, move(greatest, 0, 1), 0}, {greatest, move(greatest, 0, greatest), 0}, {greatest, move(greatest-3, 10, 4), 13}, {greatest, move(greatest-3, 10, 100), 13},
		{greatest, move(greatest-3, 10, 3), greatest}, {greatest - 4, move(greatest-3, 10, 100), greatest - 4}, {least, move(greatest, 0, 2), least}, {least, move(greatest-3, 0, greatest), least},
		{5, move(1, 0, greatest), 4}, {greatest, move(1, 0, greatest), greatest - 1}, {greatest, move(0, 7, greatest), greatest}, {greatest - 1, move(0, 1, greatest), greatest},
		// the place is farther from the move's beginning than the greatest number
		{greatest, move(-1, 0, 5), greatest}, {greatest, move(-1, 0, greatest), greatest}, {greatest, move(least, 0, greatest), greatest}, {greatest, move(least, 0, 1), greatest},
		{0, move(least, 0, greatest), 0}, {-1, move(least, 0, greatest), -1}, {-2, move(least, 0, greatest), greatest - 1}, {least, move(least, 0, 1), 0}, {least + 1, move(least, 0, 1), least + 1},
		// a Len that is none
		{least, move(least, 0, least), least}, {0, move(least, 0, least), 0}, {greatest, move(greatest, 0, least), greatest}, {-1, move(0, 9, least), -1}, {-1, move(0, 9, -1), -1}, {-1, move(-1, 9, -1), -1}, {0, move(1, 9, -1), 0},
		// from one end to the other
		{greatest, move(greatest, least, 1), least}, {least, move(least, greatest, 1), greatest}, {least + 1, move(least, greatest-1, 2), greatest},
	} {
		if got := slide.Where(x.at, []api.Move{x.move}); got != x.want {
			t.Errorf("Where(%d, %v): %d, not %d", x.at, x.move, got, x.want)
		}
	}
	var numbers []int
	for i := range 3 {
		numbers = append(numbers, least+i, greatest-i, -i-1, i, 1000+i)
	}
	for _, at := range numbers {
		for _, from := range numbers {
			for _, to := range numbers {
				for _, n := range numbers {
					moves := []api.Move{move(from, to, n), move(0, 1000, 3), move(1001, at, n)}
					if got, want := slide.Where(at, moves), modelWhere(at, moves); got != want {
						t.Fatalf("Where(%d, %v): %d, not %d", at, moves, got, want)
					}
				}
			}
		}
	}
}

// P13.2
func TestWhereOfAnyMoves(t *testing.T) {
	chance := noise(31)
	for range 20000 {
		var moves []api.Move
		for range chance(6) {
			moves = append(moves, move(chance(40)-10, chance(40)-10, chance(20)-4))
		}
		at := chance(50) - 15
		if got, want := slide.Where(at, moves), modelWhere(at, moves); got != want {
			t.Fatalf("Where(%d, %v): %d, not %d", at, moves, got, want)
		}
	}
}

// roomy are the same spans, with spare room behind each list, that is filled with what can't be a slot.
func roomy(spans []api.Span) []api.Span {
	all := append(copyOf(spans), of(-7, -7, -7), of(-8, -8, -8))
	for i := range all {
		n := len(all[i].Live)
		all[i].Live = append(slices.Clone(all[i].Live), -1, -2, -3)[:n]
	}
	return all[:len(spans)]
}

// spoil changes a list, and its spare room.
func spoil[T any](list []T, with T) {
	list = list[:cap(list)]
	for i := range list {
		list[i] = with
	}
}

// spoilSpans changes all that spans have.
func spoilSpans(spans []api.Span) {
	for _, d := range spans {
		spoil(d.Live, -77)
	}
	spoil(spans, of(-77, -77, -77))
}

// isAsRoomy holds that what roomy has made hasn't changed, its spare room neither.
func isAsRoomy(t *testing.T, got, spans []api.Span) {
	t.Helper()
	want := roomy(spans)
	if !slices.EqualFunc(got[:len(got)+2], want[:len(want)+2], same) {
		t.Fatalf("%v became %v", want[:len(want)+2], got[:len(got)+2])
	}
	for i := range got {
		n := len(want[i].Live) + 3
		if !slices.Equal(got[i].Live[:n], want[i].Live[:n]) {
			t.Fatalf("%v became %v", want[i].Live[:n], got[i].Live[:n])
		}
	}
}

// toShare are spans that may stand in 20 pages, with moves of both parts and without, and such that may not.
func toShare() [][]api.Span {
	return [][]api.Span{
		{of(1, 1, 0, 2, 5), of(4, 1, 0, 0), of(6, 7, 300, 0)},
		{of(0, 0, 0, 0, 1), of(1, 7, 300, 0)},
		{of(0, 6, 0, 0, 1), of(1, 6, 0, 0, 1), of(2, 6, 0, 0)},
		{of(0, 6, 0, 1), of(3, 6, 0, 0, 1), of(9, 6, 0, 1), of(11, 5, 0), of(12, 7, 400)},
		{of(3, 6, 0, 1), of(0, 6, 0, 0, 1)},
		{of(0, 0, 0, 3, 2, 1), of(1, 0, 0, 1)},
		{of(0, 8, 0, 1)},
	}
}

// Rule 4
func TestArgumentsStayAsTheyAre(t *testing.T) {
	for _, spans := range toShare() {
		given := roomy(spans)
		slide.Right(20, given)
		isAsRoomy(t, given, spans)
		behind, moves, _ := slide.Plan(20, given)
		isAsRoomy(t, given, spans)
		spoilSpans(behind)
		spoil(moves, move(-77, -77, -77))
		isAsRoomy(t, given, spans)

		_, moves = modelPlan(toShare()[0])
		before := slices.Clone(moves)
		slide.Where(1024, moves)
		if !slices.Equal(moves, before) {
			t.Errorf("%v became %v", before, moves)
		}
	}
}

// Rule 4
func TestAnswersShareNothing(t *testing.T) {
	for _, spans := range toShare()[:4] {
		wantBehind, wantMoves := modelPlan(spans)
		given := roomy(spans)
		behind, moves := plan(t, 20, given)
		others, otherMoves := plan(t, 20, given)
		spoilSpans(given)
		spoilSpans(others)
		spoil(otherMoves, move(-77, -77, -77))
		if !slices.EqualFunc(behind, wantBehind, same) || !slices.Equal(moves, wantMoves) {
			t.Errorf("Plan(20, %v): %v, %v, once others were changed", spans, behind, moves)
		}
		// each live list is its own, and ends where no other one begins
		for i := range behind {
			spoil(behind[i].Live, -77)
			for j := i + 1; j < len(behind); j++ {
				if !same(behind[j], wantBehind[j]) {
					t.Errorf("Plan(20, %v): %v, once its span %d was changed", spans, behind, i)
				}
			}
		}
	}
}

// Rule 3
func TestNilAndEmptyAreOne(t *testing.T) {
	for _, live := range [][]int{nil, {}} {
		empty := api.Span{Page: 2, Class: 3, Live: live}
		planIs(t, 9, []api.Span{empty, of(4, 3, 0, 4)}, []api.Span{of(0, 3, 0, 0)}, []api.Move{move(1216, 512, 48), move(512, 0, 256)})
		planIs(t, 9, []api.Span{empty, of(4, 2, 0, 0)}, []api.Span{of(0, 2, 0, 0)}, []api.Move{move(1024, 0, 256)})
	}
}

// Rule 5
func TestSameAnswersEachTime(t *testing.T) {
	chance := noise(5)
	for range 50 {
		spans := anySpans(chance, 30)
		behind, moves := plan(t, 30, spans)
		for range 3 {
			planIs(t, 30, spans, behind, moves)
		}
	}
}
