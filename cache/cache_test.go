package cache_test

import (
	"math"
	"slices"
	"testing"

	"hayloft/api"
	"hayloft/cache"
)

// P11.1
func TestNew(t *testing.T) {
	for _, pages := range []int{1, 2, 12, api.MaxPages - 1, api.MaxPages} {
		for _, workers := range []int{1, 2, api.MaxWorkers - 1, api.MaxWorkers} {
			c, e := cache.New(pages, workers)
			if c == nil || e != api.OK {
				t.Fatalf("New(%d, %d): %v", pages, workers, e)
			}
			x := both{t, c, modelOf(pages, workers, nil)}
			x.alike()
			x.isFree(run(0, pages))
			x.takes(workers-1, 1, 0)
			if e := x.flush(workers); e != api.ErrArg {
				t.Errorf("Flush(%d) of %d workers: %v", workers, workers, e)
			}
		}
	}
}

// P11.1: what is wrong with the pages or the workers comes ahead of what is wrong with spans.
func TestNoSuchPagesOrWorkers(t *testing.T) {
	pages := []int{math.MinInt, -1, 0, api.MaxPages + 1, api.MaxUnits, api.MaxUnits + 1, math.MaxInt}
	workers := []int{math.MinInt, -1, 0, api.MaxWorkers + 1, math.MaxInt}
	turnedDown := func(pages, workers int) {
		if c, e := cache.New(pages, workers); c != nil || e != api.ErrArg {
			t.Errorf("New(%d, %d): %v", pages, workers, e)
		}
		for _, spans := range [][]api.Span{nil, {}, {of(0, 0, 0)}, {of(0, 9, 0)}, {of(1, 0, 0), of(0, 0, 0)}, {of(api.MaxPages, 0, 0)}} {
			if c, e := cache.From(pages, workers, spans); c != nil || e != api.ErrArg {
				t.Errorf("From(%d, %d, %v): %v", pages, workers, spans, e)
			}
		}
	}
	for _, p := range pages {
		for _, w := range append(workers, 1, api.MaxWorkers) {
			turnedDown(p, w)
		}
	}
	for _, w := range workers {
		turnedDown(1, w)
		turnedDown(api.MaxPages, w)
	}
}

// standing are spans that may stand in twelve pages: none, one and many, that touch and that don't, up to the last page, free, partly live and full.
func standing() [][]api.Span {
	return [][]api.Span{
		nil,
		{},
		{of(0, 0, 0)},
		{of(11, 0, 0)},
		{of(5, 6, 0, 0, 1)},
		{of(5, 3, 0, 4)},
		{of(0, 7, 300)},
		{of(0, 7, 300, 0)},
		{of(10, 7, 512, 0)},
		{of(9, 7, 513, 0)},
		{of(0, 7, 3072, 0)},
		{of(0, 0, 0, upto(16)...), of(1, 0, 0, 15), of(2, 0, 0)},
		{of(0, 1, 0, 0, 3), of(2, 7, 300, 0)},
		{of(0, 7, 257, 0), of(2, 7, 129), of(3, 7, 700, 0), of(6, 5, 0, 0, 1), of(11, 5, 0)},
		{of(1, 0, 0, 1, 3, 5), of(3, 1, 0), of(4, 2, 0, 7), of(6, 3, 0, upto(5)...), of(7, 4, 0, 3), of(8, 5, 0, 0), of(9, 6, 0, 1), of(10, 7, 400, 0)},
		{of(0, 4, 0, 0), of(1, 4, 0, 1), of(2, 4, 0, 2), of(3, 4, 0, 3), of(4, 4, 0), of(5, 4, 0, 0, 1, 2, 3), of(8, 4, 0, 1, 2)},
	}
}

// P11.1
func TestFrom(t *testing.T) {
	for _, spans := range standing() {
		for _, workers := range []int{1, 3, api.MaxWorkers} {
			x := from(t, 12, workers, spans...)
			if !slices.EqualFunc(x.c.Spans(), spans, same) {
				t.Errorf("Spans: %v, not %v", x.c.Spans(), spans)
			}
		}
	}
	last := from(t, api.MaxPages, 1, of(api.MaxPages-16, 7, api.MaxSize, 0))
	last.isFree(run(0, api.MaxPages-16))
	full := from(t, 1, 1, of(0, 0, 0, upto(16)...))
	full.isFree()
	full.noMemory(0, 1)
}

// P11.1: each class has a full page of spans.
func TestFromOfManySpans(t *testing.T) {
	var spans []api.Span
	for page := range api.MaxPages {
		class := page % 7
		spans = append(spans, of(page, class, 0, upto(256/sizes[class])...))
	}
	c, e := cache.From(api.MaxPages, 8, spans)
	if e != api.OK || len(c.Free()) != 0 || !slices.EqualFunc(c.Spans(), spans, same) {
		t.Fatalf("From of %d spans: %v", len(spans), e)
	}
	for page, d := range spans {
		for i := range 256 {
			slot := i / sizes[d.Class]
			want := i%sizes[d.Class] == 0 && slot < len(d.Live)
			if c.Live(256*page+i) != want {
				t.Fatalf("Live(%d): %v", 256*page+i, !want)
			}
		}
	}
}

// P11.1
func TestSpansThatMayNotStand(t *testing.T) {
	good := of(3, 1, 0, 0, 3)
	wrongs := []api.Span{
		of(5, -1, 0), of(5, 8, 0), of(5, math.MinInt, 0), of(5, math.MaxInt, 0),
		of(5, 0, 1), of(5, 6, 128), of(5, 7, 0), of(5, 7, 128), of(5, 7, api.MaxSize+1), of(5, 7, -1),
		of(-1, 0, 0), of(api.MaxPages, 0, 0), of(math.MinInt, 0, 0), of(math.MaxInt, 0, 0), of(-1, 7, 300), of(math.MaxInt, 7, api.MaxSize),
		of(5, 0, 0, 16), of(5, 0, 0, -1), of(5, 0, 0, 1, 1), of(5, 0, 0, 2, 1), of(5, 7, 300, 1), of(5, 7, 300, 0, 0),
		of(12, 0, 0), of(13, 0, 0), of(api.MaxPages-1, 0, 0), of(12, 7, 129), of(11, 7, 257), of(10, 7, 513, 0), of(0, 7, 3073), of(8, 7, 1025),
		of(8, 7, api.MaxSize),
	}
	lists := [][]api.Span{
		{good, good}, {good, of(2, 1, 0)}, {good, of(0, 1, 0)}, {of(1, 1, 0), good, of(2, 1, 0)},
		{of(5, 7, 300, 0), of(6, 0, 0)}, {of(5, 7, 300), of(5, 7, 300)}, {of(5, 7, 700), of(6, 0, 0)}, {of(5, 7, 700), of(7, 0, 0)}, {of(5, 7, 700), of(4, 7, 300)}, {of(5, 0, 0), of(4, 7, 300)},
		{of(8, 7, 300), of(0, 7, 300)}, {of(11, 0, 0), of(12, 0, 0)}, {of(2, 0, 0), of(1, 0, 0), of(0, 0, 0)},
		{of(8, 0, 0), of(9, 0, 0), of(5, 0, 0), of(10, 0, 0)}, {of(0, 0, 0), of(0, 9, 0)},
	}
	for _, d := range wrongs {
		lists = append(lists, []api.Span{d}, []api.Span{good, d}, []api.Span{d, good}, []api.Span{good, d, of(11, 0, 0)})
	}
	for _, spans := range lists {
		if c, e := cache.From(12, 2, spans); c != nil || e != api.ErrForm {
			t.Errorf("From(12, 2, %v): %v", spans, e)
		}
	}
}

// P11.2, P11.3, P11.4: workers that there aren't; an error comes in the chapter's order and changes nothing.
func TestNoSuchWorker(t *testing.T) {
	for _, workers := range []int{1, 3, api.MaxWorkers} {
		x := from(t, 4, workers, of(1, 1, 0, 0, 2), of(2, 7, 300, 0))
		x.takes(0, 16, 0)
		for _, w := range []int{math.MinInt, -2, -1, workers, workers + 1, 64, math.MaxInt} {
			for _, n := range []int{1, 16, 24, 300, 0, -1, api.MaxSize + 1} {
				if at, e := x.take(w, n); at != 0 || e != api.ErrArg {
					t.Errorf("Take(%d, %d): %d, %v", w, n, at, e)
				}
			}
			for _, at := range []int{0, 16, 256, 257, 512, -1, 99999} {
				if e := x.give(w, at); e != api.ErrArg {
					t.Errorf("Give(%d, %d): %v", w, at, e)
				}
			}
			if e := x.flush(w); e != api.ErrArg {
				t.Errorf("Flush(%d): %v", w, e)
			}
			if got := x.c.Kept(w, 0); len(got) != 0 {
				t.Errorf("Kept(%d, 0): %v", w, got)
			}
		}
		x.takes(workers-1, 24, 280)
	}
}

// P11.2
func TestSizes(t *testing.T) {
	sizesAtEdges := []int{1, 2, 15, 129, 255, 256, 257, 511, 512, 513, 2048, api.MaxSize - 256, api.MaxSize - 255, api.MaxSize - 1, api.MaxSize}
	for _, n := range sizes {
		sizesAtEdges = append(sizesAtEdges, n, n+1)
	}
	for _, n := range sizesAtEdges {
		x := from(t, 17, 2)
		x.takes(1, n, 0)
		class := classOf(n)
		if got := x.c.Spans(); len(got) != 1 || got[0].Class != class {
			t.Errorf("Take(1, %d): Spans %v", n, got)
		}
		x.take(1, n)
		x.take(0, n)
	}
	x := from(t, 17, 2)
	for _, n := range []int{math.MinInt, math.MinInt + 1, -4096, -16, -1, 0, api.MaxSize + 1, api.MaxSize + 2, 1 << 20, math.MaxInt - 1, math.MaxInt} {
		if at, e := x.take(0, n); at != 0 || e != api.ErrArg {
			t.Errorf("Take(0, %d): %d, %v", n, at, e)
		}
	}
	x.isFree(run(0, 17))
}

// P11.2: what a class has of slots in a page, fewer than Batch or more, two workers take in turn, till no page is left.
func TestTakeTillNothingIsLeft(t *testing.T) {
	for _, n := range sizes {
		x := from(t, 3, 2)
		e := api.OK
		for turn := 0; e == api.OK; turn++ {
			_, e = x.take(turn%2, n)
		}
		// what the other one keeps it goes on with
		for w := range 2 {
			for len(x.c.Kept(w, classOf(n))) > 0 {
				x.take(w, n)
			}
		}
		x.isFree()
		x.noMemory(0, n)
		x.noMemory(1, n)
		if spans := x.c.Spans(); len(spans) != 3 || len(spans[2].Live) != 256/n {
			t.Errorf("Take of %d: Spans %v", n, spans)
		}
	}
}

// P11.2: free slots of one span or of several, fewer than Batch, just Batch and more.
func TestTakeSome(t *testing.T) {
	// one span with three, four and five free slots
	x := from(t, 2, 1, of(1, 0, 0, upto(13)...))
	x.takes(0, 16, 464)
	x.keeps(0, 0, 480, 496)
	x = from(t, 2, 1, of(1, 0, 0, upto(12)...))
	x.takes(0, 16, 448)
	x.keeps(0, 0, 464, 480, 496)
	x = from(t, 2, 1, of(1, 0, 0, upto(11)...))
	x.takes(0, 16, 432)
	x.keeps(0, 0, 448, 464, 480)
	// one free slot: it is taken, though a page is free
	x = from(t, 2, 1, of(1, 0, 0, upto(15)...))
	x.takes(0, 16, 496)
	x.keeps(0, 0)
	x.isFree(run(0, 1))
	// then the free page ahead of the span becomes one
	x.takes(0, 16, 0)
	x.keeps(0, 0, 16, 32, 48)
	x.isFree()
	// several spans, with others between
	x = from(t, 7, 2, of(1, 4, 0, 0, 1, 2), of(2, 3, 0), of(3, 4, 0, 0, 1, 2, 3), of(4, 4, 0, 0, 3), of(6, 4, 0, 1))
	x.takes(1, 64, 448)
	x.keeps(1, 4, 1088, 1152, 1536)
	x.takes(0, 50, 1664)
	x.keeps(0, 4, 1728)
	x.isFree(run(0, 1), run(5, 1))
	x.takes(0, 50, 1728, 0)
	x.isFree(run(5, 1))
	// fewer than Batch in several spans
	x = from(t, 3, 1, of(0, 6, 0, 1), of(2, 6, 0, 0))
	x.takes(0, 100, 0)
	x.keeps(0, 6, 640)
	x.takes(0, 100, 640, 256)
	x.keeps(0, 6, 384)
}

// P11.2: what a worker keeps it takes first, though slots with lesser places are free; what another keeps isn't free.
func TestTakeOfWhatIsKept(t *testing.T) {
	x := from(t, 2, 2)
	x.takes(0, 16, 0)
	x.takes(1, 16, 64)
	x.keeps(0, 0, 16, 32, 48)
	x.keeps(1, 0, 80, 96, 112)
	x.gives(1, 0)
	x.keeps(1, 0, 0, 80, 96, 112)
	x.flush(0)
	x.takes(1, 16, 0, 80, 96, 112, 16)
	x.keeps(1, 0, 32, 48, 128)
	// sizes of one class are alike; another class is its own
	x.takes(1, 1, 32)
	x.takes(1, 17, 256)
	x.takes(1, 16, 48)
	x.keeps(1, 0, 128)
	x.keeps(1, 1, 280, 304, 328)
}

// P11.2: a page becomes a span ahead of, between and behind those that stand.
func TestPageBecomesASpan(t *testing.T) {
	x := from(t, 5, 1, of(1, 0, 0, upto(16)...), of(3, 1, 0, upto(10)...))
	x.takes(0, 16, 0)
	x.takes(0, 24, 512)
	x.takes(0, 32, 1024)
	x.isFree()
	x.noMemory(0, 48)
	// a slot that is kept of another class is no place
	x.takes(0, 32, 1056, 1088, 1120)
	for range 4 {
		x.take(0, 32)
	}
	x.noMemory(0, 32)
}

// P11.2
func TestTakeOfLarge(t *testing.T) {
	x := from(t, 8, 2, of(1, 0, 0, 0), of(4, 0, 0, 0))
	x.isFree(run(0, 1), run(2, 2), run(5, 3))
	x.noMemory(0, 769)
	x.noMemory(0, api.MaxSize)
	x.takes(1, 768, 1280)
	x.noMemory(0, 513)
	x.takes(0, 512, 512)
	x.noMemory(0, 257)
	x.takes(0, 256, 0)
	x.isFree()
	x.noMemory(0, 129)
	x.noMemory(0, 128)
	x.takes(0, 16, 272)
	if got := x.c.Spans(); !slices.EqualFunc(got, []api.Span{of(0, 7, 256, 0), of(1, 0, 0, 0, 1), of(2, 7, 512, 0), of(4, 0, 0, 0), of(5, 7, 768, 0)}, same) {
		t.Errorf("Spans: %v", got)
	}
	// free pages that don't lie side by side
	x = from(t, 5, 1, of(1, 7, 200, 0), of(3, 7, 200, 0))
	x.noMemory(0, 257)
	x.takes(0, 256, 0, 512, 1024)
	// the whole
	x = from(t, 16, 1)
	x.takes(0, api.MaxSize, 0)
	x.noMemory(0, 1)
	x = from(t, 15, 1)
	x.noMemory(0, api.MaxSize)
	x.takes(0, api.MaxSize-256, 0)
	// the slot of a Large span that is free is none for another object
	x = from(t, 3, 1, of(0, 7, 300))
	x.takes(0, 200, 512)
	x.noMemory(0, 200)
	if x.scavenge() != 2 {
		t.Error("Scavenge of a Large span that is free")
	}
	x.takes(0, 300, 0)
}

// P11.3
func TestGive(t *testing.T) {
	for class, n := range sizes {
		for _, by := range []int{0, 1, 2} {
			x := from(t, 2, 3)
			x.takes(0, n, 0, n)
			x.gives(by, n)
			x.gives(by, 0)
			if got := x.c.Kept(by, class); len(got) < 2 || got[0] != 0 || got[1] != n {
				t.Errorf("Kept(%d, %d): %v", by, class, got)
			}
			x.takes(by, n, 0, n)
		}
	}
}

// P11.3
func TestGiveOfLarge(t *testing.T) {
	for _, by := range []int{0, 1} {
		x := from(t, 9, 2)
		x.takes(0, 300, 0, 512)
		x.takes(0, 16, 1024)
		x.takes(0, 1024, 1280)
		x.isFree()
		x.gives(by, 512)
		x.isFree(run(2, 2))
		x.gives(by, 1280)
		x.isFree(run(2, 2), run(5, 4))
		x.gives(by, 0)
		x.isFree(run(0, 4), run(5, 4))
		for class := range 9 {
			if class > 0 && len(x.c.Kept(by, class)) > 0 {
				t.Errorf("Kept(%d, %d): %v", by, class, x.c.Kept(by, class))
			}
		}
		if e := x.give(by, 512); e != api.ErrAddr {
			t.Errorf("Give of a span that is gone: %v", e)
		}
		x.takes(by, 1000, 0)
	}
}

// P11.3, P11.5
func TestGiveOfNoLiveSlot(t *testing.T) {
	x := from(t, 8, 2, of(1, 3, 0, 0, 4), of(2, 1, 0, 1, 9), of(4, 7, 600, 0), of(7, 7, 129))
	x.takes(0, 40, 304)
	x.takes(1, 10, 0)
	places := slices.Concat(anyInts, []int{
		352, 400, // kept
		16, 32, 48, // kept by the other
		64, 240, 512, 560, // free slots
		257, 303, 305, 495, 535, 1025, 1279, 1280, 1281, 1536, 1623, 1624, // inside slots
		496, 511, 752, 767, // behind the last slot of a page
		768, 769, 1023, // a free page
		1792, 1793, // a Large slot that is free
		-16, -256, -48, -512, 2048, 2049, 2096, 4096, 256 * api.MaxPages,
		math.MinInt + 256, math.MinInt + 304, math.MaxInt - 255, math.MaxInt - 256,
	})
	for _, at := range places {
		// of those numbers these are where live slots begin
		if at == 0 || at == 256 {
			continue
		}
		for w := range 2 {
			if e := x.give(w, at); e != api.ErrAddr {
				t.Errorf("Give(%d, %d): %v", w, at, e)
			}
		}
		if x.c.Live(at) {
			t.Errorf("Live(%d)", at)
		}
	}
	for _, at := range []int{0, 256, 304, 448, 536, 728, 1024} {
		if !x.c.Live(at) {
			t.Errorf("Live(%d): false", at)
		}
		x.gives(1, at)
		if x.c.Live(at) {
			t.Errorf("Live(%d) behind Give", at)
		}
		for w := range 2 {
			if e := x.give(w, at); e != api.ErrAddr {
				t.Errorf("Give(%d, %d), twice: %v", w, at, e)
			}
		}
	}
}

// P11.3: the ninth slot of a class makes the four with the greatest places free.
func TestGiveOfMoreThanMayBeKept(t *testing.T) {
	x := from(t, 4, 2, of(0, 0, 0, upto(16)...), of(2, 0, 0, upto(16)...), of(3, 2, 0, upto(8)...))
	x.gives(1, 512, 240, 0, 528, 16, 544, 32, 752)
	x.keeps(1, 0, 0, 16, 32, 240, 512, 528, 544, 752)
	// what it keeps of another class, and what another one keeps, doesn't count
	x.gives(1, 768)
	x.gives(0, 560)
	x.keeps(1, 0, 0, 16, 32, 240, 512, 528, 544, 752)
	x.gives(1, 224)
	x.keeps(1, 0, 0, 16, 32, 224, 240)
	x.keeps(0, 0, 560)
	x.keeps(1, 2, 768)
	// those that are free are taken by who has none
	x.takes(0, 16, 560, 512)
	x.keeps(0, 0, 528, 544, 752)
	// four more, and then the one that was given is among the greatest itself
	x.gives(1, 48, 64, 80)
	x.keeps(1, 0, 0, 16, 32, 48, 64, 80, 224, 240)
	x.gives(1, 736)
	x.keeps(1, 0, 0, 16, 32, 48, 64)
	if x.c.Live(736) {
		t.Error("Live(736): it is free")
	}
}

// P11.4
func TestFlush(t *testing.T) {
	x := from(t, 12, 3)
	for w := range 3 {
		if e := x.flush(w); e != api.OK {
			t.Errorf("Flush(%d) of nothing: %v", w, e)
		}
	}
	for i, n := range sizes {
		x.take(i%3, n)
		x.take(0, n)
	}
	x.gives(2, 0)
	spans := x.c.Spans()
	for _, w := range []int{1, 0, 0, 2, 1} {
		if e := x.flush(w); e != api.OK {
			t.Errorf("Flush(%d): %v", w, e)
		}
		for class := range sizes {
			x.keeps(w, class)
		}
	}
	// the spans stay, and their free slots are taken from the least place on
	if got := x.c.Spans(); !slices.EqualFunc(got, spans, same) {
		t.Errorf("Spans: %v, not %v", got, spans)
	}
	x.takes(1, 16, 0)
	x.keeps(1, 0, 32, 48, 64)
}

// P11.4
func TestScavenge(t *testing.T) {
	x := from(t, 9, 1)
	if x.scavenge() != 0 {
		t.Error("Scavenge of no span")
	}
	// empty ones side by side, at the beginning, between others and at the end; live ones; Large ones
	x = from(t, 12, 2, of(0, 0, 0), of(1, 1, 0), of(2, 2, 0, 7), of(3, 7, 700), of(6, 6, 0), of(7, 7, 129, 0), of(8, 3, 0, 0), of(10, 5, 0), of(11, 0, 0))
	if n := x.scavenge(); n != 8 {
		t.Errorf("Scavenge: %d", n)
	}
	x.isFree(run(0, 2), run(3, 4), run(9, 3))
	if x.scavenge() != 0 {
		t.Error("Scavenge, twice")
	}
	// kept ones stay, whoever keeps them
	x = from(t, 3, 2, of(0, 6, 0, 0), of(1, 6, 0, 0), of(2, 6, 0, 0, 1))
	x.gives(1, 0)
	x.gives(0, 256, 512, 640)
	if n := x.scavenge(); n != 0 {
		t.Errorf("Scavenge of spans that are kept from: %d", n)
	}
	x.flush(0)
	if n := x.scavenge(); n != 2 {
		t.Errorf("Scavenge: %d", n)
	}
	x.isFree(run(1, 2))
	x.keeps(1, 6, 0)
	x.takes(0, 128, 128)
	x.takes(0, 300, 256)
	x.gives(0, 128)
	x.flush(0)
	x.flush(1)
	if n := x.scavenge(); n != 1 {
		t.Errorf("Scavenge: %d", n)
	}
	x.isFree(run(0, 1))
}

// P11.2 to P11.5: whatever is done, in whatever order, by whomever.
func TestAnyOrder(t *testing.T) {
	for seed := range 12 {
		chance := noise(uint64(seed))
		workers := 1 + chance(4)
		spans := standing()[chance(len(standing()))]
		x := from(t, 12, workers, spans...)
		// mostly of few classes, so that they are met again
		bytes := []int{1 + chance(128), 1 + chance(128), 1 + chance(800)}
		for range 600 {
			w := chance(workers)
			switch step := chance(40); {
			case step < 20:
				x.take(w, bytes[chance(len(bytes))])
			case step < 21:
				x.take(chance(workers+2)-1, chance(4200)-20)
			case step < 36:
				x.give(w, x.somePlace(chance))
			case step < 37:
				x.give(chance(workers+2)-1, chance(12*256+400)-200)
			case step < 39:
				x.flush(w)
			default:
				x.scavenge()
			}
		}
	}
}

// somePlace is where a slot begins, mostly a live one.
func (x both) somePlace(chance func(below int) int) int {
	if len(x.m.lots) == 0 {
		return 0
	}
	l := x.m.lots[chance(len(x.m.lots))]
	from := chance(len(l.slots))
	for i := range l.slots {
		if slot := (from + i) % len(l.slots); l.slots[slot] == live {
			return l.at(slot)
		}
	}
	return l.at(from)
}

// P11.5
func TestKeptOfNoClass(t *testing.T) {
	x := from(t, 12, 2)
	for _, n := range sizes {
		x.take(1, n)
	}
	x.take(1, 300)
	for class := range sizes {
		if len(x.c.Kept(1, class)) == 0 || len(x.c.Kept(0, class)) != 0 {
			t.Errorf("Kept of class %d: %v, %v", class, x.c.Kept(1, class), x.c.Kept(0, class))
		}
	}
	for _, class := range []int{math.MinInt, -2, -1, 7, 8, 64, math.MaxInt} {
		for _, w := range []int{math.MinInt, -1, 0, 1, 2, math.MaxInt} {
			if got := x.c.Kept(w, class); len(got) != 0 {
				t.Errorf("Kept(%d, %d): %v", w, class, got)
			}
		}
	}
}

// P11.5
func TestNilCache(t *testing.T) {
	var c *cache.Cache
	for _, w := range anyInts {
		for _, n := range append(anyInts, 16, 300) {
			if at, e := c.Take(w, n); at != 0 || e != api.ErrNil {
				t.Errorf("Take(%d, %d): %d, %v", w, n, at, e)
			}
			if e := c.Give(w, n); e != api.ErrNil {
				t.Errorf("Give(%d, %d): %v", w, n, e)
			}
			if got := c.Kept(w, n); len(got) != 0 {
				t.Errorf("Kept(%d, %d): %v", w, n, got)
			}
		}
		if e := c.Flush(w); e != api.ErrNil {
			t.Errorf("Flush(%d): %v", w, e)
		}
		if c.Live(w) {
			t.Errorf("Live(%d)", w)
		}
	}
	if n, spans, free := c.Scavenge(), c.Spans(), c.Free(); n != 0 || len(spans) != 0 || len(free) != 0 {
		t.Errorf("Scavenge, Spans, Free: %d, %v, %v", n, spans, free)
	}
}

// P1, rule 6: of a cache that no maker answered nothing is promised but that the calls end.
func TestCacheOfNoMaker(t *testing.T) {
	c := new(cache.Cache)
	for _, w := range anyInts {
		for _, n := range append(anyInts, 16, 300) {
			c.Take(w, n)
			c.Give(w, n)
			c.Kept(w, n)
		}
		c.Flush(w)
		c.Live(w)
	}
	c.Scavenge()
	c.Spans()
	c.Free()
}

// spoil changes a list, and its spare room.
func spoil(list []int) {
	list = list[:cap(list)]
	for i := range list {
		list[i] = -77
	}
}

// roomy is spans as they are, each list with spare room, and all that there is of it.
func roomy(spans []api.Span) (given []api.Span, lists [][]int) {
	given = append(slices.Clone(spans), of(77, 7, 7), of(78, 7, 7))[:len(spans)]
	for i, d := range spans {
		room := append(slices.Clone(d.Live), 7, 8, 9)
		given[i].Live = room[:len(d.Live)]
		lists = append(lists, room)
	}
	return given, lists
}

// Rule 4: what From is handed stays as it is, and isn't kept; so too, if it is turned down.
func TestFromSharesNothing(t *testing.T) {
	cases := append(standing(), []api.Span{of(0, 0, 0, 3, 2)}, []api.Span{of(2, 0, 0, 1), of(1, 0, 0, 1)}, []api.Span{of(0, 0, 0, 1), of(99, 0, 0, 1)})
	for _, spans := range cases {
		given, lists := roomy(spans)
		c, e := cache.From(12, 1, given)
		if e == api.OK {
			x := both{t, c, modelOf(12, 1, spans)}
			x.take(0, 16)
			x.take(0, 64)
			x.giveAll()
			x.scavenge()
			for i := range given {
				given[i] = of(-1, -1, -1)
				spoil(lists[i])
			}
			x.alike()
			given, lists = roomy(spans)
			cache.From(12, 1, given)
		}
		for i, d := range spans {
			if !same(given[i], d) || !slices.Equal(lists[i], append(slices.Clone(d.Live), 7, 8, 9)) {
				t.Errorf("From(%v): it became %v, %v", spans, given[i], lists[i])
			}
		}
		if all := given[:len(given)+2]; all[len(given)].Page != 77 || all[len(given)+1].Page != 78 {
			t.Errorf("From(%v): the spare room became %v", spans, all[len(given):])
		}
	}
}

// giveAll gives all live slots, in their order.
func (x both) giveAll() {
	x.t.Helper()
	for _, l := range slices.Clone(x.m.lots) {
		for slot := range l.slots {
			if l.slots[slot] == live {
				x.gives(0, l.at(slot))
			}
		}
	}
}

// Rule 4: what is handed out has nothing in common with the cache, nor with another answer, nor one list of it with another.
func TestAnswersShareNothing(t *testing.T) {
	for _, spans := range standing() {
		x := from(t, 14, 2, spans...)
		for _, n := range sizes[:4] {
			x.take(1, n)
		}
		first := x.c.Spans()
		for i := range first {
			spoil(first[i].Live)
			for j, d := range x.m.spans() {
				if j > i && !same(first[j], d) {
					t.Errorf("two lists of Spans share memory: %v", first[j])
				}
			}
		}
		clear(first[:cap(first)])
		second, want := x.c.Spans(), x.m.spans()
		free, wantFree := x.c.Free(), x.m.freeRuns()
		his, wantHis := x.c.Kept(1, 0), x.m.placesThat(0, kept+1)
		other := x.c.Free()
		clear(other[:cap(other)])
		spoil(x.c.Kept(1, 0))
		spoil(x.c.Kept(1, 3))
		x.alike()
		x.take(1, 16)
		x.giveAll()
		x.flush(1)
		x.scavenge()
		if !slices.EqualFunc(second, want, same) || !slices.Equal(free, wantFree) || !slices.Equal(his, wantHis) {
			t.Errorf("answers changed with the cache: %v, %v, %v", second, free, his)
		}
	}
}

// P11.1: caches of the same spans go their own ways; what Spans tells is a cache in which nothing is kept.
func TestCachesHaveNothingInCommon(t *testing.T) {
	for _, spans := range standing() {
		one, two := from(t, 14, 2, spans...), from(t, 14, 2, spans...)
		at, _ := one.take(0, 16)
		two.alike()
		again := from(t, 14, 2, one.c.Spans()...)
		one.flush(0)
		if !slices.EqualFunc(one.c.Spans(), again.c.Spans(), same) || !slices.Equal(one.c.Free(), again.c.Free()) {
			t.Errorf("Spans: %v, not %v", again.c.Spans(), one.c.Spans())
		}
		two.takes(1, 16, at)
		again.alike()
	}
}

func TestExamples(t *testing.T) {
	x := from(t, 4, 2)
	x.takes(0, 20, 0)
	x.keeps(0, 1, 24, 48, 72)
	if got := x.c.Spans(); len(got) != 1 || !same(got[0], of(0, 1, 0, 0)) {
		t.Errorf("Spans: %v", got)
	}
	x.takes(1, 20, 96)
	x.takes(0, 300, 256)
	x.noMemory(0, 300)
	x.isFree(run(3, 1))
	x.gives(0, 96)
	x.keeps(0, 1, 24, 48, 72, 96)
	x.takes(0, 20, 24)
}
