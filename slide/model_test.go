package slide_test

import (
	"math/big"
	"slices"
	"testing"

	"hayloft/api"
	"hayloft/class"
	"hayloft/slide"
)

// sizes are the bytes of a slot of each small class, as the document tells them.
var sizes = []int{16, 24, 32, 48, 64, 96, 128}

// of is data of a span, with its live slots.
func of(page, class, size int, live ...int) api.Span {
	return api.Span{Page: page, Class: class, Size: size, Live: live}
}

func move(from, to, n int) api.Move {
	return api.Move{From: from, To: to, Len: n}
}

// upto are the slots below n.
func upto(n int) []int {
	var slots []int
	for i := range n {
		slots = append(slots, i)
	}
	return slots
}

func same(d, e api.Span) bool {
	return d.Page == e.Page && d.Class == e.Class && d.Size == e.Size && slices.Equal(d.Live, e.Live)
}

func copyOf(spans []api.Span) []api.Span {
	all := slices.Clone(spans)
	for i := range all {
		all[i].Live = slices.Clone(all[i].Live)
	}
	return all
}

// noise is a row of numbers that look like chance, the same ones each time.
func noise(seed uint64) func(below int) int {
	return func(below int) int {
		seed = seed*6364136223846793005 + 1442695040888963407
		return int(seed>>33) % below
	}
}

// slotBytes, slotsOf, pagesOf and placeOf say in the document's words what a span has.
func slotBytes(d api.Span) int {
	if d.Class == 7 {
		return d.Size
	}
	return sizes[d.Class]
}

func slotsOf(d api.Span) int {
	if d.Class == 7 {
		return 1
	}
	return 256 / sizes[d.Class]
}

func pagesOf(d api.Span) int {
	return (slotBytes(d) + 255) / 256
}

func placeOf(d api.Span, slot int) int {
	return 256*d.Page + slotBytes(d)*slot
}

// modelRight says in the document's words whether spans may stand.
func modelRight(pages int, spans []api.Span) bool {
	if pages < 1 || pages > 4096 {
		return false
	}
	taken := map[int]bool{}
	greatest := -1
	for _, d := range spans {
		if d.Class < 0 || d.Class > 7 || d.Class < 7 && d.Size != 0 || d.Class == 7 && (d.Size < 129 || d.Size > 4096) {
			return false
		}
		for i, slot := range d.Live {
			if slot < 0 || slot >= slotsOf(d) || i > 0 && slot <= d.Live[i-1] {
				return false
			}
		}
		if d.Page < 0 || d.Page >= pages || d.Page < greatest {
			return false
		}
		for page := d.Page; page < d.Page+pagesOf(d); page++ {
			if page >= pages || taken[page] {
				return false
			}
			taken[page] = true
			greatest = page
		}
	}
	return true
}

// modelPlan is in the document's words the plan of spans that may stand.
func modelPlan(spans []api.Span) (behind []api.Span, moves []api.Move) {
	behind = copyOf(spans)
	for class, bytes := range sizes {
		var ofClass []int
		var from []int
		for i, d := range behind {
			if d.Class != class {
				continue
			}
			ofClass = append(ofClass, i)
			for _, slot := range d.Live {
				from = append(from, placeOf(d, slot))
			}
			behind[i].Live = nil
		}
		slots := 256 / bytes
		for j, at := range from {
			d := &behind[ofClass[j/slots]]
			d.Live = append(d.Live, j%slots)
			if to := placeOf(*d, j%slots); to != at {
				moves = append(moves, move(at, to, bytes))
			}
		}
	}
	behind = slices.DeleteFunc(behind, func(d api.Span) bool { return len(d.Live) == 0 })
	for i := range behind {
		page := 0
		if i > 0 {
			page = behind[i-1].Page + pagesOf(behind[i-1])
		}
		if from := behind[i].Page; from != page {
			moves = append(moves, move(256*from, 256*page, 256*pagesOf(behind[i])))
		}
		behind[i].Page = page
	}
	return behind, moves
}

// modelWhere is in the document's words where a place comes to; a number that no int is comes round to one.
func modelWhere(at int, moves []api.Move) int {
	for _, m := range moves {
		place, from := big.NewInt(int64(at)), big.NewInt(int64(m.From))
		end := new(big.Int).Add(from, big.NewInt(int64(m.Len)))
		if place.Cmp(from) >= 0 && place.Cmp(end) < 0 {
			at = at - m.From + m.To
		}
	}
	return at
}

// plan is a plan that there must be.
func plan(t *testing.T, pages int, spans []api.Span) ([]api.Span, []api.Move) {
	t.Helper()
	behind, moves, e := slide.Plan(pages, spans)
	if e != api.OK {
		t.Fatalf("Plan(%d, %v): %v", pages, spans, e)
	}
	return behind, moves
}

// planIs holds that a plan is just this one.
func planIs(t *testing.T, pages int, spans, behind []api.Span, moves []api.Move) {
	t.Helper()
	gotBehind, gotMoves := plan(t, pages, spans)
	if !slices.EqualFunc(gotBehind, behind, same) {
		t.Errorf("Plan(%d, %v): the spans %v, not %v", pages, spans, gotBehind, behind)
	}
	if !slices.Equal(gotMoves, moves) {
		t.Errorf("Plan(%d, %v): the moves %v, not %v", pages, spans, gotMoves, moves)
	}
}

// goesWell holds all that is promised of a plan of spans that may stand.
func goesWell(t *testing.T, pages int, spans []api.Span) {
	t.Helper()
	if !slide.Right(pages, spans) {
		t.Fatalf("Right(%d, %v): false", pages, spans)
	}
	wantBehind, wantMoves := modelPlan(spans)
	planIs(t, pages, spans, wantBehind, wantMoves)
	behind, moves := plan(t, pages, spans)
	for _, m := range moves {
		if m.To >= m.From || m.To < 0 || m.Len < 1 {
			t.Errorf("Plan(%d, %v): the move %v", pages, spans, m)
		}
	}
	broughtWhole(t, pages, spans, behind, moves)
	isTight(t, pages, spans, behind)
	if again, moves := plan(t, pages, behind); len(moves) != 0 || !slices.EqualFunc(again, behind, same) {
		t.Errorf("Plan(%d, %v), which came out of %v: %v, %v", pages, behind, spans, again, moves)
	}
}

// places are where the live slots of spans begin.
func places(spans []api.Span) []int {
	var all []int
	for _, d := range spans {
		for _, slot := range d.Live {
			all = append(all, placeOf(d, slot))
		}
	}
	return all
}

// broughtWhole holds that the moves bring each live slot's bytes to where Where says, and that these places are the new live slots.
func broughtWhole(t *testing.T, pages int, spans, behind []api.Span, moves []api.Move) {
	t.Helper()
	// each place has another number in it, so that nothing that is lost can look as if it were there
	arena := make([]int, 256*pages)
	for i := range arena {
		arena[i] = i
	}
	for _, m := range moves {
		copy(arena[m.To:m.To+m.Len], slices.Clone(arena[m.From:m.From+m.Len]))
	}
	var came []int
	for _, d := range spans {
		for _, slot := range d.Live {
			from := placeOf(d, slot)
			to := slide.Where(from, moves)
			came = append(came, to)
			for i := range slotBytes(d) {
				if got := slide.Where(from+i, moves); got != to+i || arena[to+i] != from+i {
					t.Fatalf("Plan(%d, %v): Where(%d) is %d, and the byte %d lies at %d", pages, spans, from+i, got, arena[to+i], to+i)
				}
			}
		}
	}
	slices.Sort(came)
	if want := places(behind); !slices.Equal(came, want) {
		t.Errorf("Plan(%d, %v): objects come to %v, but live are %v", pages, spans, came, want)
	}
}

// isTight holds that no page is free ahead of a taken one, that each class has at most one span with a free slot, and that no more pages are taken than the objects need.
func isTight(t *testing.T, pages int, spans, behind []api.Span) {
	t.Helper()
	if !slide.Right(pages, behind) {
		t.Errorf("Plan(%d, %v): %v may not stand", pages, spans, behind)
	}
	end := 0
	room := make([]int, 7)
	for _, d := range behind {
		if d.Page != end || len(d.Live) == 0 {
			t.Errorf("Plan(%d, %v): the span %v behind %d pages", pages, spans, d, end)
		}
		end += pagesOf(d)
		if len(d.Live) < slotsOf(d) {
			room[d.Class]++
		}
	}
	if slices.Max(room) > 1 {
		t.Errorf("Plan(%d, %v): %v has so many spans with free slots: %v", pages, spans, behind, room)
	}
	var objects []int
	for _, d := range spans {
		for range d.Live {
			objects = append(objects, slotBytes(d))
		}
	}
	if need := class.Need(objects); need != end {
		t.Errorf("Plan(%d, %v): %d pages, but the objects need %d", pages, spans, end, need)
	}
}

// turnedDown holds that spans may not stand.
func turnedDown(t *testing.T, pages int, spans []api.Span) {
	t.Helper()
	if slide.Right(pages, spans) {
		t.Errorf("Right(%d, %v): true", pages, spans)
	}
	if behind, moves, e := slide.Plan(pages, spans); len(behind) != 0 || len(moves) != 0 || e != api.ErrForm {
		t.Errorf("Plan(%d, %v): %v, %v, %v", pages, spans, behind, moves, e)
	}
}
