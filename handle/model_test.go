package handle_test

import (
	"math"
	"slices"
	"testing"

	"hayloft/api"
	"hayloft/handle"
)

// lead is what a handle leads to.
type lead struct{ kind, at int }

// model is in the document's words what a table must be: the last generation of each index from 1 on, and all handles that live, as numbers.
type model struct {
	gens  []int
	leads map[api.Handle]lead
}

// modelOf is the model of rows that may stand.
func modelOf(most int, rows []api.Row) *model {
	m := &model{gens: make([]int, most), leads: map[api.Handle]lead{}}
	for i, r := range rows {
		m.gens[i] = r.Gen
		if r.Live {
			m.leads[m.last(i+1)] = lead{r.Kind, r.At}
		}
	}
	return m
}

// last is the last handle that was given out with an index.
func (m *model) last(index int) api.Handle {
	return api.Handle(index + 65536*m.gens[index-1])
}

func (m *model) lives(h api.Handle) bool {
	_, ok := m.leads[h]
	return ok
}

// next is the index that is given out next; 0, if none can be.
func (m *model) next() int {
	for index := 1; index <= len(m.gens); index++ {
		if !m.lives(m.last(index)) && m.gens[index-1] < 65535 {
			return index
		}
	}
	return 0
}

func (m *model) make(kind, at int) (api.Handle, api.Errno) {
	index := m.next()
	if index == 0 {
		return 0, api.ErrFull
	}
	m.gens[index-1]++
	m.leads[m.last(index)] = lead{kind, at}
	return m.last(index), api.OK
}

func (m *model) rows() []api.Row {
	var all []api.Row
	for i, gen := range m.gens {
		to, live := m.leads[m.last(i+1)]
		all = append(all, api.Row{Gen: gen, Live: live, Kind: to.kind, At: to.at})
	}
	for len(all) > 0 && all[len(all)-1].Gen == 0 {
		all = all[:len(all)-1]
	}
	return all
}

func (m *model) live() []api.Handle {
	var all []api.Handle
	for index := range m.gens {
		if h := m.last(index + 1); m.lives(h) {
			all = append(all, h)
		}
	}
	return all
}

// both is a table and its model, with which the same is done.
type both struct {
	t *testing.T
	x *handle.Table
	m *model
}

// from is a table of these rows, and its model.
func from(t *testing.T, most int, rows ...api.Row) both {
	t.Helper()
	x, e := handle.From(most, rows)
	if x == nil || e != api.OK {
		t.Fatalf("From(%d, %v): %v, %v", most, rows, x, e)
	}
	b := both{t, x, modelOf(most, rows)}
	b.alike()
	return b
}

// alike holds all that the table tells against the model.
func (b both) alike() {
	b.t.Helper()
	if rows, want := b.x.Rows(), b.m.rows(); !slices.Equal(rows, want) {
		b.t.Fatalf("Rows: %v, not %v", rows, want)
	}
	if live, want := b.x.Live(), b.m.live(); !slices.Equal(live, want) {
		b.t.Fatalf("Live: %v, not %v", live, want)
	}
	if full, want := b.x.Full(), b.m.next() == 0; full != want {
		b.t.Fatalf("Full: %v, not %v", full, want)
	}
}

// get holds what a handle leads to against the model.
func (b both) get(h api.Handle) {
	b.t.Helper()
	want := api.OK
	if !b.m.lives(h) {
		want = api.ErrStale
	}
	to := b.m.leads[h]
	if kind, at, e := b.x.Get(h); kind != to.kind || at != to.at || e != want {
		b.t.Fatalf("Get(%d): %d, %d, %v, not %v, %v", h, kind, at, e, to, want)
	}
}

func (b both) make(kind, at int) api.Handle {
	b.t.Helper()
	want, wantErr := b.m.make(kind, at)
	if h, e := b.x.Make(kind, at); h != want || e != wantErr {
		b.t.Fatalf("Make(%d, %d): %d, %v, not %d, %v", kind, at, h, e, want, wantErr)
	}
	b.alike()
	if want != 0 {
		b.get(want)
	}
	return want
}

func (b both) put(h api.Handle, at int) {
	b.t.Helper()
	want := api.ErrStale
	if to, ok := b.m.leads[h]; ok {
		want = api.OK
		b.m.leads[h] = lead{to.kind, at}
	}
	if e := b.x.Put(h, at); e != want {
		b.t.Fatalf("Put(%d, %d): %v, not %v", h, at, e, want)
	}
	b.alike()
	b.get(h)
}

func (b both) drop(h api.Handle) {
	b.t.Helper()
	want := api.ErrStale
	if b.m.lives(h) {
		want = api.OK
		delete(b.m.leads, h)
	}
	if e := b.x.Drop(h); e != want {
		b.t.Fatalf("Drop(%d): %v, not %v", h, e, want)
	}
	b.alike()
	b.get(h)
}

// stale says of handles that none of them lives, and that nothing can be done with them.
func (b both) stale(all ...api.Handle) {
	b.t.Helper()
	for _, h := range all {
		if b.m.lives(h) {
			b.t.Fatalf("the handle %d lives", h)
		}
		b.get(h)
		for _, at := range []int{0, 77, math.MinInt, math.MaxInt} {
			b.put(h, at)
		}
		b.drop(h)
	}
}

// noise is a row of numbers that look like chance, the same ones each time.
func noise(seed uint64) func(below int) int {
	return func(below int) int {
		seed = seed*6364136223846793005 + 1442695040888963407
		return int(seed>>33) % below
	}
}
