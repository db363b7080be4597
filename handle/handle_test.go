package handle_test

import (
	"math"
	"slices"
	"testing"

	"hayloft/api"
	"hayloft/handle"
)

// of is the number of an index and a generation.
func of(index, gen int) api.Handle {
	return api.Handle(index + 65536*gen)
}

// live is the row of a handle that lives.
func live(gen, kind, at int) api.Row {
	return api.Row{Gen: gen, Live: true, Kind: kind, At: at}
}

// gone is the row of an index none of whose handles lives.
func gone(gen int) api.Row {
	return api.Row{Gen: gen}
}

// many is so many rows that are alike.
func many(n int, r api.Row) []api.Row {
	return slices.Repeat([]api.Row{r}, n)
}

// P12.1
func TestOf(t *testing.T) {
	indexes := []int{math.MinInt, -65536, -4096, -1, 0, 1, 2, 17, 4095, 4096, 4097, 65535, 65536, 65537, 1 << 32, 1<<32 + 1, math.MaxInt}
	gens := []int{math.MinInt, -65536, -65535, -1, 0, 1, 2, 255, 32768, 65534, 65535, 65536, 65537, 1 << 32, 1<<32 + 1, 1 << 48, 1<<48 + 1, math.MaxInt}
	for _, index := range indexes {
		for _, gen := range gens {
			want := api.Handle(0)
			if index >= 1 && index <= 4096 && gen >= 1 && gen <= 65535 {
				want = of(index, gen)
			}
			if h := handle.Of(index, gen); h != want {
				t.Errorf("Of(%d, %d): %d, not %d", index, gen, h, want)
			}
		}
	}
}

// P12.1: no two of them are one number.
func TestHandlesDiffer(t *testing.T) {
	seen := map[api.Handle]bool{}
	for index := 1; index <= api.MaxHandles; index += 31 {
		for gen := 1; gen <= api.MaxGen; gen += 119 {
			h := handle.Of(index, gen)
			if h != of(index, gen) || seen[h] {
				t.Fatal(index, gen, h)
			}
			seen[h] = true
		}
	}
}

// P12.1
func TestMost(t *testing.T) {
	for _, most := range []int{1, 2, 3, 4095, 4096} {
		x, e := handle.New(most)
		if x == nil || e != api.OK {
			t.Fatal(most, x, e)
		}
		both{t, x, modelOf(most, nil)}.alike()
		if len(x.Rows()) != 0 || len(x.Live()) != 0 || x.Full() {
			t.Error(most, x.Rows(), x.Live(), x.Full())
		}
		b := from(t, most)
		from(t, most, []api.Row{}...)
		b.make(3, 4)
	}
}

// P12.1: ErrArg comes ahead of what is wrong with rows.
func TestNoSuchMost(t *testing.T) {
	for _, most := range []int{math.MinInt, -4096, -1, 0, 4097, 65536, 1 << 32, 1<<32 + 1, math.MaxInt} {
		if x, e := handle.New(most); x != nil || e != api.ErrArg {
			t.Error(most, x, e)
		}
		for _, rows := range [][]api.Row{nil, {}, {live(1, 0, 0)}, {gone(0)}, {gone(-1)}, {gone(65536)}, {live(0, 0, 0)}, {live(1, 0, 0), gone(0)}} {
			if x, e := handle.From(most, rows); x != nil || e != api.ErrArg {
				t.Error(most, rows, x, e)
			}
		}
	}
}

// P12.1
func TestFrom(t *testing.T) {
	for _, rows := range [][]api.Row{
		nil, {},
		{gone(1)}, {gone(2)}, {gone(65534)}, {gone(65535)},
		{live(1, 0, 0)}, {live(65534, 0, 0)}, {live(65535, 0, 0)},
		{live(1, 5, 0)}, {live(1, 0, 5)}, {live(1, -1, -1)}, {live(1, 64, 1<<20)},
		{live(7, math.MinInt, math.MaxInt), live(8, math.MaxInt, math.MinInt)},
		{live(1, 3, 16), live(1, 3, 16)},
		{gone(0), live(1, 0, 0)}, {gone(0), gone(1)}, {gone(0), gone(0), gone(65535)},
		{live(4, 1, 2), gone(0), gone(3), gone(0), live(65535, 6, 7), gone(65535), live(9, 8, 7)},
	} {
		for _, most := range []int{max(1, len(rows)), len(rows) + 1, len(rows) + 9, api.MaxHandles} {
			b := from(t, most, rows...)
			if !slices.Equal(b.x.Rows(), rows) {
				t.Error(most, rows, b.x.Rows())
			}
			for i := range most {
				for _, gen := range []int{1, 2, 3, 4, 65534, 65535} {
					b.get(of(i+1, gen))
				}
			}
			for range 3 {
				b.make(9, 9)
			}
		}
	}
}

// P12.1
func TestFromOfAsManyRowsAsMost(t *testing.T) {
	for _, most := range []int{1, 2, 3, 4095, 4096} {
		for _, r := range []api.Row{live(1, 0, 0), live(65535, 2, 3), gone(1), gone(65535)} {
			from(t, most, many(most, r)...)
			from(t, most, many(most-1, r)...)
			for _, more := range []int{1, 2, 5000} {
				if x, e := handle.From(most, many(most+more, r)); x != nil || e != api.ErrForm {
					t.Error(most, more, r, x, e)
				}
			}
		}
	}
}

// P12.1
func TestRowsThatMayNotStand(t *testing.T) {
	fine := []api.Row{live(1, 2, 3), gone(65535), live(65535, 0, 0)}
	for _, r := range []api.Row{
		gone(-1), gone(math.MinInt), gone(65536), gone(65537), gone(1 << 32), gone(1<<32 + 1), gone(math.MaxInt),
		live(-1, 0, 0), live(math.MinInt, 0, 0), live(65536, 0, 0), live(1<<32+1, 0, 0), live(math.MaxInt, 0, 0),
		live(0, 0, 0), live(0, 1, 0), live(0, 1, 16),
		{Gen: 1, Kind: 1}, {Gen: 1, At: 1}, {Gen: 1, Kind: -1}, {Gen: 1, At: -1}, {Gen: 65535, Kind: 3, At: 4},
		{Gen: 1, Kind: math.MinInt}, {Gen: 1, At: math.MaxInt},
		{Kind: 1}, {At: 1}, {Kind: 1, At: 1},
	} {
		for i := range len(fine) + 1 {
			rows := slices.Insert(slices.Clone(fine), i, r)
			if x, e := handle.From(8, rows); x != nil || e != api.ErrForm {
				t.Error(rows, x, e)
			}
		}
		if x, e := handle.From(1, []api.Row{r}); x != nil || e != api.ErrForm {
			t.Error(r, x, e)
		}
	}
}

// P12.1: of an index that was never given out there is a row only where a greater one was.
func TestLastRowThatWasNeverGivenOut(t *testing.T) {
	for _, rows := range [][]api.Row{{gone(0)}, {gone(0), gone(0)}, {live(1, 2, 3), gone(0)}, {gone(1), gone(0)}, {live(1, 0, 0), gone(0), gone(0)}} {
		if x, e := handle.From(8, rows); x != nil || e != api.ErrForm {
			t.Error(rows, x, e)
		}
		from(t, 8, append(slices.Clone(rows), gone(1))...)
		from(t, 8, append(slices.Clone(rows), live(1, 0, 0))...)
	}
	if x, e := handle.From(8, many(8, gone(0))); x != nil || e != api.ErrForm {
		t.Error(x, e)
	}
}

// P12.2
func TestMakeTillFull(t *testing.T) {
	for _, most := range []int{1, 2, 3, 200} {
		b := from(t, most)
		for i := range most {
			if h := b.make(i, 16*i); h != of(i+1, 1) || b.x.Full() != (i == most-1) {
				t.Fatal(most, i, h, b.x.Full())
			}
		}
		for range 3 {
			if h := b.make(1, 1); h != 0 {
				t.Error(most, h)
			}
		}
	}
}

// P12.2: all that there may be.
func TestMakeOfAllHandles(t *testing.T) {
	x, e := handle.New(api.MaxHandles)
	if e != api.OK {
		t.Fatal(e)
	}
	for i := range api.MaxHandles {
		if h, e := x.Make(i, -i); h != of(i+1, 1) || e != api.OK {
			t.Fatal(i, h, e)
		}
	}
	if h, e := x.Make(1, 1); h != 0 || e != api.ErrFull || !x.Full() || len(x.Live()) != api.MaxHandles {
		t.Error(h, e, x.Full())
	}
	if kind, at, e := x.Get(of(4096, 1)); kind != 4095 || at != -4095 || e != api.OK {
		t.Error(kind, at, e)
	}
	if x.Drop(of(4096, 1)) != api.OK || x.Full() {
		t.Error("the last one can't be dropped")
	}
}

// P12.2: which index is given out, of which generation.
func TestMakeOfTheLeast(t *testing.T) {
	for _, c := range []struct {
		most int
		rows []api.Row
		want api.Handle
	}{
		{1, nil, of(1, 1)},
		{4096, nil, of(1, 1)},
		{2, []api.Row{live(1, 0, 0)}, of(2, 1)},
		{1, []api.Row{live(1, 0, 0)}, 0},
		{1, []api.Row{gone(1)}, of(1, 2)},
		{3, []api.Row{gone(4), live(5, 0, 0), live(6, 0, 0)}, of(1, 5)},
		{3, []api.Row{live(4, 0, 0), gone(5), live(6, 0, 0)}, of(2, 6)},
		{3, []api.Row{live(4, 0, 0), live(5, 0, 0), gone(6)}, of(3, 7)},
		{3, []api.Row{gone(9), gone(5), gone(1)}, of(1, 10)},
		{4, []api.Row{live(9, 0, 0), gone(5), gone(1)}, of(2, 6)},
		{3, []api.Row{gone(0), gone(0), live(6, 0, 0)}, of(1, 1)},
		{3, []api.Row{live(2, 0, 0), gone(0), live(6, 0, 0)}, of(2, 1)},
		{1, []api.Row{gone(65534)}, of(1, 65535)},
		{1, []api.Row{gone(65535)}, 0},
		{2, []api.Row{gone(65535)}, of(2, 1)},
		{2, []api.Row{gone(65535), gone(7)}, of(2, 8)},
		{2, []api.Row{gone(65535), gone(65534)}, of(2, 65535)},
		{2, []api.Row{gone(65535), gone(65535)}, 0},
		{3, []api.Row{gone(65535), gone(65535)}, of(3, 1)},
		{2, []api.Row{gone(65535), live(1, 0, 0)}, 0},
		{3, []api.Row{gone(65535), live(1, 0, 0), gone(65535)}, 0},
		{3, []api.Row{live(65535, 0, 0), live(65534, 0, 0), gone(65535)}, 0},
		{4, []api.Row{live(65535, 0, 0), live(65534, 0, 0), gone(65535)}, of(4, 1)},
		{4096, many(4095, live(3, 0, 0)), of(4096, 1)},
		{4096, many(4095, gone(65535)), of(4096, 1)},
		{4096, many(4096, gone(65535)), 0},
	} {
		b := from(t, c.most, c.rows...)
		if b.x.Full() != (c.want == 0) {
			t.Error(c.most, c.rows, b.x.Full())
		}
		if h := b.make(6, 7); h != c.want {
			t.Error(c.most, c.rows, h, c.want)
		}
		b.make(8, 9)
	}
}

// P12.2
func TestMakeAfterDrops(t *testing.T) {
	b := from(t, 6)
	for i := range 6 {
		b.make(i, i)
	}
	for _, index := range []int{5, 2, 3} {
		b.drop(of(index, 1))
	}
	for _, want := range []api.Handle{of(2, 2), of(3, 2), of(5, 2), 0} {
		if h := b.make(1, 2); h != want {
			t.Error(h, want)
		}
	}
	b.drop(of(3, 2))
	b.drop(of(1, 1))
	for _, want := range []api.Handle{of(1, 2), of(3, 3), 0} {
		if h := b.make(1, 2); h != want {
			t.Error(h, want)
		}
	}
}

// P12.2: kind and place may be any.
func TestMakeOfAnyKindAndPlace(t *testing.T) {
	b := from(t, 49)
	numbers := []int{math.MinInt, -1, 0, 1, 63, 1 << 40, math.MaxInt}
	for _, kind := range numbers {
		for _, at := range numbers {
			h := b.make(kind, at)
			if k, a, e := b.x.Get(h); k != kind || a != at || e != api.OK {
				t.Error(kind, at, k, a, e)
			}
		}
	}
}

// P12.3
func TestPut(t *testing.T) {
	b := from(t, 3)
	for i := range 3 {
		b.make(10+i, 100+i)
	}
	for _, at := range []int{0, 1, -1, 4096, math.MinInt, math.MaxInt} {
		b.put(of(2, 1), at)
		if kind, to, e := b.x.Get(of(2, 1)); kind != 11 || to != at || e != api.OK {
			t.Error(at, kind, to, e)
		}
	}
	b.get(of(1, 1))
	b.get(of(3, 1))
}

// P12.3
func TestDrop(t *testing.T) {
	b := from(t, 3, live(4, 1, 16), live(65535, 2, 32), live(1, 3, 48))
	for _, h := range []api.Handle{of(2, 65535), of(1, 4), of(3, 1)} {
		b.drop(h)
		b.stale(h)
	}
	if !slices.Equal(b.x.Rows(), []api.Row{gone(4), gone(65535), gone(1)}) {
		t.Error(b.x.Rows())
	}
}

// P12.3: handles that don't live, and behind which nothing has changed.
func TestStale(t *testing.T) {
	b := from(t, 6, live(4, 1, 16), gone(9), live(65535, 2, 32), gone(0), live(1, 3, 48))
	b.stale(0, 1, 2, 4, 5, 6, 7, 65535, 65536, 4*65536)
	b.stale(of(1, 3), of(1, 5), of(1, 2), of(1, 1), of(1, 65535))
	b.stale(of(2, 8), of(2, 9), of(2, 10))
	b.stale(of(3, 65534), of(3, 65536), of(3, 1), of(2, 65535), of(4, 65535))
	b.stale(of(4, 1), of(4, 65535))
	b.stale(of(5, 2), of(6, 1), of(7, 1), of(0, 4), of(0, 1), of(4096, 1), of(4097, 1), of(65535, 1))
	for shift := 17; shift < 64; shift++ {
		for _, h := range b.x.Live() {
			if far := h ^ 1<<shift; !b.m.lives(far) {
				b.stale(far)
			}
		}
	}
	b.stale(math.MaxUint64, math.MaxUint64-1, math.MaxInt64, 1<<63, 1<<63+1, 1<<63|of(1, 4), 1<<32|of(1, 4), 1<<48|of(1, 4), 1<<32, 1<<48, 1<<48+1)
	for _, h := range []api.Handle{of(1, 4), of(3, 65535), of(5, 1)} {
		b.get(h)
		b.put(h, 5)
		b.drop(h)
	}
}

// P12.3: an index that was given out anew has nothing to do with its older handles.
func TestOldHandleOfALiveIndex(t *testing.T) {
	b := from(t, 2)
	old := b.make(1, 16)
	b.drop(old)
	anew := b.make(2, 32)
	b.stale(old)
	if kind, at, e := b.x.Get(anew); kind != 2 || at != 32 || e != api.OK {
		t.Error(kind, at, e)
	}
	b.drop(anew)
	b.stale(old, anew)
}

// P12.4
func TestRows(t *testing.T) {
	b := from(t, 5)
	if len(b.x.Rows()) != 0 {
		t.Error(b.x.Rows())
	}
	for i := range 4 {
		b.make(i, 8*i)
	}
	b.drop(of(2, 1))
	b.drop(of(4, 1))
	if want := []api.Row{live(1, 0, 0), gone(1), live(1, 2, 16), gone(1)}; !slices.Equal(b.x.Rows(), want) {
		t.Error(b.x.Rows())
	}
	for _, index := range []int{1, 3} {
		b.drop(of(index, 1))
	}
	if !slices.Equal(b.x.Rows(), many(4, gone(1))) {
		t.Error(b.x.Rows())
	}
}

// P12.4
func TestLive(t *testing.T) {
	for _, c := range []struct {
		rows []api.Row
		want []api.Handle
	}{
		{nil, nil},
		{[]api.Row{gone(1)}, nil},
		{[]api.Row{gone(65535), gone(0), gone(3)}, nil},
		{[]api.Row{live(9, 0, 0), live(3, 0, 0), live(65535, 0, 0)}, []api.Handle{of(1, 9), of(2, 3), of(3, 65535)}},
		{[]api.Row{gone(0), live(3, 1, 2), gone(8), gone(65535), live(1, 3, 4)}, []api.Handle{of(2, 3), of(5, 1)}},
	} {
		b := from(t, 5, c.rows...)
		if !slices.Equal(b.x.Live(), c.want) {
			t.Error(c.rows, b.x.Live(), c.want)
		}
	}
}

// P12.2, P12.4: a table of what another one's Rows tell goes on like it.
func TestRowsMakeATableThatGoesOnAlike(t *testing.T) {
	chance := noise(4)
	for range 60 {
		b := from(t, 1+chance(12))
		walk(b, chance, 30)
		c := from(t, len(b.m.gens), b.x.Rows()...)
		for range 40 {
			kind, at := chance(5), chance(50)
			h, e := b.x.Make(kind, at)
			if same, alike := c.x.Make(kind, at); same != h || alike != e {
				t.Fatal(h, e, same, alike)
			}
			if chance(2) == 0 && h != 0 && b.x.Drop(h) != c.x.Drop(h) {
				t.Fatal("Drop", h)
			}
			if !slices.Equal(b.x.Rows(), c.x.Rows()) {
				t.Fatal(b.x.Rows(), c.x.Rows())
			}
		}
	}
}

// walk does so many steps by chance, and tells the handles that were given out.
func walk(b both, chance func(int) int, steps int) []api.Handle {
	b.t.Helper()
	all := []api.Handle{0}
	for range steps {
		h := all[chance(len(all))]
		switch chance(6) {
		case 0, 1, 2:
			all = append(all, b.make(chance(64), 8*chance(1000)))
		case 3:
			b.put(h, 8*chance(1000))
		case 4:
			b.drop(h)
		case 5:
			b.get(of(chance(len(b.m.gens)+3), chance(6)))
		}
	}
	return all
}

// P12.1 to P12.5, in any order.
func TestAnyOrder(t *testing.T) {
	chance := noise(12)
	for range 100 {
		var rows []api.Row
		for range chance(8) {
			rows = append(rows, [...]api.Row{gone(0), gone(1 + chance(5)), gone(65533 + chance(3)), live(1+chance(5), 1, 2), live(65533+chance(3), 3, 4)}[chance(5)])
		}
		rows = append(rows, live(1+chance(9), 5, 6))
		b := from(t, len(rows)+chance(4), rows...)
		before := b.x.Live()
		given := slices.DeleteFunc(walk(b, chance, 120), func(h api.Handle) bool { return h == 0 })
		seen := map[api.Handle]bool{}
		for _, h := range append(before, given...) {
			if seen[h] {
				t.Fatal("given out twice", h)
			}
			seen[h] = true
			b.get(h)
		}
	}
}

// P12.5: one index through all its generations.
func TestAllGenerations(t *testing.T) {
	x, e := handle.New(1)
	if e != api.OK {
		t.Fatal(e)
	}
	for gen := 1; gen <= api.MaxGen; gen++ {
		h, e := x.Make(gen, -gen)
		if h != of(1, gen) || e != api.OK || !x.Full() {
			t.Fatal(gen, h, e)
		}
		if e := x.Drop(h); e != api.OK {
			t.Fatal(gen, e)
		}
		if _, _, e := x.Get(h); e != api.ErrStale || x.Full() != (gen == api.MaxGen) {
			t.Fatal(gen, e, x.Full())
		}
	}
	b := both{t, x, modelOf(1, []api.Row{gone(65535)})}
	b.alike()
	for range 3 {
		b.make(1, 1)
	}
	for gen := range api.MaxGen + 2 {
		if _, _, e := x.Get(of(1, gen)); e != api.ErrStale || x.Put(of(1, gen), 3) != api.ErrStale || x.Drop(of(1, gen)) != api.ErrStale {
			t.Fatal(gen, e)
		}
	}
	b.alike()
}

// P12.5: an index that has had all its generations is passed over, and the others go on.
func TestLastGenerationAmongOthers(t *testing.T) {
	b := from(t, 3, gone(65534), live(65535, 1, 2), gone(65533))
	for _, want := range []api.Handle{of(1, 65535), of(3, 65534)} {
		if h := b.make(1, 1); h != want {
			t.Error(h, want)
		}
	}
	for _, h := range []api.Handle{of(1, 65535), of(2, 65535), of(3, 65534)} {
		b.drop(h)
	}
	if h := b.make(1, 1); h != of(3, 65535) {
		t.Error(h)
	}
	b.drop(of(3, 65535))
	if h := b.make(1, 1); h != 0 {
		t.Error(h)
	}
	b.stale(of(1, 65535), of(2, 65535), of(3, 65534), of(3, 65535), of(1, 65536), of(1, 0))
}

// P12.4
func TestNilTable(t *testing.T) {
	var x *handle.Table
	for _, n := range []int{math.MinInt, -1, 0, 1, math.MaxInt} {
		if h, e := x.Make(n, n); h != 0 || e != api.ErrNil {
			t.Error(n, h, e)
		}
		for _, h := range []api.Handle{0, 1, 65537, math.MaxUint64} {
			if e := x.Put(h, n); e != api.ErrNil {
				t.Error(h, n, e)
			}
		}
	}
	for _, h := range []api.Handle{0, 1, 65537, math.MaxUint64} {
		if kind, at, e := x.Get(h); kind != 0 || at != 0 || e != api.ErrNil {
			t.Error(h, kind, at, e)
		}
		if e := x.Drop(h); e != api.ErrNil {
			t.Error(h, e)
		}
	}
	if rows, all := x.Rows(), x.Live(); len(rows) != 0 || len(all) != 0 || !x.Full() {
		t.Error(rows, all, x.Full())
	}
}

// P1: of a table that no maker answered nothing is promised but that the calls end.
func TestTableOfNoMaker(t *testing.T) {
	x := new(handle.Table)
	for _, h := range []api.Handle{0, 1, 65537, math.MaxUint64} {
		x.Make(1, 2)
		x.Get(h)
		x.Put(h, 3)
		x.Drop(h)
		x.Rows()
		x.Live()
		x.Full()
	}
}

// Rule 4: what From is handed is neither changed nor kept, its spare room included.
func TestFromSharesNothing(t *testing.T) {
	back := []api.Row{live(1, 2, 3), gone(4), live(5, 6, 7), live(8, 9, 10), live(11, 12, 13)}
	want := slices.Clone(back)
	b := from(t, 5, back[:3]...)
	for range 3 {
		b.make(1, 1)
	}
	b.put(of(1, 1), 99)
	b.drop(of(3, 5))
	if !slices.Equal(back, want) {
		t.Error(back)
	}
	for i := range back {
		back[i] = live(77, 77, 77)
	}
	b.alike()

	wrong := []api.Row{live(1, 2, 3), {Gen: 1, Kind: 2}, live(5, 6, 7)}
	want = slices.Clone(wrong)
	if x, e := handle.From(5, wrong[:2]); x != nil || e != api.ErrForm || !slices.Equal(wrong, want) {
		t.Error(x, e, wrong)
	}
}

// Rule 4: what Rows and Live tell is new, its spare room too.
func TestAnswersShareNothing(t *testing.T) {
	b := from(t, 9, live(1, 2, 3), gone(4), live(5, 6, 7))
	for range 4 {
		rows, all := b.x.Rows(), b.x.Live()
		again, more := b.x.Rows(), b.x.Live()
		for i := range rows[:cap(rows)] {
			rows[:cap(rows)][i] = live(77, 77, 77)
		}
		for i := range all[:cap(all)] {
			all[:cap(all)][i] = 77
		}
		if !slices.Equal(again, b.m.rows()) || !slices.Equal(more, b.m.live()) {
			t.Error(again, more)
		}
		b.alike()
		b.make(1, 1)
		b.drop(b.m.live()[0])
		if slices.ContainsFunc(rows, func(r api.Row) bool { return r != live(77, 77, 77) }) {
			t.Error(rows)
		}
	}
}

// What is done with one table is nothing to another.
func TestTablesHaveNothingInCommon(t *testing.T) {
	rows := []api.Row{live(1, 2, 3), gone(4)}
	b, c := from(t, 3, rows...), from(t, 3, rows...)
	b.make(1, 1)
	b.drop(of(1, 1))
	b.make(1, 1)
	b.make(1, 1)
	c.alike()
	c.make(2, 2)
	b.alike()
}

// The chapter's examples.
func TestExamples(t *testing.T) {
	x, e := handle.New(2)
	if e != api.OK {
		t.Fatal(e)
	}
	makes := func(want api.Handle, wantErr api.Errno) {
		t.Helper()
		if h, e := x.Make(0, 0); h != want || e != wantErr {
			t.Error(h, e)
		}
	}
	makes(65537, api.OK)
	makes(65538, api.OK)
	makes(0, api.ErrFull)
	if e := x.Drop(65537); e != api.OK {
		t.Error(e)
	}
	makes(131073, api.OK)
	if kind, at, e := x.Get(65537); kind != 0 || at != 0 || e != api.ErrStale {
		t.Error(kind, at, e)
	}
	x, e = handle.From(1, []api.Row{{Gen: 65535, Live: true}})
	if e != api.OK || x.Drop(4294901761) != api.OK {
		t.Fatal(e)
	}
	makes(0, api.ErrFull)
}
