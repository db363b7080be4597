package runs_test

import (
	"math"
	"slices"
	"strings"
	"testing"

	"hayloft/api"
	"hayloft/runs"
)

// plain are units, each with its own word whether it is taken: what the package's answers are held against.
type plain []bool

func (p plain) take(k int) (int, api.Errno) {
	if k < 1 {
		return 0, api.ErrArg
	}
	for at := range p {
		if k <= len(p)-at && !slices.Contains(p[at:at+k], true) {
			p.fill(at, k, true)
			return at, api.OK
		}
	}
	return 0, api.ErrFull
}

// turn makes k units from at on taken, or free.
func (p plain) turn(at, k int, taken bool) api.Errno {
	if k < 1 || at < 0 || at >= len(p) || k > len(p)-at {
		return api.ErrArg
	}
	if slices.Contains(p[at:at+k], taken) {
		return api.ErrTwice
	}
	p.fill(at, k, taken)
	return api.OK
}

func (p plain) fill(at, k int, taken bool) {
	for i := range k {
		p[at+i] = taken
	}
}

func (p plain) free() []api.Run {
	var list []api.Run
	for at, taken := range p {
		switch {
		case taken:
		case at > 0 && !p[at-1]:
			list[len(list)-1].Len++
		default:
			list = append(list, api.Run{At: at, Len: 1})
		}
	}
	return list
}

// noise is a row of numbers that look like chance, the same ones each time.
func noise(seed uint64) func(below int) int {
	return func(below int) int {
		seed = seed*6364136223846793005 + 1442695040888963407
		return int(seed>>33) % below
	}
}

// fresh are so many units, all free.
func fresh(t testing.TB, n int) *runs.Runs {
	t.Helper()
	r, e := runs.New(n)
	if e != api.OK || r == nil {
		t.Fatalf("New(%d): %v, %v", n, r, e)
	}
	return r
}

// drawn are the units that a text draws: '#' is a taken one, '.' a free one.
func drawn(t testing.TB, text string) *runs.Runs {
	t.Helper()
	r := fresh(t, len(text))
	for at := range len(text) {
		if text[at] == '#' {
			if e := r.Mark(at, 1); e != api.OK {
				t.Fatalf("Mark(%d, 1) of %s: %v", at, text, e)
			}
		}
	}
	return r
}

// plainly are the plain units that a text draws.
func plainly(text string) plain {
	p := make(plain, len(text))
	for at := range p {
		p[at] = text[at] == '#'
	}
	return p
}

// picture draws the units by what Has says of them.
func picture(r *runs.Runs) string {
	text := []byte(strings.Repeat(".", r.Len()))
	for at := range text {
		if r.Has(at) {
			text[at] = '#'
		}
	}
	return string(text)
}

// alike holds all that can be asked of units against the plain ones.
func alike(t testing.TB, told any, r *runs.Runs, p plain) {
	t.Helper()
	want, left, most := p.free(), 0, 0
	for _, run := range want {
		left += run.Len
		most = max(most, run.Len)
	}
	if got := r.Free(); !slices.Equal(got, want) {
		t.Fatalf("%v: Free %v, want %v", told, got, want)
	}
	if r.Len() != len(p) || r.Left() != left || r.Most() != most {
		t.Fatalf("%v: Len %d, Left %d, Most %d, want %d, %d, %d", told, r.Len(), r.Left(), r.Most(), len(p), left, most)
	}
	for at, taken := range p {
		if r.Has(at) != taken {
			t.Fatalf("%v: Has(%d): %v", told, at, !taken)
		}
	}
}

// strangers are numbers that are no place and no count of any units.
func strangers() []int {
	return []int{math.MinInt, math.MinInt + 1, -1 << 62, math.MinInt32, -1 << 16, -2, -1,
		api.MaxUnits + 1, 1 << 31, 1 << 32, 1<<32 + 1, 1 << 62, math.MaxInt - 1, math.MaxInt}
}

// P7.1
func TestNewTellsHowManyUnitsThereAre(t *testing.T) {
	for _, n := range []int{0, 1, 2, 63, 64, 65, 4096, api.MaxUnits - 1, api.MaxUnits} {
		alike(t, n, fresh(t, n), make(plain, n))
	}
	for _, n := range strangers() {
		if r, e := runs.New(n); r != nil || e != api.ErrArg {
			t.Errorf("New(%d): %v, %v", n, r, e)
		}
	}
}

// P7.1: what is taken and given back makes no unit more or less.
func TestLenStays(t *testing.T) {
	r := fresh(t, 9)
	r.Take(4)
	r.Mark(6, 2)
	r.Give(1, 2)
	r.Give(7, 5)
	if r.Len() != 9 {
		t.Error(r.Len())
	}
}

// P7.2
func TestTake(t *testing.T) {
	for _, x := range []struct {
		before string
		k      int
		after  string
		at     int
		want   api.Errno
	}{
		{"..........", 1, "#.........", 0, api.OK},
		{"..........", 10, "##########", 0, api.OK},
		{"..........", 11, "..........", 0, api.ErrFull},
		{"..#...#...", 1, "#.#...#...", 0, api.OK},
		{"..#...#...", 2, "###...#...", 0, api.OK},
		// the first run that is long enough, be others longer or just as long as asked
		{"..#...#...", 3, "..#####...", 3, api.OK},
		{".#....#..#", 2, ".###..#..#", 2, api.OK},
		{".#..#....#", 4, ".#..######", 5, api.OK},
		{"#.........", 9, "##########", 1, api.OK},
		{"..#...#...", 4, "..#...#...", 0, api.ErrFull},
		{"..#...#..#", 4, "..#...#..#", 0, api.ErrFull},
		{"##########", 1, "##########", 0, api.ErrFull},
		{"#########.", 1, "##########", 9, api.OK},
		{"#########.", 2, "#########.", 0, api.ErrFull},
		{"..#...#...", 0, "..#...#...", 0, api.ErrArg},
		{"..#...#...", -1, "..#...#...", 0, api.ErrArg},
		{"..#...#...", math.MinInt, "..#...#...", 0, api.ErrArg},
		{"..#...#...", 1 << 62, "..#...#...", 0, api.ErrFull},
		{"..#...#...", math.MaxInt, "..#...#...", 0, api.ErrFull},
		{"##########", 0, "##########", 0, api.ErrArg},
		{"", 1, "", 0, api.ErrFull},
		{"", math.MaxInt, "", 0, api.ErrFull},
		{"", 0, "", 0, api.ErrArg},
		{"", -1, "", 0, api.ErrArg},
		{".", 1, "#", 0, api.OK},
		{".", 2, ".", 0, api.ErrFull},
		{"#", 1, "#", 0, api.ErrFull},
	} {
		r := drawn(t, x.before)
		if at, e := r.Take(x.k); at != x.at || e != x.want || picture(r) != x.after {
			t.Errorf("%+v: %d, %v, %s", x, at, e, picture(r))
		}
		alike(t, x, r, plainly(x.after))
	}
}

// turn is a call of Mark or Give: the units ahead of it and behind it, and its answer.
type turn struct {
	before string
	at, k  int
	after  string
	want   api.Errno
}

func checkTurns(t *testing.T, call func(r *runs.Runs, at, k int) api.Errno, turns []turn) {
	t.Helper()
	for _, x := range turns {
		r := drawn(t, x.before)
		if e := call(r, x.at, x.k); e != x.want || picture(r) != x.after {
			t.Errorf("%+v: %v, %s", x, e, picture(r))
		}
		alike(t, x, r, plainly(x.after))
	}
}

// P7.2
func TestMark(t *testing.T) {
	checkTurns(t, (*runs.Runs).Mark, []turn{
		{"..#....#..", 3, 1, "..##...#..", api.OK}, // at the beginning of a free run
		{"..#....#..", 4, 2, "..#.##.#..", api.OK}, // in the middle
		{"..#....#..", 5, 2, "..#..###..", api.OK}, // at the end
		{"..#....#..", 3, 4, "..######..", api.OK}, // a whole one
		{"..#....#..", 0, 2, "###....#..", api.OK},
		{"..#....#..", 0, 1, "#.#....#..", api.OK},
		{"..#....#..", 1, 1, ".##....#..", api.OK},
		{"..#....#..", 8, 2, "..#....###", api.OK},
		{"..#....#..", 9, 1, "..#....#.#", api.OK},
		{"..........", 0, 10, "##########", api.OK},
		{"..#....#..", 2, 3, "..#....#..", api.ErrTwice}, // just the first one is taken
		{"..#....#..", 1, 3, "..#....#..", api.ErrTwice}, // one in the middle
		{"..#....#..", 5, 3, "..#....#..", api.ErrTwice}, // just the last one
		{"..#....#..", 7, 1, "..#....#..", api.ErrTwice},
		{"..#....#..", 0, 10, "..#....#..", api.ErrTwice},
		{"..#....##.", 7, 2, "..#....##.", api.ErrTwice},
		{".........#", 9, 1, ".........#", api.ErrTwice},
		{"##########", 0, 10, "##########", api.ErrTwice},
		{"##########", 4, 1, "##########", api.ErrTwice},
	})
}

// P7.2
func TestGive(t *testing.T) {
	checkTurns(t, (*runs.Runs).Give, []turn{
		{"..##..####", 2, 2, "......####", api.OK},       // between two free runs
		{"..####..##", 2, 2, "....##..##", api.OK},       // right behind one
		{"..####..##", 4, 2, "..##....##", api.OK},       // right ahead of one
		{"..####..##", 3, 2, "..#..#..##", api.OK},       // apart from all
		{"..####..##", 9, 1, "..####..#.", api.OK},       // apart, as the last one
		{"##..######", 0, 1, ".#..######", api.OK},       // apart, as the first one
		{"##..######", 0, 2, "....######", api.OK},       // at the very beginning
		{"######..##", 8, 2, "######....", api.OK},       // at the very end
		{"##########", 0, 10, "..........", api.OK},      // all of them
		{"##########", 5, 1, "#####.####", api.OK},       // where none was free
		{"..#.#.#...", 4, 1, "..#...#...", api.OK},       // runs on both sides stay apart
		{"..####..##", 1, 3, "..####..##", api.ErrTwice}, // just the first one is free
		{"..##.###..", 3, 3, "..##.###..", api.ErrTwice}, // one in the middle
		{"..####..##", 4, 3, "..####..##", api.ErrTwice}, // just the last one
		{"..####..##", 0, 1, "..####..##", api.ErrTwice},
		{"..####..##", 6, 2, "..####..##", api.ErrTwice},
		{"..........", 0, 10, "..........", api.ErrTwice},
		{".........#", 8, 1, ".........#", api.ErrTwice},
	})
}

// P7.2: units that aren't there are told ahead of units that are taken, or free, already.
func TestMarkAndGiveOfUnitsThatAreNotThere(t *testing.T) {
	wrong := [][2]int{
		{0, 0}, {3, 0}, {3, -1}, {9, 0}, {10, 0}, {-1, 0}, {-1, 1}, {-1, 2}, {-5, 20}, {10, 1}, {10, -1}, {11, 1},
		{9, 2}, {8, 3}, {0, 11}, {1, 10}, {5, 6}, {0, math.MaxInt}, {1, math.MaxInt}, {9, math.MaxInt}, {10, math.MaxInt},
		{math.MaxInt, 1}, {math.MaxInt, math.MaxInt}, {math.MaxInt - 1, 2}, {math.MaxInt - 4, 10}, {1 << 62, 1 << 62},
		{math.MinInt, 1}, {math.MinInt, math.MaxInt}, {math.MinInt, math.MinInt}, {math.MaxInt, math.MinInt},
		{0, math.MinInt}, {5, math.MinInt}, {math.MinInt + 5, math.MaxInt}, {-math.MaxInt, math.MaxInt},
		{1 << 32, 1}, {0, 1 << 32}, {0, 1<<32 + 1}, {1<<32 + 3, 1},
	}
	for _, before := range []string{"..........", "##########", "..##..##..", "##..##..##"} {
		r := drawn(t, before)
		for _, x := range wrong {
			if e := r.Mark(x[0], x[1]); e != api.ErrArg || picture(r) != before {
				t.Errorf("%s: Mark%v: %v, %s", before, x, e, picture(r))
			}
			if e := r.Give(x[0], x[1]); e != api.ErrArg || picture(r) != before {
				t.Errorf("%s: Give%v: %v, %s", before, x, e, picture(r))
			}
		}
	}
	none := fresh(t, 0)
	for _, x := range append(wrong, [2]int{3, 1}, [2]int{0, 1}, [2]int{-1, 1}) {
		if none.Mark(x[0], x[1]) != api.ErrArg || none.Give(x[0], x[1]) != api.ErrArg {
			t.Errorf("of none: %v", x)
		}
	}
	alike(t, "none", none, nil)
}

// P7.2: the last unit that may be, as a place and as a count.
func TestTheGreatestUnits(t *testing.T) {
	r, p := fresh(t, api.MaxUnits), make(plain, api.MaxUnits)
	for _, x := range []struct {
		at, k int
		taken bool
	}{
		{api.MaxUnits - 1, 1, true}, {api.MaxUnits, 1, true}, {api.MaxUnits - 1, 2, true}, {0, api.MaxUnits, true},
		{0, api.MaxUnits - 1, true}, {0, api.MaxUnits + 1, false}, {0, api.MaxUnits, false}, {1, api.MaxUnits, false},
	} {
		call := r.Give
		if x.taken {
			call = r.Mark
		}
		if got, want := call(x.at, x.k), p.turn(x.at, x.k, x.taken); got != want {
			t.Errorf("%+v: %v, want %v", x, got, want)
		}
		alike(t, x, r, p)
	}
	if at, e := r.Take(api.MaxUnits); at != 0 || e != api.OK || r.Left() != 0 {
		t.Error(at, e, r.Left())
	}
}

// P7.2, P7.3: all ways in which few units may be taken, and all that may be asked of them.
func TestAllPatternsOfFewUnits(t *testing.T) {
	for n := range 8 {
		for bits := range 1 << n {
			base, p := fresh(t, n), make(plain, n)
			for at := range n {
				if bits>>at%2 == 1 {
					p[at] = true
					base.Mark(at, 1)
				}
			}
			alike(t, p, base, p)
			for k := -1; k <= n+2; k++ {
				r, q := base.Copy(), slices.Clone(p)
				at, e := r.Take(k)
				if wantAt, want := q.take(k); at != wantAt || e != want {
					t.Fatalf("%v: Take(%d): %d, %v, want %d, %v", p, k, at, e, wantAt, want)
				}
				alike(t, p, r, q)
				for at := -2; at <= n+1; at++ {
					turnBoth(t, base, p, at, k)
				}
			}
			alike(t, p, base, p)
		}
	}
}

// turnBoth marks and gives units of copies, and holds them against plain ones.
func turnBoth(t *testing.T, base *runs.Runs, p plain, at, k int) {
	t.Helper()
	marked, given := base.Copy(), base.Copy()
	p1, p2 := slices.Clone(p), slices.Clone(p)
	if e, want := marked.Mark(at, k), p1.turn(at, k, true); e != want {
		t.Fatalf("%v: Mark(%d, %d): %v, want %v", p, at, k, e, want)
	}
	if e, want := given.Give(at, k), p2.turn(at, k, false); e != want {
		t.Fatalf("%v: Give(%d, %d): %v, want %v", p, at, k, e, want)
	}
	alike(t, p, marked, p1)
	alike(t, p, given, p2)
}

// P7.2, P7.3: long rows of steps.
func TestManySteps(t *testing.T) {
	for seed := range 60 {
		next := noise(uint64(seed))
		n := 1 + next(120)
		r, p := fresh(t, n), make(plain, n)
		for range 400 {
			at, k := next(n+2)-1, next(2+next(1+n/3))
			switch next(3) {
			case 0:
				got, e := r.Take(k)
				if want, wrong := p.take(k); got != want || e != wrong {
					t.Fatalf("%v: Take(%d): %d, %v, want %d, %v", p, k, got, e, want, wrong)
				}
			case 1:
				if e, want := r.Mark(at, k), p.turn(at, k, true); e != want {
					t.Fatalf("%v: Mark(%d, %d): %v, want %v", p, at, k, e, want)
				}
			case 2:
				if e, want := r.Give(at, k), p.turn(at, k, false); e != want {
					t.Fatalf("%v: Give(%d, %d): %v, want %v", p, at, k, e, want)
				}
			}
			alike(t, p, r, p)
		}
	}
}

// P7.3
func TestHasOfAnyPlace(t *testing.T) {
	for _, before := range []string{"", "#", ".", "##########", "..........", "#..##..#.#"} {
		r := drawn(t, before)
		for _, at := range append(strangers(), len(before), len(before)+1, api.MaxUnits) {
			if r.Has(at) {
				t.Errorf("%q: Has(%d)", before, at)
			}
		}
		if picture(r) != before {
			t.Errorf("%q: %q", before, picture(r))
		}
	}
}

// P7.3
func TestFreeLeftAndMost(t *testing.T) {
	for _, x := range []struct {
		before     string
		free       []api.Run
		left, most int
	}{
		{"", nil, 0, 0},
		{"##########", nil, 0, 0},
		{"..........", []api.Run{{At: 0, Len: 10}}, 10, 10},
		{"...##.####", []api.Run{{At: 0, Len: 3}, {At: 5, Len: 1}}, 4, 3},
		{"#.##....#.", []api.Run{{At: 1, Len: 1}, {At: 4, Len: 4}, {At: 9, Len: 1}}, 6, 4},
		{".#..#...#.", []api.Run{{At: 0, Len: 1}, {At: 2, Len: 2}, {At: 5, Len: 3}, {At: 9, Len: 1}}, 7, 3},
		{"##.#.#.#.#", []api.Run{{At: 2, Len: 1}, {At: 4, Len: 1}, {At: 6, Len: 1}, {At: 8, Len: 1}}, 4, 1},
	} {
		r := drawn(t, x.before)
		if !slices.Equal(r.Free(), x.free) || r.Left() != x.left || r.Most() != x.most {
			t.Errorf("%+v: %v, %d, %d", x, r.Free(), r.Left(), r.Most())
		}
	}
}

// P7.3: however units were given back, no two free runs touch, none is empty, and they rise.
func TestFreeRunsDoNotTouch(t *testing.T) {
	next := noise(77)
	for range 50 {
		n := 2 + next(300)
		r := fresh(t, n)
		r.Mark(0, n)
		for range n {
			r.Give(next(n), 1)
			behind := -1
			for _, run := range r.Free() {
				if run.Len < 1 || run.At <= behind || run.At+run.Len > n {
					t.Fatalf("of %d: %v", n, r.Free())
				}
				behind = run.At + run.Len
			}
		}
	}
}

// P7.3, Rule 4: a list that was handed out is nobody else's.
func TestFreeHandsOutNewMemory(t *testing.T) {
	r := drawn(t, "..#...#..#")
	list, other := r.Free(), r.Free()
	want := slices.Clone(list)
	spoil(list)
	if picture(r) != "..#...#..#" || !slices.Equal(r.Free(), want) || !slices.Equal(other, want) {
		t.Error("what was written into a list is seen", r.Free(), other)
	}
	r.Take(1)
	r.Mark(4, 1)
	r.Give(9, 1)
	r.Give(2, 1)
	if !slices.Equal(other, want) {
		t.Error("what was done later is seen in a list", other)
	}
	alike(t, "four steps later", r, plainly("#...#.#..."))
}

// spoil writes over all of a list's memory, its spare room too.
func spoil(list []api.Run) {
	list = list[:cap(list)]
	for i := range list {
		list[i] = api.Run{At: -7, Len: 1 << 20}
	}
}

// P7.3, Rule 4: what is written into a list's spare room isn't seen when the runs become more.
func TestSpareRoomOfAList(t *testing.T) {
	r, p := fresh(t, 64), make(plain, 64)
	for at := 1; at < 64; at += 2 {
		spoil(r.Free())
		list := append(r.Free(), api.Run{At: 1, Len: 1})
		if r.Mark(at, 1) != p.turn(at, 1, true) {
			t.Fatal(at)
		}
		alike(t, at, r, p)
		if list[len(list)-1] != (api.Run{At: 1, Len: 1}) {
			t.Fatal(at, list)
		}
	}
}

// P7.4
func TestCopyHasNothingInCommon(t *testing.T) {
	for _, before := range []string{"", ".", "#", "..........", "##########", "..#...#..#", "#.#.#.#.#."} {
		r := drawn(t, before)
		c := r.Copy()
		if c == nil || c == r || c.Len() != r.Len() || picture(c) != before || !slices.Equal(c.Free(), r.Free()) {
			t.Fatalf("%q: a copy that isn't alike", before)
		}
		for at := range len(before) {
			if r.Has(at) {
				r.Give(at, 1)
			} else {
				r.Mark(at, 1)
			}
			if picture(c) != before {
				t.Fatalf("%q: the copy has changed at %d: %s", before, at, picture(c))
			}
		}
		after := picture(r)
		for at := range len(before) {
			if c.Has(at) {
				c.Give(at, 1)
			} else {
				c.Mark(at, 1)
			}
			if picture(r) != after {
				t.Fatalf("%q: what the copy was made of has changed at %d", before, at)
			}
		}
		if picture(c) != after {
			t.Errorf("%q: %s and %s", before, picture(c), after)
		}
	}
}

// P7.4: both go on on their own, also where both have more runs than at first.
func TestCopiesGoOnApart(t *testing.T) {
	next := noise(5)
	r, p := fresh(t, 200), make(plain, 200)
	for range 300 {
		c, q := r.Copy(), slices.Clone(p)
		for range 3 {
			at, k := next(200), 1+next(3)
			r.Mark(at, k)
			p.turn(at, k, true)
			at, k = next(200), 1+next(5)
			c.Mark(at, k)
			q.turn(at, k, true)
			at, k = next(200), 1+next(3)
			r.Give(at, k)
			p.turn(at, k, false)
			at, k = next(200), 1+next(3)
			c.Give(at, k)
			q.turn(at, k, false)
		}
		alike(t, "made of", r, p)
		alike(t, "copy", c, q)
		if next(2) == 0 {
			r, p = c, q
		}
	}
}

// P7.4
func TestNilOnes(t *testing.T) {
	var r *runs.Runs
	for _, k := range append(strangers(), 0, 1, 2) {
		if at, e := r.Take(k); at != 0 || e != api.ErrNil {
			t.Errorf("Take(%d): %d, %v", k, at, e)
		}
		for _, at := range append(strangers(), 0, 1, 2) {
			if r.Mark(at, k) != api.ErrNil || r.Give(at, k) != api.ErrNil {
				t.Errorf("Mark or Give(%d, %d)", at, k)
			}
		}
		if r.Has(k) {
			t.Errorf("Has(%d)", k)
		}
	}
	if r.Len() != 0 || len(r.Free()) != 0 || r.Left() != 0 || r.Most() != 0 || r.Copy() != nil {
		t.Error("of nil ones")
	}
}

// P1: of units that New didn't make nothing is promised but that the calls end.
func TestUnitsOfNoMaker(t *testing.T) {
	r := new(runs.Runs)
	for _, k := range append(strangers(), 0, 1, 2) {
		r.Take(k)
		r.Has(k)
		for _, at := range append(strangers(), 0, 1, 2) {
			r.Mark(at, k)
			r.Give(at, k)
		}
	}
	r.Len()
	r.Free()
	r.Left()
	r.Most()
	r.Copy().Take(1)
}

// P1: any arguments, of units that are taken in part.
func TestAnyArguments(t *testing.T) {
	r := drawn(t, "..#...#..#")
	p := plain{2: true, 6: true, 9: true}
	all := append(strangers(), 0, 1, 2, 3, 6, 9, 10, 11)
	for _, k := range all {
		for _, at := range all {
			if e, want := r.Mark(at, k), p.turn(at, k, true); e != want {
				t.Fatalf("Mark(%d, %d): %v, want %v", at, k, e, want)
			}
			if e, want := r.Give(at, k), p.turn(at, k, false); e != want {
				t.Fatalf("Give(%d, %d): %v, want %v", at, k, e, want)
			}
		}
		alike(t, k, r, p)
	}
}

// P7.2: as many free runs as there may be, made and joined again, from behind and from the front.
func TestAsManyRunsAsThereMayBe(t *testing.T) {
	r := fresh(t, api.MaxUnits)
	for at := api.MaxUnits - 1; at > 0; at -= 2 {
		if e := r.Mark(at, 1); e != api.OK {
			t.Fatal(at, e)
		}
	}
	if list := r.Free(); len(list) != api.MaxUnits/2 || r.Left() != api.MaxUnits/2 || r.Most() != 1 {
		t.Fatal(len(list), r.Left(), r.Most())
	}
	if _, e := r.Take(2); e != api.ErrFull {
		t.Error(e)
	}
	for at := 1; at < api.MaxUnits; at += 2 {
		if e := r.Give(at, 1); e != api.OK {
			t.Fatal(at, e)
		}
	}
	alike(t, "all free again", r, make(plain, api.MaxUnits))
	for want := range api.MaxUnits {
		if at, e := r.Take(1); at != want || e != api.OK {
			t.Fatal(at, e, want)
		}
	}
	if _, e := r.Take(1); e != api.ErrFull || r.Left() != 0 || r.Most() != 0 || len(r.Free()) != 0 {
		t.Error("all are taken", e)
	}
}

// The chapter's examples.
func TestExamples(t *testing.T) {
	r := fresh(t, 10)
	if at, e := r.Take(3); at != 0 || e != api.OK {
		t.Error(at, e)
	}
	if at, e := r.Take(2); at != 3 || e != api.OK {
		t.Error(at, e)
	}
	if e := r.Give(0, 3); e != api.OK {
		t.Error(e)
	}
	if at, e := r.Take(4); at != 5 || e != api.OK {
		t.Error(at, e)
	}
	want := []api.Run{{At: 0, Len: 3}, {At: 9, Len: 1}}
	if !slices.Equal(r.Free(), want) {
		t.Error(r.Free())
	}
	if r.Give(2, 2) != api.ErrTwice || r.Mark(8, 3) != api.ErrArg || !slices.Equal(r.Free(), want) {
		t.Error("errors")
	}
}
