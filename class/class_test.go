package class_test

import (
	"math"
	"slices"
	"testing"

	"hayloft/api"
	"hayloft/class"
)

// slotBytes and slotsOfPage are the chapter's numbers, and what they leave room for in a page.
func slotBytes() []int   { return []int{16, 24, 32, 48, 64, 96, 128} }
func slotsOfPage() []int { return []int{16, 10, 8, 5, 4, 2, 2} }

// strangers are sizes that no object has.
func strangers() []int {
	return []int{0, -1, -2, -7, -16, -128, -256, -4096, math.MinInt32, math.MinInt + 1, math.MinInt,
		api.MaxSize + 1, api.MaxSize + 2, 2 * api.MaxSize, 1 << 31, 1 << 32, 1<<32 + 24, 1 << 62, math.MaxInt - 1, math.MaxInt}
}

// plainOf looks for the class, one slot after the other.
func plainOf(n int) int {
	if n < 1 || n > api.MaxSize {
		return -1
	}
	for c, bytes := range slotBytes() {
		if bytes >= n {
			return c
		}
	}
	return api.Large
}

// plainNeed lays the objects into pages, one by one: into the page of their class that was begun last, or into new ones.
func plainNeed(sizes []int) int {
	pages := 0
	room := map[int]int{}
	for _, n := range sizes {
		switch c := plainOf(n); c {
		case -1:
		case api.Large:
			for left := n; left > 0; left -= api.PageSize {
				pages++
			}
		default:
			if room[c] == 0 {
				pages++
				room[c] = slotsOfPage()[c]
			}
			room[c]--
		}
	}
	return pages
}

// noise is a row of numbers that look like chance, the same ones each time.
func noise(seed uint64) func(below int) int {
	return func(below int) int {
		seed = seed*6364136223846793005 + 1442695040888963407
		return int(seed>>33) % below
	}
}

// mixed are sizes of all sorts, wrong ones among them.
func mixed(next func(int) int, count int) []int {
	var sizes []int
	for range count {
		switch next(6) {
		case 0:
			sizes = append(sizes, strangers()[next(len(strangers()))])
		case 1:
			sizes = append(sizes, 129+next(api.MaxSize-128))
		default:
			sizes = append(sizes, 1+next(128))
		}
	}
	return sizes
}

// P6.1
func TestOfIsTheLeastClassWithRoom(t *testing.T) {
	for n := -300; n <= api.MaxSize+300; n++ {
		if got, want := class.Of(n), plainOf(n); got != want {
			t.Fatalf("Of(%d) is %d, not %d", n, got, want)
		}
	}
}

// P6.1
func TestOfAtTheEdges(t *testing.T) {
	for c, bytes := range slotBytes() {
		below := 1
		if c > 0 {
			below = slotBytes()[c-1] + 1
		}
		for _, n := range []int{below, bytes - 1, bytes} {
			if got := class.Of(n); got != c {
				t.Errorf("Of(%d) is %d, not %d", n, got, c)
			}
		}
		if got := class.Of(bytes + 1); got != c+1 {
			t.Errorf("Of(%d) is %d, not %d", bytes+1, got, c+1)
		}
	}
	for n, want := range map[int]int{1: 0, 128: 6, 129: api.Large, 130: api.Large, 256: api.Large, 257: api.Large, api.MaxSize - 1: api.Large, api.MaxSize: api.Large} {
		if got := class.Of(n); got != want {
			t.Errorf("Of(%d) is %d, not %d", n, got, want)
		}
	}
	for _, n := range strangers() {
		if got := class.Of(n); got != -1 {
			t.Errorf("Of(%d) is %d, not -1", n, got)
		}
	}
}

// P6.2
func TestSizeAndSlots(t *testing.T) {
	for c := range api.Classes {
		if got, want := class.Size(c), slotBytes()[c]; got != want {
			t.Errorf("Size(%d) is %d, not %d", c, got, want)
		}
		if got, want := class.Slots(c), slotsOfPage()[c]; got != want {
			t.Errorf("Slots(%d) is %d, not %d", c, got, want)
		}
		if all := class.Slots(c) * class.Size(c); all > api.PageSize || all+class.Size(c) <= api.PageSize {
			t.Errorf("the slots of class %d have %d bytes of a page", c, all)
		}
	}
	if got := class.Size(api.Large); got != 0 {
		t.Errorf("Size(Large) is %d", got)
	}
	if got := class.Slots(api.Large); got != 1 {
		t.Errorf("Slots(Large) is %d", got)
	}
}

// P6.2
func TestSizeAndSlotsOfNoClass(t *testing.T) {
	for _, c := range []int{-1, -2, -7, -8, -256, math.MinInt + 1, math.MinInt, api.Large + 1, api.Large + 2, 16, 128, 256, 1 << 32, 1<<32 + 3, math.MaxInt - 1, math.MaxInt} {
		if got := class.Size(c); got != 0 {
			t.Errorf("Size(%d) is %d", c, got)
		}
		if got := class.Slots(c); got != 0 {
			t.Errorf("Slots(%d) is %d", c, got)
		}
	}
}

// P6.2
func TestPages(t *testing.T) {
	for n := -300; n <= api.MaxSize+300; n++ {
		if got, want := class.Pages(n), plainNeed([]int{n}); got != want {
			t.Fatalf("Pages(%d) is %d, not %d", n, got, want)
		}
	}
	for n, want := range map[int]int{1: 1, 16: 1, 17: 1, 128: 1, 129: 1, 255: 1, 256: 1, 257: 2, 511: 2, 512: 2, 513: 3, api.MaxSize - 256: 15, api.MaxSize - 255: 16, api.MaxSize: 16} {
		if got := class.Pages(n); got != want {
			t.Errorf("Pages(%d) is %d, not %d", n, got, want)
		}
	}
	for _, n := range strangers() {
		if got := class.Pages(n); got != 0 {
			t.Errorf("Pages(%d) is %d, not 0", n, got)
		}
	}
}

// P6.3
func TestNeedOfOneClass(t *testing.T) {
	for c, slots := range slotsOfPage() {
		for spans := 1; spans <= 3; spans++ {
			for count, want := range map[int]int{slots*spans - 1: spans, slots * spans: spans, slots*spans + 1: spans + 1} {
				if got := class.Need(slices.Repeat([]int{slotBytes()[c]}, count)); got != want {
					t.Errorf("Need of %d objects of class %d is %d, not %d", count, c, got, want)
				}
			}
		}
	}
}

// P6.3
func TestNeedOfClassesSideBySide(t *testing.T) {
	var one, full []int
	for c, bytes := range slotBytes() {
		one = append(one, bytes)
		full = append(full, slices.Repeat([]int{bytes - 1}, slotsOfPage()[c])...)
	}
	if got := class.Need(one); got != api.Classes {
		t.Errorf("one object of each class needs %d pages", got)
	}
	if got := class.Need(full); got != api.Classes {
		t.Errorf("a span full of each class needs %d pages", got)
	}
	if got := class.Need(append(full, one...)); got != 2*api.Classes {
		t.Errorf("a span full of each class and one object more of each need %d pages", got)
	}
	// Sizes of one class share its slots, be they unlike.
	if got := class.Need([]int{1, 2, 3, 4, 5, 6, 7, 8, 9, 10, 11, 12, 13, 14, 15, 16}); got != 1 {
		t.Errorf("the sixteen sizes of class 0 need %d pages", got)
	}
}

// P6.3
func TestNeedOfLargeOnes(t *testing.T) {
	for _, x := range []struct {
		sizes []int
		want  int
	}{
		{[]int{129}, 1},
		{[]int{129, 129}, 2},
		{[]int{256, 257}, 3},
		{[]int{300, 300, 300}, 6},
		{[]int{api.MaxSize, api.MaxSize, 129, 128}, 34},
		{slices.Repeat([]int{api.MaxSize}, 1000), 16000},
	} {
		if got := class.Need(x.sizes); got != x.want {
			t.Errorf("Need(%d of %d, ..) is %d, not %d", len(x.sizes), x.sizes[0], got, x.want)
		}
	}
}

// P6.3
func TestNeedOfNothing(t *testing.T) {
	for _, sizes := range [][]int{nil, {}, {0}, {-1}, {api.MaxSize + 1}, strangers()} {
		if got := class.Need(sizes); got != 0 {
			t.Errorf("Need(%v) is %d", sizes, got)
		}
	}
	sizes := append(append(strangers(), 16, 300), strangers()...)
	if got := class.Need(sizes); got != 3 {
		t.Errorf("Need of 16 and 300 among sizes without a class is %d", got)
	}
}

// P6.3
func TestNeedHoldsAgainstLayingOneByOne(t *testing.T) {
	next := noise(6)
	for round := range 400 {
		sizes := mixed(next, next(120))
		want := plainNeed(sizes)
		if got := class.Need(sizes); got != want {
			t.Fatalf("round %d: Need(%v) is %d, not %d", round, sizes, got, want)
		}
		slices.Sort(sizes)
		if got := class.Need(sizes); got != want {
			t.Fatalf("round %d: Need of the same ones, sorted, is %d, not %d", round, got, want)
		}
	}
}

// P6.3: many, so that counts don't stay within a few bits.
func TestNeedOfMany(t *testing.T) {
	if got := class.Need(slices.Repeat([]int{1, 0, 128, api.MaxSize}, 1<<20)); got != 1<<16+1<<19+1<<24 {
		t.Errorf("Need is %d", got)
	}
}

// P6.4
func TestSlotsAreNotMuchGreaterThanTheirObjects(t *testing.T) {
	for n := 1; n <= 128; n++ {
		more := class.Size(class.Of(n)) - n
		if more < 0 || n >= 17 && 2*more > n {
			t.Errorf("a slot for %d bytes has %d more", n, more)
		}
	}
}

// P6.4
func TestOneMoreNeedsNoMoreThanItsPages(t *testing.T) {
	next := noise(64)
	for range 200 {
		sizes := mixed(next, next(60))
		before := class.Need(sizes)
		more := append(mixed(next, 10), slotBytes()...)
		for _, n := range append(more, 1, 129, 256, 257, api.MaxSize, api.MaxSize+1, 0) {
			after := class.Need(append(slices.Clone(sizes), n))
			if after < before || after > before+class.Pages(n) {
				t.Fatalf("with one more of %d bytes %d pages become %d", n, before, after)
			}
		}
	}
}

// Rule 4: what is handed in is neither changed, its spare room included, nor kept.
func TestNeedLeavesItsSizesAlone(t *testing.T) {
	whole := append(mixed(noise(4), 50), 77, 78, 79)
	was := slices.Clone(whole)
	want := class.Need(whole[:50])
	if !slices.Equal(whole, was) {
		t.Errorf("the sizes have changed")
	}
	clear(whole)
	if got := class.Need(was[:50]); got != want {
		t.Errorf("Need is %d, and was %d", got, want)
	}
	if got := class.Need(nil); got != 0 {
		t.Errorf("something was kept: Need of none is %d", got)
	}
}

// The chapter's examples.
func TestExamples(t *testing.T) {
	for n, want := range map[int]int{1: 0, 17: 1, 128: 6, 129: 7, 4097: -1} {
		if got := class.Of(n); got != want {
			t.Errorf("Of(%d) is %d, not %d", n, got, want)
		}
	}
	if got := class.Slots(3); got != 5 {
		t.Errorf("Slots(3) is %d", got)
	}
	if got := class.Pages(257); got != 2 {
		t.Errorf("Pages(257) is %d", got)
	}
	if got := class.Need(append(slices.Repeat([]int{24}, 11), 300)); got != 2+2 {
		t.Errorf("Need is %d", got)
	}
}
