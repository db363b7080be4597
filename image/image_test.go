package image_test

import (
	"bytes"
	"math"
	"slices"
	"testing"

	"hayloft/api"
	"hayloft/audit"
	"hayloft/image"
)

// example is layer 14's view.
func example() api.View {
	v := api.View{Base: 256, Pages: 1, Kinds: []api.Kind{kindOf(16, 0)}, Rows: []api.Row{live(1, 0, 0), live(1, 0, 16)}, Spans: []api.Span{of(0, 0, 0, 0, 1)}, Bytes: make([]byte, 256)}
	putWord(v.Bytes, 0, 272)
	return v
}

// P17.1 to P17.3: the chapter's examples.
func TestExamples(t *testing.T) {
	v := example()
	m, e := image.Make(v, 0)
	if e != api.OK || m.Base != 256 || !slices.Equal(m.Offs, []int{0}) || !bytes.Equal(m.Bytes, v.Bytes[:32]) || !sameSpan(m.Span, v.Spans[0]) {
		t.Error(m, e)
	}
	b, e := image.Body(m)
	if e != api.OK || !bytes.Equal(b, append([]byte{0, 0, 0, 3, 0, 1, 1, 0}, v.Bytes[:32]...)) {
		t.Error(b, e)
	}
	to, e := image.Move(m, 512, 256)
	if e != api.OK || word(to.Bytes, 0) != 528 || !bytes.Equal(to.Bytes[8:], m.Bytes[8:]) || to.Base != 512 || !slices.Equal(to.Offs, m.Offs) || !sameSpan(to.Span, m.Span) {
		t.Error(to, e)
	}
}

// wrongSpans are spans of which layer 10's Of has an error, each of another kind.
func wrongSpans() []api.Span {
	return []api.Span{
		of(0, -1, 0), of(0, 8, 0), of(0, math.MinInt, 0), of(0, math.MaxInt, 0), of(0, 8, 300, 0),
		of(0, 0, 1), of(0, 0, 16, 0), of(0, 6, -1, 0), of(0, 3, math.MaxInt), of(0, 0, math.MinInt, 0), of(0, 6, 300, 0),
		of(0, 7, 0), of(0, 7, 128, 0), of(0, 7, 4097, 0), of(0, 7, -300, 0), of(0, 7, math.MaxInt), of(0, 7, math.MinInt, 0),
		of(-1, 0, 0, 0), of(4096, 0, 0, 0), of(math.MinInt, 2, 0), of(math.MaxInt, 2, 0), of(-1, 7, 300, 0), of(4095, 7, 300, 0), of(4081, 7, 4096, 0), of(math.MaxInt, 7, 4096),
		of(0, 0, 0, -1), of(0, 0, 0, 16), of(0, 1, 0, 10), of(0, 6, 0, 2), of(0, 7, 300, 1), of(0, 7, 300, -1), of(0, 7, 300, 0, 0), of(0, 7, 300, 0, 1),
		of(0, 0, 0, 1, 0), of(0, 0, 0, 0, 0), of(0, 0, 0, 0, 2, 1), of(0, 0, 0, 0, 1, 1), of(0, 0, 0, math.MinInt), of(0, 0, 0, 0, math.MaxInt), of(0, 0, 0, math.MaxInt, 0),
	}
}

// P17.1
func TestSize(t *testing.T) {
	for class, size := range sizes {
		for n := range slotsOf(class) + 1 {
			for _, page := range []int{0, 1, 7, 4095} {
				if got := image.Size(of(page, class, 0, upTo(n)...)); got != n*size {
					t.Errorf("Size of %d slots of the class %d: %d", n, class, got)
				}
			}
		}
		if got := image.Size(of(3, class, 0, slotsOf(class)-1)); got != size {
			t.Errorf("Size of the last slot of the class %d: %d", class, got)
		}
	}
	for size := 129; size <= 4096; size++ {
		for n, want := range []int{0, size} {
			if got := image.Size(of(4096-(size+255)/256, 7, size, upTo(n)...)); got != want {
				t.Errorf("Size of %d of %d bytes: %d", n, size, got)
			}
		}
	}
	if got := image.Size(of(0, 0, 0, 1, 3, 15)); got != 48 {
		t.Error(got)
	}
	for _, d := range wrongSpans() {
		if got := image.Size(d); got != 0 || modelOf(d) {
			t.Errorf("Size(%v): %d", d, got)
		}
	}
}

// images are some right ones: of each class, with and without live slots and places, at the least and the greatest base.
func images() []image.Image {
	chance := noise(17)
	var all []image.Image
	for class := range 8 {
		size := []int{0, 0, 0, 0, 0, 0, 0, 300}[class]
		page := []int{0, 1, 127, 128, 4095, 16, 2, 4094}[class]
		each := slotBytes(of(page, class, size))
		for _, slots := range [][]int{nil, {}, {0}, {slotsOf(class) - 1}, upTo(slotsOf(class))} {
			d := of(page, class, size, slots...)
			n := len(slots) * each
			all = append(all, image.Image{Span: d, Bytes: anyBytes(chance, n)})
			for _, base := range []int{256, 512, 1 << 20, 1<<40 - 256, 1 << 40} {
				all = append(all, image.Image{Span: d, Base: base, Bytes: anyBytes(chance, n)})
				for _, offs := range [][]int{{0}, {8}, {0, 8}, {n/8*8 - 8}, {0, n/8*8 - 8}} {
					if m := (image.Image{Span: d, Base: base, Offs: offs, Bytes: make([]byte, n)}); modelRight(m) {
						putWord(m.Bytes, offs[0], uint64(base))
						all = append(all, m)
					}
				}
			}
		}
	}
	for _, size := range []int{129, 130, 255, 256, 257, 3000, 4095, 4096} {
		m := image.Image{Span: of(4096-(size+255)/256, 7, size, 0), Base: 1 << 30, Bytes: anyBytes(chance, size)}
		for p := 0; p <= size-8; p += 8 {
			m.Offs = append(m.Offs, p)
			putWord(m.Bytes, p, uint64(1<<30+p))
		}
		all = append(all, m)
	}
	for range 600 {
		all = append(all, anyImage(chance))
	}
	return all
}

// whole is an image of two slots of 24 bytes, with two addresses.
func whole() image.Image {
	m := image.Image{Span: of(2, 1, 0, 3, 9), Base: 1024, Offs: []int{0, 40}, Bytes: make([]byte, 48)}
	for i := range m.Bytes {
		m.Bytes[i] = byte(i + 1)
	}
	putWord(m.Bytes, 0, 1024)
	putWord(m.Bytes, 40, 1024+1000)
	return m
}

// wrongs are images that aren't right, each by one thing.
func wrongs() map[string]image.Image {
	all := map[string]image.Image{}
	add := func(what string, change func(m *image.Image)) {
		m := whole()
		change(&m)
		all[what] = m
	}
	add("one byte less", func(m *image.Image) { m.Bytes = m.Bytes[:47] })
	add("one byte less, behind the table", func(m *image.Image) { m.Bytes, m.Offs = m.Bytes[:47], []int{0} })
	add("one byte more", func(m *image.Image) { m.Bytes = append(m.Bytes, 0) })
	add("a slot's bytes less", func(m *image.Image) { m.Bytes, m.Offs = m.Bytes[:24], []int{0} })
	add("a slot's bytes more", func(m *image.Image) { m.Bytes = append(m.Bytes, m.Bytes[:24]...) })
	add("no bytes", func(m *image.Image) { m.Bytes, m.Offs = nil, nil })
	add("a slot more", func(m *image.Image) { m.Span.Live = []int{3, 8, 9} })
	add("a slot less", func(m *image.Image) { m.Span.Live = []int{3} })
	add("no slot", func(m *image.Image) { m.Span.Live = nil })
	add("another class", func(m *image.Image) { m.Span.Class = 0 })
	add("a place right for more bytes", func(m *image.Image) { m.Offs = []int{0, 48} })
	add("a place far behind", func(m *image.Image) { m.Offs = []int{0, 65520} })
	add("a place that is no multiple", func(m *image.Image) { m.Offs = []int{0, 12} })
	add("a place below 0", func(m *image.Image) { m.Offs = []int{-8, 0} })
	add("the least place there is", func(m *image.Image) { m.Offs = []int{math.MinInt} })
	add("the greatest place there is", func(m *image.Image) { m.Offs = []int{math.MaxInt - 7} })
	add("places that fall", func(m *image.Image) { m.Offs = []int{40, 0} })
	add("a place twice", func(m *image.Image) { m.Offs = []int{40, 40} })
	add("base 0 with places", func(m *image.Image) { m.Base = 0 })
	for what, base := range map[string]int{"1": 1, "255": 255, "257": 257, "-256": -256, "-1": -1, "1000": 1000, "above": 1<<40 + 256, "just above": 1<<40 + 1, "least": math.MinInt, "greatest": math.MaxInt} {
		add("base "+what, func(m *image.Image) { m.Base = base })
		add("without places, base "+what, func(m *image.Image) { m.Base, m.Offs = base, nil })
	}
	for i, d := range wrongSpans() {
		add("span "+string(rune('A'+i)), func(m *image.Image) { *m = image.Image{Span: d} })
		add("span with bytes "+string(rune('A'+i)), func(m *image.Image) { m.Span = d })
		add("span with its slots' bytes "+string(rune('A'+i)), func(m *image.Image) {
			*m = image.Image{Span: d, Base: 256, Bytes: make([]byte, 16*len(d.Live))}
		})
	}
	return all
}

// P17.1
func TestRight(t *testing.T) {
	for _, m := range images() {
		if !image.Right(m) || !modelRight(m) {
			t.Errorf("not right: %v", m)
		}
	}
	for what, m := range wrongs() {
		if image.Right(m) || modelRight(m) {
			t.Errorf("right: %s", what)
		}
	}
	if !image.Right(image.Image{}) {
		t.Error("of an empty span on the page 0 the zero image is right")
	}
}

// P17.1: all small images are right just if the document's words say so.
func TestRightOfAllSmallImages(t *testing.T) {
	right := 0
	for _, d := range []api.Span{of(0, 0, 0), of(0, 0, 0, 2), of(0, 1, 0, 0), of(4095, 0, 0, 3, 4), of(4096, 0, 0, 0), of(0, 7, 129, 0), of(0, 7, 136, 0), of(0, 7, 128, 0), of(0, 1, 24, 0), of(0, 0, 0, 4, 3)} {
		for _, n := range []int{0, 1, 7, 8, 15, 16, 17, 23, 24, 25, 31, 32, 33, 128, 129, 130, 135, 136, 137} {
			for _, base := range []int{math.MinInt, -256, -1, 0, 1, 255, 256, 257, 512, 1<<40 - 1, 1 << 40, 1<<40 + 1, 1<<40 + 256, math.MaxInt} {
				for _, offs := range [][]int{nil, {0}, {8}, {16}, {24}, {0, 8}, {8, 0}, {0, 0}, {4}, {-8}, {120}, {128}, {121}, {0, 120}} {
					m := image.Image{Span: d, Base: base, Offs: offs, Bytes: make([]byte, n)}
					if got := image.Right(m); got != modelRight(m) {
						t.Fatalf("Right(%v): %v", m, got)
					} else if got {
						right++
					}
				}
			}
		}
	}
	if right < 100 {
		t.Errorf("only %d are right", right)
	}
}

// rich is a sound view with objects of several kinds, a Large one too, with rows that aren't live, a span without live slots, and free pages.
func rich() api.View {
	v := api.View{
		Base:  1024,
		Pages: 9,
		// the first kind has no fields, since a row without an object tells it, and the place 0
		Kinds: []api.Kind{kindOf(16), kindOf(20, 8), kindOf(300, 0, 288), kindOf(48), kindOf(301), kindOf(17), kindOf(16, 0), kindOf(14, 0)},
		Rows: []api.Row{
			live(1, 6, 0), gone(3), live(65535, 1, 304), gone(0), live(2, 2, 768), live(1, 6, 16),
			live(4, 3, 1472), live(7, 5, 472), live(1, 7, 240), gone(65535),
		},
		Spans: []api.Span{of(0, 0, 0, 0, 1, 15), of(1, 1, 0, 2, 9), of(3, 7, 300, 0), of(5, 3, 0, 4), of(8, 6, 0)},
		Bytes: make([]byte, 9*256),
	}
	for i := range v.Bytes {
		v.Bytes[i] = byte(i%251 + 1)
	}
	// to itself, to a Large one, from it to none and to the last one, to none, and back
	putWord(v.Bytes, 0, 1024)
	putWord(v.Bytes, 304+8, 1024+768)
	putWord(v.Bytes, 768, 0)
	putWord(v.Bytes, 768+288, 1024+240)
	putWord(v.Bytes, 16, 0)
	putWord(v.Bytes, 240, 1024+472)
	return v
}

// P17.1
func TestMake(t *testing.T) {
	v := rich()
	// the bytes behind the objects are in it too: of the one of 20 bytes, of the ones of 17 and 14
	makes(t, "rich", v, 0, image.Image{Span: of(0, 0, 0, 0, 1, 15), Base: 1024, Offs: []int{0, 32}, Bytes: slices.Concat(v.Bytes[:32], v.Bytes[240:256])})
	makes(t, "rich", v, 1, image.Image{Span: of(1, 1, 0, 2, 9), Base: 1024, Offs: []int{8}, Bytes: slices.Concat(v.Bytes[304:328], v.Bytes[472:496])})
	makes(t, "rich", v, 2, image.Image{Span: of(3, 7, 300, 0), Base: 1024, Offs: []int{288}, Bytes: v.Bytes[768:1068]})
	makes(t, "rich", v, 3, image.Image{Span: of(5, 3, 0, 4), Bytes: v.Bytes[1472:1520]})
	makes(t, "rich", v, 4, image.Image{Span: of(8, 6, 0)})
	putWord(v.Bytes, 16, 1024)
	makes(t, "one field more", v, 0, image.Image{Span: of(0, 0, 0, 0, 1, 15), Base: 1024, Offs: []int{0, 16, 32}, Bytes: slices.Concat(v.Bytes[:32], v.Bytes[240:256])})
	for _, p := range []int{0, 16, 240} {
		putWord(v.Bytes, p, 0)
	}
	makes(t, "no field", v, 0, image.Image{Span: of(0, 0, 0, 0, 1, 15), Bytes: slices.Concat(v.Bytes[:32], v.Bytes[240:256])})
	putWord(v.Bytes, 768, 1024+240)
	makes(t, "both fields", v, 2, image.Image{Span: of(3, 7, 300, 0), Base: 1024, Offs: []int{0, 288}, Bytes: v.Bytes[768:1068]})
	v = example()
	putWord(v.Bytes, 0, 0)
	makes(t, "the example, without an address", v, 0, image.Image{Span: of(0, 0, 0, 0, 1), Bytes: v.Bytes[:32]})
}

// P17.1: a span's last byte may be the arena's, and a field an object's last bytes.
func TestMakeAtTheEnd(t *testing.T) {
	for _, size := range []int{8, 16, 32, 64, 128, 256, 512, 4096} {
		class := classOf(size)
		d := of(0, class, 0, slotsOf(class)-1)
		if class == 7 {
			d.Size = size
		}
		v := api.View{Base: 1 << 40, Pages: pagesOf(d), Kinds: []api.Kind{kindOf(size, size-8)}, Spans: []api.Span{d}, Rows: []api.Row{live(1, 0, placeOf(d, d.Live[0]))}}
		v.Bytes = anyBytes(noise(uint64(size)), 256*v.Pages)
		at := placeOf(d, d.Live[0])
		putWord(v.Bytes, at+size-8, uint64(v.Base+at))
		makes(t, size, v, 0, image.Image{Span: d, Base: 1 << 40, Offs: []int{size - 8}, Bytes: v.Bytes[at : at+slotBytes(d)]})
	}
}

// breakers make the rich view unsound, each by another rule.
func breakers() []func(v *api.View) {
	return []func(v *api.View){
		func(v *api.View) { v.Base++ },
		func(v *api.View) { v.Pages-- },
		func(v *api.View) { v.Bytes = v.Bytes[1:] },
		func(v *api.View) { v.Kinds[4].Size = 4097 },
		func(v *api.View) { v.Spans[4].Class = 8 },
		func(v *api.View) { v.Spans[0].Live = []int{1, 0} },
		func(v *api.View) { v.Spans[0], v.Spans[1] = v.Spans[1], v.Spans[0] },
		func(v *api.View) { v.Rows[3].Gen = 65536 },
		func(v *api.View) { v.Rows[6].At = 0 },
		func(v *api.View) { v.Rows[5].At = 0 },
		func(v *api.View) { v.Rows[6] = gone(4) },
		func(v *api.View) { putWord(v.Bytes, 16, 1025) },
		func(v *api.View) { v.Base += 256 },
	}
}

// P17.1
func TestMakeErrors(t *testing.T) {
	ends := []int{math.MinInt, math.MinInt + 1, -256, -2, -1, 5, 6, 256, math.MaxInt - 1, math.MaxInt}
	for _, i := range ends {
		refuses(t, "rich", rich(), i, api.ErrArg)
	}
	for at, change := range breakers() {
		v := rich()
		change(&v)
		// that the view isn't sound is told first
		for _, i := range append(upTo(5), ends...) {
			refuses(t, at, v, i, api.ErrForm)
		}
	}
	none := api.View{Base: 256, Pages: 1, Bytes: make([]byte, 256)}
	for _, i := range []int{-1, 0, 1, math.MinInt, math.MaxInt} {
		refuses(t, "no spans", none, i, api.ErrArg)
		refuses(t, "no view", api.View{}, i, api.ErrForm)
	}
	refuses(t, "the example", example(), 1, api.ErrArg)
	refuses(t, "the example", example(), -1, api.ErrArg)
}

// P17.1
func TestMakeOfAnyViews(t *testing.T) {
	chance := noise(171)
	places := 0
	for i := range 1000 {
		v := anyView(chance, 12)
		for j, d := range v.Spans {
			want := modelMake(v, d)
			places += len(want.Offs)
			makes(t, i, v, j, want)
		}
		refuses(t, i, v, -1, api.ErrArg)
		refuses(t, i, v, len(v.Spans), api.ErrArg)
	}
	if places < 5000 {
		t.Errorf("only %d places", places)
	}
}

// P17.2
func TestBody(t *testing.T) {
	for _, m := range images() {
		if b, e := image.Body(m); e != api.OK || !bytes.Equal(b, modelBody(m)) {
			t.Errorf("Body(%v): %x, %v", m, b, e)
		}
	}
	for _, x := range []struct {
		m    image.Image
		head []byte
	}{
		{image.Image{}, []byte{0, 0, 0, 0, 0, 0, 0}},
		{whole(), []byte{2, 1, 0, 8, 2, 4, 2, 0, 4}},
		{image.Image{Span: of(4095, 6, 0, 1), Base: 1 << 40, Bytes: make([]byte, 128)}, []byte{0xff, 31, 6, 0, 2, 0x80, 0x80, 0x80, 0x80, 16, 0}},
		{image.Image{Span: of(4080, 7, 4096, 0), Base: 256, Offs: []int{4088}, Bytes: make([]byte, 4096)}, []byte{0xf0, 31, 7, 0x80, 32, 1, 1, 1, 0xff, 3}},
		{image.Image{Span: of(128, 3, 0, 0, 4), Base: 32768, Bytes: make([]byte, 96)}, []byte{0x80, 1, 3, 0, 17, 0x80, 1, 0}},
	} {
		if b, e := image.Body(x.m); e != api.OK || !bytes.Equal(b, append(x.head, x.m.Bytes...)) {
			t.Errorf("Body(%v): %x, %v, not %x and its bytes", x.m, b, e, x.head)
		}
	}
}

// P17.2
func TestBodyOfWhatIsNotRight(t *testing.T) {
	for what, m := range wrongs() {
		if b, e := image.Body(m); e != api.ErrForm || len(b) > 0 {
			t.Errorf("%s: %x, %v", what, b, e)
		}
	}
}

// P17.2, P17.4: what is written is read as it was; cut anywhere it is too short, and with anything behind it too long.
func TestReadOfBodies(t *testing.T) {
	for i, m := range images() {
		b, _ := image.Body(m)
		if got, e := image.Read(b); e != api.OK || !sameImage(got, m) {
			t.Errorf("Read(%x): %v, %v, not %v", b, got, e, m)
		}
		for cut := range b {
			// all cuts of short ones; of others those at both ends
			if cut > 60 && cut < len(b)-20 && i%50 > 0 {
				continue
			}
			if got, e := image.Read(b[:cut]); e != api.ErrShort || !isZero(got) {
				t.Fatalf("Read of %d bytes of %x: %v, %v", cut, b, got, e)
			}
		}
		for _, more := range []string{"\x00", "\xff", "\x80", "more"} {
			if got, e := image.Read(append(slices.Clone(b), more...)); e != api.ErrLong || !isZero(got) {
				t.Errorf("Read of %x and %x: %v, %v", b, more, got, e)
			}
		}
	}
}

// P17.2: which error is told, at the edges; and which of several.
func TestReadErrors(t *testing.T) {
	for _, x := range []struct {
		b    string
		want api.Errno
	}{
		{"", api.ErrShort},
		// a Page of MaxPages less 1, of MaxPages, and above; Vars that aren't one
		{"\xff\x1f", api.ErrShort}, {"\x80\x20", api.ErrForm}, {"\x81\x20", api.ErrForm}, {"\x80", api.ErrShort}, {"\x80\x00", api.ErrForm}, {"\x80\x80\x80", api.ErrShort},
		{"\xff\xff\xff\xff\xff\xff\xff\xff\xff\x01", api.ErrForm}, {"\xff\xff\xff\xff\xff\xff\xff\xff\xff\x02", api.ErrForm}, {"\xff\xff\xff\xff\xff\xff\xff\xff\xff", api.ErrShort}, {"\x80\x80\x80\x80\x80\x80\x80\x80\x80\x01", api.ErrForm},
		// a Class of Large, and above
		{"\x00", api.ErrShort}, {"\x00\x07", api.ErrShort}, {"\x00\x08", api.ErrForm}, {"\x00\x80", api.ErrShort}, {"\x00\x80\x00", api.ErrForm}, {"\x00\xff\xff\xff\xff\xff\xff\xff\xff\xff\x01", api.ErrForm},
		// a Size of MaxSize, and above; one that isn't the class's, at its end
		{"\x00\x00", api.ErrShort}, {"\x00\x07\x80\x20", api.ErrShort}, {"\x00\x07\x81\x20", api.ErrForm}, {"\x00\x07\x81", api.ErrShort}, {"\x00\x00\x01", api.ErrForm}, {"\x00\x00\x10", api.ErrForm}, {"\x00\x06\x80", api.ErrShort}, {"\x00\x06\x80\x01", api.ErrForm}, {"\x00\x06\x80\x00", api.ErrForm},
		{"\x00\x07\x00", api.ErrForm}, {"\x00\x07\x80\x01", api.ErrForm}, {"\x00\x07\x81\x01", api.ErrShort}, {"\x00\x07\x7f", api.ErrForm}, {"\x00\x07\xff\xff\xff\xff\xff\xff\xff\xff\xff\x01", api.ErrForm},
		// pages that end behind MaxPages
		{"\xff\x1f\x07\xac\x02", api.ErrForm}, {"\xfe\x1f\x07\xac\x02", api.ErrShort}, {"\xff\x1f\x07\x80\x02", api.ErrShort}, {"\xf0\x1f\x07\x80\x20", api.ErrShort}, {"\xf1\x1f\x07\x80\x20", api.ErrForm},
		// a set that ends, and one with a bit behind its places
		{"\x00\x00\x00", api.ErrShort}, {"\x00\x00\x00\x00", api.ErrShort}, {"\x00\x00\x00\xff\xff", api.ErrShort}, {"\x00\x01\x00\xff\x03", api.ErrShort}, {"\x00\x01\x00\xff\x04", api.ErrForm}, {"\x00\x01\x00\x00\x80", api.ErrForm},
		{"\x00\x02\x00\xff", api.ErrShort}, {"\x00\x03\x00\x1f", api.ErrShort}, {"\x00\x03\x00\x20", api.ErrForm}, {"\x00\x04\x00\x0f", api.ErrShort}, {"\x00\x04\x00\x10", api.ErrForm}, {"\x00\x05\x00\x03", api.ErrShort}, {"\x00\x05\x00\x04", api.ErrForm}, {"\x00\x06\x00\x04", api.ErrForm},
		{"\x00\x07\x81\x01\x01", api.ErrShort}, {"\x00\x07\x81\x01\x02", api.ErrForm}, {"\x00\x07\x81\x01\x80", api.ErrForm},
		// a Base of MaxBase, and above
		{"\x00\x06\x00\x00\x80\x80\x80\x80\x10", api.ErrShort}, {"\x00\x06\x00\x00\x81\x80\x80\x80\x10", api.ErrForm}, {"\x00\x06\x00\x00\xff\xff\xff\xff\x0f", api.ErrShort}, {"\x00\x06\x00\x00\xff\xff\xff\xff\xff\xff\xff\xff\xff\x01", api.ErrForm}, {"\x00\x06\x00\x00\x80\x80\x80\x80\x80\x80\x80\x80\x01", api.ErrForm}, {"\x00\x06\x00\x00\x80\x00", api.ErrForm}, {"\x00\x06\x00\x00\x80", api.ErrShort},
		{"\x00\x06\x00\x00\x80\x80\x80\x80\x10\x00", api.OK}, {"\x00\x06\x00\x00\x01\x00", api.OK}, {"\x00\x06\x00\x00\x00\x00", api.OK},
		// a table's faults: too many places, a place too far, Vars that aren't one, too few
		{"\x00\x06\x00\x00\x01\x81\x40", api.ErrForm}, {"\x00\x06\x00\x00\x01\x80\x40", api.ErrShort}, {"\x00\x06\x00\x00\x01\x80\x00", api.ErrForm}, {"\x00\x06\x00\x00\x01\x01", api.ErrShort}, {"\x00\x06\x00\x00\x01\x01\xff\x3f", api.ErrForm},
		{"\x00\x06\x00\x00\x01\x01\xff", api.ErrShort}, {"\x00\x06\x00\x00\x01\x02\x00", api.ErrShort}, {"\x00\x06\x00\x00\x01\x02\xfe\x3f\x00", api.ErrForm}, {"\x00\x06\x00\x00\x01\x01\x80\x00", api.ErrForm}, {"\x00\x06\x00\x00\x01\x01\xff\xff\xff\xff\xff\xff\xff\xff\xff\x01", api.ErrForm},
		// bytes behind that are too many or too few, ahead of a table that is too far for them, or of a base 0
		{"\x00\x06\x00\x00\x01\x01\xfe\x3f", api.ErrForm}, {"\x00\x06\x00\x00\x01\x01\xfe\x3fx", api.ErrLong}, {"\x00\x06\x00\x01\x01\x01\xfe\x3fx", api.ErrShort}, {"\x00\x06\x00\x00\x00\x01\x00", api.ErrForm}, {"\x00\x06\x00\x00\x00\x01\x00x", api.ErrLong},
		{"\x00\x06\x00\x00\x00\x00x", api.ErrLong}, {"\x00\x06\x00\x01\x00\x00x", api.ErrShort}, {"\x00\x06\x00\x01\x00\x01\x00x", api.ErrShort},
		// an earlier fault counts, whatever follows
		{"\x80\x20\x08\x81\x20", api.ErrForm}, {"\x00\x08\x80", api.ErrForm}, {"\x00\x00\x01\x00", api.ErrForm}, {"\x00\x06\x00\x04\x80", api.ErrForm},
	} {
		if e := reads(t, []byte(x.b)); e != x.want {
			t.Errorf("Read(%x): %v, not %v", x.b, e, x.want)
		}
	}
	reads(t, nil)
}

// P17.2: of an image that would be right but for one thing.
func TestReadOfWrongImages(t *testing.T) {
	side := string(make([]byte, 128))
	for _, x := range []struct {
		b    string
		want api.Errno
	}{
		{"\x00\x06\x00\x01\x01\x01\x0f" + side, api.OK}, {"\x00\x06\x00\x01\x01\x01\x10" + side, api.ErrForm}, {"\x00\x06\x00\x01\x00\x01\x0f" + side, api.ErrForm}, {"\x00\x06\x00\x01\x00\x00" + side, api.OK}, {"\x00\x06\x00\x01\x07\x00" + side, api.OK},
		{"\x00\x06\x00\x01\x01\x01\x10" + side[:127], api.ErrShort}, {"\x00\x06\x00\x01\x01\x01\x10" + side + "x", api.ErrLong}, {"\x00\x06\x00\x01\x00\x01\x0f" + side[:127], api.ErrShort}, {"\x00\x06\x00\x01\x00\x01\x0f" + side + "x", api.ErrLong},
		{"\x00\x06\x00\x03\x01\x02\x0f\x0f" + side + side, api.OK}, {"\x00\x06\x00\x03\x01\x02\x0f\x10" + side + side, api.ErrForm},
		{"\x05\x07\x81\x01\x01\x01\x01\x0f" + side + "x", api.OK}, {"\x05\x07\x81\x01\x01\x01\x01\x10" + side + "x", api.ErrForm}, {"\x05\x07\x87\x01\x01\x01\x01\x10" + side + "1234567", api.ErrForm}, {"\x05\x07\x88\x01\x01\x01\x01\x10" + side + "12345678", api.OK},
	} {
		if e := reads(t, []byte(x.b)); e != x.want {
			t.Errorf("Read(%x): %v, not %v", x.b, e, x.want)
		}
	}
}

// P17.2: all rows of few chosen bytes are read as the document's words read them.
func TestReadOfAllShortBytes(t *testing.T) {
	chosen := []byte{0, 1, 2, 7, 8, 0x80, 0xff}
	counts := map[api.Errno]int{}
	var all func(b []byte)
	all = func(b []byte) {
		counts[reads(t, b)]++
		if len(b) == 7 {
			return
		}
		for _, c := range chosen {
			all(append(b, c))
		}
	}
	all(make([]byte, 0, 7))
	for _, e := range []api.Errno{api.OK, api.ErrShort, api.ErrForm, api.ErrLong} {
		if counts[e] == 0 {
			t.Errorf("none is %v", e)
		}
	}
}

// P17.2: Bodies in which something was changed are read as the document's words read them, and what is read is written as it was.
func TestReadOfChangedBodies(t *testing.T) {
	chance := noise(172)
	odd := []byte{0, 1, 7, 8, 0x7f, 0x80, 0x81, 0xff}
	counts := map[api.Errno]int{}
	for _, m := range images() {
		for range 60 {
			b := modelBody(m)
			for range 1 + chance(2) {
				at := chance(min(len(b), 4+chance(20)))
				switch chance(5) {
				case 0:
					b[at] ^= 1 << chance(8)
				case 1:
					b[at] = odd[chance(len(odd))]
				case 2:
					b = slices.Delete(b, at, at+1)
				case 3:
					b = slices.Insert(b, at, odd[chance(len(odd))])
				case 4:
					b[at]++
				}
			}
			e := reads(t, b)
			counts[e]++
			if e != api.OK {
				continue
			}
			got, _ := image.Read(b)
			if again, e := image.Body(got); e != api.OK || !bytes.Equal(again, b) {
				t.Fatalf("Read(%x), then Body: %x, %v", b, again, e)
			}
		}
	}
	for _, e := range []api.Errno{api.OK, api.ErrShort, api.ErrForm, api.ErrLong} {
		if counts[e] < 100 {
			t.Errorf("only %d are %v", counts[e], e)
		}
	}
}

// P17.3
func TestMove(t *testing.T) {
	m := whole()
	to, e := image.Move(m, 4096, 1001)
	want := whole()
	want.Base = 4096
	putWord(want.Bytes, 0, 4096)
	putWord(want.Bytes, 40, 4096+1000)
	if e != api.OK || !sameImage(to, want) {
		t.Errorf("%v, %v, not %v", to, e, want)
	}
	for _, x := range []struct {
		base, n int
		want    api.Errno
	}{
		{256, 1 << 20, api.OK}, {1024, 1 << 20, api.OK}, {1 << 40, 1 << 20, api.OK}, {256, 1001, api.OK},
		{256, 1000, api.ErrAddr}, {256, 1, api.ErrAddr}, {256, 0, api.ErrAddr}, {1 << 40, 1000, api.ErrAddr}, {1024, 1000, api.ErrAddr},
		{256, -1, api.ErrArg}, {256, 1<<20 + 1, api.ErrArg}, {256, math.MinInt, api.ErrArg}, {256, math.MaxInt, api.ErrArg},
		{0, 1001, api.ErrArg}, {255, 1001, api.ErrArg}, {257, 1001, api.ErrArg}, {-256, 1001, api.ErrArg}, {1<<40 + 256, 1001, api.ErrArg}, {1<<40 + 1, 1001, api.ErrArg}, {math.MinInt, 1001, api.ErrArg}, {math.MaxInt, 1001, api.ErrArg},
		// where both are wrong, what was asked for is told ahead of the address
		{0, 0, api.ErrArg}, {1, 1000, api.ErrArg}, {0, -1, api.ErrArg},
	} {
		if e := moves(t, m, x.base, x.n); e != x.want {
			t.Errorf("Move to %d, %d: %v, not %v", x.base, x.n, e, x.want)
		}
	}
}

// P17.3: an address just in and just outside of n bytes, and ones that are none.
func TestMoveOfAddresses(t *testing.T) {
	for _, from := range []int{256, 1 << 20, 1 << 40} {
		for _, n := range []int{0, 1, 8, 255, 256, 1<<20 - 1, 1 << 20} {
			for _, address := range []uint64{0, 1, uint64(from) - 1, uint64(from), uint64(from) + 1, uint64(from+n) - 1, uint64(from + n), uint64(from+n) + 1, 1 << 62, 1 << 63, math.MaxUint64, -uint64(from)} {
				m := image.Image{Span: of(0, 0, 0, 1), Base: from, Offs: []int{8}, Bytes: anyBytes(noise(9), 16)}
				putWord(m.Bytes, 8, address)
				want := api.ErrAddr
				if address == 0 || address >= uint64(from) && address < uint64(from+n) {
					want = api.OK
				}
				for _, base := range []int{256, 512, 1 << 30, 1 << 40} {
					if e := moves(t, m, base, n); e != want {
						t.Errorf("Move of %d from %d to %d, %d: %v", address, from, base, n, e)
					}
				}
			}
		}
	}
}

// P17.3: without places it has the same bytes wherever it is moved, and the base 0, whichever it had.
func TestMoveWithoutPlaces(t *testing.T) {
	for _, from := range []int{0, 256, 1 << 40} {
		for _, d := range []api.Span{of(7, 0, 0, 3), of(7, 0, 0), of(1, 7, 300, 0), of(0, 7, 129)} {
			m := image.Image{Span: d, Base: from, Bytes: anyBytes(noise(3), modelSize(d))}
			want := image.Image{Span: d, Bytes: m.Bytes}
			for _, n := range []int{0, 1, 256, 1 << 20} {
				for _, base := range []int{256, 1024, 5336910080, 1 << 40} {
					if to, e := image.Move(m, base, n); e != api.OK || !sameImage(to, want) || !image.Right(to) {
						t.Errorf("Move(%v, %d, %d): %v, %v, not %v", m, base, n, to, e, want)
					}
				}
			}
			for _, x := range [][2]int{{0, 0}, {255, 256}, {256, -1}, {256, 1<<20 + 1}, {1<<40 + 256, 1}, {math.MinInt, math.MinInt}, {256, math.MaxInt}, {512, math.MinInt}} {
				if e := moves(t, m, x[0], x[1]); e != api.ErrArg {
					t.Errorf("Move of %v, %d, %d: %v", d, x[0], x[1], e)
				}
			}
		}
	}
}

// P17.3
func TestMoveOfWhatIsNotRight(t *testing.T) {
	for what, m := range wrongs() {
		// that is told first, whatever else is wrong
		for _, base := range []int{512, 0, 257, math.MinInt, math.MaxInt} {
			for _, n := range []int{1 << 20, 0, -1, 1<<20 + 1, math.MinInt, math.MaxInt} {
				if to, e := image.Move(m, base, n); e != api.ErrForm || !isZero(to) {
					t.Errorf("%s: Move to %d, %d: %v, %v", what, base, n, to, e)
				}
			}
		}
	}
}

// P17.3: there and back, and by way of a third base, it is the same; any n is held against the addresses.
func TestMoveThereAndBack(t *testing.T) {
	chance := noise(173)
	for _, m := range images() {
		// bytes at places that are no address of the arena can't be moved
		most := 1 << 20
		base, third := 256*(1+chance(1<<30)), 256*(1+chance(1000))
		moves(t, m, base, chance(most))
		if moves(t, m, base, most) != api.OK {
			continue
		}
		there, _ := image.Move(m, base, most)
		back, e := image.Move(there, max(m.Base, 256), most)
		want := m
		if len(m.Offs) == 0 {
			// its base was of no use, and none is told
			want.Base = 0
		}
		if e != api.OK || !sameImage(back, want) {
			t.Errorf("there and back: %v, %v, not %v", back, e, want)
		}
		way, _ := image.Move(m, third, most)
		again, e := image.Move(way, base, most)
		if e != api.OK || !sameImage(again, there) {
			t.Errorf("by way of %d: %v, %v, not %v", third, again, e, there)
		}
		b, _ := image.Body(there)
		if got, e := image.Read(b); e != api.OK || !sameImage(got, there) {
			t.Errorf("read at %d: %v, %v, not %v", base, got, e, there)
		}
	}
}

// lay lays an image's bytes where its span's slots are.
func lay(b []byte, m image.Image) {
	size := slotBytes(m.Span)
	for i, slot := range m.Span.Live {
		copy(b[placeOf(m.Span, slot):], m.Bytes[i*size:i*size+size])
	}
}

// laid is a view whose bytes are those of its spans' images alone, written and read, at another base.
func laid(t *testing.T, v api.View, base int) api.View {
	t.Helper()
	to := copyOf(v)
	to.Base = base
	to.Bytes = make([]byte, len(v.Bytes))
	to.Spans = nil
	for i := range v.Spans {
		m, e := image.Make(v, i)
		if e != api.OK {
			t.Fatalf("Make(%v, %d): %v", v, i, e)
		}
		b, _ := image.Body(m)
		m, _ = image.Read(b)
		m, e = image.Move(m, base, len(v.Bytes))
		if e != api.OK {
			t.Fatalf("Move(%v, %d): %v", m, base, e)
		}
		lay(to.Bytes, m)
		to.Spans = append(to.Spans, m.Span)
	}
	return to
}

// P17.4: the images of all spans, laid where their slots are, are the bytes of all objects; so they are at another base.
func TestAllSpansOfAView(t *testing.T) {
	chance := noise(174)
	views := []api.View{example(), rich()}
	for range 300 {
		views = append(views, anyView(chance, 15))
	}
	for i, v := range views {
		want := audit.Objects(v)
		for _, base := range []int{v.Base, 256, 1 << 30, 1 << 40} {
			to := laid(t, v, base)
			there := atBase(v, base)
			for _, r := range v.Rows {
				end := r.At + v.Kinds[r.Kind].Size
				if r.Live && !bytes.Equal(to.Bytes[r.At:end], there.Bytes[r.At:end]) {
					t.Fatalf("the view %d, at %d: the object at %d is %x", i, base, r.At, to.Bytes[r.At:end])
				}
			}
			if got := audit.Objects(to); !slices.EqualFunc(got, want, sameObject) {
				t.Fatalf("the view %d, at %d: %v, not %v", i, base, got, want)
			}
		}
	}
}

func sameObject(a, b audit.Object) bool {
	return a.Handle == b.Handle && a.Kind == b.Kind && slices.Equal(a.Bytes, b.Bytes) && slices.Equal(a.To, b.To)
}

// P17.3, P17.4: the image of a view at another base is the moved image.
func TestMakeAtAnotherBase(t *testing.T) {
	chance := noise(175)
	for range 200 {
		v := anyView(chance, 12)
		base := 256 * (1 + chance(1<<30))
		there := atBase(v, base)
		for i := range v.Spans {
			m, _ := image.Make(v, i)
			want, e := image.Make(there, i)
			if to, moveErr := image.Move(m, base, len(v.Bytes)); e != api.OK || moveErr != api.OK || !sameImage(to, want) {
				t.Fatalf("%v, %v, %v, not %v", to, e, moveErr, want)
			}
		}
	}
}

// P17.1 to P17.4: as many pages, rows and fields as there may be.
func TestGreatest(t *testing.T) {
	v := api.View{Base: api.MaxBase, Pages: api.MaxPages, Bytes: make([]byte, 256*api.MaxPages)}
	ptrs := []int{}
	for i := range 16 {
		ptrs = append(ptrs, 256*i)
	}
	v.Kinds = []api.Kind{kindOf(4096, ptrs...), kindOf(16, 0, 8)}
	for i := range 255 {
		v.Spans = append(v.Spans, of(16*i, 7, 4096, 0))
		v.Rows = append(v.Rows, live(65535, 0, 4096*i))
	}
	for i := range 16 {
		v.Spans = append(v.Spans, of(4080+i, 0, 0, upTo(16)...))
		for slot := range 16 {
			v.Rows = append(v.Rows, live(1, 1, 256*(4080+i)+16*slot))
		}
	}
	for i, r := range v.Rows {
		for _, p := range v.Kinds[r.Kind].Ptrs {
			putWord(v.Bytes, r.At+p, uint64(v.Base+v.Rows[(i*7+p)%len(v.Rows)].At))
		}
	}
	for i, d := range v.Spans {
		m, e := image.Make(v, i)
		if e != api.OK || len(m.Bytes) != image.Size(d) || !sameImage(m, modelMake(v, d)) {
			t.Fatalf("the span %d: %v, %v", i, m, e)
		}
		b, e := image.Body(m)
		if got, readErr := image.Read(b); e != api.OK || readErr != api.OK || !sameImage(got, m) {
			t.Fatalf("the span %d: %v, %v", i, e, readErr)
		}
		if e := moves(t, m, 256, 1<<20); e != api.OK {
			t.Fatalf("the span %d: %v", i, e)
		}
	}
}

// spoil changes a list, and its spare room.
func spoil[T any](list []T, with T) {
	list = list[:cap(list)]
	for i := range list {
		list[i] = with
	}
}

// spoilImage changes all of an image's lists.
func spoilImage(m image.Image) {
	spoil(m.Span.Live, 77)
	spoil(m.Offs, 77)
	spoil(m.Bytes, 77)
}

// spoilView changes all that a view has.
func spoilView(v api.View) {
	for _, k := range v.Kinds {
		spoil(k.Ptrs, 77)
	}
	for _, d := range v.Spans {
		spoil(d.Live, 77)
	}
	spoil(v.Kinds, kindOf(77))
	spoil(v.Rows, gone(77))
	spoil(v.Spans, of(77, 77, 77))
	spoil(v.Bytes, 77)
}

// roomy is a list with spare room behind it, which is filled with something.
func roomy[T any](list []T, with T) []T {
	all := append(slices.Clone(list), with, with, with)
	return all[:len(list)]
}

// all is a list with its spare room as if that were part of it.
func all[T any](list []T) []T {
	return list[:len(list)+3]
}

// roomyImage is an image alike, with spare room behind each list; withAll has it as if it were part.
func roomyImage(m image.Image) image.Image {
	m.Span.Live, m.Offs, m.Bytes = roomy(m.Span.Live, -7), roomy(m.Offs, -7), roomy(m.Bytes, 7)
	return m
}

func withAll(m image.Image) image.Image {
	m.Span.Live, m.Offs, m.Bytes = all(m.Span.Live), all(m.Offs), all(m.Bytes)
	return m
}

// roomyView is a view alike, with spare room behind each list.
func roomyView(v api.View) api.View {
	v = copyOf(v)
	for i := range v.Kinds {
		v.Kinds[i].Ptrs = roomy(v.Kinds[i].Ptrs, -7)
	}
	for i := range v.Spans {
		v.Spans[i].Live = roomy(v.Spans[i].Live, -7)
	}
	v.Kinds, v.Rows, v.Spans, v.Bytes = roomy(v.Kinds, kindOf(-7)), roomy(v.Rows, gone(-7)), roomy(v.Spans, of(-7, -7, -7)), roomy(v.Bytes, 7)
	return v
}

// withRoom is a view, and its spare room as if that were part of it.
func withRoom(v api.View) api.View {
	kinds, spans := len(v.Kinds), len(v.Spans)
	v.Kinds, v.Rows, v.Spans, v.Bytes = slices.Clone(all(v.Kinds)), all(v.Rows), slices.Clone(all(v.Spans)), all(v.Bytes)
	for i := range kinds {
		v.Kinds[i].Ptrs = all(v.Kinds[i].Ptrs)
	}
	for i := range spans {
		v.Spans[i].Live = all(v.Spans[i].Live)
	}
	return v
}

// Rule 4: what is handed in isn't changed, nor its spare room, nor by what is done with an answer.
func TestNothingHandedInIsChanged(t *testing.T) {
	chance := noise(4)
	for range 60 {
		v := anyView(chance, 8)
		for i := -1; i <= len(v.Spans); i++ {
			given := roomyView(v)
			m, _ := image.Make(given, i)
			spoilImage(m)
			if !sameView(withRoom(given), withRoom(roomyView(v))) {
				t.Fatalf("Make has changed the view, %d", i)
			}
		}
	}
	some := images()
	for _, m := range wrongs() {
		some = append(some, m)
	}
	for _, m := range some {
		given, want := roomyImage(m), withAll(roomyImage(m))
		image.Size(given.Span)
		image.Right(given)
		b, _ := image.Body(given)
		spoil(b, 77)
		for _, base := range []int{512, 0} {
			to, _ := image.Move(given, base, 1<<20)
			spoilImage(to)
		}
		if !sameImage(withAll(given), want) {
			t.Fatalf("changed: %v, not %v", given, want)
		}
	}
	for _, m := range images() {
		b := roomy(modelBody(m), 7)
		got, _ := image.Read(b)
		spoilImage(got)
		if !bytes.Equal(all(b), append(modelBody(m), 7, 7, 7)) {
			t.Fatalf("Read has changed %x", b)
		}
	}
}

// Rule 4: answers have nothing in common with what was handed in, with one another, nor their lists.
func TestAnswersAreNewMemory(t *testing.T) {
	chance := noise(5)
	for range 60 {
		v := anyView(chance, 8)
		for i, d := range v.Spans {
			given := roomyView(v)
			want := copyOfImage(modelMake(v, d))
			m, _ := image.Make(given, i)
			other, _ := image.Make(given, i)
			spoilView(given)
			spoilImage(other)
			isApart(t, "Make", m, want)
		}
	}
	for _, m := range images() {
		given, want := roomyImage(m), modelBody(m)
		b, _ := image.Body(given)
		other, _ := image.Body(given)
		spoil(other, 77)
		spoilImage(given)
		if !bytes.Equal(b, want) {
			t.Fatalf("Body: %x, once others were changed, not %x", b, want)
		}
		other = slices.Clone(b)
		got, _ := image.Read(other)
		again, _ := image.Read(other)
		spoil(other, 77)
		spoilImage(again)
		isApart(t, "Read", got, m)
		given = roomyImage(m)
		moved, e := modelMove(m, 512, 1<<20)
		got, _ = image.Move(given, 512, 1<<20)
		again, _ = image.Move(given, 512, 1<<20)
		spoilImage(given)
		spoilImage(again)
		if e == api.OK {
			isApart(t, "Move", got, moved)
		}
	}
}

// isApart holds that an image is this one, and that its lists have no memory in common.
func isApart(t *testing.T, what string, m, want image.Image) {
	t.Helper()
	if !sameImage(m, want) {
		t.Fatalf("%s: %v, once others were changed, not %v", what, m, want)
	}
	spoil(m.Span.Live, 77)
	if !slices.Equal(m.Offs, want.Offs) || !slices.Equal(m.Bytes, want.Bytes) {
		t.Fatalf("%s: the slots share", what)
	}
	spoil(m.Offs, 77)
	if !slices.Equal(m.Bytes, want.Bytes) {
		t.Fatalf("%s: the places share", what)
	}
}

// Rule 5
func TestSameAnswersEachTime(t *testing.T) {
	chance := noise(6)
	for range 100 {
		v := anyView(chance, 8)
		for i := range v.Spans {
			m, _ := image.Make(v, i)
			b, _ := image.Body(m)
			for range 3 {
				again, _ := image.Make(v, i)
				bytesAgain, _ := image.Body(again)
				if !sameImage(again, m) || !bytes.Equal(bytesAgain, b) {
					t.Fatalf("%v, then %v", m, again)
				}
			}
		}
	}
}

// P1: every call ends, whatever it is given.
func TestAnyArguments(t *testing.T) {
	chance := noise(7)
	numbers := []int{math.MinInt, math.MinInt + 1, -256, -8, -1, 0, 1, 7, 8, 16, 255, 256, 257, 300, 4095, 4096, 4097, 65535, 1 << 20, 1 << 40, 1<<40 + 256, 1 << 62, math.MaxInt - 7, math.MaxInt}
	number := func() int { return numbers[chance(len(numbers))] }
	list := func() []int {
		var l []int
		for range chance(4) {
			l = append(l, number())
		}
		return l
	}
	for range 20000 {
		d := of(number(), chance(10)-1, number()*chance(2), list()...)
		if got := image.Size(d); got != modelSize(d) {
			t.Fatalf("Size(%v): %d", d, got)
		}
		m := image.Image{Span: d, Base: number(), Offs: list(), Bytes: make([]byte, chance(400))}
		if got := image.Right(m); got != modelRight(m) {
			t.Fatalf("Right(%v): %v", m, got)
		}
		moves(t, m, number(), number())
		if _, e := image.Body(m); (e == api.OK) != modelRight(m) {
			t.Fatalf("Body(%v): %v", m, e)
		}
		reads(t, anyBytes(chance, chance(40)))
		v := api.View{Base: number(), Pages: chance(3), Kinds: []api.Kind{kindOf(number(), list()...)}, Rows: []api.Row{live(number(), chance(3)-1, number())}, Spans: []api.Span{d}, Bytes: make([]byte, 256*chance(3))}
		if rule, _ := audit.Check(v); rule > 0 {
			refuses(t, "any", v, number(), api.ErrForm)
		}
	}
}
