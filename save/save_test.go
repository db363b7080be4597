package save_test

import (
	"bytes"
	"math"
	"slices"
	"testing"

	"hayloft/api"
	"hayloft/disk"
	"hayloft/manifest"
	"hayloft/save"
)

// P22.1, P22.3 to P22.5: the chapter's examples.
func TestExamples(t *testing.T) {
	b := benchOf(t, 16)
	if n := b.saves(example(), 1, 2); n != 7 {
		t.Error(n, "steps")
	}
	tree := b.s.Tree()
	if tree.Seq != 1 || tree.Slot != 0 || !slices.Equal(tree.Sectors, []int{1, 2, 3, 4}) || b.s.Fresh() != 4 || b.s.Free() != 10 {
		t.Error(tree, b.s.Fresh(), b.s.Free())
	}
	if !slices.Equal(tree.Entries, []api.Entry{{Type: 1, First: 1, Len: 11}, {Type: 2, First: 2, Len: 14}, {Type: 3, First: 3, Len: 47}}) {
		t.Error(tree.Entries)
	}
	if n := b.saves(example(), 1, 2); n != 4 {
		t.Error(n, "steps")
	}
	tree = b.s.Tree()
	if tree.Seq != 2 || tree.Slot != 1 || !slices.Equal(tree.Sectors, []int{1, 2, 3, 5}) || b.s.Fresh() != 1 || b.s.Free() != 10 {
		t.Error(tree, b.s.Fresh(), b.s.Free())
	}
}

// framesAre holds that the frames of a sound view are the model's.
func framesAre(t *testing.T, v api.View) []save.Piece {
	t.Helper()
	l, e := save.Frames(v)
	if want := modelFrames(v); e != nil || !slices.EqualFunc(l, want, samePiece) {
		t.Fatalf("Frames: %v, %v, not %v", l, e, want)
	}
	return l
}

// typed is how many pieces of a type there are, and whether their Ids go from 0 on.
func typed(l []save.Piece, of int) (int, bool) {
	n, rising := 0, true
	for _, x := range l {
		if x.Type == of {
			rising = rising && x.Id == n
			n++
		}
	}
	return n, rising
}

// P22.1
func TestFrames(t *testing.T) {
	l := framesAre(t, example())
	if !bytes.Equal(l[0].Bytes[:7], []byte{1, 4, 0, 1, 16, 1, 0}) || !bytes.Equal(l[1].Bytes[:10], []byte{2, 7, 0, 2, 3, 0, 0, 3, 0, 16}) ||
		!bytes.Equal(l[2].Bytes[:13], []byte{3, 40, 0, 0, 0, 0, 3, 0, 1, 1, 0, 16, 1}) || len(l[0].Bytes) != 11 || len(l[1].Bytes) != 14 || len(l[2].Bytes) != 47 {
		t.Errorf("%x", l)
	}
	if l := framesAre(t, empty(3)); len(l) != 0 {
		t.Error(l)
	}
	l = framesAre(t, several())
	var pages []int
	for _, x := range l[2:] {
		if x.Type != api.OfSpan {
			t.Error(x)
		}
		pages = append(pages, x.Id)
	}
	if len(l) != 7 || l[0].Type != api.OfKinds || l[1].Type != api.OfRows || !slices.Equal(pages, []int{1, 2, 4, 6, 7}) {
		t.Error(l)
	}
}

// P22.1: a view without kinds, one without rows, one without spans, and ones of which two are lacking.
func TestFramesOfLittle(t *testing.T) {
	for _, x := range []struct{ kinds, rows, spans int }{{1, 0, 0}, {0, 1, 0}, {0, 0, 1}, {1, 1, 0}, {1, 0, 1}, {0, 1, 1}, {1, 1, 1}} {
		v := empty(4)
		v.Kinds, v.Rows = kindsOf(x.kinds), rowsOf(x.rows)
		if x.spans > 0 {
			v.Spans = []api.Span{of(3, 2, 0)}
		}
		l := framesAre(t, v)
		if len(l) != x.kinds+x.rows+x.spans {
			t.Error(x, l)
		}
		b := benchOf(t, 16)
		if n := b.saves(v, 1, 1); n != len(l)+4 || b.s.Fresh() != len(l)+1 {
			t.Error(x, n, b.s.Fresh())
		}
	}
	b := benchOf(t, 8)
	if n := b.saves(empty(1), 8, 4096); n != 4 || b.s.Fresh() != 1 || !slices.Equal(b.s.Tree().Sectors, []int{1}) {
		t.Error(n, b.s.Tree())
	}
}

// P22.1: as many kinds, and rows, as pages have room for, and one more.
func TestFramesByPages(t *testing.T) {
	for _, x := range [][2]int{{0, 0}, {1, 1}, {15, 1}, {16, 1}, {17, 2}, {32, 2}, {33, 3}, {63, 4}, {64, 4}} {
		v := empty(1)
		v.Kinds = kindsOf(x[0])
		l := framesAre(t, v)
		if n, rising := typed(l, api.OfKinds); n != x[1] || !rising || len(l) != n {
			t.Error(x, l)
		}
	}
	for _, x := range [][2]int{{0, 0}, {1, 1}, {31, 1}, {32, 1}, {33, 2}, {64, 2}, {65, 3}, {4095, 128}, {4096, 128}} {
		v := empty(1)
		v.Rows = rowsOf(x[0])
		l := framesAre(t, v)
		if n, rising := typed(l, api.OfRows); n != x[1] || !rising || len(l) != n {
			t.Error(x, l)
		}
	}
}

// P22.1: what lies behind an object in its slot is written, what lies in a slot that isn't live isn't.
func TestFramesBytes(t *testing.T) {
	v := several()
	l := framesAre(t, v)
	for place := range v.Bytes {
		other := copyOfView(v)
		other.Bytes[place]++
		changed, e := save.Frames(other)
		if e != nil {
			continue
		}
		at := slices.IndexFunc(v.Spans, func(d api.Span) bool {
			return slices.ContainsFunc(d.Live, func(slot int) bool {
				from := 256*d.Page + slot*slotBytes(d)
				return place >= from && place < from+slotBytes(d)
			})
		})
		for i := range l {
			if samePiece(l[i], changed[i]) != (i != at+2 || at < 0) {
				t.Fatalf("the byte %d: the piece %d", place, i)
			}
		}
	}
}

// P22.1
func TestFramesNotSound(t *testing.T) {
	for i, v := range broken() {
		l, e := save.Frames(v)
		if wrong := isError(e, refuses(api.ErrForm)); wrong != "" || len(l) != 0 {
			t.Error(i, wrong, l, e)
		}
	}
	v := example()
	v.Kinds = kindsOf(65)
	if _, e := save.Frames(v); isError(e, refuses(api.ErrForm)) != "" {
		t.Error(e)
	}
	v = empty(1)
	v.Rows = rowsOf(4097)
	if _, e := save.Frames(v); isError(e, refuses(api.ErrForm)) != "" {
		t.Error(e)
	}
}

// P22.1: of any heaps.
func TestFramesOfAnyHeaps(t *testing.T) {
	chance := noise(2201)
	for range 60 {
		x := barnOf(t, chance)
		for range 10 {
			x.change(chance(20))
			framesAre(t, x.h.View())
		}
	}
}

// P22.2
func TestNew(t *testing.T) {
	tree := copyOfTree(saved(t).s.Tree())
	for _, x := range []save.Tree{save.None(), {}, tree} {
		if s, e := save.New(nil, x); s != nil || isError(e, refuses(api.ErrNil)) != "" {
			t.Error(s, e)
		}
	}
	if x := save.None(); !sameTree(x, save.Tree{Slot: -1}) {
		t.Error(x)
	}
	b := benchOf(t, 8)
	if b.s.Free() != 6 || b.s.Fresh() != 0 || b.s.Busy() || b.s.Tree().Slot != -1 {
		t.Error(b.s.Free(), b.s.Fresh(), b.s.Tree())
	}
	b = benchOf(t, 65536)
	if b.s.Free() != 65534 {
		t.Error(b.s.Free())
	}
	// no power is wanted
	b.arm(1)
	b.d.Flush()
	b.anew(save.None())
}

// saved is a bench with a checkpoint of the example.
func saved(t *testing.T) *bench {
	t.Helper()
	b := benchOf(t, 16)
	b.saves(example(), 1, 2)
	return b
}

// P22.2: a tree that another saver of the same disk told; it is a copy that counts.
func TestNewWithATree(t *testing.T) {
	b := saved(t)
	tree := b.s.Tree()
	b.anew(copyOfTree(tree))
	if b.s.Fresh() != 0 || b.s.Free() != 10 {
		t.Error(b.s.Fresh(), b.s.Free())
	}
	if n := b.saves(example(), 1, 2); n != 4 || !slices.Equal(b.s.Tree().Sectors, []int{1, 2, 3, 5}) {
		t.Error(n, b.s.Tree())
	}
	other := b.s.Tree()
	s, e := save.New(b.d, other)
	if e != nil {
		t.Fatal(e)
	}
	spoilTree(other)
	if !sameTree(s.Tree(), b.s.Tree()) {
		t.Error(s.Tree())
	}
	b.anew(b.s.Tree())
	v := example()
	v.Bytes[8] = 1
	if n := b.saves(v, 1, 2); n != 5 || !slices.Equal(b.s.Tree().Sectors, []int{1, 2, 4, 6}) {
		t.Error(n, b.s.Tree())
	}
}

// P1, P22.2: of trees that nobody told the calls end.
func TestNewWithAnyTree(t *testing.T) {
	odd := []int{math.MinInt, -1, 0, 1, 2, 3, 4, 5, 14, 15, 16, 17, 65534, 65535, 65536, math.MaxInt}
	chance := noise(2202)
	pieces := modelFrames(example())
	for range 3000 {
		any := func() int { return odd[chance(len(odd))] }
		tree := save.Tree{Seq: any(), Slot: any()}
		for range chance(5) {
			x := pieces[chance(3)]
			tree.Entries = append(tree.Entries, api.Entry{Type: x.Type, Id: x.Id, First: any(), Len: any()})
			tree.Frames = append(tree.Frames, x.Bytes)
		}
		tree.Entries = tree.Entries[:chance(len(tree.Entries)+1)]
		tree.Frames = tree.Frames[:chance(len(tree.Frames)+1)]
		if chance(3) == 0 {
			tree.Frames = append(tree.Frames, nil, make([]byte, 70000))
		}
		for range chance(8) {
			tree.Sectors = append(tree.Sectors, any())
		}
		d, _ := disk.New(16)
		s, e := save.New(d, tree)
		if e != nil {
			t.Fatal(e)
		}
		for range 2 {
			s.Begin(example(), 1, 2)
			s.Free()
			s.Fresh()
			for range chance(9) {
				s.Step()
			}
			s.Drop()
			s.Tree()
			s.Busy()
		}
	}
}

// P22.3 to P22.5: of no saver; and of one that nobody made the calls end.
func TestNoSaver(t *testing.T) {
	var s *save.Saver
	for _, v := range append(broken(), example()) {
		for _, n := range []int{-1, 0, 1, 9, math.MaxInt} {
			if e := s.Begin(v, n, n); isError(e, refuses(api.ErrNil)) != "" {
				t.Error(e)
			}
		}
	}
	if done, e := s.Step(); done || isError(e, refuses(api.ErrNil)) != "" {
		t.Error(done, e)
	}
	if s.Drop() || s.Busy() || s.Free() != 0 || s.Fresh() != 0 || !sameTree(s.Tree(), save.None()) {
		t.Error(s.Tree())
	}
	s = &save.Saver{}
	s.Begin(example(), 1, 2)
	s.Step()
	s.Drop()
	s.Busy()
	s.Tree()
	s.Free()
	s.Fresh()
}

// P22.3: ErrForm, by the view, by workers, by handles.
func TestBeginForm(t *testing.T) {
	b := benchOf(t, 16)
	for _, v := range broken() {
		b.begins(v, 1, 2, api.ErrForm)
		b.begins(v, 0, 4097, api.ErrForm)
	}
	for _, n := range []int{math.MinInt, -1, 0, 9, 10, math.MaxInt} {
		b.begins(example(), n, 2, api.ErrForm)
	}
	for _, n := range []int{math.MinInt, -1, 0, 1, 4097, 4098, math.MaxInt} {
		b.begins(example(), 1, n, api.ErrForm)
	}
	for _, n := range []int{1, 2, 7, 8} {
		b.begins(example(), n, 2, api.OK)
		b.drop()
	}
	for _, n := range []int{2, 3, 4095, 4096} {
		b.begins(example(), 1, n, api.OK)
		b.drop()
	}
	for _, n := range []int{-1, 0, 4097} {
		b.begins(empty(1), 1, n, api.ErrForm)
	}
	for _, n := range []int{1, 2, 4096} {
		b.begins(empty(1), 1, n, api.OK)
		b.drop()
	}
	b = benchOf(t, 1000)
	v := empty(1)
	v.Rows = rowsOf(4096)
	b.begins(v, 1, 4095, api.ErrForm)
	b.begins(v, 1, 4096, api.OK)
}

// P22.3: the root says what Begin was given.
func TestBeginRoot(t *testing.T) {
	b := benchOf(t, 100)
	for _, x := range []struct {
		v                api.View
		workers, handles int
	}{
		{example(), 1, 2}, {example(), 8, 4096}, {several(), 3, 8}, {several(), 3, 9}, {empty(7), 2, 1}, {large(4096), 1, 1},
	} {
		b.saves(x.v, x.workers, x.handles)
		r := b.rootOf(b.s.Tree())
		if r.Base != x.v.Base || r.Pages != x.v.Pages || r.Workers != x.workers || r.Handles != x.handles ||
			r.Rows != len(x.v.Rows) || r.Kinds != len(x.v.Kinds) || !slices.Equal(r.Entries, b.s.Tree().Entries) {
			t.Error(x.workers, x.handles, r)
		}
	}
}

// P22.3: one checkpoint at a time.
func TestBeginBusy(t *testing.T) {
	b := benchOf(t, 16)
	b.begins(example(), 1, 2, api.OK)
	for range 6 {
		b.begins(example(), 1, 2, api.ErrBusy)
		b.begins(empty(1), 0, 0, api.ErrBusy)
		b.step()
	}
	b.begins(example(), 1, 2, api.ErrBusy)
	if done, _ := b.step(); !done {
		t.Error("not done")
	}
	b.begins(example(), 1, 2, api.OK)
}

// P22.3: a disk without power.
func TestBeginWithoutPower(t *testing.T) {
	b := saved(t)
	b.arm(1)
	b.d.Flush()
	b.begins(example(), 1, 2, api.ErrDown)
	b.begins(example(), 0, 2, api.ErrForm)
	b.begins(broken()[0], 1, 2, api.ErrForm)
	b.begins(large(4096), 1, 1, api.ErrDown)
	b.crash(nil)
	b.saves(example(), 1, 2)
}

// P22.3: the numbers that layer 21's Next tells, of the manifests that there are and the slot of the tree.
func TestBeginNumbers(t *testing.T) {
	for _, x := range []struct {
		seqs [2]int // of the slots; 0: none
		slot int    // of the tree
		seq  int
		next int
		want api.Errno
	}{
		{[2]int{0, 0}, -1, 1, 0, api.OK},
		{[2]int{5, 0}, 0, 6, 1, api.OK},
		{[2]int{0, 5}, 1, 6, 0, api.OK},
		{[2]int{5, 4}, 0, 6, 1, api.OK},
		{[2]int{4, 5}, 1, 6, 0, api.OK},
		{[2]int{4, 5}, 0, 6, 1, api.OK},
		{[2]int{5, 4}, 1, 6, 0, api.OK},
		{[2]int{4, 5}, -1, 6, 0, api.OK},
		{[2]int{0, 7}, -1, 8, 0, api.OK},
		{[2]int{7, 7}, 0, 8, 1, api.OK},
		{[2]int{api.MaxSeq - 1, 0}, 0, api.MaxSeq, 1, api.OK},
		{[2]int{3, api.MaxSeq - 1}, 1, api.MaxSeq, 0, api.OK},
		{[2]int{api.MaxSeq, 0}, 0, 0, 0, api.ErrFull},
		{[2]int{0, api.MaxSeq}, 1, 0, 0, api.ErrFull},
		{[2]int{3, api.MaxSeq}, 0, 0, 0, api.ErrFull},
		{[2]int{api.MaxSeq, api.MaxSeq - 1}, 1, 0, 0, api.ErrFull},
	} {
		b := benchOf(t, 16)
		for slot, seq := range x.seqs {
			if seq > 0 {
				b.d.Write(manifest.Sector(slot, 16), manifestBytes(seq, 3, 40))
			}
		}
		b.d.Flush()
		b.anew(save.Tree{Seq: 1, Slot: x.slot})
		b.begins(example(), 1, 2, x.want)
		if x.want != api.OK {
			if b.s.Busy() {
				t.Error(x)
			}
			continue
		}
		b.steps()
		if tree := b.s.Tree(); tree.Seq != x.seq || tree.Slot != x.next {
			t.Error(x, tree)
		}
	}
}

// P22.3: up to the last number, and none behind it.
func TestBeginLastNumber(t *testing.T) {
	b := benchOf(t, 16)
	b.d.Write(15, manifestBytes(api.MaxSeq-2, 9, 50))
	b.anew(save.Tree{Seq: api.MaxSeq - 2, Slot: 1, Sectors: []int{9}})
	b.saves(example(), 1, 2)
	b.saves(example(), 1, 2)
	if tree := b.s.Tree(); tree.Seq != api.MaxSeq || tree.Slot != 1 {
		t.Error(tree)
	}
	b.begins(example(), 1, 2, api.ErrFull)
	b.readable(b.s.Tree())
}

// P22.3: just as many free sectors as are needed, and one fewer.
func TestBeginSectors(t *testing.T) {
	for _, v := range []api.View{several(), large(1000), large(4096), fields(100)} {
		b := benchOf(t, 1000)
		b.begins(v, 1, 4096, api.OK)
		need := b.s.Fresh()
		b = benchOf(t, need+2)
		b.saves(v, 1, 4096)
		if b.s.Free() != 0 {
			t.Error(need, b.s.Free())
		}
		top := count(rootFrame(v, 1, 4096, b.s.Tree().Entries))
		b.begins(v, 1, 4096, api.ErrSectors)
		b.begins(empty(1), 1, 4096, api.ErrSectors)
		b = benchOf(t, need+1)
		b.begins(v, 1, 4096, api.ErrSectors)
		b.begins(broken()[1], 1, 4096, api.ErrForm)
		b.saves(empty(1), 1, 1)
		if b.s.Fresh() != 1 {
			t.Error(b.s.Fresh())
		}
		b.begins(v, 1, 4096, api.ErrSectors)
		// a second one needs room for its root alone
		b = benchOf(t, need+2+top)
		b.saves(v, 1, 4096)
		b.begins(v, 1, 4096, api.OK)
		if b.s.Free() != 0 || b.s.Fresh() != top {
			t.Error(top, b.s.Free(), b.s.Fresh())
		}
		b = benchOf(t, need+1+top)
		b.saves(v, 1, 4096)
		b.begins(v, 1, 4096, api.ErrSectors)
	}
}

// fields is a view of so many objects in as many spans, all of which lead to the first one.
func fields(n int) api.View {
	v := empty(n)
	v.Kinds = []api.Kind{kindOf(200, 0, 192)}
	for i := range n {
		v.Rows = append(v.Rows, live(1, 0, 256*i))
		v.Spans = append(v.Spans, of(i, 7, 200, 0))
		copy(v.Bytes[256*i:], []byte{0, 2})
	}
	return v
}

// P22.3: with a tree on the disk, of each number of sectors that are free; and whether it is the frames or the root for which they lack.
func TestBeginSectorsBesideATree(t *testing.T) {
	for sectors := 8; sectors < 40; sectors++ {
		b := benchOf(t, sectors)
		b.saves(example(), 1, 2)
		for _, v := range []api.View{example(), several(), large(300), large(1200), empty(1)} {
			if b.begin(v, 1, 8) == api.ErrSectors {
				b.saves(empty(1), 1, 8)
			} else {
				b.steps()
			}
		}
	}
	// the root alone lacks a sector
	b := benchOf(t, 8)
	b.saves(example(), 1, 2)
	b.saves(example(), 1, 2)
	v := example()
	v.Bytes[8]++
	b.begins(v, 1, 2, api.OK)
	b.drop()
	v.Rows[1].Gen++
	b.begins(v, 1, 2, api.ErrSectors)
	if b.s.Free() != 2 {
		t.Error(b.s.Free())
	}
	// the first frame has room, the second one hasn't
	v.Kinds = append(v.Kinds, kindOf(3))
	b.begins(v, 1, 2, api.ErrSectors)
	b.saves(example(), 1, 2)
}

// P22.3: the greatest disk, and a root that needs many sectors.
func TestBeginMany(t *testing.T) {
	b := benchOf(t, 65536)
	v := fields(400)
	b.saves(v, 8, 4096)
	if n := b.s.Fresh(); n < 400*4 || len(b.s.Tree().Sectors) != n {
		t.Error(n)
	}
	top := count(rootFrame(v, 8, 4096, b.s.Tree().Entries))
	if n := b.saves(v, 8, 4096); top < 20 || b.s.Fresh() != top || n != top+3 {
		t.Error(n, top, b.s.Fresh())
	}
}

// P22.3: which error is told, where several would be.
func TestBeginOrder(t *testing.T) {
	troubles := []struct {
		err api.Errno
		of  func(b *bench)
	}{
		{api.ErrDown, func(b *bench) { b.arm(1); b.d.Flush() }},
		{api.ErrFull, func(b *bench) { b.d.Write(7, manifestBytes(api.MaxSeq, 1, 8)) }},
	}
	for which := range 16 {
		has := func(bit int) bool { return which>>bit&1 == 1 }
		for _, call := range calls() {
			b := benchOf(t, 8)
			want := api.OK
			v := call.v
			if has(0) {
				want = api.ErrSectors
				v.Kinds = append(slices.Clone(v.Kinds), kindsOf(63)...)
			}
			if has(3) {
				b.begins(example(), 1, 2, api.OK)
			}
			// backwards, so that the manifest is written while there is power
			for i := len(troubles) - 1; i >= 0; i-- {
				if has(1 + i) {
					want = troubles[i].err
					troubles[i].of(b)
				}
			}
			if call.wrong {
				want = api.ErrForm
			}
			if has(3) {
				want = api.ErrBusy
			}
			b.begins(v, call.workers, call.handles, want)
		}
	}
}

// call is what Begin is given; it is wrong, if that alone is refused.
type call struct {
	v                api.View
	workers, handles int
	wrong            bool
}

// calls are calls of Begin in which there is nothing wrong, or just one thing.
func calls() []call {
	odd := example()
	odd.Bytes[0]++
	return []call{
		{example(), 1, 2, false}, {example(), 8, 4096, false}, {empty(1), 1, 1, false},
		{odd, 1, 2, true}, {example(), 0, 2, true}, {example(), 9, 2, true}, {example(), 1, 1, true}, {example(), 1, 4097, true}, {empty(1), 1, 0, true},
	}
}

// P22.3: what the view was made of may be changed behind Begin, at each step.
func TestBeginKeepsNothing(t *testing.T) {
	steps := 0
	for at := 0; at == 0 || at < steps; at++ {
		b := benchOf(t, 200)
		v := roomy(several())
		b.begins(v, 1, 8, api.OK)
		steps = len(b.m.todo)
		for range at {
			b.step()
		}
		spoil(v)
		b.steps()
		if want := modelFrames(several()); !slices.EqualFunc(b.s.Tree().Frames, want, func(f []byte, x save.Piece) bool { return bytes.Equal(f, x.Bytes) }) {
			t.Error(at)
		}
	}
}

// P22.3: frames that the tree has, and ones that it has not quite.
func TestBeginKeepsFrames(t *testing.T) {
	b := benchOf(t, 100)
	v := empty(4)
	for range 16 {
		v.Kinds = append(v.Kinds, kindOf(9))
	}
	for range 32 {
		v.Rows = append(v.Rows, gone(5))
	}
	v.Spans = []api.Span{of(1, 0, 0)}
	fresh := func(want int) {
		t.Helper()
		ahead := b.s.Tree()
		b.saves(v, 1, 4096)
		if n := b.s.Fresh() - count(rootFrame(v, 1, 4096, b.s.Tree().Entries)); n != want {
			t.Errorf("%d sectors are fresh, not %d: %v behind %v", n, want, b.s.Tree(), ahead)
		}
	}
	fresh(3)
	fresh(0)
	// the same bytes under another Id
	v.Kinds = append(v.Kinds, v.Kinds...)
	fresh(1)
	v.Rows = append(v.Rows, v.Rows...)
	fresh(1)
	v.Rows = slices.Repeat(v.Rows, 2)
	fresh(2)
	// the first one is gone: what is left stands under its Id, and was there
	v.Kinds = v.Kinds[16:]
	fresh(0)
	v.Rows = v.Rows[:32]
	fresh(0)
	// other bytes under the same Id
	v.Kinds[3].Size = 10
	fresh(1)
	v.Rows[31].Gen = 6
	fresh(1)
	v.Rows[31].Gen = 5
	fresh(1)
	// a span at another page, and one more
	v.Spans = []api.Span{of(2, 0, 0)}
	fresh(1)
	v.Spans = []api.Span{of(1, 0, 0), of(2, 0, 0)}
	fresh(1)
	v.Spans = []api.Span{of(1, 0, 0), of(2, 1, 0), of(3, 0, 0)}
	fresh(2)
	// nothing of this stands in a frame but the root's
	v.Base, v.Pages, v.Bytes = 1024, 9, make([]byte, 9*256)
	fresh(0)
	v.Bytes[1] = 1
	fresh(0)
}

// P22.3: which sectors are given: the least that is free each time, though others lie between.
func TestBeginLeastSectors(t *testing.T) {
	b := benchOf(t, 40)
	v := large(300)
	b.saves(v, 1, 1)
	if l := b.s.Tree().Sectors; !slices.Equal(l, []int{1, 2, 3, 4, 5, 6, 7, 8, 9}) {
		t.Fatal(l)
	}
	v.Kinds = append(v.Kinds, kindOf(1))
	b.saves(v, 1, 1)
	if l := b.s.Tree().Sectors; !slices.Equal(l, []int{10, 2, 3, 4, 5, 6, 7, 8, 11}) {
		t.Fatal(l)
	}
	v.Rows[0].Gen = 2
	b.saves(v, 1, 1)
	if l := b.s.Tree().Sectors; !slices.Equal(l, []int{10, 1, 3, 4, 5, 6, 7, 8, 9}) {
		t.Fatal(l)
	}
	v.Bytes[0]++
	b.saves(v, 1, 1)
	if l := b.s.Tree().Sectors; !slices.Equal(l, []int{10, 1, 2, 11, 12, 13, 14, 15, 16}) {
		t.Fatal(l)
	}
	v.Kinds, v.Bytes[9] = v.Kinds[:1], 0
	b.saves(v, 1, 1)
	if l := b.s.Tree().Sectors; !slices.Equal(l, []int{3, 1, 4, 5, 6, 7, 8, 9, 17}) {
		t.Fatal(l)
	}
}
