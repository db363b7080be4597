package frame_test

import (
	"bytes"
	"math"
	"slices"
	"testing"

	"hayloft/api"
	"hayloft/frame"
)

// crc is the sum of bytes, told bit by bit.
func crc(b []byte) uint32 {
	x := uint32(math.MaxUint32)
	for _, c := range b {
		for i := range 8 {
			odd := (x ^ uint32(c>>i)) & 1
			x = x>>1 ^ odd*0x82f63b78
		}
	}
	return ^x
}

// sealed is bytes with their sum behind them.
func sealed(b ...byte) []byte {
	s := crc(b)
	return append(slices.Clip(b), byte(s), byte(s>>8), byte(s>>16), byte(s>>24))
}

// raw is the bytes of a frame, whatever its kind.
func raw(kind byte, body []byte) []byte {
	return sealed(append([]byte{kind, byte(len(body)), byte(len(body) >> 8)}, body...)...)
}

// body is n bytes that aren't alike.
func body(n int) []byte {
	b := make([]byte, n)
	x := uint32(n + 1)
	for i := range b {
		x = x*1664525 + 1013904223
		b[i] = byte(x >> 24)
	}
	return b
}

// lengths are those at the edges of what a body may be and of the bytes that tell it.
func lengths() []int {
	return []int{0, 1, 2, 3, 4, 7, 8, 31, 255, 256, 257, 511, 512, 1000, api.MaxBody - 1, api.MaxBody}
}

// alike says whether two frames are the same.
func alike(a, b frame.Frame) bool {
	return a.Kind == b.Kind && bytes.Equal(a.Body, b.Body)
}

// empty says whether a frame is the zero value.
func empty(f frame.Frame) bool {
	return f.Kind == 0 && len(f.Body) == 0
}

// roomy is b within memory that goes on behind it.
func roomy(b []byte) []byte {
	room := append(slices.Clone(b), bytes.Repeat([]byte{0xa5}, 64)...)
	return room[:len(b)]
}

// isRoomy says whether memory that roomy made is as it was.
func isRoomy(got, b []byte) bool {
	return bytes.Equal(got[:cap(got)][:len(b)+64], roomy(b)[:len(b)+64])
}

// P4.1
func TestEncode(t *testing.T) {
	for _, n := range lengths() {
		for _, kind := range []int{1, 2, 127, 128, 254, 255} {
			got, e := frame.Encode(frame.Frame{Kind: kind, Body: body(n)})
			if e != api.OK || !bytes.Equal(got, raw(byte(kind), body(n))) {
				t.Errorf("kind %d, %d bytes: %d bytes, %v", kind, n, len(got), e)
			}
		}
	}
}

// P4.1
func TestEncodeRefuses(t *testing.T) {
	for _, x := range []struct {
		kind, len int
		want      api.Errno
	}{
		{0, 0, api.ErrKind},
		{-1, 2, api.ErrKind},
		{-255, 2, api.ErrKind},
		{256, 2, api.ErrKind},
		{257, 2, api.ErrKind},
		{math.MinInt, 0, api.ErrKind},
		{math.MinInt + 1, 0, api.ErrKind},
		{math.MaxInt, 0, api.ErrKind},
		{1, api.MaxBody + 1, api.ErrLong},
		{255, api.MaxBody + 1, api.ErrLong},
		{7, 2*api.MaxBody + 2, api.ErrLong},
		{0, api.MaxBody + 1, api.ErrKind},
		{256, api.MaxBody + 1, api.ErrKind},
		{-1, 1 << 20, api.ErrKind},
	} {
		got, e := frame.Encode(frame.Frame{Kind: x.kind, Body: make([]byte, x.len)})
		if e != x.want || len(got) != 0 {
			t.Errorf("kind %d, %d bytes: %d bytes, %v", x.kind, x.len, len(got), e)
		}
	}
}

// P4.2: what Split and what Decode say of the same bytes.
func TestWhatIsWrong(t *testing.T) {
	good := raw(9, []byte("hay"))
	bad := slices.Clone(good)
	bad[len(bad)-1] ^= 0x80
	kindless := raw(0, []byte("hay"))
	badKindless := slices.Clone(kindless)
	badKindless[3] ^= 1
	for _, x := range []struct {
		name          string
		b             []byte
		split, decode api.Errno
	}{
		{"nil", nil, api.ErrShort, api.ErrShort},
		{"no bytes", []byte{}, api.ErrShort, api.ErrShort},
		{"one byte", []byte{1}, api.ErrShort, api.ErrShort},
		{"two bytes", []byte{1, 0}, api.ErrShort, api.ErrShort},
		{"a head", []byte{1, 0, 0}, api.ErrShort, api.ErrShort},
		{"six noughts", make([]byte, 6), api.ErrShort, api.ErrShort},
		{"seven noughts", make([]byte, 7), api.ErrSum, api.ErrSum},
		{"eight noughts", make([]byte, 8), api.ErrSum, api.ErrLong},
		{"a body of one byte lacks", sealed(1, 1, 0), api.ErrShort, api.ErrShort},
		{"a body of 256 bytes lacks", sealed(1, 0, 1), api.ErrShort, api.ErrShort},
		{"a body of MaxBody bytes lacks", sealed(1, 255, 255), api.ErrShort, api.ErrShort},
		{"one byte too few, of a kind 0, and a wrong sum", badKindless[:len(badKindless)-1], api.ErrShort, api.ErrShort},
		{"a frame", good, api.OK, api.OK},
		{"the least frame", raw(1, nil), api.OK, api.OK},
		{"the greatest frame", raw(255, body(api.MaxBody)), api.OK, api.OK},
		{"a frame and a byte", append(slices.Clone(good), 0), api.OK, api.ErrLong},
		{"two frames", append(slices.Clone(good), good...), api.OK, api.ErrLong},
		{"a wrong sum", bad, api.ErrSum, api.ErrSum},
		{"a wrong sum and a byte", append(slices.Clone(bad), 0), api.ErrSum, api.ErrLong},
		{"a kind of 0", kindless, api.ErrForm, api.ErrForm},
		{"a kind of 0 and a byte", append(slices.Clone(kindless), 0), api.ErrForm, api.ErrLong},
		{"a kind of 0 of no bytes", raw(0, nil), api.ErrForm, api.ErrForm},
		{"a kind of 0 and a wrong sum", badKindless, api.ErrSum, api.ErrSum},
		{"a kind of 0, a wrong sum and a byte", append(slices.Clone(badKindless), 0), api.ErrSum, api.ErrLong},
	} {
		f, rest, e := frame.Split(x.b)
		if e != x.split || e != api.OK && (!empty(f) || len(rest) != 0) {
			t.Errorf("Split of %s: kind %d, %d bytes, %d behind it, %v", x.name, f.Kind, len(f.Body), len(rest), e)
		}
		f, e = frame.Decode(x.b)
		if e != x.decode || e != api.OK && !empty(f) {
			t.Errorf("Decode of %s: kind %d, %d bytes, %v", x.name, f.Kind, len(f.Body), e)
		}
	}
}

// P4.2: each byte of a sum counts.
func TestEachByteOfTheSum(t *testing.T) {
	good := raw(3, []byte("x"))
	for i := len(good) - 4; i < len(good); i++ {
		for bit := range 8 {
			b := slices.Clone(good)
			b[i] ^= 1 << bit
			if _, _, e := frame.Split(b); e != api.ErrSum {
				t.Errorf("byte %d, bit %d: %v", i, bit, e)
			}
		}
	}
}

// P4.2: the sum is that of the head, too, and not of what stands behind the frame.
func TestSplitTellsWhatStandsBehind(t *testing.T) {
	for _, n := range lengths() {
		for _, behind := range [][]byte{nil, {0}, {1, 2, 3}, raw(2, []byte("next")), body(300)} {
			f, rest, e := frame.Split(append(raw(77, body(n)), behind...))
			if e != api.OK || !alike(f, frame.Frame{Kind: 77, Body: body(n)}) || !bytes.Equal(rest, behind) {
				t.Errorf("%d bytes, %d behind them: kind %d, %d bytes, %d behind it, %v", n, len(behind), f.Kind, len(f.Body), len(rest), e)
			}
		}
	}
}

// P4.3
func TestAll(t *testing.T) {
	for _, l := range [][]frame.Frame{nil, {}} {
		if b, e := frame.All(l); len(b) != 0 || e != api.OK {
			t.Errorf("of none: % x, %v", b, e)
		}
	}
	var l []frame.Frame
	var want []byte
	for i, n := range lengths() {
		l = append(l, frame.Frame{Kind: 255 - i, Body: body(n)})
		want = append(want, raw(byte(255-i), body(n))...)
		b, e := frame.All(l)
		if e != api.OK || !bytes.Equal(b, want) {
			t.Errorf("of %d: %d bytes, %v", len(l), len(b), e)
		}
		one, e := frame.Encode(l[i])
		if e != api.OK || !bytes.HasSuffix(b, one) {
			t.Errorf("the last of %d is another than by itself", len(l))
		}
	}
}

// P4.3
func TestAllHasTheFirstError(t *testing.T) {
	good := frame.Frame{Kind: 1, Body: []byte("ab")}
	kindless := frame.Frame{Body: []byte("ab")}
	long := frame.Frame{Kind: 1, Body: make([]byte, api.MaxBody+1)}
	both := frame.Frame{Kind: 256, Body: make([]byte, api.MaxBody+1)}
	for _, x := range []struct {
		l    []frame.Frame
		want api.Errno
	}{
		{[]frame.Frame{kindless}, api.ErrKind},
		{[]frame.Frame{long}, api.ErrLong},
		{[]frame.Frame{good, good, kindless}, api.ErrKind},
		{[]frame.Frame{good, long, good}, api.ErrLong},
		{[]frame.Frame{good, long, kindless, good}, api.ErrLong},
		{[]frame.Frame{kindless, long}, api.ErrKind},
		{[]frame.Frame{long, both}, api.ErrLong},
		{[]frame.Frame{both, long}, api.ErrKind},
	} {
		if b, e := frame.All(x.l); e != x.want || len(b) != 0 {
			t.Errorf("%d bytes, %v, not %v", len(b), e, x.want)
		}
	}
}

// P4.3
func TestCut(t *testing.T) {
	for _, b := range [][]byte{nil, {}} {
		if l, e := frame.Cut(b); len(l) != 0 || e != api.OK {
			t.Errorf("of no bytes: %v, %v", l, e)
		}
	}
	var b []byte
	for i, n := range lengths() {
		b = append(b, raw(byte(i+1), body(n))...)
		l, e := frame.Cut(b)
		if e != api.OK || len(l) != i+1 {
			t.Fatalf("%d frames of %d, %v", len(l), i+1, e)
		}
		for j, f := range l {
			if !alike(f, frame.Frame{Kind: j + 1, Body: body(lengths()[j])}) {
				t.Errorf("frame %d: kind %d, %d bytes", j, f.Kind, len(f.Body))
			}
		}
	}
}

// P4.3
func TestCutHasTheFirstError(t *testing.T) {
	good := raw(1, []byte("ab"))
	bad := slices.Clone(good)
	bad[4] ^= 4
	kindless := raw(0, []byte("ab"))
	short := good[:8]
	for _, x := range []struct {
		parts [][]byte
		want  api.Errno
	}{
		{[][]byte{short}, api.ErrShort},
		{[][]byte{{0}}, api.ErrShort},
		{[][]byte{good, {0}}, api.ErrShort},
		{[][]byte{good, good, short}, api.ErrShort},
		{[][]byte{bad}, api.ErrSum},
		{[][]byte{good, bad, good}, api.ErrSum},
		{[][]byte{good, make([]byte, 7)}, api.ErrSum},
		{[][]byte{kindless}, api.ErrForm},
		{[][]byte{good, kindless, bad}, api.ErrForm},
		{[][]byte{good, bad, kindless}, api.ErrSum},
		{[][]byte{bad, short}, api.ErrSum},
		{[][]byte{kindless, short}, api.ErrForm},
	} {
		if l, e := frame.Cut(slices.Concat(x.parts...)); e != x.want || len(l) != 0 {
			t.Errorf("% x: %v, %v, not %v", x.parts, l, e, x.want)
		}
	}
}

// P4.3: many small frames, which would take long if each rest were copied.
func TestCutOfManyFrames(t *testing.T) {
	const many = 200000
	l, e := frame.Cut(bytes.Repeat(raw(1, nil), many))
	if e != api.OK || len(l) != many {
		t.Errorf("%d, %v", len(l), e)
	}
}

// P4.4
func TestWhatIsEncodedIsDecoded(t *testing.T) {
	for _, n := range lengths() {
		for _, kind := range []int{1, 2, 100, 254, 255} {
			want := frame.Frame{Kind: kind, Body: body(n)}
			b, _ := frame.Encode(want)
			if got, e := frame.Decode(b); e != api.OK || !alike(got, want) {
				t.Errorf("kind %d, %d bytes: kind %d, %d bytes, %v", kind, n, got.Kind, len(got.Body), e)
			}
			if got, rest, e := frame.Split(b); e != api.OK || !alike(got, want) || len(rest) != 0 {
				t.Errorf("kind %d, %d bytes: kind %d, %d bytes, %d behind it, %v", kind, n, got.Kind, len(got.Body), len(rest), e)
			}
		}
	}
}

// turned is b with the bits of pattern turned from the bit at on, the lowest bit of each byte first.
func turned(b []byte, at int, pattern uint32) []byte {
	b = slices.Clone(b)
	for i := range 32 {
		if place := at + i; pattern>>i&1 == 1 && place < 8*len(b) {
			b[place/8] ^= 1 << (place % 8)
		}
	}
	return b
}

// P4.4
func TestTurnedBurstsAreMet(t *testing.T) {
	patterns := []uint32{1, 3, 0x80000001, 0xffffffff, 0x55555555, 0x82f63b79, 0x05ec76f1 | 1<<31}
	x := uint32(5)
	for range 60 {
		x = x*1664525 + 1013904223
		patterns = append(patterns, x|1)
	}
	for _, n := range []int{0, 1, 2, 5, 33, 300} {
		b, _ := frame.Encode(frame.Frame{Kind: 1 + n%255, Body: body(n)})
		for at := range 8 * len(b) {
			for _, p := range patterns {
				if f, e := frame.Decode(turned(b, at, p)); e == api.OK || !empty(f) {
					t.Fatalf("%d bytes, %x at bit %d: %v, %v", n, p, at, f, e)
				}
			}
		}
	}
}

// P4.4
func TestLackingBytesAreMet(t *testing.T) {
	for _, n := range []int{0, 1, 2, 255, 256, 700} {
		b, _ := frame.Encode(frame.Frame{Kind: 200, Body: body(n)})
		for left := range b {
			// in a longer memory, so that nothing behind the end is read either
			f, e := frame.Decode(b[:left])
			if e != api.ErrShort || !empty(f) {
				t.Fatalf("%d of %d bytes: %v, %v", left, len(b), f, e)
			}
			if _, _, e := frame.Split(b[:left]); e != api.ErrShort {
				t.Fatalf("%d of %d bytes: Split %v", left, len(b), e)
			}
		}
	}
}

// Rule 4: nothing that is handed in changes, nor what lies in its spare room.
func TestNothingHandedInChanges(t *testing.T) {
	text := []byte("some bytes")
	held := roomy(text)
	l := []frame.Frame{{Kind: 1, Body: held}, {Kind: 2, Body: held[:4]}, {Kind: 300}}
	frame.Encode(l[0])
	frame.Encode(frame.Frame{Kind: 0, Body: held})
	frame.All(l[:2])
	frame.All(l)
	if !isRoomy(held, text) {
		t.Errorf("bodies: % x", held[:cap(held)])
	}
	if !alike(l[0], frame.Frame{Kind: 1, Body: text}) || !alike(l[1], frame.Frame{Kind: 2, Body: text[:4]}) || l[2].Kind != 300 {
		t.Errorf("frames: %v", l)
	}
	for _, b := range [][]byte{raw(1, text), append(raw(1, text), raw(2, nil)...), raw(0, text), raw(1, text)[:9], nil} {
		held := roomy(b)
		frame.Decode(held)
		frame.Split(held)
		frame.Cut(held)
		if !isRoomy(held, b) {
			t.Errorf("% x: % x", b, held[:cap(held)])
		}
	}
}

// spoil overwrites all memory of a list.
func spoil(b []byte) {
	b = b[:cap(b)]
	for i := range b {
		b[i] ^= 0xff
	}
}

// Rule 4: an answer shares no memory with what was handed in, nor with another answer.
func TestAnswersAreNewMemory(t *testing.T) {
	for _, n := range []int{0, 1, 5, 100} {
		given := roomy(body(n))
		first, _ := frame.Encode(frame.Frame{Kind: 1, Body: given})
		spoil(given)
		want := raw(1, body(n))
		if !bytes.Equal(first, want) {
			t.Errorf("Encode shares its body of %d bytes", n)
		}
		spoil(first)
		if again, _ := frame.Encode(frame.Frame{Kind: 1, Body: body(n)}); !bytes.Equal(again, want) {
			t.Errorf("Encode of %d bytes shares with its answers", n)
		}
		given = roomy(body(n))
		all, _ := frame.All([]frame.Frame{{Kind: 1, Body: given}, {Kind: 1, Body: given}})
		spoil(all)
		if !isRoomy(given, body(n)) {
			t.Errorf("All shares its bodies of %d bytes", n)
		}
	}
}

// Rule 4, of what is read
func TestReadFramesAreNewMemory(t *testing.T) {
	for _, n := range []int{0, 1, 5, 100} {
		one, two := raw(1, body(n)), raw(2, body(n+1))
		both := roomy(slices.Concat(one, two))
		f, rest, _ := frame.Split(both)
		l, _ := frame.Cut(both)
		alone := roomy(one)
		d, _ := frame.Decode(alone)
		spoil(both)
		spoil(alone)
		if !bytes.Equal(f.Body, body(n)) || !bytes.Equal(rest, two) || !bytes.Equal(d.Body, body(n)) {
			t.Errorf("%d bytes: Split or Decode shares what was handed in", n)
		}
		if len(l) != 2 || !bytes.Equal(l[0].Body, body(n)) || !bytes.Equal(l[1].Body, body(n+1)) {
			t.Fatalf("%d bytes: Cut shares what was handed in", n)
		}
		spoil(f.Body)
		spoil(l[0].Body)
		if !bytes.Equal(rest, two) || !bytes.Equal(l[1].Body, body(n+1)) {
			t.Errorf("%d bytes: lists of one answer share memory", n)
		}
		spoil(rest)
		spoil(l[1].Body)
		spoil(d.Body)
	}
}

// the chapter's examples
func TestExamples(t *testing.T) {
	b, e := frame.Encode(frame.Frame{Kind: 1, Body: []byte("ab")})
	if want := sealed(1, 2, 0, 0x61, 0x62); e != api.OK || !bytes.Equal(b, want) {
		t.Fatalf("% x, not % x, %v", b, want, e)
	}
	if _, e := frame.Decode(append(slices.Clone(b), 0)); e != api.ErrLong {
		t.Errorf("one byte more: %v", e)
	}
	if _, e := frame.Decode(b[:len(b)-1]); e != api.ErrShort {
		t.Errorf("one byte less: %v", e)
	}
	for bit := range 8 {
		c := slices.Clone(b)
		c[3] ^= 1 << bit
		if _, e := frame.Decode(c); e != api.ErrSum {
			t.Errorf("bit %d of the a turned: %v", bit, e)
		}
	}
}
