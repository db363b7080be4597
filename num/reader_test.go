package num_test

import (
	"bytes"
	"math"
	"testing"

	"hayloft/api"
	"hayloft/num"
)

// readings are all reading calls, each one as whether it answered something.
func readings() map[string]func(*num.Reader) bool {
	return map[string]func(*num.Reader) bool{
		"Fixed": func(r *num.Reader) bool { return r.Fixed(1) != 0 },
		"Var":   func(r *num.Reader) bool { return r.Var() != 0 },
		"Upto":  func(r *num.Reader) bool { return r.Upto(math.MaxUint64) != 0 },
		"Bytes": func(r *num.Reader) bool { return len(r.Bytes(1)) != 0 },
	}
}

// P1.3
func TestFixed(t *testing.T) {
	eight := []byte{1, 2, 3, 4, 5, 6, 7, 8}
	for _, x := range []struct {
		b     []byte
		width int
		want  uint64
		left  int
		err   api.Errno
	}{
		{[]byte{2, 1, 9}, 2, 258, 1, api.OK},
		{[]byte{2, 1}, 2, 258, 0, api.OK},
		{eight, 8, 0x0807060504030201, 0, api.OK},
		{append(bytes.Clone(eight), 9), 9, 0x0807060504030201, 1, api.OK},
		{eight, math.MaxInt, 0x0807060504030201, 0, api.OK},
		{eight, 0, 0, 8, api.OK},
		{eight, -1, 0, 8, api.OK},
		{eight, math.MinInt, 0, 8, api.OK},
		{nil, 0, 0, 0, api.OK},
		{nil, 1, 0, 0, api.ErrShort},
		{[]byte{2, 1}, 3, 0, 0, api.ErrShort},
		{eight[:7], 8, 0, 0, api.ErrShort},
		{eight[:7], 100, 0, 0, api.ErrShort},
	} {
		r := num.Open(x.b)
		if got := r.Fixed(x.width); got != x.want || r.Left() != x.left || r.Err() != x.err {
			t.Errorf("% x, Fixed(%d): %d, left %d, %v", x.b, x.width, got, r.Left(), r.Err())
		}
	}
}

// P1.3
func TestReadVar(t *testing.T) {
	nine := bytes.Repeat([]byte{255}, 9)
	low := bytes.Repeat([]byte{128}, 9)
	behind := func(b []byte, c ...byte) []byte { return append(bytes.Clone(b), c...) }
	for _, x := range []struct {
		b    []byte
		want uint64
		left int
		err  api.Errno
	}{
		{[]byte{0xac, 2, 7}, 300, 1, api.OK},
		{[]byte{0}, 0, 0, api.OK},
		{[]byte{0, 0}, 0, 1, api.OK},
		{[]byte{127, 128}, 127, 1, api.OK},
		{behind(nine, 1), math.MaxUint64, 0, api.OK},
		{behind(low, 1), 1 << 63, 0, api.OK},
		{behind(nine[:8], 127), 1<<63 - 1, 0, api.OK},
		{nil, 0, 0, api.ErrShort},
		{[]byte{128}, 0, 0, api.ErrShort},
		{nine, 0, 0, api.ErrShort},
		{[]byte{128, 0}, 0, 0, api.ErrForm},
		{[]byte{255, 255, 0, 1}, 0, 0, api.ErrForm},
		{behind(nine, 0), 0, 0, api.ErrForm},
		{behind(nine, 2), 0, 0, api.ErrForm},
		{behind(low, 2), 0, 0, api.ErrForm},
		{behind(nine, 127), 0, 0, api.ErrForm},
		{behind(nine, 128), 0, 0, api.ErrForm},
		{behind(nine, 129, 1), 0, 0, api.ErrForm},
		{behind(nine, 255), 0, 0, api.ErrForm},
	} {
		r := num.Open(x.b)
		if got := r.Var(); got != x.want || r.Left() != x.left || r.Err() != x.err {
			t.Errorf("% x, Var: %d, left %d, %v", x.b, got, r.Left(), r.Err())
		}
	}
}

// P1.3
func TestUpto(t *testing.T) {
	for _, x := range []struct {
		b    []byte
		most uint64
		want uint64
		left int
		err  api.Errno
	}{
		{[]byte{0xac, 2, 7}, 300, 300, 1, api.OK},
		{[]byte{0xac, 2, 7}, 301, 300, 1, api.OK},
		{[]byte{0xac, 2, 7}, 299, 0, 0, api.ErrForm},
		{[]byte{0, 7}, 0, 0, 1, api.OK},
		{[]byte{1, 7}, 0, 0, 0, api.ErrForm},
		{num.Var(math.MaxUint64), math.MaxUint64, math.MaxUint64, 0, api.OK},
		{num.Var(math.MaxUint64), math.MaxUint64 - 1, 0, 0, api.ErrForm},
		{nil, 0, 0, 0, api.ErrShort},
		{[]byte{255}, 0, 0, 0, api.ErrShort},
		{[]byte{128, 0}, 9, 0, 0, api.ErrForm},
	} {
		r := num.Open(x.b)
		if got := r.Upto(x.most); got != x.want || r.Left() != x.left || r.Err() != x.err {
			t.Errorf("% x, Upto(%d): %d, left %d, %v", x.b, x.most, got, r.Left(), r.Err())
		}
	}
}

// P1.3
func TestBytes(t *testing.T) {
	b := []byte{1, 2, 3}
	for _, x := range []struct {
		n    int
		want []byte
		left int
		err  api.Errno
	}{
		{0, nil, 3, api.OK},
		{-1, nil, 3, api.OK},
		{math.MinInt, nil, 3, api.OK},
		{2, []byte{1, 2}, 1, api.OK},
		{3, []byte{1, 2, 3}, 0, api.OK},
		{4, nil, 0, api.ErrShort},
		{math.MaxInt, nil, 0, api.ErrShort},
	} {
		r := num.Open(b)
		if got := r.Bytes(x.n); !bytes.Equal(got, x.want) || r.Left() != x.left || r.Err() != x.err {
			t.Errorf("Bytes(%d): % x, left %d, %v", x.n, got, r.Left(), r.Err())
		}
	}
	r := num.Open(b)
	r.Fixed(1)
	if r.Bytes(math.MaxInt) != nil || r.Err() != api.ErrShort {
		t.Error("more bytes than there are, from the second one on")
	}
}

// P1.3
func TestReadsGoOn(t *testing.T) {
	r := num.Open([]byte{0xac, 2, 7, 1, 2, 3, 4, 5})
	if r.Left() != 8 || r.Var() != 300 || r.Left() != 6 || r.Upto(7) != 7 || r.Left() != 5 {
		t.Error("digits")
	}
	if r.Fixed(2) != 513 || r.Left() != 3 || !bytes.Equal(r.Bytes(2), []byte{3, 4}) || r.Left() != 1 {
		t.Error("bytes")
	}
	if r.End() != api.ErrLong || r.Fixed(1) != 5 || r.Left() != 0 || r.End() != api.OK || r.Err() != api.OK {
		t.Error("end")
	}
}

// P1.3, P1.4
func TestTheFirstFaultStays(t *testing.T) {
	faults := map[string]struct {
		meet func(*num.Reader)
		want api.Errno
	}{
		"Fixed": {func(r *num.Reader) { r.Fixed(8) }, api.ErrShort},
		"Upto":  {func(r *num.Reader) { r.Upto(4) }, api.ErrForm},
		"Bytes": {func(r *num.Reader) { r.Bytes(4) }, api.ErrShort},
		"Fail":  {func(r *num.Reader) { r.Fail(api.ErrSum) }, api.ErrSum},
		"other": {func(r *num.Reader) { r.Fail(-7) }, -7},
	}
	for name, fault := range faults {
		for reading, answers := range readings() {
			r := num.Open([]byte{5, 6, 7})
			fault.meet(r)
			if answers(r) || r.Err() != fault.want || r.Left() != 0 || r.End() != fault.want {
				t.Errorf("%s, then %s: left %d, %v", name, reading, r.Left(), r.Err())
			}
			r.Fail(api.OK)
			r.Fail(api.ErrKind)
			if answers(r) || r.Err() != fault.want || r.End() != fault.want {
				t.Errorf("%s, then Fail: %v", name, r.Err())
			}
		}
	}
}

// P1.4
func TestFailOfOKIsNone(t *testing.T) {
	r := num.Open([]byte{9})
	r.Fail(api.OK)
	if r.Err() != api.OK || r.Left() != 1 || r.Var() != 9 {
		t.Error("OK is no fault")
	}
	r.Fail(api.ErrSum)
	if r.Err() != api.ErrSum || r.End() != api.ErrSum {
		t.Error("a fault behind the last byte")
	}
}

// P1.4
func TestEnd(t *testing.T) {
	if r := num.Open(nil); r.End() != api.OK || r.Left() != 0 || r.Err() != api.OK {
		t.Error("no bytes")
	}
	r := num.Open([]byte{1, 2})
	if r.End() != api.ErrLong || r.Err() != api.OK || r.Left() != 2 {
		t.Error("bytes that are left are no fault")
	}
	if r.Fixed(2) != 513 || r.End() != api.OK {
		t.Error("reads go on behind ErrLong")
	}
}

// P1.4
func TestNilReader(t *testing.T) {
	var r *num.Reader
	for name, answers := range readings() {
		if answers(r) {
			t.Error(name)
		}
	}
	r.Fail(api.ErrSum)
	if r.Left() != 0 || r.Err() != api.ErrNil || r.End() != api.ErrNil {
		t.Error(r.Left(), r.Err(), r.End())
	}
	if r.Fixed(-1) != 0 || r.Fixed(9) != 0 || r.Bytes(-1) != nil || r.Upto(0) != 0 {
		t.Error("edges")
	}
}

// Rule 6: of a reader that Open didn't make the calls end.
func TestReaderOfNoMaker(t *testing.T) {
	for _, answers := range readings() {
		r := new(num.Reader)
		answers(r)
		r.Fail(api.ErrSum)
		r.Left()
		r.Err()
		r.End()
	}
}

// Rule 4: a reader keeps nothing that was handed in, and hands out nothing that it keeps.
func TestReaderSharesNothing(t *testing.T) {
	room := []byte{1, 2, 3, 4, 5, 6}
	r := num.Open(room[:4])
	room[0] = 99
	first := r.Bytes(2)
	if !bytes.Equal(first, []byte{1, 2}) {
		t.Errorf("% x: what was handed in is kept", first)
	}
	whole := first[:cap(first)]
	for i := range whole {
		whole[i] = 77
	}
	if got := r.Bytes(2); !bytes.Equal(got, []byte{3, 4}) {
		t.Errorf("% x: what is kept was handed out", got)
	}
	if !bytes.Equal(room, []byte{99, 2, 3, 4, 5, 6}) {
		t.Errorf("% x: what was handed in has changed", room)
	}
}

// P1.5
func TestWrittenIsRead(t *testing.T) {
	var b []byte
	for _, n := range numbers() {
		b = append(b, num.Var(n)...)
		b = append(b, num.Put(n, 8)...)
		b = append(b, num.Var(n)...)
		b = append(b, num.Put(n, 3)...)
	}
	r := num.Open(b)
	for _, n := range numbers() {
		if r.Var() != n || r.Fixed(8) != n || r.Upto(n) != n || !bytes.Equal(r.Bytes(3), num.Put(n, 3)) {
			t.Fatal(n, r.Err())
		}
	}
	if r.End() != api.OK {
		t.Error(r.End())
	}
}

// P1.5
func TestNoNumberHasTwoForms(t *testing.T) {
	forms := map[uint64]string{}
	look := func(b []byte) {
		r := num.Open(b)
		n := r.Var()
		if r.End() != api.OK {
			return
		}
		if had, ok := forms[n]; ok && had != string(b) {
			t.Errorf("%d is % x and % x", n, had, b)
		}
		forms[n] = string(b)
		if !bytes.Equal(num.Var(n), b) {
			t.Errorf("% x is read as %d, which is written % x", b, n, num.Var(n))
		}
	}
	for a := range 256 {
		look([]byte{byte(a)})
		for b := range 256 {
			look([]byte{byte(a), byte(b)})
			look([]byte{128, byte(a), byte(b)})
			look(append(bytes.Repeat([]byte{255}, 8), byte(a), byte(b)))
			look(append(bytes.Repeat([]byte{128}, 9), byte(a), byte(b)))
		}
	}
}
