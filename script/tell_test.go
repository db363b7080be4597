package script_test

import (
	"bytes"
	"math"
	"slices"
	"strings"
	"testing"

	"hayloft/api"
	"hayloft/script"
)

// full is an answer of which each field tells something.
func full() api.Answer {
	return api.Answer{N: 12, Handle: 131075, Bytes: []byte{0, 16, 171, 255}}
}

// P25.3: what each kind tells of an answer without an error.
func TestTellEach(t *testing.T) {
	of := map[int]string{1: "12", 2: "3.2", 4: "0010abff", 6: "3.2", 11: "12", 16: "12"}
	for _, kind := range []int{math.MinInt, -1, 0, 1, 2, 3, 4, 5, 6, 7, 8, 9, 10, 11, 12, 13, 14, 15, 16, 17, 100, math.MaxInt} {
		want := "ok"
		if w, found := of[kind]; found {
			want = w
		}
		if s := script.Tell(api.Op{Kind: kind}, full()); s != want {
			t.Error(kind, s, want)
		}
		// the step's own fields aren't told
		op := wrong(kind)
		op.N, op.Bytes = 1, []byte{9}
		if s := script.Tell(op, full()); s != want {
			t.Error(kind, s, want)
		}
	}
}

// P25.3: numbers, of the three kinds that tell one, and of a step.
func TestTellNumbers(t *testing.T) {
	for _, s := range []struct {
		n    int
		want string
	}{{0, "0"}, {1, "1"}, {63, "63"}, {-1, "-1"}, {-10, "-10"}, {1 << 60, "1152921504606846976"}, {math.MaxInt, "9223372036854775807"}, {math.MinInt, "-9223372036854775808"}} {
		for _, kind := range []int{api.OpDefine, api.OpBegin, api.OpRestore} {
			if got := script.Tell(api.Op{Kind: kind}, api.Answer{N: s.n}); got != s.want {
				t.Error(kind, got, s.want)
			}
		}
		want := "ok"
		if s.n == 1 {
			want = "done"
		}
		if got := script.Tell(api.Op{Kind: api.OpStep}, api.Answer{N: s.n}); got != want {
			t.Error(s.n, got)
		}
	}
}

// P25.3: handles, be they some that a line says or not.
func TestTellHandles(t *testing.T) {
	for _, s := range []struct {
		x    api.Handle
		want string
	}{{0, "none"}, {1, "1.0"}, {65535, "65535.0"}, {65536, "0.1"}, {65537, "1.1"}, {65539, "3.1"}, {131071, "65535.1"}, {131072, "0.2"}, {65535*65536 + 4096, "4096.65535"}, {1 << 63, "0.140737488355328"}, {greatest - 65535, "0.281474976710655"}, {greatest, "65535.281474976710655"}} {
		for _, kind := range []int{api.OpAlloc, api.OpGet} {
			if got := script.Tell(api.Op{Kind: kind}, api.Answer{Handle: s.x, N: 5}); got != s.want {
				t.Error(kind, got, s.want)
			}
		}
	}
}

// P25.3: bytes, and nothing handed in is changed.
func TestTellBytes(t *testing.T) {
	every := make([]byte, 256)
	for i := range every {
		every[i] = byte(i)
	}
	for _, b := range [][]byte{nil, {}, {0}, {1}, {15}, {16}, {255}, {0, 0}, []byte("hay"), every, make([]byte, 100000)} {
		given := slices.Clone(b)
		got := script.Tell(api.Op{Kind: api.OpRead}, api.Answer{Bytes: b, N: 1})
		if got != someBytes(b) || !bytes.Equal(b, given) {
			t.Error(len(b), short(got))
		}
		// which the word of a line is, too
		if len(b) < 1000 {
			says(t, "write none 0 "+got, api.Op{Kind: api.OpWrite, Bytes: b})
		}
	}
}

// P25.3: an error, of whatever kind and number, beside whatever else.
func TestTellErrors(t *testing.T) {
	for _, s := range []struct {
		e    api.Errno
		want string
	}{{1, "error 1"}, {4, "error 4"}, {9, "error 9"}, {10, "error 10"}, {17, "error 17"}, {18, "error 18"}, {-1, "error -1"}, {-42, "error -42"}, {math.MaxInt, "error 9223372036854775807"}, {math.MinInt, "error -9223372036854775808"}} {
		for kind := -1; kind < 19; kind++ {
			a := full()
			a.Err, a.N = s.e, 1
			if got := script.Tell(api.Op{Kind: kind}, a); got != s.want {
				t.Error(kind, got, s.want)
			}
			if got := script.Tell(api.Op{Kind: kind}, api.Answer{Err: s.e}); got != s.want {
				t.Error(kind, got, s.want)
			}
		}
	}
}

// P1, P25.3: any answers of any steps, as the document's words have it: one line, with a word or two.
func TestAnyAnswer(t *testing.T) {
	chance := noise(2504)
	numbers := []int{math.MinInt, -1, 0, 0, 0, 1, 1, 2, 65535, 65536, 65537, 1 << 40, math.MaxInt}
	for range 50000 {
		pick := func() int { return numbers[chance(len(numbers))] + chance(2) }
		op := api.Op{Kind: chance(19), N: pick(), Worker: pick(), Handle: api.Handle(pick())}
		a := api.Answer{N: pick(), Handle: api.Handle(pick()), Bytes: make([]byte, chance(4))}
		for i := range a.Bytes {
			a.Bytes[i] = byte(chance(256))
		}
		if chance(3) == 0 {
			a.Err = api.Errno(pick())
		}
		got := script.Tell(op, a)
		if got != tells(op, a) || strings.ContainsAny(got, "\n\r\t") || len(strings.Split(got, " ")) > 2 {
			t.Fatal(told(op), a, got)
		}
	}
}
