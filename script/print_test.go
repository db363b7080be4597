package script_test

import (
	"math"
	"slices"
	"strings"
	"testing"

	"hayloft/api"
	"hayloft/script"
)

// prints holds that a step is printed so, and that the line says what it names of the step, and nothing else.
func prints(t *testing.T, op api.Op, want string) {
	t.Helper()
	given, room := copyOf(op), spare(op)
	line, e := script.Print(op)
	if e != api.OK || line != want {
		t.Errorf("%s: %s, %v; not %s", told(op), short(line), e, short(want))
		return
	}
	if !sameOp(op, given) || !slices.Equal(spare(op), room) {
		t.Errorf("%s: what was handed in has changed", told(given))
	}
	back, e := script.Parse(line)
	if e != api.OK || !sameOp(back, named(op)) {
		t.Errorf("%s: back as %s, %v", told(op), told(back), e)
	}
}

// unsaid holds that a step isn't printed, for this reason.
func unsaid(t *testing.T, op api.Op, want api.Errno) {
	t.Helper()
	if line, e := script.Print(op); e != want || line != "" {
		t.Errorf("%s: %s, %v; not %v", told(op), short(line), e, want)
	}
}

// named is a step with those fields alone that its line names.
func named(op api.Op) api.Op {
	only := api.Op{Kind: op.Kind}
	for _, r := range table {
		if r.kind == op.Kind {
			for _, field := range strings.Fields(r.fields) {
				take(&only, op, field)
			}
		}
	}
	return only
}

// take has a field be what another step's is.
func take(op *api.Op, from api.Op, field string) {
	switch field {
	case "Worker":
		op.Worker = from.Worker
	case "At":
		op.At = from.At
	case "N":
		op.N = from.N
	case "Handle":
		op.Handle = from.Handle
	case "To":
		op.To = from.To
	case "Ptrs":
		op.Ptrs = from.Ptrs
	case "Keeps":
		op.Keeps = from.Keeps
	case "Bytes":
		op.Bytes = from.Bytes
	}
}

// wrong is a step of which no field can be said, its bytes aside.
func wrong(kind int) api.Op {
	return api.Op{Kind: kind, Worker: -1, Handle: 1, To: 65536, At: -7, N: math.MinInt, Bytes: make([]byte, 3), Ptrs: []int{0, -8}, Keeps: []int{most + 1}}
}

// P25.2: of each kind its line, whatever stands in the fields that it doesn't name.
func TestPrintEach(t *testing.T) {
	for _, s := range saying {
		op := wrong(s.op.Kind)
		for _, r := range table {
			if r.kind == op.Kind {
				for _, field := range strings.Fields(r.fields) {
					take(&op, s.op, field)
				}
			}
		}
		prints(t, op, s.line)
	}
	prints(t, api.Op{Kind: 5, Bytes: append(make([]byte, 0, 9), 7)}, "write none 0 07")
	prints(t, api.Op{Kind: 5, Bytes: []byte{}}, "write none 0 -")
	prints(t, api.Op{Kind: 1, Ptrs: append(make([]int, 0, 9), 7)}, "define 0 7")
	prints(t, api.Op{Kind: 1, Ptrs: []int{}}, "define 0 -")
	prints(t, api.Op{Kind: 15, Keeps: []int{}}, "crash -")
}

// P25.2: kinds that no line says.
func TestPrintKinds(t *testing.T) {
	for _, kind := range []int{math.MinInt, -16, -1, 0, 17, 18, 32, 256, 65537, math.MaxInt} {
		unsaid(t, api.Op{Kind: kind}, api.ErrForm)
		unsaid(t, api.Op{Kind: kind, Bytes: make([]byte, 70000), N: 1, Handle: 65537}, api.ErrForm)
	}
}

// P25.2: each field of each kind, at the edges of what can be said; the others are sayable.
func TestPrintFields(t *testing.T) {
	numbers := []int{math.MinInt, math.MinInt + 1, -65536, -2, -1, 0, 1, 9, 10, 65536, most - 1, most, most + 1, 2*most + 1, math.MaxInt - 1, math.MaxInt}
	handles := []api.Handle{0, 1, 2, 65535, 65536, 65537, 131071, 131072, 131073, 1 << 32, 1<<32 + 1, 1 << 48, 1<<60 + 1, 1 << 63, 1<<63 + 1, greatest - 65535, greatest}
	asked := 0
	for _, r := range table {
		for _, field := range strings.Fields(r.fields) {
			for _, n := range numbers {
				for _, x := range handles {
					op := api.Op{Kind: r.kind, Worker: 1, Handle: 65537, To: 65538, At: 2, N: 3, Bytes: []byte{4}, Ptrs: []int{5}, Keeps: []int{6}}
					take(&op, api.Op{Worker: n, At: n, N: n, Handle: x, To: x, Ptrs: []int{n}, Keeps: []int{n}}, field)
					if want, e := printed(op); e == api.OK {
						prints(t, op, want)
						asked++
					} else {
						unsaid(t, op, e)
					}
				}
			}
		}
	}
	if asked < 1000 {
		t.Error(asked)
	}
	for _, n := range []int{-1, most + 1} {
		for at := range 5 {
			l := []int{0, 1, 2, 3, 4}
			l[at] = n
			unsaid(t, api.Op{Kind: api.OpCrash, Keeps: l}, api.ErrForm)
			unsaid(t, api.Op{Kind: api.OpDefine, Ptrs: l}, api.ErrForm)
		}
	}
}

// P25.2: lines of MaxText bytes, and of one more; ErrForm is asked first.
func TestPrintLong(t *testing.T) {
	written := longest(t, "write 1.1 0 ", "41", 65536)
	op := api.Op{Kind: api.OpWrite, Handle: 65537, Bytes: []byte(strings.Repeat("A", 32762))}
	prints(t, op, written)
	op.At = 10
	unsaid(t, op, api.ErrLong)
	op.At, op.Bytes = 0, append(op.Bytes, 'A')
	unsaid(t, op, api.ErrLong)
	op.At = -1
	unsaid(t, op, api.ErrForm)
	op.At, op.Handle = 0, 1
	unsaid(t, op, api.ErrForm)
	unsaid(t, api.Op{Kind: api.OpWrite, Bytes: make([]byte, 1<<20)}, api.ErrLong)

	keeps := append([]int{10}, slices.Repeat([]int{7}, 32764)...)
	prints(t, api.Op{Kind: api.OpCrash, Keeps: keeps}, longest(t, "crash 10", ",7", 65536))
	keeps[32764] = 70
	unsaid(t, api.Op{Kind: api.OpCrash, Keeps: keeps}, api.ErrLong)
	keeps[32764] = -7
	unsaid(t, api.Op{Kind: api.OpCrash, Keeps: keeps}, api.ErrForm)
	for _, last := range []int{-1, most + 1} {
		unsaid(t, api.Op{Kind: api.OpCrash, Keeps: append(make([]int, 100000), last)}, api.ErrForm)
		unsaid(t, api.Op{Kind: api.OpDefine, N: last, Ptrs: make([]int, 100000)}, api.ErrForm)
	}
	unsaid(t, api.Op{Kind: api.OpDefine, N: most, Ptrs: make([]int, 100000)}, api.ErrLong)
	// what isn't named may be as long as it likes
	prints(t, api.Op{Kind: api.OpStep, Bytes: make([]byte, 70000), Ptrs: make([]int, 70000), Keeps: make([]int, 70000)}, "step")
}

// P1, P25.2, P25.5: any steps are printed as the document's words have it, and parsed as they were.
func TestAnyStep(t *testing.T) {
	chance := noise(2503)
	numbers := []int{math.MinInt, -1, 0, 1, 2, 8, 10, 256, 4096, 65535, 65536, 1 << 40, most, most + 1, math.MaxInt}
	said := 0
	for range 60000 {
		pick := func() int { return numbers[chance(len(numbers))] + chance(2) }
		few := func() int {
			if chance(8) == 0 {
				return pick()
			}
			return chance(70000)
		}
		list := func() (l []int) {
			for range chance(6) {
				l = append(l, few())
			}
			return l
		}
		op := api.Op{Kind: chance(20) - 1, Worker: few(), Handle: api.Handle(pick()), To: api.Handle(few()*65536 + few()), At: few(), N: few(), Ptrs: list(), Keeps: list()}
		for _, n := range list() {
			op.Bytes = append(op.Bytes, byte(n))
		}
		if chance(2) == 0 {
			op.Handle = op.To
		}
		if want, e := printed(op); e == api.OK {
			prints(t, op, want)
			said++
		} else {
			unsaid(t, op, e)
		}
		if t.Failed() {
			return
		}
	}
	if said < 15000 {
		t.Error(said)
	}
}
