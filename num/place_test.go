package num

import (
	"testing"

	"hayloft/api"
)

// P1.3: behind a fault nothing outside tells where the reader is, so this looks inside.
func TestReaderStaysWhereTheCallFoundIt(t *testing.T) {
	calls := map[string]func(*Reader){
		"Fixed": func(r *Reader) { r.Fixed(4) },
		"Var":   func(r *Reader) { r.Var() },
		"Upto":  func(r *Reader) { r.Upto(3) },
		"Bytes": func(r *Reader) { r.Bytes(4) },
	}
	ends := map[string][]byte{
		"Fixed": {1, 2, 3},
		"Var":   {0x80, 0, 5},
		"Upto":  {4, 2, 3},
		"Bytes": {1, 2, 3},
	}
	for name, call := range calls {
		r := Open(append([]byte{9}, ends[name]...))
		if r.Var() != 9 {
			t.Error(name, "ahead of the fault")
		}
		call(r)
		if r.Err() == api.OK || string(r.rest) != string(ends[name]) {
			t.Errorf("%s: %v, at % x", name, r.Err(), r.rest)
		}
		for other, again := range calls {
			again(r)
			if string(r.rest) != string(ends[name]) {
				t.Errorf("%s, then %s: at % x", name, other, r.rest)
			}
		}
	}
}
