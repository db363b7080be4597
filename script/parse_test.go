package script_test

import (
	"fmt"
	"slices"
	"strings"
	"testing"

	"hayloft/api"
	"hayloft/script"
)

const (
	most     = 1152921504606846975  // MaxNumber
	greatest = 18446744073709551615 // the greatest handle: of the index 65535, and of the generation 281474976710655
)

// says holds that a line says this step.
func says(t *testing.T, line string, want api.Op) {
	t.Helper()
	if op, e := script.Parse(line); e != api.OK || !sameOp(op, want) {
		t.Errorf("%s: %s, %v; not %s", short(line), told(op), e, told(want))
	}
}

// refuses holds that a line says nothing, for this reason.
func refuses(t *testing.T, line string, want api.Errno) {
	t.Helper()
	if op, e := script.Parse(line); e != want || !sameOp(op, api.Op{}) {
		t.Errorf("%s: %s, %v; not %v", short(line), told(op), e, want)
	}
}

// P25.1: the chapter's examples.
func TestExamplesOfParse(t *testing.T) {
	says(t, "alloc 0 2", api.Op{Kind: api.OpAlloc, N: 2})
	says(t, "set 3.1 0 none", api.Op{Kind: api.OpSet, Handle: 65539})
	for _, line := range []string{"alloc 0  2", "alloc 00 2", "alloc 0", "ALLOC 0 2"} {
		refuses(t, line, api.ErrForm)
	}
}

// saying are lines of each sort, and their steps.
var saying = []struct {
	line string
	op   api.Op
}{
	{"define 16 0", api.Op{Kind: 1, N: 16, Ptrs: []int{0}}},
	{"define 0 -", api.Op{Kind: 1}},
	{"define 4096 8,0,8,4088", api.Op{Kind: 1, N: 4096, Ptrs: []int{8, 0, 8, 4088}}},
	{"define 1152921504606846975 1152921504606846975,0", api.Op{Kind: 1, N: most, Ptrs: []int{most, 0}}},
	{"alloc 7 63", api.Op{Kind: 2, Worker: 7, N: 63}},
	{"alloc 1152921504606846975 0", api.Op{Kind: 2, Worker: most}},
	{"alloc 0 1152921504606846975", api.Op{Kind: 2, N: most}},
	{"free 3 2.1", api.Op{Kind: 3, Worker: 3, Handle: 65538}},
	{"free 0 none", api.Op{Kind: 3}},
	{"free 0 65535.281474976710655", api.Op{Kind: 3, Handle: greatest}},
	{"read 1.2 3 4", api.Op{Kind: 4, Handle: 131073, At: 3, N: 4}},
	{"read none 0 0", api.Op{Kind: 4}},
	{"read 65535.1 1152921504606846975 0", api.Op{Kind: 4, Handle: 131071, At: most}},
	{"write 1.1 8 00ff10", api.Op{Kind: 5, Handle: 65537, At: 8, Bytes: []byte{0, 255, 16}}},
	{"write 1.65535 1 -", api.Op{Kind: 5, Handle: 65535*65536 + 1, At: 1}},
	{"write none 0 0123456789abcdef", api.Op{Kind: 5, Bytes: []byte{1, 0x23, 0x45, 0x67, 0x89, 0xab, 0xcd, 0xef}}},
	{"get 4096.3 2", api.Op{Kind: 6, Handle: 3*65536 + 4096, N: 2}},
	{"get none 15", api.Op{Kind: 6, N: 15}},
	{"set 1.1 2 2.3", api.Op{Kind: 7, Handle: 65537, N: 2, To: 3*65536 + 2}},
	{"set none 0 none", api.Op{Kind: 7}},
	{"set none 1 65535.281474976710655", api.Op{Kind: 7, N: 1, To: greatest}},
	{"flush 0", api.Op{Kind: 8}},
	{"flush 9", api.Op{Kind: 8, Worker: 9}},
	{"scavenge", api.Op{Kind: 9}},
	{"compact", api.Op{Kind: 10}},
	{"begin", api.Op{Kind: 11}},
	{"step", api.Op{Kind: 12}},
	{"drop", api.Op{Kind: 13}},
	{"arm 0", api.Op{Kind: 14}},
	{"arm 10", api.Op{Kind: 14, N: 10}},
	{"crash -", api.Op{Kind: 15}},
	{"crash 0", api.Op{Kind: 15, Keeps: []int{0}}},
	{"crash 64,0,1152921504606846975", api.Op{Kind: 15, Keeps: []int{64, 0, most}}},
	{"restore 256", api.Op{Kind: 16, N: 256}},
	{"restore 1099511627776", api.Op{Kind: 16, N: 1 << 40}},
}

// P25.1, P25.2, P25.5: each line of the table, its step, and back.
func TestEachLine(t *testing.T) {
	kinds := map[int]bool{}
	for _, s := range saying {
		kinds[s.op.Kind] = true
		says(t, s.line, s.op)
		prints(t, s.op, s.line)
	}
	if len(kinds) != 16 {
		t.Error(kinds)
	}
}

// goodWords and badWords are, by their sorts, words that may be and that may not.
var (
	goodWords = map[string][]string{
		"N":    {"0", "1", "9", "10", "101", "65536", "4294967296", "9007199254740993", "1152921504606846974", "1152921504606846975"},
		"H":    {"none", "1.1", "9.10", "10.9", "65535.1", "1.65535", "1.65536", "32768.2147483648", "65535.281474976710655", "1.281474976710655"},
		"LIST": {"-", "0", "8", "0,0", "3,2,1", "1152921504606846975,1152921504606846975", "0,8,16,24,32,40,48,56,64,72,80,88,96,104,112,120,128", strings.Repeat("10,", 500) + "0"},
		"HEX":  {"-", "00", "ff", "0a", "a0", "0123456789abcdef", "99", strings.Repeat("61", 5000)},
	}
	badWords = map[string][]string{
		"N": {"", "-", "00", "01", "007", "-0", "-1", "+0", "+1", "1.0", "1e3", "0x10", "1_0", "1,0", "a", "1a", "a1", "none", "1.1", "٣", "½", "１", "\x00", "1\x00", "1\n", "\t1", "1\r", "\xff", "''",
			"1152921504606846976", "1152921504606846985", "2305843009213693951", "9223372036854775807", "9223372036854775808", "18446744073709551615", "18446744073709551616", "18446744073709551617", "99999999999999999999", "340282366920938463463374607431768211457", strings.Repeat("9", 5000), strings.Repeat("0", 5000)},
		"H": {"", "-", "0", "1", "65537", "None", "NONE", "non", "none.", "none.1", "1.none", "nonenone", ".", ".1", "1.", "1.1.", ".1.1", "1..1", "1.1.1", "1,1", "1:1", "0.0", "0.1", "1.0", "00.1", "01.1", "1.01", "1.00", "-1.1", "1.-1", "+1.1", "1.+1", "a.b", "1.a", "1.1a", "x1.1", "1.1\n", "\x00",
			"65536.1", "65537.1", "131073.1", "1152921504606846975.1", "1152921504606846976.1", "18446744073709551617.1", "1.281474976710656", "1.281474976710657", "1.562949953421313", "65535.281474976710656", "1.1152921504606846975", "1.1152921504606846976", "1.18446744073709551617", "0.281474976710657", "65536.281474976710655", "1." + strings.Repeat("9", 3000), strings.Repeat("9", 3000) + ".1"},
		"LIST": {"", ",", ",,", "0,", ",0", "0,,1", "1,2,", ",1,2", "-,", ",-", "--", "-,0", "0,-", "-1", "0,-1", "+1", "01", "0,00", "1,02", "1;2", "1.2", "[1]", "(1,2)", "a", "1,a", "none", "0\n", "1152921504606846976", "0,1152921504606846976", "1152921504606846976,0", "18446744073709551616,1", strings.Repeat("1,", 3000), strings.Repeat(",", 3000)},
		"HEX":  {"", "0", "000", "a", "abc", "0A", "A0", "FF", "fF", "0g", "g0", "zz", "0x00", "--", "-0", "0-", "-00", "00-", "+0", "0,0", "00,00", "00.", "none", "é", "é0", "\x00\x00", "00\n", "6 1", "٣", strings.Repeat("0", 5001), strings.Repeat("A", 5000)},
	}
)

// withWord is a line of the table, all of whose words are simple, but for one.
func withWord(r row, at int, word string) string {
	simple := map[string]string{"N": "1", "H": "2.1", "LIST": "0,8", "HEX": "6869"}
	words := strings.Fields(r.words)
	for i, w := range words {
		switch {
		case i == at:
			words[i] = word
		case i > 0:
			words[i] = simple[w]
		}
	}
	return strings.Join(words, " ")
}

// P25.1: each word of each line, as it may be and as it may not, as the document's words have it.
func TestEachWord(t *testing.T) {
	asked := 0
	for _, r := range table {
		for at, sort := range strings.Fields(r.words) {
			for _, word := range goodWords[sort] {
				line := withWord(r, at, word)
				want, e := parsed(line)
				if e != api.OK {
					t.Fatalf("%s: %v by the model", short(line), e)
				}
				says(t, line, want)
				prints(t, want, line)
				asked++
			}
			for _, word := range badWords[sort] {
				line := withWord(r, at, word)
				refuses(t, line, api.ErrForm)
				if _, e := parsed(line); e != api.ErrForm {
					t.Fatalf("%s: %v by the model", short(line), e)
				}
			}
		}
	}
	if asked < 150 {
		t.Error(asked)
	}
}

// P25.1: other letters, and other first words.
func TestFirstWords(t *testing.T) {
	for _, r := range table {
		name := strings.Fields(r.words)[0]
		rest := withWord(r, 0, "")
		for _, other := range []string{"", strings.ToUpper(name), strings.ToUpper(name[:1]) + name[1:], name[:len(name)-1], name[1:], name + "s", name + name, "x" + name, name + "\x00", name + ".", "'" + name + "'", "none", "-", "0", fmt.Sprint(r.kind), "Op" + name} {
			refuses(t, other+rest, api.ErrForm)
		}
		for i := range name {
			refuses(t, name[:i]+strings.ToUpper(name[i:i+1])+name[i+1:]+rest, api.ErrForm)
			refuses(t, name[:i]+" "+name[i:]+rest, api.ErrForm)
			refuses(t, name[:i]+string(name[i]+1)+name[i+1:]+rest, api.ErrForm)
		}
	}
	for _, line := range []string{"", " ", "  ", "-", "none", "\n", "\x00", "#", "help", "define", "alloc", "free", "ok", "done", "error 4", "1.1", "0"} {
		refuses(t, line, api.ErrForm)
	}
}

// P25.1: what stands between the words, ahead of them and behind, and how many words there are.
func TestBlanks(t *testing.T) {
	for _, r := range table {
		line := withWord(r, 0, strings.Fields(r.words)[0])
		says(t, line, must(t, line))
		for _, more := range []string{" ", "  ", "\t", "\n", "\r", "\r\n", "\x00", "\u00a0", "\u2003", ",", ";", "."} {
			refuses(t, more+line, api.ErrForm)
			refuses(t, line+more, api.ErrForm)
		}
		for _, more := range []string{"0", "1", "-", "none", "1.1", "00", "x", line} {
			refuses(t, line+" "+more, api.ErrForm)
		}
		words := strings.Split(line, " ")
		for i := 1; i < len(words); i++ {
			ahead, behind := strings.Join(words[:i], " "), strings.Join(words[i:], " ")
			refuses(t, ahead, api.ErrForm)
			refuses(t, behind, api.ErrForm)
			for _, between := range []string{"", "  ", "   ", "\t", "\n", "\r", "\x00", "\u00a0", "_", " \t", " 0 ", " - "} {
				refuses(t, ahead+between+behind, api.ErrForm)
			}
		}
	}
}

// must is what a line says in the document's words.
func must(t *testing.T, line string) api.Op {
	t.Helper()
	op, e := parsed(line)
	if e != api.OK {
		t.Fatalf("%s: %v by the model", short(line), e)
	}
	return op
}

// longest is a line of so many bytes, which begins so and goes on with numbers of one digit, or with bytes.
func longest(t *testing.T, head, pair string, n int) string {
	t.Helper()
	line := head + strings.Repeat(pair, (n-len(head))/2)
	if len(line) != n {
		t.Fatalf("%s: %d bytes, not %d", head, len(line), n)
	}
	return line
}

// P25.1: lines of MaxText bytes, and of one more, which is asked first.
func TestLongLines(t *testing.T) {
	keeps := longest(t, "crash 10", ",7", 65536)
	says(t, keeps, api.Op{Kind: api.OpCrash, Keeps: append([]int{10}, slices.Repeat([]int{7}, 32764)...)})
	says(t, longest(t, "define 1 16", ",0", 65535), api.Op{Kind: api.OpDefine, N: 1, Ptrs: append([]int{16}, make([]int, 32762)...)})
	written := longest(t, "write 1.1 0 ", "41", 65536)
	says(t, written, api.Op{Kind: api.OpWrite, Handle: 65537, Bytes: []byte(strings.Repeat("A", 32762))})
	refuses(t, longest(t, "crash 1", ",7", 65537), api.ErrLong)
	refuses(t, longest(t, "write 1.1 10 ", "41", 65537), api.ErrLong)
	for _, piece := range []string{" ", "\n", "x", "0", ",", "-", "\x00", "\xff", "step "} {
		text := strings.Repeat(piece, 70000)
		refuses(t, text[:65536], api.ErrForm)
		refuses(t, text[:65537], api.ErrLong)
		refuses(t, text, api.ErrLong)
		for _, head := range []string{"arm ", "crash ", "crash 1,", "define 1 ", "write 1.1 0 ", "write 1.1 0 x", "get 1.", "get ", "step "} {
			want := api.ErrForm
			if _, e := parsed((head + text)[:65536]); e == api.OK {
				want = e
			}
			if _, e := script.Parse((head + text)[:65536]); e != want {
				t.Errorf("%q and %q: %v, not %v", head, piece, e, want)
			}
			refuses(t, (head + text)[:65537], api.ErrLong)
		}
	}
	refuses(t, keeps+" ", api.ErrLong)
	refuses(t, keeps+"1", api.ErrLong)
}

// P25.1, rule 4: two steps of one line share nothing.
func TestParseShares(t *testing.T) {
	for _, line := range []string{"define 1 8,16", "write 1.1 0 6869", "crash 64,32"} {
		first, _ := script.Parse(line)
		second, _ := script.Parse(line)
		for _, l := range [][]int{first.Ptrs[:cap(first.Ptrs)], first.Keeps[:cap(first.Keeps)]} {
			for i := range l {
				l[i] = 99
			}
		}
		clear(first.Bytes[:cap(first.Bytes)])
		if third, _ := script.Parse(line); !sameOp(second, must(t, line)) || !sameOp(third, second) {
			t.Error(line, second, third)
		}
	}
}

// P1, P25.1, P25.5: any lines near those of the table are parsed as the document's words have it, and what says a step is what that is printed as.
func TestAnyLine(t *testing.T) {
	chance := noise(2501)
	const signs = "0123456789abcdef.,- none\nAx\x00\xff"
	said, not := 0, 0
	for range 120000 {
		r := table[chance(len(table))]
		words := strings.Fields(r.words)
		for i, sort := range words[1:] {
			good, bad := goodWords[sort], badWords[sort]
			// the last ones are long
			words[1+i] = good[chance(len(good)-1)]
			if chance(12) == 0 {
				words[1+i] = bad[chance(len(bad)-2)]
			}
		}
		line := strings.Join(words, " ")
		for range chance(3) * chance(2) {
			at := chance(len(line) + 1)
			line = line[:at] + signs[chance(len(signs)):][:1] + line[min(at+chance(2), len(line)):]
		}
		op, e := script.Parse(line)
		want, wantE := parsed(line)
		if e != wantE || !sameOp(op, want) {
			t.Fatalf("%q: %s, %v; not %s, %v", line, told(op), e, told(want), wantE)
		}
		if e != api.OK {
			not++
			continue
		}
		said++
		if back, e := script.Print(op); e != api.OK || back != line {
			t.Fatalf("%q: %q, %v", line, back, e)
		}
	}
	if said < 20000 || not < 20000 {
		t.Error(said, not)
	}
}

// P1, P25.1: any bytes.
func TestAnyBytes(t *testing.T) {
	chance := noise(2502)
	for range 50000 {
		b := make([]byte, chance(12))
		for i := range b {
			b[i] = byte(chance(256))
		}
		line := string(b)
		if op, e := script.Parse(line); e != api.ErrForm || !sameOp(op, api.Op{}) {
			t.Fatalf("%q: %s, %v", line, told(op), e)
		}
	}
	for a := range 256 {
		for b := range 256 {
			line := "arm " + string([]byte{byte(a), byte(b)})
			want, wantE := parsed(line)
			if op, e := script.Parse(line); e != wantE || !sameOp(op, want) {
				t.Fatalf("%q: %s, %v", line, told(op), e)
			}
			line = "write none 0 " + line[4:]
			want, wantE = parsed(line)
			if op, e := script.Parse(line); e != wantE || !sameOp(op, want) {
				t.Fatalf("%q: %s, %v", line, told(op), e)
			}
		}
	}
}
