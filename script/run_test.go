package script_test

import (
	"math"
	"slices"
	"strconv"
	"strings"
	"testing"

	"hayloft/api"
	"hayloft/script"
	"hayloft/vault"
)

// usual is the config of the chapter's example.
func usual() api.Config {
	return api.Config{Base: 256, Pages: 2, Workers: 1, Handles: 8, Sectors: 32}
}

// runs holds that a text comes to these lines.
func runs(t *testing.T, c api.Config, text string, want ...string) {
	t.Helper()
	got, err := script.Run(c, text)
	if err != nil {
		t.Errorf("%s: %v", short(text), err)
		return
	}
	if got == ended(want) {
		return
	}
	asked, lines := linesOf(text), linesOf(got)
	for i := range min(len(asked), len(lines), len(want)) {
		if lines[i] != want[i] {
			t.Errorf("%d, %s: %s, not %s", i, short(asked[i]), short(lines[i]), short(want[i]))
			return
		}
	}
	t.Errorf("%d lines come to %d, not to %d; %s", len(asked), len(lines), len(want), short(got))
}

// pairs holds what each line of a script comes to: the lines stand one below the other, and behind each what it is to come to.
func pairs(t *testing.T, c api.Config, script string) {
	t.Helper()
	var asked, want []string
	for _, line := range linesOf(script) {
		line = strings.TrimSpace(line)
		if line == "" {
			continue
		}
		ask, told, found := strings.Cut(line, ": ")
		if !found {
			t.Fatal(line)
		}
		asked, want = append(asked, ask), append(want, told)
	}
	runs(t, c, ended(asked), want...)
	runs(t, c, strings.Join(asked, "\n"), want...)
}

// P25.4: the chapter's example.
func TestExampleOfRun(t *testing.T) {
	pairs(t, usual(), `
		define 16 0: 0
		alloc 0 0: 1.1
		get 1.1 0: none
		step: error 8
	`)
}

// P25.4: each kind of step, with and without an error, checkpoints, a crash, and restores.
func TestRunEach(t *testing.T) {
	pairs(t, usual(), `
		define 0 -: error 2
		define 24 0,8,12: error 11
		define 24 0,16: 0
		define 4096 -: 1
		alloc 1 0: error 2
		alloc 0 2: error 11
		alloc 0 1: error 13
		alloc 0 0: 1.1
		alloc 0 0: 2.1
		write 1.1 8 686179: ok
		write 1.1 0 686179: error 11
		write 1.1 24 -: ok
		write 1.1 25 -: error 2
		read 1.1 8 4: 68617900
		read 1.1 8 0: -
		read 1.1 20 5: error 2
		set 1.1 1 2.1: ok
		set 1.1 0 3.1: error 12
		set 1.1 2 none: error 2
		get 1.1 1: 2.1
		get 1.1 0: none
		get none 0: error 12
		begin: 5
		begin: error 15
		step: ok
		drop: ok
		drop: error 8
		step: error 8
		begin: 5
		step: ok
		step: ok
		step: ok
		step: ok
		step: ok
		step: ok
		step: ok
		drop: error 15
		step: done
		free 0 2.1: ok
		free 0 2.1: error 12
		free 1 1.1: error 2
		get 1.1 1: none
		flush 0: ok
		flush 1: error 2
		scavenge: ok
		compact: ok
		restore 100: error 10
		get 1.1 1: none
		crash 64,0: ok
		get 1.1 1: error 14
		begin: error 14
		step: error 14
		drop: error 14
		restore 100: error 10
		restore 512: 1
		get 1.1 1: 2.1
		arm 2: ok
		define 8 -: 2
		begin: 4
		step: ok
		step: error 14
		step: error 14
		restore 512: error 14
		crash -: ok
		restore 1099511627776: 1
		define 8 -: 2
		free 0 2.1: ok
		alloc 0 2: 2.2
	`)
}

// P25.4, rule 5: another vault each time, of which nothing is kept.
func TestRunAgain(t *testing.T) {
	text := "define 16 0\nalloc 0 0\nbegin\nstep\nstep\nstep\nstep\nstep\nstep\nstep\nrestore 512\n"
	want := []string{"0", "1.1", "4", "ok", "ok", "ok", "ok", "ok", "ok", "done", "1"}
	for range 3 {
		runs(t, usual(), text, want...)
		runs(t, usual(), "restore 512", "0")
		runs(t, usual(), "read 1.1 8 2", "error 12")
	}
}

// P25.4: where a line ends, and which lines are refused.
func TestLineEnds(t *testing.T) {
	for _, s := range []struct{ text, want string }{
		{"", ""},
		{"\n", "error 4\n"},
		{"\n\n\n", "error 4\nerror 4\nerror 4\n"},
		{" ", "error 4\n"},
		{" \n", "error 4\n"},
		{"begin", "1\n"},
		{"begin\n", "1\n"},
		{"begin\n\n", "1\nerror 4\n"},
		{"\nbegin", "error 4\n1\n"},
		{"begin\nbegin", "1\nerror 15\n"},
		{"begin\nbegin\n", "1\nerror 15\n"},
		{"begin\n ", "1\nerror 4\n"},
		{"begin\r\nbegin\r\n", "error 4\nerror 4\n"},
		{"begin\rbegin", "error 4\n"},
		{"begin\n\rbegin", "1\nerror 4\n"},
		{"begin\x00", "error 4\n"},
		{"begin\u2028begin\u0085begin\v\f", "error 4\n"},
		{"begin\nnothing\n", "1\nerror 4\n"},
		{"\xff\n\x80\x80\nbegin", "error 4\nerror 4\n1\n"},
		{"begin\n00\nstep\n", "1\nerror 4\nok\n"},
	} {
		if got, err := script.Run(usual(), s.text); got != s.want || err != nil {
			t.Errorf("%q: %q, %v; not %q", s.text, got, err, s.want)
		}
	}
}

// P25.4: a line that is refused does nothing.
func TestRefusedLines(t *testing.T) {
	pairs(t, usual(), `
		define 16  0: error 4
		define 16 0,: error 4
		define 016 0: error 4
		alloc 0 0: error 11
		define 16 0: 0
		alloc 0 00: error 4
		alloc 0 0 0: error 4
		alloc 0 0: 1.1
		write 1.1 8 6: error 4
		write 1.1 8 6A: error 4
		read 1.1 8 2: 0000
		free 0 65537: error 4
		free 0 1.1.: error 4
		crash: error 4
		crash 0 0: error 4
		restore: error 4
		restore -1: error 4
		read 1.1 8 2: 0000
	`)
}

// fails holds that a text isn't run, for this reason.
func fails(t *testing.T, c api.Config, text string, want api.Errno) {
	t.Helper()
	got, err := script.Run(c, text)
	if wrong := isError(err, want); wrong != "" || got != "" {
		t.Errorf("%v, %s: %s, %v: %s, not %v", c, short(text), short(got), err, wrong, want)
	}
}

// P25.4: a text of MaxText bytes, and of one more, which is asked first.
func TestLongTexts(t *testing.T) {
	refusedOnes := slices.Repeat([]string{"error 4"}, 65536)
	runs(t, usual(), strings.Repeat("\n", 65536), refusedOnes...)
	runs(t, usual(), strings.Repeat("x", 65536), "error 4")
	runs(t, usual(), strings.Repeat("x", 65535)+"\n", "error 4")
	runs(t, usual(), "begin"+strings.Repeat("\n", 65531), append([]string{"1"}, refusedOnes[:65530]...)...)
	steps := strings.Repeat("step\n", 13107)
	runs(t, usual(), steps, slices.Repeat([]string{"error 8"}, 13107)...)
	runs(t, usual(), steps+"x", append(slices.Repeat([]string{"error 8"}, 13107), "error 4")...)
	runs(t, usual(), longest(t, "crash 10", ",7", 65536), "ok")
	runs(t, usual(), longest(t, "write none 0 0", "41", 65536), "error 4")
	runs(t, usual(), longest(t, "write 1.1 0 ", "41", 65536), "error 12")
	bad := usual()
	bad.Sectors, bad.Base = 7, 100
	for _, c := range []api.Config{usual(), {}, bad} {
		fails(t, c, strings.Repeat("\n", 65537), api.ErrLong)
		fails(t, c, strings.Repeat("x", 65537), api.ErrLong)
		fails(t, c, steps+"\n\n", api.ErrLong)
		fails(t, c, "crash 1"+strings.Repeat(",7", 32765), api.ErrLong)
		fails(t, c, strings.Repeat("step\n", 1<<20), api.ErrLong)
	}
}

// P25.4: the Configs that layer 24 refuses, and with which errors.
func TestConfigs(t *testing.T) {
	made, not := 0, 0
	for _, sectors := range []int{math.MinInt, -1, 0, 7, 8, 32, 65536, 65537, math.MaxInt} {
		for _, base := range []int{math.MinInt, -256, 0, 100, 255, 256, 257, 1 << 40, 1<<40 + 256, math.MaxInt} {
			for _, n := range []int{math.MinInt, -1, 0, 1, 8, 9, 4096, 4097, math.MaxInt} {
				for _, c := range []api.Config{{Base: base, Pages: n, Workers: 1, Handles: 1, Sectors: sectors}, {Base: base, Pages: 1, Workers: n, Handles: 1, Sectors: sectors}, {Base: base, Pages: 1, Workers: 1, Handles: n, Sectors: sectors}} {
					want := api.OK
					switch {
					case sectors < 8, sectors > 65536, c.Pages < 1, c.Pages > 4096, c.Workers < 1, c.Workers > 8, c.Handles < 1, c.Handles > 4096:
						want = api.ErrArg
					case base < 256, base > 1<<40, base%256 != 0:
						want = api.ErrAddr
					}
					if want == api.OK {
						runs(t, c, "begin\nx", "1", "error 4")
						made++
						continue
					}
					_, of := vault.New(c)
					_, err := script.Run(c, "begin\n")
					if of == nil || err == nil || err.Error() != of.Error() {
						t.Errorf("%v: %v, not %v", c, err, of)
					}
					fails(t, c, "", want)
					fails(t, c, "begin\nx", want)
					not++
				}
			}
		}
	}
	if made < 50 || not < 1000 {
		t.Error(made, not)
	}
}

// someLine is a line that more often than not is one of the table, and fits a small vault.
func someLine(chance func(int) int) string {
	n := func(below int) string { return strconv.Itoa(chance(below)) }
	handle := func() string {
		if chance(15) == 0 {
			return "none"
		}
		return strconv.Itoa(1+chance(6)) + "." + strconv.Itoa(1+chance(2)*chance(2))
	}
	switch chance(24) {
	case 0:
		return "define " + strconv.Itoa(16+chance(300)) + " 0,8"
	case 1:
		return "define " + n(40) + " -"
	case 2, 3, 4, 5:
		return "alloc 0 " + n(4)
	case 6, 7:
		return "free 0 " + handle()
	case 8:
		return "read " + handle() + " " + n(20) + " " + n(20)
	case 9:
		return "write " + handle() + " " + n(20) + " 6869"
	case 10:
		return "get " + handle() + " " + n(3)
	case 11, 12:
		return "set " + handle() + " " + n(2) + " " + handle()
	case 13:
		return "flush " + n(2)
	case 14:
		return []string{"scavenge", "compact", "drop", "", "nothing", "step ", "begin 1"}[chance(7)]
	case 15:
		return "crash " + n(65) + "," + n(65)
	case 16:
		return "restore " + strconv.Itoa(256*chance(5))
	case 17:
		return "arm " + n(20)
	case 18:
		return "begin"
	}
	return "step"
}

// someText is a text that begins with two kinds, and has so many lines behind.
func someText(chance func(int) int, n int) string {
	lines := []string{"define 16 0", "define 24 0,16"}
	for range n {
		lines = append(lines, someLine(chance))
	}
	return ended(lines)
}

// P25.4, P1: any texts come to what each line says by itself, in the document's words.
func TestAnyText(t *testing.T) {
	chance := noise(2505)
	words := map[string]int{}
	for range 600 {
		c := api.Config{Base: 512, Pages: 1 + chance(4), Workers: 1 + chance(2), Handles: 1 + chance(8), Sectors: 8 + chance(3)*chance(12)}
		text := someText(chance, 150)
		if chance(2) == 0 {
			text = strings.TrimSuffix(text, "\n")
		}
		want, err := comes(c, text)
		if err != nil {
			t.Fatal(c, err)
		}
		runs(t, c, text, want...)
		if t.Failed() {
			return
		}
		for _, w := range want {
			words[w]++
		}
	}
	for _, w := range []string{"ok", "done", "none", "0", "1", "2", "1.1", "2.1", "1.2", "error 2", "error 4", "error 8", "error 10", "error 11", "error 12", "error 13", "error 14", "error 15", "error 17"} {
		if words[w] < 20 {
			t.Error(w, words[w])
		}
	}
}

// P25.5: a text begun is answered by the beginning of what the whole is answered.
func TestTextBegun(t *testing.T) {
	chance := noise(2506)
	for range 12 {
		text := someText(chance, 60)
		whole, err := script.Run(usual(), text)
		if err != nil {
			t.Fatal(err)
		}
		asked, all := linesOf(text), linesOf(whole)
		if len(asked) != len(all) {
			t.Fatal(len(asked), len(all))
		}
		for n := range len(asked) + 1 {
			begun := ended(asked[:n])
			got, err := script.Run(usual(), begun)
			if err != nil || got != ended(all[:n]) {
				t.Fatalf("%d lines: %s, %v", n, short(got), err)
			}
			// within a line, too, all lines ahead of it are answered alike
			got, err = script.Run(usual(), begun+"st")
			if err != nil || got != ended(all[:n])+"error 4\n" {
				t.Fatalf("%d lines and two letters: %s, %v", n, short(got), err)
			}
		}
	}
}

// P25.5: what is printed runs as what was done, step by step.
func TestRunOfPrinted(t *testing.T) {
	chance := noise(2507)
	for range 60 {
		v, err := vault.New(usual())
		if err != nil {
			t.Fatal(err)
		}
		var asked, want []string
		for _, line := range linesOf(someText(chance, 100)) {
			op, e := script.Parse(line)
			if e != api.OK {
				continue
			}
			// fields that no line says are no part of the step
			if op.Kind != api.OpDefine {
				op.Ptrs = []int{-1}
			}
			line, e := script.Print(op)
			if e != api.OK {
				t.Fatal(told(op), e)
			}
			asked, want = append(asked, line), append(want, script.Tell(op, v.Do(op)))
		}
		runs(t, usual(), ended(asked), want...)
	}
}

// P1, P25.4: any bytes as a text.
func TestAnyTextOfBytes(t *testing.T) {
	chance := noise(2508)
	const signs = "begin\n\n\nstep drop-0189afAF.,:\r\t\x00\xff"
	for range 1500 {
		b := make([]byte, chance(300))
		for i := range b {
			b[i] = signs[chance(len(signs))]
			if chance(10) == 0 {
				b[i] = byte(chance(256))
			}
		}
		want, err := comes(usual(), string(b))
		if err != nil {
			t.Fatal(err)
		}
		runs(t, usual(), string(b), want...)
	}
}

// P1, P25.4: as much as a text can ask for.
func TestMuchToTell(t *testing.T) {
	c := api.Config{Base: 1 << 40, Pages: 4096, Workers: 8, Handles: 4096, Sectors: 65536}
	text := "define 4096 -\nalloc 7 0\n" + strings.Repeat("read 1.1 0 4096\n", 2000)
	got, err := script.Run(c, text)
	if want := "0\n1.1\n" + strings.Repeat(strings.Repeat("00", 4096)+"\n", 2000); err != nil || got != want {
		t.Error(len(got), len(want), err)
	}
	var asked, want []string
	asked, want = append(asked, "define 1 -"), append(want, "0")
	for i := range 4097 {
		asked = append(asked, "alloc 0 0")
		if i < 4096 {
			want = append(want, strconv.Itoa(i+1)+".1")
		} else {
			want = append(want, "error 7")
		}
	}
	runs(t, c, ended(asked), want...)
}
