package script_test

import (
	"strconv"
	"strings"
	"testing"

	"hayloft/api"
	"hayloft/script"
)

// five is a config of five pages.
func five(sectors int) api.Config {
	return api.Config{Base: 512, Pages: 5, Workers: 1, Handles: 40, Sectors: sectors}
}

// twoObjects are the first lines of each example: a kind of 16 bytes with a field at 0, and two objects, the first one's field leading to the second.
const twoObjects = `
	define 16 0: 0
	alloc 0 0: 1.1
	alloc 0 0: 2.1
	set 1.1 0 2.1: ok
`

// saved is a checkpoint of so many sectors.
func saved(sectors int) string {
	return "begin: " + strconv.Itoa(sectors) + "\n" + strings.Repeat("step: ok\n", sectors+2) + "step: done\n"
}

// The first, second and third of the ten examples of the whole: fields, stale handles, and a heap that is compacted.
func TestExamplesOfTheHeap(t *testing.T) {
	pairs(t, five(40), twoObjects+`
		get 1.1 0: 2.1
		free 0 2.1: ok
		get 1.1 0: none
		get 2.1 0: error 12
		alloc 0 0: 2.2
	`)
	pairs(t, five(40), twoObjects+`
		define 128 -: 1
		define 512 -: 2
		alloc 0 1: 3.1
		alloc 0 1: 4.1
		alloc 0 1: 5.1
		alloc 0 1: 6.1
		alloc 0 1: 7.1
		alloc 0 1: 8.1
		alloc 0 1: 9.1
		write 5.1 0 6869: ok
		free 0 3.1: ok
		free 0 4.1: ok
		free 0 6.1: ok
		free 0 8.1: ok
		alloc 0 2: error 13
		compact: ok
		get 1.1 0: 2.1
		read 5.1 0 3: 686900
		read 4.1 0 3: error 12
		alloc 0 2: 3.2
	`)
}

// The fourth: what is written while a checkpoint is under way isn't in it.
func TestExampleOfWrites(t *testing.T) {
	pairs(t, five(40), twoObjects+`
		write 2.1 8 61: ok
		begin: 4
		write 2.1 8 62: ok
		step: ok
		write 2.1 8 63: ok
		step: ok
		step: ok
		step: ok
		step: ok
		step: ok
		write 2.1 8 64: ok
		step: done
		read 2.1 8 1: 64
		crash 64,64,64: ok
		restore 4096: 1
		read 2.1 8 1: 61
	`)
}

// The fifth and sixth: the power fails at the third write, and at the manifest's.
func TestExamplesOfPower(t *testing.T) {
	ahead := twoObjects + saved(4) + "write 1.1 8 6e6577: ok\ndefine 8 -: 1\nalloc 0 1: 3.1\n"
	pairs(t, five(40), ahead+`
		arm 3: ok
		begin: 5
		step: ok
		step: ok
		step: error 14
		alloc 0 1: error 14
		crash 32,32,32: ok
		restore 256: 1
		read 1.1 8 3: 000000
		get 3.1 0: error 12
		restore 512: 1
	`)
	manifest := ahead + "arm 7: ok\nbegin: 5\n" + strings.Repeat("step: ok\n", 6) + "step: error 14\n"
	pairs(t, five(40), manifest+`
		crash 64: ok
		restore 256: 2
		read 1.1 8 3: 6e6577
		crash -: ok
		restore 4096: 2
		get 3.1 0: error 2
	`)
	pairs(t, five(40), manifest+`
		crash -: ok
		restore 256: 1
		read 1.1 8 3: 000000
		crash 64: ok
		restore 4096: 1
	`)
	var asked []string
	for line := range strings.Lines(manifest) {
		asked = append(asked, strings.Split(strings.TrimSpace(line), ": ")[0])
	}
	got, err := script.Run(five(40), strings.TrimLeft(ended(asked), "\n")+"crash 63\nrestore 256\nread 1.1 8 3\n")
	if err != nil || !strings.HasSuffix(got, "\nok\n1\n000000\n") && !strings.HasSuffix(got, "\nok\n2\n6e6577\n") {
		t.Error(got, err)
	}
}

// The seventh, eighth and tenth: another base, nothing that has changed, and too few free sectors.
func TestExamplesOfCheckpoints(t *testing.T) {
	pairs(t, five(40), twoObjects+saved(4)+`
		begin: 1
		drop: ok
		restore 1073741824: 1
		get 1.1 0: 2.1
		get 2.1 0: none
		alloc 0 0: 3.1
	`)
	pairs(t, five(8), "define 16 0: 0\n"+saved(2)+`
		define 300 -: 1
		alloc 0 1: 1.1
		write 1.1 0 686179: ok
		begin: error 17
		read 1.1 0 3: 686179
		step: error 8
		crash -: ok
		restore 256: 1
		read 1.1 0 3: error 12
	`)
}
