package script_test

import (
	"bytes"
	"encoding/hex"
	"errors"
	"fmt"
	"math/big"
	"regexp"
	"slices"
	"strings"

	"hayloft/api"
	"hayloft/vault"
)

// row is a line of the chapter's table: its words, the step that it says, and the fields that the words behind the first one say.
type row struct {
	words  string
	kind   int
	fields string
}

// table is the chapter's table.
var table = []row{
	{"define N LIST", 1, "N Ptrs"},
	{"alloc N N", 2, "Worker N"},
	{"free N H", 3, "Worker Handle"},
	{"read H N N", 4, "Handle At N"},
	{"write H N HEX", 5, "Handle At Bytes"},
	{"get H N", 6, "Handle N"},
	{"set H N H", 7, "Handle N To"},
	{"flush N", 8, "Worker"},
	{"scavenge", 9, ""},
	{"compact", 10, ""},
	{"begin", 11, ""},
	{"step", 12, ""},
	{"drop", 13, ""},
	{"arm N", 14, "N"},
	{"crash LIST", 15, "Keeps"},
	{"restore N", 16, "N"},
}

const aNumber = `(?:0|[1-9][0-9]*)`

// forms are what the sorts of words look like, however great their numbers are.
var forms = map[string]string{
	"N":    aNumber,
	"H":    `(?:none|` + aNumber + `\.` + aNumber + `)`,
	"LIST": `(?:-|` + aNumber + `(?:,` + aNumber + `)*)`,
	"HEX":  `(?:-|(?:[0-9a-f][0-9a-f])+)`,
}

// patterns are what the table's lines look like.
var patterns = func() (all []*regexp.Regexp) {
	for _, r := range table {
		text := ""
		for i, w := range strings.Fields(r.words) {
			if i == 0 {
				text = w
			} else {
				text += " (" + forms[w] + ")"
			}
		}
		all = append(all, regexp.MustCompile(`\A`+text+`\z`))
	}
	return all
}()

// parsed is in the document's words what a line says.
func parsed(line string) (api.Op, api.Errno) {
	if len(line) > 65536 {
		return api.Op{}, api.ErrLong
	}
	for i, r := range table {
		words := patterns[i].FindStringSubmatch(line)
		if words == nil {
			continue
		}
		op := api.Op{Kind: r.kind}
		for j, field := range strings.Fields(r.fields) {
			if !put(&op, field, words[1+j]) {
				return api.Op{}, api.ErrForm
			}
		}
		return op, api.OK
	}
	return api.Op{}, api.ErrForm
}

// big2 is two to the power of n.
func big2(n uint) *big.Int {
	return new(big.Int).Lsh(big.NewInt(1), n)
}

// digitsOf is the number of some digits, however many.
func digitsOf(text string) *big.Int {
	n, _ := new(big.Int).SetString(text, 10)
	return n
}

// put has a field be what a word says, which looks as it must; false, if a number of it is too great or too small.
func put(op *api.Op, field, text string) (ok bool) {
	switch field {
	case "Worker":
		op.Worker, ok = numberOf(text)
	case "At":
		op.At, ok = numberOf(text)
	case "N":
		op.N, ok = numberOf(text)
	case "Handle":
		op.Handle, ok = handleOf(text)
	case "To":
		op.To, ok = handleOf(text)
	case "Ptrs":
		op.Ptrs, ok = listOf(text)
	case "Keeps":
		op.Keeps, ok = listOf(text)
	case "Bytes":
		if text == "-" {
			return true
		}
		b, err := hex.DecodeString(text)
		op.Bytes, ok = b, err == nil
	}
	return ok
}

func numberOf(text string) (int, bool) {
	// a number of so many digits is too great, which big numbers are slow to tell
	if len(text) > 30 {
		return 0, false
	}
	n := digitsOf(text)
	return int(n.Int64()), n.Cmp(big2(60)) < 0
}

func handleOf(text string) (api.Handle, bool) {
	if text == "none" {
		return 0, true
	}
	index, gen, _ := strings.Cut(text, ".")
	if len(index) > 30 || len(gen) > 30 {
		return 0, false
	}
	i, g := digitsOf(index), digitsOf(gen)
	if i.Sign() == 0 || i.Cmp(big2(16)) >= 0 || g.Sign() == 0 || g.Cmp(big2(60)) >= 0 {
		return 0, false
	}
	x := new(big.Int).Add(i, new(big.Int).Mul(big2(16), g))
	return api.Handle(x.Uint64()), x.IsUint64()
}

func listOf(text string) (list []int, ok bool) {
	if text == "-" {
		return nil, true
	}
	for _, w := range strings.Split(text, ",") {
		n, ok := numberOf(w)
		if !ok {
			return nil, false
		}
		list = append(list, n)
	}
	return list, true
}

// printed is in the document's words the line that says a step.
func printed(op api.Op) (string, api.Errno) {
	for _, r := range table {
		if r.kind != op.Kind {
			continue
		}
		line := strings.Fields(r.words)[0]
		for _, field := range strings.Fields(r.fields) {
			text, ok := wordFor(op, field)
			if !ok {
				return "", api.ErrForm
			}
			line += " " + text
		}
		if len(line) > 65536 {
			return "", api.ErrLong
		}
		return line, api.OK
	}
	return "", api.ErrForm
}

// wordFor is the word that says a field; false, if there is none.
func wordFor(op api.Op, field string) (string, bool) {
	sayable := func(l ...int) bool {
		return !slices.ContainsFunc(l, func(n int) bool { return n < 0 || n > 1<<60-1 })
	}
	handle := func(x api.Handle) (string, bool) {
		return aHandle(x), x == 0 || x%65536 != 0 && x >= 65536
	}
	list := func(l []int) (string, bool) {
		if len(l) == 0 {
			return "-", true
		}
		return strings.ReplaceAll(strings.Trim(fmt.Sprint(l), "[]"), " ", ","), sayable(l...)
	}
	switch field {
	case "Worker":
		return fmt.Sprint(op.Worker), sayable(op.Worker)
	case "At":
		return fmt.Sprint(op.At), sayable(op.At)
	case "N":
		return fmt.Sprint(op.N), sayable(op.N)
	case "Handle":
		return handle(op.Handle)
	case "To":
		return handle(op.To)
	case "Ptrs":
		return list(op.Ptrs)
	case "Keeps":
		return list(op.Keeps)
	}
	return someBytes(op.Bytes), true
}

func aHandle(x api.Handle) string {
	if x == 0 {
		return "none"
	}
	return fmt.Sprintf("%d.%d", uint64(x%65536), uint64(x/65536))
}

func someBytes(b []byte) string {
	if len(b) == 0 {
		return "-"
	}
	return fmt.Sprintf("%x", b)
}

// tells is in the document's words what a step answered.
func tells(op api.Op, a api.Answer) string {
	switch {
	case a.Err != api.OK:
		return fmt.Sprintf("error %d", int(a.Err))
	case slices.Contains([]int{1, 11, 16}, op.Kind):
		return fmt.Sprint(a.N)
	case op.Kind == 2 || op.Kind == 6:
		return aHandle(a.Handle)
	case op.Kind == 4:
		return someBytes(a.Bytes)
	case op.Kind == 12 && a.N == 1:
		return "done"
	}
	return "ok"
}

// linesOf are the lines of a text.
func linesOf(text string) []string {
	lines := strings.Split(text, "\n")
	if lines[len(lines)-1] == "" {
		return lines[:len(lines)-1]
	}
	return lines
}

// comes is in the document's words what the lines of a text come to, each by itself.
func comes(c api.Config, text string) ([]string, error) {
	if len(text) > 65536 {
		return nil, api.ErrLong
	}
	v, err := vault.New(c)
	if err != nil {
		return nil, err
	}
	var all []string
	for _, line := range linesOf(text) {
		if op, e := parsed(line); e != api.OK {
			all = append(all, "error 4")
		} else {
			all = append(all, tells(op, v.Do(op)))
		}
	}
	return all, nil
}

// ended is some lines as a text.
func ended(lines []string) string {
	if len(lines) == 0 {
		return ""
	}
	return strings.Join(lines, "\n") + "\n"
}

// noise is a row of numbers that looks like chance.
func noise(seed uint64) func(below int) int {
	return func(below int) int {
		seed = seed*6364136223846793005 + 1442695040888963407
		return int(seed>>33) % below
	}
}

// copyOf is a step that has nothing in common with the other.
func copyOf(op api.Op) api.Op {
	op.Bytes, op.Ptrs, op.Keeps = slices.Clone(op.Bytes), slices.Clone(op.Ptrs), slices.Clone(op.Keeps)
	return op
}

func sameOp(a, b api.Op) bool {
	return a.Kind == b.Kind && a.Worker == b.Worker && a.Handle == b.Handle && a.To == b.To && a.At == b.At && a.N == b.N &&
		bytes.Equal(a.Bytes, b.Bytes) && slices.Equal(a.Ptrs, b.Ptrs) && slices.Equal(a.Keeps, b.Keeps)
}

// spare is what stands in the room of a step's lists.
func spare(op api.Op) []int {
	all := append(slices.Clone(op.Ptrs[:cap(op.Ptrs)]), op.Keeps[:cap(op.Keeps)]...)
	for _, b := range op.Bytes[:cap(op.Bytes)] {
		all = append(all, int(b))
	}
	return all
}

// told tells a step in short.
func told(op api.Op) string {
	return fmt.Sprintf("{%d w%d h%d to%d at%d n%d, %d bytes, %d ptrs, %d keeps}", op.Kind, op.Worker, op.Handle, op.To, op.At, op.N, len(op.Bytes), len(op.Ptrs), len(op.Keeps))
}

// short is a text, cut down to what one cares to read.
func short(text string) string {
	if len(text) > 80 {
		return fmt.Sprintf("%q, and so on: %d bytes", text[:80], len(text))
	}
	return fmt.Sprintf("%q", text)
}

// isError is "", if an error is just this number, met at no sector; else what is otherwise.
func isError(err error, number api.Errno) string {
	if number == api.OK {
		if err != nil {
			return "an error"
		}
		return ""
	}
	var n api.Errno
	var fault *api.Fault
	switch {
	case err == nil:
		return "no error"
	case err == error(number):
		return "not wrapped"
	case !errors.As(err, &n) || n != number:
		return "another number"
	case errors.As(err, &fault):
		return "a sector"
	case !strings.HasPrefix(err.Error(), "hayloft: "):
		return "no words"
	}
	for i := range api.Errno(20) {
		if errors.Is(err, i) != (i == number) {
			return "is " + i.Error() + ", or isn't"
		}
	}
	return ""
}
