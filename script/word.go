package script

import (
	"strconv"
	"strings"

	"hayloft/api"
)

const (
	none  = "none" // the handle 0
	empty = "-"    // a list, or bytes, without any
	dot   = "."    // between an index and its generation
	comma = ","    // between two numbers of a list

	perGeneration = 65536 // a handle is an index, and so many times its generation
	digits        = "0123456789abcdef"
)

// word is a word of a line: read has a step's field be what a text says, write is the text of what a step's field is; each tells false where there is no such word.
type word struct {
	read  func(op *api.Op, text string) bool
	write func(op *api.Op) (string, bool)
}

// wordOf is the word that says a field. A text is such a word just if what it is read as is written so: that turns down all that may not be, and read may make anything of it.
func wordOf[T any](field func(op *api.Op) *T, read func(text string) T, write func(value T) (string, bool)) word {
	written := func(op *api.Op) (string, bool) { return write(*field(op)) }
	return word{
		read: func(op *api.Op, text string) bool {
			*field(op) = read(text)
			back, ok := written(op)
			return ok && back == text
		},
		write: written,
	}
}

// readNumber is the number of a word.
func readNumber(text string) int {
	// what is too great comes to the greatest int, which is never written
	n, _ := strconv.Atoi(text)
	return n
}

// writeNumber is a number as a word.
func writeNumber(n int) (string, bool) {
	return strconv.Itoa(n), n >= 0 && n <= api.MaxNumber
}

// readHandle is the handle of a word; of none it is 0, as of a word without numbers.
func readHandle(text string) api.Handle {
	index, generation, _ := strings.Cut(text, dot)
	return api.Handle(readNumber(index)) + perGeneration*api.Handle(readNumber(generation))
}

// writeHandle is a handle as a word.
func writeHandle(x api.Handle) (string, bool) {
	return handleText(x), x == 0 || x%perGeneration > 0 && x/perGeneration > 0
}

// handleText tells any handle, be there such a word or not.
func handleText(x api.Handle) string {
	if x == 0 {
		return none
	}
	return strconv.FormatUint(uint64(x%perGeneration), 10) + dot + strconv.FormatUint(uint64(x/perGeneration), 10)
}

// readList is the list of a word.
func readList(text string) []int {
	if text == empty {
		return nil
	}
	var list []int
	for number := range strings.SplitSeq(text, comma) {
		list = append(list, readNumber(number))
	}
	return list
}

// writeList is a list as a word.
func writeList(list []int) (string, bool) {
	if len(list) == 0 {
		return empty, true
	}
	texts := make([]string, len(list))
	for i, n := range list {
		text, ok := writeNumber(n)
		if !ok {
			return "", false
		}
		texts[i] = text
	}
	return strings.Join(texts, comma), true
}

// readBytes are the bytes of a word; none, of a word that is too short for one.
func readBytes(text string) []byte {
	var b []byte
	for ; len(text) > 1; text = text[2:] {
		n, _ := strconv.ParseUint(text[:2], 16, 8)
		b = append(b, byte(n))
	}
	return b
}

// writeBytes are bytes as a word, which any are.
func writeBytes(b []byte) (string, bool) {
	return bytesText(b), true
}

// bytesText tells bytes by two digits each.
func bytesText(b []byte) string {
	if len(b) == 0 {
		return empty
	}
	var text strings.Builder
	for _, c := range b {
		text.WriteByte(digits[c/16])
		text.WriteByte(digits[c%16])
	}
	return text.String()
}
