package script

import (
	"strings"

	"hayloft/api"
)

// blank stands between two words.
const blank = " "

// shape is one of the lines that there may be: its first word, the step that it says, and the words behind.
type shape struct {
	name  string
	kind  int
	words []word
}

// shapes are the lines that there may be, as the chapter's table has them.
func shapes() []shape {
	worker := wordOf(func(op *api.Op) *int { return &op.Worker }, readNumber, writeNumber)
	at := wordOf(func(op *api.Op) *int { return &op.At }, readNumber, writeNumber)
	n := wordOf(func(op *api.Op) *int { return &op.N }, readNumber, writeNumber)
	handle := wordOf(func(op *api.Op) *api.Handle { return &op.Handle }, readHandle, writeHandle)
	to := wordOf(func(op *api.Op) *api.Handle { return &op.To }, readHandle, writeHandle)
	bytes := wordOf(func(op *api.Op) *[]byte { return &op.Bytes }, readBytes, writeBytes)
	ptrs := wordOf(func(op *api.Op) *[]int { return &op.Ptrs }, readList, writeList)
	keeps := wordOf(func(op *api.Op) *[]int { return &op.Keeps }, readList, writeList)
	return []shape{
		{"define", api.OpDefine, []word{n, ptrs}},
		{"alloc", api.OpAlloc, []word{worker, n}},
		{"free", api.OpFree, []word{worker, handle}},
		{"read", api.OpRead, []word{handle, at, n}},
		{"write", api.OpWrite, []word{handle, at, bytes}},
		{"get", api.OpGet, []word{handle, n}},
		{"set", api.OpSet, []word{handle, n, to}},
		{"flush", api.OpFlush, []word{worker}},
		{"scavenge", api.OpScavenge, nil},
		{"compact", api.OpCompact, nil},
		{"begin", api.OpBegin, nil},
		{"step", api.OpStep, nil},
		{"drop", api.OpDrop, nil},
		{"arm", api.OpArm, []word{n}},
		{"crash", api.OpCrash, []word{keeps}},
		{"restore", api.OpRestore, []word{n}},
	}
}

// read is the step that these words say; false, if they are no line of this shape.
func (s shape) read(texts []string) (api.Op, bool) {
	op := api.Op{Kind: s.kind}
	if texts[0] != s.name || len(texts) != 1+len(s.words) {
		return op, false
	}
	for i, w := range s.words {
		if !w.read(&op, texts[1+i]) {
			return op, false
		}
	}
	return op, true
}

// write is the line of this shape that says a step; false, if none does.
func (s shape) write(op api.Op) (string, bool) {
	texts := []string{s.name}
	for _, w := range s.words {
		text, ok := w.write(&op)
		if !ok {
			return "", false
		}
		texts = append(texts, text)
	}
	return strings.Join(texts, blank), true
}
