package vault

import (
	"errors"

	"hayloft/api"
	"hayloft/arena"
	"hayloft/load"
)

// Do does a step.
func (v *Vault) Do(op api.Op) api.Answer {
	if v == nil {
		return api.Answer{Err: api.ErrNil}
	}
	a, err := v.answer(op)
	v.err = err
	if err != nil {
		return api.Answer{Err: number(err)}
	}
	return a
}

// number is which one of api's numbers an error is; ErrCorrupt, if it is that among others.
func number(err error) api.Errno {
	if errors.Is(err, api.ErrCorrupt) {
		return api.ErrCorrupt
	}
	var n api.Errno
	if errors.As(err, &n) {
		return n
	}
	return api.OK
}

// answer is what a step tells, and the error that it meets.
func (v *Vault) answer(op api.Op) (a api.Answer, err error) {
	switch {
	case op.Kind < api.OpDefine, op.Kind > api.OpRestore:
		return a, refused{api.ErrArg}
	case op.Kind <= api.OpDrop && !v.Up():
		return a, refused{api.ErrDown}
	}
	switch op.Kind {
	case api.OpBegin:
		a.N, err = v.now.begin()
	case api.OpStep:
		a.N, err = v.step()
	case api.OpDrop:
		err = v.now.drop()
	case api.OpArm:
		v.disk.Arm(op.N)
	case api.OpCrash:
		v.disk.Crash(op.Keeps)
		v.now = memory{}
	case api.OpRestore:
		a.N, err = v.restore(op.N)
	default:
		return v.now.ask(op)
	}
	return a, err
}

// ask does a step of the heap alone.
func (m memory) ask(op api.Op) (a api.Answer, err error) {
	e := api.OK
	switch op.Kind {
	case api.OpDefine:
		a.N, e = m.heap.Define(api.Kind{Size: op.N, Ptrs: op.Ptrs})
	case api.OpAlloc:
		a.Handle, e = m.heap.Alloc(op.Worker, op.N)
	case api.OpFree:
		e = m.heap.Free(op.Worker, op.Handle)
	case api.OpRead:
		a.Bytes, e = m.heap.Read(op.Handle, op.At, op.N)
	case api.OpWrite:
		e = m.heap.Write(op.Handle, op.At, op.Bytes)
	case api.OpGet:
		a.Handle, e = m.heap.Get(op.Handle, op.N)
	case api.OpSet:
		e = m.heap.Set(op.Handle, op.N, op.To)
	case api.OpFlush:
		e = m.heap.Flush(op.Worker)
	case api.OpScavenge:
		m.heap.Scavenge()
	case api.OpCompact:
		m.heap.Compact()
	}
	if e != api.OK {
		return a, refused{e}
	}
	return a, nil
}

// begin begins a checkpoint of the heap as it is now: how many sectors that writes.
func (m memory) begin() (int, error) {
	if err := m.saver.Begin(m.heap.View(), m.workers, m.handles); err != nil {
		return 0, err
	}
	return m.saver.Fresh(), nil
}

// step does the next thing of the checkpoint that is under way: 1, if that was the last one.
func (v *Vault) step() (int, error) {
	done, err := v.now.saver.Step()
	if errors.Is(err, api.ErrDown) {
		v.now = memory{}
	}
	if !done {
		return 0, err
	}
	return 1, nil
}

// drop gives up the checkpoint that is under way.
func (m memory) drop() error {
	switch {
	case !m.saver.Busy():
		return refused{api.ErrNone}
	case !m.saver.Drop():
		return refused{api.ErrBusy}
	}
	return nil
}

// restore has the heap be what the disk holds, at a base: the number of its checkpoint, 0, if none counts.
func (v *Vault) restore(base int) (int, error) {
	if !arena.Good(base) {
		return 0, refused{api.ErrAddr}
	}
	v.now = memory{}
	if e := v.disk.Flush(); e != api.OK {
		return 0, refused{e}
	}
	found, err := load.Load(v.disk, base)
	switch {
	case err != nil:
		return 0, err
	case found.Tree.Seq == 0:
		return 0, v.startEmpty(base)
	}
	return found.Tree.Seq, v.startFrom(found)
}
