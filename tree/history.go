package tree

import (
	"maps"
	"slices"

	"florilegium/api"
)

// A History has a base as it is now, and what was done to it.
type History struct {
	now   blocks
	steps []step // in order: those that are done, and then those that were undone
	done  int
}

// A step is an operation, and what it changes where it is done.
type step struct {
	op      Op
	changes []change
}

// New gives a history that begins with a base.
func New(base []api.Block) (*History, api.Errno) {
	now, bad := open(base)
	if bad != api.OK {
		return nil, bad
	}
	for id, block := range now {
		kept := copyOf(*block)
		now[id] = &kept
	}
	return &History{now: now}, api.OK
}

// Do does an operation.
func (h *History) Do(o Op) api.Errno {
	return h.do(o)
}

// DoAll does all operations of a list, or none.
func (h *History) DoAll(l []Op) api.Errno {
	return h.do(l...)
}

func (h *History) do(ops ...Op) api.Errno {
	var made []step
	for _, o := range ops {
		changes, bad := h.now.do(o)
		if bad == api.OK {
			o.Value = copyOfValue(o.Value)
			made = append(made, step{op: o, changes: changes})
		}
		if bad == api.OK && h.done+len(made) > MaxOps {
			bad = api.ErrFull
		}
		if bad != api.OK {
			h.now.back(made...)
			return bad
		}
	}
	if len(made) > 0 { // otherwise those that were undone stay
		h.steps = append(slices.Delete(h.steps, h.done, len(h.steps)), made...)
		h.done = len(h.steps)
	}
	return api.OK
}

// back takes back what steps have changed, the last one first.
func (all blocks) back(steps ...step) {
	for _, s := range slices.Backward(steps) {
		for _, c := range slices.Backward(s.changes) {
			all.put(c.id, c.before)
		}
	}
}

// again changes what a step has changed when it was done.
func (all blocks) again(s step) {
	for _, c := range s.changes {
		all.put(c.id, c.after)
	}
}

// Undo undoes the last operation that is done, if there is one.
func (h *History) Undo() bool {
	if h.done == 0 {
		return false
	}
	h.done--
	h.now.back(h.steps[h.done])
	return true
}

// Redo does the last operation again that was undone, if there is one.
func (h *History) Redo() bool {
	if h.done == len(h.steps) {
		return false
	}
	h.now.again(h.steps[h.done])
	h.done++
	return true
}

// Base gives the base as it is now.
func (h *History) Base() []api.Block {
	return h.now.list()
}

// Length gives how many operations are done, and how many are undone.
func (h *History) Length() (done, undone int) {
	return h.done, len(h.steps) - h.done
}

// Ops gives the operations that are done.
func (h *History) Ops() []Op {
	ops := make([]Op, h.done)
	for i, s := range h.steps[:h.done] {
		ops[i] = s.op
		ops[i].Value = copyOfValue(s.op.Value)
	}
	return ops
}

// At gives the base after the first n operations that are done.
func (h *History) At(n int) ([]api.Block, api.Errno) {
	if n < 0 || n > h.done {
		return nil, api.ErrRange
	}
	then := maps.Clone(h.now)
	then.back(h.steps[n:h.done]...)
	return then.list(), api.OK
}
