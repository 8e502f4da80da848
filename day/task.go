package day

import (
	"florilegium/api"
	"florilegium/prop"
	"florilegium/tree"
)

// The properties of tasks.
const (
	taskName   = "task"
	dueName    = "due"
	lastName   = "last"
	repeatName = "repeat"
)

// stateWords has what the property task is in each state.
var stateWords = [Dropped + 1]string{Todo: "todo", Doing: "doing", Done: "done", Dropped: "dropped"}

// Tasks gives all tasks.
func Tasks(base []api.Block) ([]Task, api.Errno) {
	if bad := tree.Check(base); bad != api.OK {
		return nil, bad
	}
	var tasks []Task
	for _, block := range base {
		if task, is := taskOf(block); is {
			tasks = append(tasks, task)
		}
	}
	return tasks, api.OK
}

// taskOf gives the task that a block is, if it is one.
func taskOf(block api.Block) (Task, bool) {
	state := stateOf(block)
	if state == 0 {
		return Task{}, false
	}
	task := Task{Block: block.Id, State: state, Due: dateOf(block, dueName), Last: dateOf(block, lastName)}
	if v, _ := prop.Get(block.Props, repeatName); v.Kind == api.String {
		rule, bad := ReadRule(v.Text)
		task.Rule, task.Repeats = rule, bad == api.OK
	}
	return task, true
}

// stateOf gives the state of a task, 0 of a block that is none.
func stateOf(block api.Block) int {
	v, _ := prop.Get(block.Props, taskName)
	for state := Todo; state <= Dropped; state++ {
		if v.Kind == api.String && v.Text == stateWords[state] {
			return state
		}
	}
	return 0
}

// dateOf gives the day that is a property of a block, if it has one.
func dateOf(block api.Block, name string) int {
	v, _ := prop.Get(block.Props, name)
	if v.Kind != api.Date {
		return noDay
	}
	return v.Int
}

func (t Task) isOpen() bool {
	return t.State == Todo || t.State == Doing
}

// taskAt gives the task of a block, if it is open or not as it should be, and the block's properties.
func taskAt(base []api.Block, id int, open bool) (Task, []api.Prop, api.Errno) {
	if bad := tree.Check(base); bad != api.OK {
		return Task{}, nil, bad
	}
	block, found := tree.Get(base, id)
	if !found {
		return Task{}, nil, api.ErrNone
	}
	task, is := taskOf(block)
	if !is || task.isOpen() != open {
		return Task{}, nil, api.ErrState
	}
	return task, block.Props, api.OK
}

// Start gives the properties of a task that is being done.
func Start(base []api.Block, id int) ([]api.Prop, api.Errno) {
	_, props, bad := taskAt(base, id, true)
	if bad != api.OK {
		return nil, bad
	}
	return putState(props, Doing)
}

// Do gives the properties of a task that was done on a day.
func Do(base []api.Block, id, day int) ([]api.Prop, api.Errno) {
	task, props, bad := taskAt(base, id, true)
	if bad != api.OK {
		return nil, bad
	}
	props, bad = prop.Put(props, lastName, api.Value{Kind: api.Date, Int: day})
	if bad != api.OK { // ErrRange of the day comes before ErrLarge
		return nil, bad
	}
	return goOn(task, props, Done)
}

// Skip gives the properties of a task that was not done this time.
func Skip(base []api.Block, id int) ([]api.Prop, api.Errno) {
	task, props, bad := taskAt(base, id, true)
	if bad != api.OK {
		return nil, bad
	}
	return goOn(task, props, Dropped)
}

// Reopen gives the properties of a task that is to be done after all.
func Reopen(base []api.Block, id int) ([]api.Prop, api.Errno) {
	_, props, bad := taskAt(base, id, false)
	if bad != api.OK {
		return nil, bad
	}
	return putState(props, Todo)
}

// goOn gives the properties of a task that is to be done on its next day, or, if there is none, has come to an end.
func goOn(task Task, props []api.Prop, end int) ([]api.Prop, api.Errno) {
	next, none := Next(task.Rule, task.Due) // has an error, too, if there is no rule, or no day
	if none != api.OK {
		return putState(props, end)
	}
	props, bad := prop.Put(props, dueName, api.Value{Kind: api.Date, Int: next})
	if bad != api.OK {
		return nil, bad
	}
	return putState(props, Todo)
}

func putState(props []api.Prop, state int) ([]api.Prop, api.Errno) {
	return prop.Put(props, taskName, api.Value{Kind: api.String, Text: stateWords[state]})
}
