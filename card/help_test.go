package card_test

import (
	"fmt"
	"iter"
	"reflect"
	"slices"
	"testing"

	"florilegium/api"
	"florilegium/card"
	"florilegium/tree"
)

// want tells where a result is another one than wanted. Empty and nil lists are the same.
func want[T any](t *testing.T, name string, got, wanted T, bad, wantedBad api.Errno) {
	t.Helper()
	if bad != wantedBad {
		t.Errorf("%.300s: error %d, want %d", name, bad, wantedBad)
	} else if !same(got, wanted) {
		t.Errorf("%.300s = %.900s, want %.900s", name, fmt.Sprintf("%+v", got), fmt.Sprintf("%+v", wanted))
	}
}

func same(a, b any) bool {
	x, y := reflect.ValueOf(a), reflect.ValueOf(b)
	if x.Kind() == reflect.Slice && x.Len() == 0 && y.Len() == 0 {
		return true
	}
	return reflect.DeepEqual(a, b)
}

// wantError tells where an error is another one than wanted.
func wantError(t *testing.T, name string, bad, wanted api.Errno) {
	t.Helper()
	want(t, name, 0, 0, bad, wanted)
}

// must gives a result of which the test knows that it has no error.
func must[T any](result T, bad api.Errno) T {
	if bad != api.OK {
		panic(bad)
	}
	return result
}

// second gives the error of two results, third that of three.
func second[T any](_ T, bad api.Errno) api.Errno        { return bad }
func third[T, U any](_ T, _ U, bad api.Errno) api.Errno { return bad }

// rounds counts up to a number, as long as a test has not failed.
func rounds(t *testing.T, count int) iter.Seq[int] {
	return func(yield func(i int) bool) {
		for i := range count {
			if t.Failed() || !yield(i) {
				return
			}
		}
	}
}

// made gives the state of the card 1 of a block after grades with days.
func made(block int, l ...int) card.State {
	x := must(card.New(block, 1))
	for ; len(l) > 1; l = l[2:] {
		x = must(card.Grade(x, l[0], l[1]))
	}
	return x
}

// changed gives a state with a change.
func changed(x card.State, change func(x *card.State)) card.State {
	change(&x)
	return x
}

// many gives states of so many cards that were never asked.
func many(count int) []card.State {
	var l []card.State
	for i := range count {
		l = append(l, made(i+1))
	}
	return l
}

// reviewsOf gives so many reviews of one card.
func reviewsOf(count int) []card.Review {
	return slices.Repeat([]card.Review{{Block: 1, No: 1, Grade: card.Again}}, count)
}

// base gives a base with a page, and blocks with some texts one below the other.
func base(page string, texts ...string) []api.Block {
	l := []api.Block{{}}
	for i, text := range append([]string{page}, texts...) {
		l[i].Kids = []int{i + 1}
		l = append(l, api.Block{Id: i + 1, Parent: i, Text: text})
	}
	if bad := tree.Check(l); bad != api.OK {
		panic(bad)
	}
	return l
}

// wrongStates are states that may not be, with their errors.
func wrongStates() map[string]api.Errno {
	return map[string]api.Errno{
		"0 1 0 250 -1 -1 0 0 -1": api.ErrRange, "-1 1 0 250 -1 -1 0 0 -1": api.ErrRange, "1000001 1 0 250 -1 -1 0 0 -1": api.ErrRange,
		"1 0 0 250 -1 -1 0 0 -1": api.ErrRange, "1 21 0 250 -1 -1 0 0 -1": api.ErrRange, "1 -1 0 250 -1 -1 0 0 -1": api.ErrRange,
		"1 1 -1 250 9 9 1 0 -1": api.ErrRange, "1 1 3651 250 9 9 1 0 -1": api.ErrRange,
		"1 1 0 129 -1 -1 0 0 -1": api.ErrRange, "1 1 0 401 -1 -1 0 0 -1": api.ErrRange, "1 1 0 -250 -1 -1 0 0 -1": api.ErrRange,
		"1 1 0 250 -2 -1 0 0 -1": api.ErrRange, "1 1 0 250 100001 9 1 0 -1": api.ErrRange,
		"1 1 0 250 -1 -2 0 0 -1": api.ErrRange, "1 1 0 250 100000 100001 1 0 -1": api.ErrRange,
		"1 1 0 250 -1 -1 -1 0 -1": api.ErrRange, "1 1 0 250 9 9 20001 0 -1": api.ErrRange,
		"1 1 0 250 9 9 1 -1 -1": api.ErrRange, "1 1 0 250 9 9 20000 20001 -1": api.ErrRange,
		"1 1 0 250 -1 -1 0 0 -2": api.ErrRange, "1 1 0 250 -1 -1 0 0 100001": api.ErrRange,
		"1 1 0 250 9 -1 1 0 -1": api.ErrForm, "1 1 0 250 -1 9 1 0 -1": api.ErrForm, "1 1 0 250 9 -1 0 0 -1": api.ErrForm, "1 1 0 250 -1 9 0 0 -1": api.ErrForm,
		"1 1 0 250 9 9 0 0 -1": api.ErrForm, "1 1 0 250 -1 -1 1 0 -1": api.ErrForm, "1 1 1 250 -1 -1 0 0 -1": api.ErrForm,
		"1 1 0 250 8 9 1 0 -1": api.ErrForm, "1 1 0 250 9 9 1 2 -1": api.ErrForm, "1 1 0 250 -1 -1 0 1 -1": api.ErrForm,
		// Two errors at once: ErrRange comes first.
		"1 1 0 250 8 9 1 2 -2": api.ErrRange, "1 21 1 250 -1 -1 0 0 -1": api.ErrRange, "1 1 0 401 9 -1 0 0 -1": api.ErrRange,
	}
}
