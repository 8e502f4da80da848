package card_test

import (
	"fmt"
	"math"
	"strings"
	"testing"

	"florilegium/api"
	"florilegium/card"
)

// P7.3

// words reads the state that a string is, right or not.
func words(t *testing.T, s string) card.State {
	var x card.State
	if n, err := fmt.Sscan(s, &x.Block, &x.No, &x.Step, &x.Ease, &x.Due, &x.Last, &x.Times, &x.Lapses, &x.Buried); n != 9 || err != nil {
		t.Fatal(s, n, err)
	}
	return x
}

// rightStates are states at the bounds.
func rightStates() []string {
	return []string{
		"1 1 0 250 -1 -1 0 0 -1", "1000000 20 0 250 -1 -1 0 0 -1", "1 1 0 130 -1 -1 0 0 -1", "1 1 0 400 -1 -1 0 0 0", "1 1 0 250 -1 -1 0 0 100000",
		"1 1 0 250 0 0 1 0 -1", "1 1 3650 250 100000 100000 20000 20000 100000", "1 1 1 250 100000 0 1 1 5", "1 1 0 250 9 8 20000 0 -1", "5 1 2 250 12 10 1 0 -1",
	}
}

func TestCheckState(t *testing.T) {
	for _, s := range rightStates() {
		wantError(t, s, card.CheckState(words(t, s)), api.OK)
	}
	for s, wanted := range wrongStates() {
		wantError(t, s, card.CheckState(words(t, s)), wanted)
	}
	wantError(t, "zero", card.CheckState(card.State{}), api.ErrRange)
}

// All functions with a state look at it first.
func TestWrongStatesComeFirst(t *testing.T) {
	for s, wanted := range wrongStates() {
		x := words(t, s)
		text, bad := card.StateText(x)
		want(t, "StateText "+s, text, "", bad, wanted)
		after, bad := card.Grade(x, 0, -1)
		want(t, "Grade "+s, after, card.State{}, bad, wanted)
		dues, bad := card.Chances(x, -1)
		want(t, "Chances "+s, dues, nil, bad, wanted)
	}
}

func TestNew(t *testing.T) {
	for _, c := range []struct {
		block, no int
		bad       api.Errno
	}{
		{1, 1, api.OK}, {api.MaxId, card.MaxNumbers, api.OK}, {0, 1, api.ErrRange}, {1, 0, api.ErrRange}, {api.MaxId + 1, 1, api.ErrRange}, {1, card.MaxNumbers + 1, api.ErrRange},
		{-1, 1, api.ErrRange}, {1, -1, api.ErrRange}, {math.MinInt, 1, api.ErrRange}, {1, math.MaxInt, api.ErrRange},
	} {
		wanted := card.State{Block: c.block, No: c.no, Ease: 250, Due: -1, Last: -1, Buried: -1}
		if c.bad != api.OK {
			wanted = card.State{}
		}
		got, bad := card.New(c.block, c.no)
		want(t, fmt.Sprint(c.block, c.no), got, wanted, bad, c.bad)
	}
}

func TestStateText(t *testing.T) {
	for _, s := range rightStates() {
		got, bad := card.StateText(words(t, s))
		want(t, s, got, s, bad, api.OK)
		x, bad := card.ReadState(s)
		want(t, s, x, words(t, s), bad, api.OK)
	}
	got, bad := card.StateText(card.State{Block: 1, No: 2, Step: 3, Ease: 140, Due: 1005, Last: 6, Times: 700, Lapses: 8, Buried: 9})
	want(t, "order of the fields", got, "1 2 3 140 1005 6 700 8 9", bad, api.OK)
}

func TestReadState(t *testing.T) {
	for s, wanted := range wrongStates() {
		got, bad := card.ReadState(s)
		want(t, s, got, card.State{}, bad, wanted)
	}
	for _, s := range []string{
		"", " ", "1", "1 1 0 250 -1 -1 0 0", "1 1 0 250 -1 -1 0 0 -1 0", "1 1 0 250 -1 -1 0 0 -1 ", " 1 1 0 250 -1 -1 0 0 -1", "1  1 0 250 -1 -1 0 0 -1", "1 1 0 250 -1 -1 0 0 -1\n",
		"1\t1 0 250 -1 -1 0 0 -1", "1 1 0 250 -1 -1 0 0 x", "1 1 0 250 -1 -1 0 0 ", "01 1 0 250 -1 -1 0 0 -1", "1 1 00 250 -1 -1 0 0 -1", "1 1 -0 250 -1 -1 0 0 -1", "+1 1 0 250 -1 -1 0 0 -1",
		"1 1 0 250 -1 -1 0 0 -01", "1 1 0 250 -1 -1 0 0 --1", "1 1 0 250 -1 -1 0 0 -", "1 1 0 250 - 1 -1 0 0 -1", "1 1 0 2_50 -1 -1 0 0 -1", "1 1 0 0xfa -1 -1 0 0 -1", "1 1 0 250. -1 -1 0 0 -1",
		"1000000000 1 0 250 -1 -1 0 0 -1", "1 1 0 250 -1000000000 -1 0 0 -1", "99999999999999999999 1 0 250 -1 -1 0 0 -1", "1 1 0 250 -1 -1 0 0 -99999999999999999999", "0 1 0 250 -1 -1 0 0",
		strings.Repeat("1", api.MaxString), strings.Repeat(" ", api.MaxString), "1 1 0 250 -1 -1 0 0 -1" + strings.Repeat(" ", 9), strings.Repeat("1 ", 9),
	} {
		got, bad := card.ReadState(s)
		want(t, s, got, card.State{}, bad, api.ErrSyntax)
	}
	for _, s := range []string{"999999999 1 0 250 -1 -1 0 0 -1", "1 1 0 250 -999999999 -1 0 0 -1", "1 1 0 250 -1 -1 0 0 999999999"} {
		wantError(t, s, second(card.ReadState(s)), api.ErrRange)
	}
	for _, s := range []string{strings.Repeat("1", api.MaxString+1), rightStates()[0] + strings.Repeat(" ", api.MaxString)} {
		got, bad := card.ReadState(s)
		want(t, s, got, card.State{}, bad, api.ErrLarge)
	}
}
