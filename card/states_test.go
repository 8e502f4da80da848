package card_test

import (
	"fmt"
	"math"
	"testing"

	"florilegium/api"
	"florilegium/card"
)

// P7.6

func TestCheckStates(t *testing.T) {
	x := func(block, no int) card.State { return must(card.New(block, no)) }
	wrong := card.State{Block: 3, No: 1}
	for name, c := range map[string]struct {
		l   []card.State
		bad api.Errno
	}{
		"none": {nil, api.OK}, "one": {[]card.State{x(1, 1)}, api.OK}, "rising": {[]card.State{x(1, 2), x(1, 3), x(2, 1), x(2, 20), x(api.MaxId, 1)}, api.OK},
		"twice": {[]card.State{x(1, 1), x(1, 1)}, api.ErrOrder}, "falling": {[]card.State{x(2, 1), x(1, 2)}, api.ErrOrder}, "falling in a block": {[]card.State{x(1, 2), x(1, 1)}, api.ErrOrder},
		"twice with other times": {[]card.State{x(1, 1), made(1, 3, 5)}, api.ErrOrder}, "later": {[]card.State{x(1, 1), x(2, 1), x(3, 1), x(2, 2)}, api.ErrOrder},
		"wrong": {[]card.State{x(4, 1), wrong}, api.ErrRange}, "wrong form": {[]card.State{changed(x(1, 1), func(x *card.State) { x.Times = 1 })}, api.ErrForm},
		"order before a wrong one": {[]card.State{x(4, 1), x(2, 1), wrong}, api.ErrOrder}, "wrong before order": {[]card.State{wrong, x(4, 1), x(2, 1)}, api.ErrRange},
		"many": {many(card.MaxStates), api.OK}, "too many": {many(card.MaxStates + 1), api.ErrLarge}, "too many wrong ones": {make([]card.State, card.MaxStates+1), api.ErrLarge},
	} {
		wantError(t, name, card.CheckStates(c.l), c.bad)
	}
}

// All functions with a list of states look at it first.
func TestWrongListsComeFirst(t *testing.T) {
	for wanted, l := range map[api.Errno][]card.State{api.ErrOrder: {made(2), made(1)}, api.ErrRange: {{}}, api.ErrForm: {{Block: 1, No: 1, Ease: 250}}, api.ErrLarge: make([]card.State, card.MaxStates+1)} {
		tooFew, tooMany := card.Bounds{New: -1, All: -1}, make([]card.Card, card.MaxStates+1)
		for name, bad := range map[string]api.Errno{
			"Keep": third(card.Keep(l, tooMany)), "Due": second(card.Due(l, -1)), "Today": second(card.Today(l, reviewsOf(card.MaxReviews+1), -1, tooFew)),
			"GradeAt": second(card.GradeAt(l, -1, 0, -1)), "Loads": second(card.Loads(l, -1, -1)), "Leeches": second(card.Leeches(l, 0)), "Bury": second(card.Bury(l, -1, -1)),
			"Counts": second(card.Counts(l, -1)), "Join": second(card.Join(l, many(1))), "Join with it": second(card.Join(many(1), l)), "Simulate": third(card.Simulate(l, nil, -1, -1, tooFew)),
		} {
			wantError(t, name, bad, wanted)
		}
	}
	wantError(t, "Join of two", second(card.Join([]card.State{{}}, []card.State{made(2), made(1)})), api.ErrRange)
	wantError(t, "Join of two", second(card.Join([]card.State{made(2), made(1)}, []card.State{{}})), api.ErrOrder)
}

func TestKeep(t *testing.T) {
	a, b, c := made(1, card.Good, 10), made(3, card.Again, 11), made(5, card.Easy, 9)
	d := changed(a, func(x *card.State) { x.No = 2 })
	l := []card.State{a, d, b, c}
	cards := func(l ...int) []card.Card {
		var cards []card.Card
		for ; len(l) > 1; l = l[2:] {
			cards = append(cards, card.Card{Block: l[0], No: l[1], Front: "x", Back: "y"})
		}
		return cards
	}
	for _, x := range []struct {
		cards        []card.Card
		kept, others []card.State
	}{
		{nil, nil, l}, {cards(1, 1, 1, 2, 3, 1, 5, 1), l, nil}, {cards(5, 1, 1, 1, 3, 1, 1, 2), l, nil}, {cards(3, 1), []card.State{b}, []card.State{a, d, c}},
		{cards(9, 1, 1, 3, 3, 1, 1, 1, 2, 1), []card.State{a, must(card.New(1, 3)), made(2), b, made(9)}, []card.State{d, c}},
		{cards(1, 20, api.MaxId, 1), []card.State{must(card.New(1, 20)), made(api.MaxId)}, l},
	} {
		kept, others, bad := card.Keep(l, x.cards)
		want(t, fmt.Sprint(x.cards), kept, x.kept, bad, api.OK)
		want(t, fmt.Sprint(x.cards), others, x.others, bad, api.OK)
	}
	kept, others, bad := card.Keep(nil, cards(2, 2, 2, 1))
	want(t, "no states", kept, []card.State{must(card.New(2, 1)), must(card.New(2, 2))}, bad, api.OK)
	want(t, "no states", others, nil, bad, api.OK)
}

func TestErrorsOfKeep(t *testing.T) {
	var most []card.Card
	for _, x := range many(card.MaxStates) {
		most = append(most, card.Card{Block: x.Block, No: x.No})
	}
	kept, _, bad := card.Keep(nil, most)
	want(t, "as many as there can be", kept, many(card.MaxStates), bad, api.OK)
	right, wrong := card.Card{Block: 2, No: 2}, card.Card{Block: 0, No: 1}
	for _, c := range []struct {
		cards []card.Card
		bad   api.Errno
	}{
		{[]card.Card{right, wrong}, api.ErrRange}, {[]card.Card{right, {Block: 1}}, api.ErrRange}, {[]card.Card{{Block: 1, No: 21}}, api.ErrRange}, {[]card.Card{{Block: api.MaxId + 1, No: 1}}, api.ErrRange},
		{[]card.Card{{Block: math.MinInt, No: 1}}, api.ErrRange}, {[]card.Card{{Block: 1, No: math.MaxInt}}, api.ErrRange}, {[]card.Card{wrong, wrong}, api.ErrRange},
		{[]card.Card{right, right, wrong}, api.ErrTwice}, {[]card.Card{right, {Block: 1, No: 1}, {Block: 2, No: 2, Front: "other"}}, api.ErrTwice}, {[]card.Card{right, wrong, right}, api.ErrRange},
		{append(most[:card.MaxStates:card.MaxStates], wrong), api.ErrLarge}, {append(most[:card.MaxStates:card.MaxStates], most[0]), api.ErrLarge},
	} {
		kept, others, bad := card.Keep(many(3), c.cards)
		want(t, fmt.Sprint(c.cards), kept, nil, bad, c.bad)
		want(t, fmt.Sprint(c.cards), others, nil, bad, c.bad)
	}
}

// P7.9

func TestJoin(t *testing.T) {
	at := func(block, no, last, times, ease int) card.State {
		return card.State{Block: block, No: no, Ease: ease, Due: last, Last: last, Times: times, Buried: -1}
	}
	for _, c := range []struct{ a, b, joined []card.State }{
		{nil, nil, nil}, {many(3), nil, many(3)}, {nil, many(3), many(3)}, {many(3), many(5), many(5)},
		{[]card.State{at(1, 1, 5, 1, 200), at(3, 1, 5, 1, 200)}, []card.State{at(1, 2, 5, 1, 200), at(2, 1, 5, 1, 200), at(4, 1, 5, 1, 200)},
			[]card.State{at(1, 1, 5, 1, 200), at(1, 2, 5, 1, 200), at(2, 1, 5, 1, 200), at(3, 1, 5, 1, 200), at(4, 1, 5, 1, 200)}},
		// The greater Last, then Times, then the first list's.
		{[]card.State{at(1, 1, 5, 9, 200)}, []card.State{at(1, 1, 6, 1, 201)}, []card.State{at(1, 1, 6, 1, 201)}},
		{[]card.State{at(1, 1, 6, 1, 201)}, []card.State{at(1, 1, 5, 9, 200)}, []card.State{at(1, 1, 6, 1, 201)}},
		{[]card.State{at(1, 1, 5, 1, 200)}, []card.State{at(1, 1, 5, 2, 201)}, []card.State{at(1, 1, 5, 2, 201)}},
		{[]card.State{at(1, 1, 5, 2, 201)}, []card.State{at(1, 1, 5, 1, 200)}, []card.State{at(1, 1, 5, 2, 201)}},
		{[]card.State{at(1, 1, 5, 2, 200)}, []card.State{at(1, 1, 5, 2, 399)}, []card.State{at(1, 1, 5, 2, 200)}},
		{[]card.State{at(1, 1, 5, 2, 399)}, []card.State{at(1, 1, 5, 2, 200)}, []card.State{at(1, 1, 5, 2, 399)}},
		{[]card.State{at(1, 1, 0, 1, 200)}, []card.State{made(1)}, []card.State{at(1, 1, 0, 1, 200)}},
		{[]card.State{made(1)}, []card.State{at(1, 1, 0, 1, 200)}, []card.State{at(1, 1, 0, 1, 200)}},
	} {
		got, bad := card.Join(c.a, c.b)
		want(t, fmt.Sprint(c.a, c.b), got, c.joined, bad, api.OK)
	}
}

func TestJoinOfMany(t *testing.T) {
	l := many(card.MaxStates)
	got, bad := card.Join(l, l)
	want(t, "the same ones", got, l, bad, api.OK)
	got, bad = card.Join(l[:2500], l[2400:])
	want(t, "as many as there can be", got, l, bad, api.OK)
	for _, other := range []card.State{made(card.MaxStates + 1), must(card.New(1, 2))} {
		got, bad = card.Join(l, []card.State{other})
		want(t, "too many", got, nil, bad, api.ErrLarge)
		got, bad = card.Join([]card.State{other}, l)
		want(t, "too many", got, nil, bad, api.ErrLarge)
		got, bad = card.Join(l[1:], []card.State{other})
		want(t, "as many as there can be", len(got), card.MaxStates, bad, api.OK)
	}
}

// P7.7

func TestGradeAt(t *testing.T) {
	l := []card.State{made(1, card.Good, 10), made(2), made(3, card.Again, 11)}
	for at := range l {
		got, bad := card.GradeAt(l, at, card.Easy, 20)
		wanted := append([]card.State{}, l...)
		wanted[at] = must(card.Grade(l[at], card.Easy, 20))
		want(t, fmt.Sprint(at), got, wanted, bad, api.OK)
	}
	for _, c := range []struct {
		at, grade, day int
		bad            api.Errno
	}{
		{-1, 3, 20, api.ErrNone}, {3, 3, 20, api.ErrNone}, {3, 0, -1, api.ErrNone}, {math.MinInt, 3, 20, api.ErrNone}, {math.MaxInt, 3, 20, api.ErrNone},
		{0, 5, -1, api.ErrKind}, {0, 3, -1, api.ErrRange}, {0, 3, api.MaxDay + 1, api.ErrRange}, {0, 3, 9, api.ErrOrder}, {2, 3, 10, api.ErrOrder},
	} {
		got, bad := card.GradeAt(l, c.at, c.grade, c.day)
		want(t, fmt.Sprint(c), got, nil, bad, c.bad)
	}
	wantError(t, "no states", second(card.GradeAt(nil, 0, 3, 20)), api.ErrNone)
}

func TestBury(t *testing.T) {
	l := []card.State{made(1, card.Good, 10), made(2), changed(made(3, card.Again, 11), func(x *card.State) { x.Buried = 50 })}
	for at := range l {
		for _, day := range []int{0, 20, 60, api.MaxDay} {
			got, bad := card.Bury(l, at, day)
			wanted := append([]card.State{}, l...)
			wanted[at].Buried = day
			want(t, fmt.Sprint(at, day), got, wanted, bad, api.OK)
		}
	}
	for _, c := range []struct {
		at, day int
		bad     api.Errno
	}{
		{-1, 20, api.ErrNone}, {3, 20, api.ErrNone}, {3, -1, api.ErrNone}, {math.MinInt, 20, api.ErrNone}, {math.MaxInt, -1, api.ErrNone},
		{0, -1, api.ErrRange}, {2, api.MaxDay + 1, api.ErrRange}, {1, math.MinInt, api.ErrRange}, {1, math.MaxInt, api.ErrRange},
	} {
		got, bad := card.Bury(l, c.at, c.day)
		want(t, fmt.Sprint(c), got, nil, bad, c.bad)
	}
	wantError(t, "no states", second(card.Bury(nil, 0, 20)), api.ErrNone)
}
