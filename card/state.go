package card

import (
	"strconv"
	"strings"

	"florilegium/api"
)

// never stands in the place of a day where there is none.
const never = -1

// A cardId says which card it is.
type cardId struct{ block, no int }

func (id cardId) isRight() bool {
	return isFrom(id.block, 1, api.MaxId) && isFrom(id.no, 1, MaxNumbers)
}

func (c Card) id() cardId   { return cardId{c.Block, c.No} }
func (x State) id() cardId  { return cardId{x.Block, x.No} }
func (r Review) id() cardId { return cardId{r.Block, r.No} }

// wasAsked asks whether a card was asked at least once.
func (x State) wasAsked() bool {
	return x.Times > 0
}

// isFrom asks whether a number is from one to another one.
func isFrom(n, least, most int) bool {
	return least <= n && n <= most
}

func isDay(n int) bool {
	return isFrom(n, 0, api.MaxDay)
}

// CheckState says whether a state is right.
func CheckState(x State) api.Errno {
	if !x.isInRange() {
		return api.ErrRange
	}
	if !x.isOfForm() {
		return api.ErrForm
	}
	return api.OK
}

// isInRange asks whether each number of a state is within its bounds.
func (x State) isInRange() bool {
	for _, day := range [...]int{x.Due, x.Last, x.Buried} {
		if day != never && !isDay(day) {
			return false
		}
	}
	return x.id().isRight() && isFrom(x.Step, 0, MaxStep) && isFrom(x.Ease, MinEase, MaxEase) &&
		isFrom(x.Times, 0, MaxReviews) && isFrom(x.Lapses, 0, MaxReviews)
}

// isOfForm asks whether the numbers of a state go together.
func (x State) isOfForm() bool {
	if !x.wasAsked() {
		unasked := fresh(x.id())
		unasked.Ease, unasked.Buried = x.Ease, x.Buried
		return x == unasked
	}
	return x.Last != never && x.Due >= x.Last && x.Lapses <= x.Times
}

// New gives the state of a card that was never asked.
func New(block, no int) (State, api.Errno) {
	x := fresh(cardId{block, no})
	if bad := CheckState(x); bad != api.OK {
		return State{}, bad
	}
	return x, api.OK
}

// fresh is New also for what is no card.
func fresh(id cardId) State {
	return State{Block: id.block, No: id.no, Ease: 250, Due: never, Last: never, Buried: never}
}

// fieldsOf gives the numbers of a state in the order in which its string has them.
func fieldsOf(x *State) [9]*int {
	return [9]*int{&x.Block, &x.No, &x.Step, &x.Ease, &x.Due, &x.Last, &x.Times, &x.Lapses, &x.Buried}
}

// StateText writes a state.
func StateText(x State) (string, api.Errno) {
	if bad := CheckState(x); bad != api.OK {
		return "", bad
	}
	var words []string
	for _, field := range fieldsOf(&x) {
		words = append(words, strconv.Itoa(*field))
	}
	return strings.Join(words, " "), api.OK
}

// ReadState reads what StateText writes.
func ReadState(s string) (State, api.Errno) {
	if len(s) > api.MaxString {
		return State{}, api.ErrLarge
	}
	x, ok := parseState(s)
	if !ok {
		return State{}, api.ErrSyntax
	}
	if bad := CheckState(x); bad != api.OK {
		return State{}, bad
	}
	return x, api.OK
}

// parseState gives the state of whose form s is, right or not.
func parseState(s string) (State, bool) {
	var x State
	words, fields := strings.Split(s, " "), fieldsOf(&x)
	if len(words) != len(fields) {
		return State{}, false
	}
	for i, word := range words {
		number, ok := numberOf(word)
		if !ok {
			return State{}, false
		}
		*fields[i] = number
	}
	return x, true
}

// numberOf gives the number that a word is, if it has at most 9 digits.
func numberOf(word string) (int, bool) {
	if len(strings.TrimPrefix(word, "-")) > 9 {
		return 0, false
	}
	number, _ := strconv.Atoi(word)
	return number, strconv.Itoa(number) == word
}
