package card_test

import (
	"fmt"
	"math"
	"reflect"
	"runtime/debug"
	"slices"
	"strings"
	"sync"
	"testing"
	"time"

	"florilegium/api"
	"florilegium/card"
	"florilegium/tree"
)

// The tests of this file hold the package against the general rules, Z1 to Z9 and Z12.
// (Z4 stands with the errors of each function, Z10 with what is read, Z11 with lists that rise.)

// The numbers of the chapter's face.
func TestConstants(t *testing.T) {
	got := []int{card.MaxStates, card.MaxReviews, card.MaxNumbers, card.MaxStep, card.MinEase, card.MaxEase, card.MaxYear, card.Again, card.Hard, card.Good, card.Easy}
	want(t, "constants", got, []int{5000, 20_000, 20, 3650, 130, 400, 1500, 1, 2, 3, 4}, 0, 0)
}

// A result is what one call returns. Where it has no error, bad is OK.
type result struct {
	name   string
	values []any
	bad    api.Errno
}

// An argument is what the functions are asked.
type argument struct {
	text, written  string
	base           []api.Block
	state          card.State
	block, no      int
	grade, day, at int
	reviews        []card.Review
	states, others []card.State
	cards          []card.Card
	bounds         card.Bounds
	days, lapses   int
	grades         []int
}

func found[T any](name string) func(value T, bad api.Errno) result {
	return func(value T, bad api.Errno) result { return result{name, []any{value}, bad} }
}

func foundTwo[T, U any](name string) func(first T, next U, bad api.Errno) result {
	return func(first T, next U, bad api.Errno) result { return result{name, []any{first, next}, bad} }
}

// callAll calls every function, and gives all results.
func callAll(a argument) []result {
	all := []result{
		{"Cut", []any{card.Cut(a.text)}, api.OK}, found[[]card.Card]("Cards")(card.Cards(a.base)), {"CheckState", nil, card.CheckState(a.state)},
		found[string]("StateText")(card.StateText(a.state)), found[card.State]("ReadState")(card.ReadState(a.written)), found[card.State]("New")(card.New(a.block, a.no)),
		found[card.State]("Grade")(card.Grade(a.state, a.grade, a.day)), found[[]int]("Chances")(card.Chances(a.state, a.day)),
		foundTwo[card.State, int]("Replay")(card.Replay(a.block, a.no, a.reviews)), foundTwo[int, int]("Kept")(card.Kept(a.reviews, a.at, a.day)),
	}
	return append(all, callWithStates(a)...)
}

func callWithStates(a argument) []result {
	return []result{
		{"CheckStates", nil, card.CheckStates(a.states)}, foundTwo[[]card.State, []card.State]("Keep")(card.Keep(a.states, a.cards)), found[[]int]("Due")(card.Due(a.states, a.day)),
		found[[]int]("Today")(card.Today(a.states, a.reviews, a.day, a.bounds)), found[[]card.State]("GradeAt")(card.GradeAt(a.states, a.at, a.grade, a.day)),
		found[[]int]("Loads")(card.Loads(a.states, a.day, a.days)), found[[]int]("Leeches")(card.Leeches(a.states, a.lapses)), found[[]card.State]("Bury")(card.Bury(a.states, a.at, a.day)),
		found[card.Count]("Counts")(card.Counts(a.states, a.day)), found[[]card.State]("Join")(card.Join(a.states, a.others)),
		foundTwo[[]card.State, []int]("Simulate")(card.Simulate(a.states, a.grades, a.day, a.days, a.bounds)),
	}
}

// argument gives arguments of which most are right.
func (d *dice) argument() argument {
	a := argument{
		text: d.text(), base: d.base(6), state: d.state(2, 1), block: 1 + d.next(6), no: 1 + d.next(4), grade: card.Again + d.next(4), day: d.day(), reviews: d.reviews(9),
		states: d.states(9), others: d.states(9), cards: d.cards(9), bounds: card.Bounds{New: d.next(5), All: d.next(9)}, days: d.next(30), lapses: 1 + d.next(4), grades: d.grades(),
	}
	a.written = must(card.StateText(a.state))
	a.at = d.next(len(a.states) + 1)
	return a
}

// wild gives arguments of which some are wrong.
func (d *dice) wild() argument {
	a := d.argument()
	for range 1 + d.next(3) {
		switch d.next(12) {
		case 0:
			a.written = d.spoilt(a.written) + one(d, "", "x", strings.Repeat(" ", 2000))
		case 1:
			a.base = d.wildBase()
		case 2:
			a.state = d.wildState()
		case 3:
			a.block, a.no = d.wildNumber(), d.wildNumber()
		case 4:
			a.grade, a.at, a.lapses = d.wildNumber(), d.wildNumber(), d.wildNumber()
		case 5:
			a.day = d.wildNumber()
		case 6:
			a.reviews = append(a.reviews, card.Review{Block: a.block, No: a.no, Grade: d.wildNumber(), Day: d.wildNumber()})
		case 7:
			a.states = append(a.states, d.wildState())
		case 8:
			a.others = append(a.others, d.wildState())
		case 9:
			a.cards = append(a.cards, card.Card{Block: d.wildNumber(), No: d.wildNumber()})
		case 10:
			a.bounds, a.days = card.Bounds{New: d.wildNumber(), All: d.wildNumber()}, d.wildNumber()
		case 11:
			a.grades = one(d, nil, append(a.grades, d.wildNumber()))
		}
	}
	return a
}

// wildBase gives a base with something wrong in it, or, by chance, a right one.
func (d *dice) wildBase() []api.Block {
	l := d.base(6)
	b := &l[d.next(len(l))]
	switch d.next(5) {
	case 0:
		b.Id = d.wildNumber()
	case 1:
		b.Parent = d.wildNumber()
	case 2:
		b.Kids = append(b.Kids, d.wildNumber())
	case 3:
		b.Text = one(d, "\n", "\x7f", strings.Repeat("x", api.MaxString+1))
	case 4:
		l = l[:d.next(len(l)+1)]
	}
	return l
}

// isNothing asks whether a value is what a result has beside an error.
func isNothing(v any) bool {
	got := reflect.ValueOf(v)
	return got.IsZero() || got.Kind() == reflect.Slice && got.Len() == 0
}

// Z1, Z3, Z9

func TestCallsReturnAndErrorsHaveZeroValues(t *testing.T) {
	var d dice
	wrong := map[string]int{}
	for range 10_000 {
		a := d.wild()
		for _, r := range callAll(a) {
			if r.bad == api.OK {
				continue
			}
			wrong[r.name]++
			for i, v := range r.values {
				// Replay has a position beside an error.
				if !isNothing(v) && (r.name != "Replay" || i == 0) {
					t.Fatalf("%s: %v beside %d", r.name, v, r.bad)
				}
			}
			if r.name == "Cards" && r.bad != tree.Check(a.base) {
				t.Fatal(r.name, r.bad)
			}
		}
		for _, r := range callWithStates(a) {
			if bad := card.CheckStates(a.states); bad != api.OK && r.bad != bad {
				t.Fatal(r.name, r.bad, bad)
			}
		}
	}
	for _, name := range strings.Fields("Cards CheckState StateText ReadState New Grade Chances Replay Kept CheckStates Keep Due Today GradeAt Loads Leeches Bury Counts Join Simulate") {
		if wrong[name] < 100 {
			t.Error(name, wrong[name])
		}
	}
}

// Values that are nested deeper than calls could go if each had a frame.
func TestDeepValues(t *testing.T) {
	defer debug.SetMaxStack(debug.SetMaxStack(1 << 24))
	inner := api.Value{Kind: api.String}
	for range 400_000 {
		inner = api.Value{Kind: api.List, Items: []api.Value{inner}}
	}
	l := []api.Block{{Kids: []int{1}}, {Id: 1, Props: []api.Prop{{Name: "a", Value: inner}}}}
	wantError(t, "Cards", second(card.Cards(l)), api.ErrKind)
}

func TestLongArguments(t *testing.T) {
	begin := time.Now()
	const length = 1 << 22
	for s, count := range map[string]int{":": 2, "{": 0, "}": 0, "{{": 0, "{{a": 0, "{{}}": 0, "{a}": 0, "{{a}": 0, "{{a}}": 20, " ": 0, " ::": 1, ":: ": 1, ": ": 0, "a": 0, "{{{a}}}": 20, "|": 0} {
		want(t, s, len(card.Cut(strings.Repeat(s, length/len(s)))), count, 0, 0)
	}
	want(t, "sides", len(card.Cut(strings.Repeat(" ", length)+"a ::: b"+strings.Repeat(" ", length))), 2, 0, 0)
	want(t, "no side", len(card.Cut("a ::"+strings.Repeat(" ", length))), 0, 0, 0)
	wantError(t, "ReadState", second(card.ReadState(strings.Repeat("1 ", length))), api.ErrLarge)
	wantError(t, "CheckStates", card.CheckStates(make([]card.State, length)), api.ErrLarge)
	wantError(t, "Replay", third(card.Replay(1, 1, make([]card.Review, length))), api.ErrLarge)
	wantError(t, "Kept", third(card.Kept(make([]card.Review, length), 0, 0)), api.ErrLarge)
	wantError(t, "Keep", third(card.Keep(nil, make([]card.Card, length))), api.ErrLarge)
	wantError(t, "Simulate", third(card.Simulate(nil, make([]int, length), 0, 0, card.Bounds{})), api.ErrLarge)
	if took := time.Since(begin); took > 20*time.Second {
		t.Error(took)
	}
}

// Z6

func TestGreatBases(t *testing.T) {
	l := []api.Block{{}}
	text := strings.Repeat("{{a}}", api.MaxString/5)
	for page := 1; page < api.MaxBlocks; page += tree.MaxKids {
		l[0].Kids = append(l[0].Kids, page)
		l = append(l, api.Block{Id: page, Text: text})
		for id := page + 1; id < min(api.MaxBlocks, page+tree.MaxKids); id++ {
			l[page].Kids = append(l[page].Kids, id)
			l = append(l, api.Block{Id: id, Parent: page, Text: text})
		}
	}
	got, bad := card.Cards(l)
	want(t, "Cards", len(got), (len(l)-1-len(l[0].Kids))*card.MaxNumbers, bad, api.OK)
}

func TestGreatLists(t *testing.T) {
	begin := time.Now()
	var d dice
	l := many(card.MaxStates)
	for i := range l {
		l[i] = d.state(i+1, 1)
		if l[i].Due > 9 {
			l[i].Due, l[i].Last, l[i].Buried = 9, d.next(9), -1
		}
	}
	got, counts, bad := card.Simulate(l, []int{card.Easy, card.Again, card.Good}, 20, card.MaxYear, card.Bounds{New: 13, All: 13})
	want(t, "Simulate", len(got), len(l), bad, api.OK)
	want(t, "Simulate", counts, slices.Repeat([]int{13}, card.MaxYear), bad, api.OK)
	for range 100 {
		due, bad := card.Due(l, api.MaxDay)
		count, _ := card.Counts(l, api.MaxDay)
		want(t, "Due", len(due), count.Due, bad, api.OK)
	}
	if took := time.Since(begin); took > time.Minute {
		t.Error(took)
	}
}

// Z2

// A memory is that of a list, up to its capacity.
type memory struct {
	from, to uintptr
	what     string
}

// memoryOf gives the memory of all lists in something.
func memoryOf(what string, v reflect.Value) []memory {
	var all []memory
	switch v.Kind() {
	case reflect.Struct:
		for i := range v.NumField() {
			all = append(all, memoryOf(what+"."+v.Type().Field(i).Name, v.Field(i))...)
		}
	case reflect.Slice:
		if size := uintptr(v.Cap()) * v.Type().Elem().Size(); size > 0 {
			all = append(all, memory{v.Pointer(), v.Pointer() + size, what})
		}
		for i := range v.Len() {
			all = append(all, memoryOf(fmt.Sprintf("%s[%d]", what, i), v.Index(i))...)
		}
	}
	return all
}

// shared tells which two of some lists share memory.
func shared(all []memory) string {
	slices.SortFunc(all, func(a, b memory) int { return int(int64(a.from) - int64(b.from)) })
	for i := 1; i < len(all); i++ {
		if all[i].from < all[i-1].to {
			return all[i-1].what + " and " + all[i].what
		}
	}
	return ""
}

// roomy gives a list with room behind its end. What is there is not zero.
func roomy[T any](l []T, rubbish T) []T {
	return append(append(make([]T, 0, len(l)+3), l...), rubbish, rubbish, rubbish)[:len(l)]
}

// roomyArgument gives arguments whose lists have room, the empty ones too.
func roomyArgument(a argument) argument {
	x := made(7, card.Good, 5)
	a.states, a.others, a.cards, a.grades = roomy(a.states, x), roomy(a.others, x), roomy(a.cards, card.Card{Block: 7, No: 1}), roomy(a.grades, card.Again)
	a.reviews, a.base = roomy(a.reviews, card.Review{Block: 1, No: 1, Grade: card.Good, Day: 5}), roomy(a.base, api.Block{Id: 77, Parent: 1, Text: "a :: b"})
	for i := range a.base {
		a.base[i].Kids = roomy(a.base[i].Kids, 77)
	}
	return a
}

// thinArgument gives arguments of which the empty lists are nil.
func thinArgument(a argument) argument {
	a.states, a.others, a.cards, a.grades = thin(a.states), thin(a.others), thin(a.cards), thin(a.grades)
	a.reviews, a.base = thin(a.reviews), thin(a.base)
	for i := range a.base {
		a.base[i].Kids = thin(a.base[i].Kids)
	}
	return a
}

func thin[T any](l []T) []T {
	return append([]T(nil), l...)
}

// full gives what lists are up to their capacities.
func full(v reflect.Value) string {
	switch v.Kind() {
	case reflect.Slice:
		s := fmt.Sprint(v.Len(), "[")
		for i := range v.Cap() {
			s += full(v.Slice(0, v.Cap()).Index(i)) + " "
		}
		return s + "]"
	case reflect.Struct:
		s := "{"
		for i := range v.NumField() {
			s += full(v.Field(i)) + " "
		}
		return s + "}"
	}
	return fmt.Sprint(v)
}

func TestArgumentsStayAndResultsAreNew(t *testing.T) {
	var d dice
	for range 1000 {
		a := roomyArgument(one(&d, d.argument(), d.wild()))
		given := reflect.ValueOf(a)
		before := full(given)
		memories := memoryOf("arguments", given)
		for _, r := range callAll(a) {
			for i, v := range r.values {
				memories = append(memories, memoryOf(fmt.Sprint(r.name, " ", i), reflect.ValueOf(v))...)
			}
		}
		if full(given) != before {
			t.Fatal("an argument has changed: ", before)
		}
		if names := shared(memories); names != "" {
			t.Fatal(names, " share memory")
		}
	}
}

// Z5

func TestEmptyAndNilAreTheSame(t *testing.T) {
	var d dice
	for range 1000 {
		a := one(&d, d.argument(), d.wild())
		all, again := callAll(thinArgument(a)), callAll(roomyArgument(a))
		for i, r := range all {
			if x, y := fmt.Sprint(r), fmt.Sprint(again[i]); x != y {
				t.Fatalf("%s and %s", x, y)
			}
		}
	}
}

// Z7, and Z2: a call depends on its arguments alone

func TestSameArgumentsGiveSameResults(t *testing.T) {
	run := func() [][]result {
		var d dice
		var all [][]result
		for range 500 {
			all = append(all, callAll(d.argument()))
		}
		return all
	}
	want := run()
	got := make([][][]result, 4)
	var group sync.WaitGroup
	for i := range got {
		group.Go(func() { got[i] = run() })
	}
	group.Wait()
	for i := range got {
		if !reflect.DeepEqual(got[i], want) {
			t.Error("results differ")
		}
	}
}

// Z9

func TestGreatNumbers(t *testing.T) {
	right := made(1, card.Good, 10)
	for _, n := range []int{math.MinInt, math.MinInt + 1, math.MaxInt - 1, math.MaxInt} {
		for name, change := range map[string]func(x *card.State){
			"Block": func(x *card.State) { x.Block = n }, "No": func(x *card.State) { x.No = n }, "Step": func(x *card.State) { x.Step = n }, "Ease": func(x *card.State) { x.Ease = n },
			"Due": func(x *card.State) { x.Due = n }, "Last": func(x *card.State) { x.Last = n }, "Times": func(x *card.State) { x.Times = n }, "Lapses": func(x *card.State) { x.Lapses = n }, "Buried": func(x *card.State) { x.Buried = n },
		} {
			wantError(t, fmt.Sprint(name, n), card.CheckState(changed(right, change)), api.ErrRange)
		}
		for _, other := range []int{math.MinInt, -1, 0, math.MaxInt} {
			wantError(t, "Loads", second(card.Loads(nil, n, other)), api.ErrRange)
			wantError(t, "Loads", second(card.Loads(nil, other, n)), api.ErrRange)
			wantError(t, "Simulate", third(card.Simulate(nil, []int{1}, n, other, card.Bounds{})), api.ErrRange)
			wantError(t, "Simulate", third(card.Simulate(nil, []int{1}, other, n, card.Bounds{})), api.ErrRange)
			wantError(t, "Today", second(card.Today(nil, nil, 0, card.Bounds{New: n, All: other})), api.ErrRange)
			wantError(t, "Today", second(card.Today(nil, nil, 0, card.Bounds{New: other, All: n})), api.ErrRange)
		}
	}
}

// Z12: each quotient of P7.4 is rounded down by itself, from the whole product.
func TestQuotients(t *testing.T) {
	for _, c := range []struct{ step, ease, hard, good, easy int }{{9, 130, 10, 11, 15}, {14, 199, 16, 27, 36}, {19, 155, 22, 29, 38}, {24, 249, 28, 59, 77}, {29, 333, 34, 96, 125}} {
		x := card.State{Block: 1, No: 1, Step: c.step, Ease: c.ease, Due: c.step, Times: 1, Buried: -1}
		got, bad := card.Chances(x, c.step)
		want(t, fmt.Sprint(c), got, []int{c.step + 1, c.step + c.hard, c.step + c.good, c.step + c.easy}, bad, api.OK)
	}
}
