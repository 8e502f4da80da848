package card_test

import (
	"fmt"
	"maps"
	"regexp"
	"slices"
	"strconv"
	"strings"
	"testing"

	"florilegium/api"
	"florilegium/card"
)

// The tests of this file hold the package against slow models, on many generated
// strings, states, lists and bases.

// modelSides goes through all places at which a string could be divided.
func modelSides(s string) []card.Card {
	for i := range s {
		mark := "::"
		if strings.HasPrefix(s[i:], ":::") {
			mark = ":::"
		} else if !strings.HasPrefix(s[i:], "::") {
			continue
		}
		front, back := strings.Trim(s[:i], " "), strings.Trim(s[i+len(mark):], " ")
		if front == "" || back == "" {
			continue
		}
		l := []card.Card{{No: 1, Front: front, Back: back}}
		if mark == ":::" {
			l = append(l, card.Card{No: 2, Front: back, Back: front})
		}
		return l
	}
	return nil
}

var gapForm = regexp.MustCompile(`\{\{([^{}|]*)(\|([^{}]*))?\}\}`)

// modelGaps finds gaps by a regular expression, which also finds empty ones.
func modelGaps(s string) []card.Card {
	var l []card.Card
	total := 0
	for _, gap := range gapForm.FindAllString(s, -1) {
		if gap != "{{}}" {
			total++
		}
	}
	for asked := range min(total, card.MaxNumbers) {
		c, at := card.Card{No: asked + 1}, -1
		c.Front = gapForm.ReplaceAllStringFunc(s, func(gap string) string {
			if gap == "{{}}" {
				return gap
			}
			parts := gapForm.FindStringSubmatch(gap)
			if at++; at != asked {
				return parts[1]
			}
			c.Back = parts[1]
			if parts[2] == "" {
				return "[...]"
			}
			return "[" + parts[3] + "]"
		})
		l = append(l, c)
	}
	return l
}

func modelCut(s string) []card.Card {
	if l := modelSides(s); len(l) > 0 {
		return l
	}
	return modelGaps(s)
}

func TestCutAgainstModel(t *testing.T) {
	var d dice
	for range rounds(t, 50_000) {
		s := d.text()
		want(t, strconv.Quote(s), card.Cut(s), modelCut(s), 0, 0)
	}
	for range rounds(t, 100) {
		s := d.text() + strings.Repeat("{{a|b}} {{}}", d.next(30)) + d.text()
		want(t, strconv.Quote(s), card.Cut(s), modelCut(s), 0, 0)
	}
}

func TestCardsAgainstModel(t *testing.T) {
	var d dice
	for range rounds(t, 2000) {
		l := d.base(9)
		var wanted []card.Card
		for _, b := range l[1:] {
			if slices.Contains(l[0].Kids, b.Id) {
				continue
			}
			for _, c := range modelCut(b.Text) {
				c.Block = b.Id
				wanted = append(wanted, c)
			}
		}
		got, bad := card.Cards(l)
		want(t, fmt.Sprint(l), got, wanted, bad, api.OK)
	}
}

// modelCheck is P7.3, word for word.
func modelCheck(x card.State) api.Errno {
	switch {
	case x.Block < 1, x.Block > api.MaxId, x.No < 1, x.No > card.MaxNumbers, x.Step < 0, x.Step > card.MaxStep, x.Ease < card.MinEase, x.Ease > card.MaxEase,
		x.Due < -1, x.Due > api.MaxDay, x.Last < -1, x.Last > api.MaxDay, x.Buried < -1, x.Buried > api.MaxDay, x.Times < 0, x.Times > card.MaxReviews, x.Lapses < 0, x.Lapses > card.MaxReviews:
		return api.ErrRange
	case x.Due == -1 && x.Last != -1, x.Due != -1 && x.Last == -1, x.Times == 0 && (x.Due != -1 || x.Last != -1), x.Times != 0 && (x.Due == -1 || x.Last == -1),
		x.Times == 0 && x.Step > 0, x.Due < x.Last, x.Lapses > x.Times:
		return api.ErrForm
	}
	return api.OK
}

func TestStatesAgainstModel(t *testing.T) {
	var d dice
	form := regexp.MustCompile(`^((0|-?[1-9][0-9]{0,8})( |$)){9}$`)
	for range rounds(t, 30_000) {
		x := one(&d, d.wildState(), d.state(1, 1))
		name, wanted := fmt.Sprint(x), modelCheck(x)
		wantError(t, name, card.CheckState(x), wanted)
		s := strings.Trim(name, "{}")
		text, bad := card.StateText(x)
		if wanted != api.OK {
			want(t, name, text, "", bad, wanted)
		} else {
			want(t, name, text, s, bad, wanted)
		}
		s = d.spoilt(s)
		wantRead(t, s, form.MatchString(s) && !strings.HasSuffix(s, " "))
	}
}

// wantRead wants the state that a string is, or its error.
func wantRead(t *testing.T, s string, isOfForm bool) {
	t.Helper()
	var wanted card.State
	wantedBad := api.ErrSyntax
	if isOfForm {
		wanted = words(t, s)
		wantedBad = modelCheck(wanted)
	}
	if wantedBad != api.OK {
		wanted = card.State{}
	}
	got, bad := card.ReadState(s)
	want(t, s, got, wanted, bad, wantedBad)
}

// most gives the greatest whole number of which so many are at most another number.
func most(times, bound int) int {
	n := 0
	for (n+1)*times <= bound {
		n++
	}
	return n
}

// modelGrade is P7.4, grade by grade.
func modelGrade(x card.State, grade, day int) card.State {
	after := x
	days := day - x.Last
	if days > x.Step+30 {
		days = x.Step + 30
	}
	if days < x.Step {
		days = x.Step
	}
	hard := max(x.Step+1, most(10, 12*days))
	good := max(hard+1, most(100, x.Ease*days))
	easy := max(good+1, most(1000, 13*x.Ease*days))
	if x.Step == 0 {
		hard, good, easy = 1, 2, 4
	}
	switch grade {
	case card.Again:
		after.Step, after.Ease, after.Due = 0, x.Ease-20, day+1
		if x.Step > 0 {
			after.Lapses++
		}
	case card.Hard:
		after.Step, after.Ease = hard, x.Ease-15
	case card.Good:
		after.Step = good
	case card.Easy:
		after.Step, after.Ease = easy, x.Ease+15
	}
	if after.Step > card.MaxStep {
		after.Step = card.MaxStep
	}
	if grade != card.Again {
		after.Due = day + after.Step
	}
	after.Ease = min(card.MaxEase, max(card.MinEase, after.Ease))
	after.Due, after.Last, after.Buried = min(api.MaxDay, after.Due), day, -1
	after.Times, after.Lapses = min(card.MaxReviews, x.Times+1), min(card.MaxReviews, after.Lapses)
	return after
}

func TestGradesAgainstModel(t *testing.T) {
	var d dice
	for range rounds(t, 30_000) {
		x := d.state(1, 1)
		day := min(api.MaxDay, max(0, x.Last)+one(&d, d.next(10), d.next(100), max(0, x.Due-x.Last), x.Step+28+d.next(5)))
		name := fmt.Sprint(x, day)
		var dues []int
		for grade := card.Again; grade <= card.Easy; grade++ {
			wanted := modelGrade(x, grade, day)
			got, bad := card.Grade(x, grade, day)
			want(t, name, got, wanted, bad, api.OK)
			dues = append(dues, wanted.Due)
		}
		got, bad := card.Chances(x, day)
		want(t, name, got, dues, bad, api.OK)
	}
}

// modelReplay gives the state of a card, and the review that cannot be, if there is one.
func modelReplay(l []card.Review, block, no int) (card.State, int, api.Errno) {
	x := must(card.New(block, no))
	for at, r := range l {
		if r.Block != block || r.No != no {
			continue
		}
		after, bad := card.Grade(x, r.Grade, r.Day)
		if bad != api.OK {
			return card.State{}, at, bad
		}
		x = after
	}
	return x, 0, api.OK
}

func TestReplayAgainstModel(t *testing.T) {
	var d dice
	for range rounds(t, 5000) {
		l := d.reviews(12)
		if d.next(2) == 0 {
			slices.SortStableFunc(l, func(a, b card.Review) int { return a.Day - b.Day })
		}
		wanted, wantedAt, wantedBad := modelReplay(l, 2, 1)
		got, at, bad := card.Replay(2, 1, l)
		want(t, fmt.Sprint(l), got, wanted, bad, wantedBad)
		want(t, fmt.Sprint(l), at, wantedAt, bad, wantedBad)
	}
}

func TestListsAgainstModel(t *testing.T) {
	var d dice
	for range rounds(t, 5000) {
		l, other, cards := d.states(14), d.states(14), d.cards(14)
		name := fmt.Sprint(l, other, cards)
		kept, others, bad := card.Keep(l, cards)
		var wantedKept, wantedOthers []card.State
		for block := 1; block < 9; block++ {
			for no := 1; no < 9; no++ {
				at := slices.IndexFunc(l, func(x card.State) bool { return x.Block == block && x.No == no })
				isThere := slices.ContainsFunc(cards, func(c card.Card) bool { return c.Block == block && c.No == no })
				switch {
				case at >= 0 && isThere:
					wantedKept = append(wantedKept, l[at])
				case at >= 0:
					wantedOthers = append(wantedOthers, l[at])
				case isThere:
					wantedKept = append(wantedKept, must(card.New(block, no)))
				}
			}
		}
		want(t, name, kept, wantedKept, bad, api.OK)
		want(t, name, others, wantedOthers, bad, api.OK)
		joined, bad := card.Join(l, other)
		want(t, name, joined, modelJoin(l, other), bad, api.OK)
		again, bad := card.Join(l, joined)
		want(t, "Join of a Join "+name, again, joined, bad, api.OK)
	}
}

func modelJoin(a, b []card.State) []card.State {
	all := map[int]card.State{}
	for _, x := range a {
		all[x.Block*100+x.No] = x
	}
	for _, x := range b {
		old, has := all[x.Block*100+x.No]
		if !has || x.Last > old.Last || x.Last == old.Last && x.Times > old.Times {
			all[x.Block*100+x.No] = x
		}
	}
	var l []card.State
	for _, key := range slices.Sorted(maps.Keys(all)) {
		l = append(l, all[key])
	}
	return l
}

// modelDue takes the next one, again and again.
func modelDue(l []card.State, day int) []int {
	var due []int
	for {
		next := -1
		for at, x := range l {
			if x.Times == 0 || x.Due > day || x.Buried >= day || slices.Contains(due, at) {
				continue
			}
			if next < 0 || x.Due < l[next].Due || x.Due == l[next].Due && x.Ease < l[next].Ease {
				next = at
			}
		}
		if next < 0 {
			return due
		}
		due = append(due, next)
	}
}

func modelToday(l []card.State, done []card.Review, day int, b card.Bounds) []int {
	for i, r := range done {
		if r.Day != day {
			continue
		}
		b.All--
		if !slices.ContainsFunc(done[:i], func(before card.Review) bool { return before.Block == r.Block && before.No == r.No }) {
			b.New--
		}
	}
	var today []int
	for _, at := range modelDue(l, day) {
		if b.All > 0 {
			today = append(today, at)
			b.All--
		}
	}
	for at, x := range l {
		if x.Times == 0 && x.Buried < day && b.All > 0 && b.New > 0 {
			today = append(today, at)
			b.All--
			b.New--
		}
	}
	return today
}

func TestSessionsAgainstModel(t *testing.T) {
	var d dice
	for range rounds(t, 10_000) {
		l, done, day, b := d.states(14), d.reviews(9), d.day(), card.Bounds{New: d.from(0, 12), All: d.from(0, 14)}
		name := fmt.Sprint(l, done, day, b)
		due, bad := card.Due(l, day)
		want(t, name, due, modelDue(l, day), bad, api.OK)
		today, bad := card.Today(l, done, day, b)
		want(t, name, today, modelToday(l, done, day, b), bad, api.OK)
		count, bad := card.Counts(l, day)
		wantedCount := card.Count{Due: len(due)}
		loads, badLoads := card.Loads(l, day, 1+d.next(30))
		wantedLoads := make([]int, len(loads))
		lapses := 1 + d.next(4)
		leeches, badLeeches := card.Leeches(l, lapses)
		var wantedLeeches []int
		for at, x := range l {
			for _, c := range []struct {
				is bool
				of *int
			}{{x.Times == 0, &wantedCount.New}, {x.Times > 0 && x.Step == 0, &wantedCount.Learning}, {x.Step >= 1 && x.Step <= 20, &wantedCount.Young}, {x.Step > 20, &wantedCount.Old}} {
				if c.is {
					*c.of++
				}
			}
			for i := range wantedLoads {
				if x.Times > 0 && (x.Due == day+i || x.Due < day && i == 0) {
					wantedLoads[i]++
				}
			}
			if x.Lapses >= lapses {
				wantedLeeches = append(wantedLeeches, at)
			}
		}
		want(t, name, count, wantedCount, bad, api.OK)
		want(t, name, loads, wantedLoads, badLoads, api.OK)
		want(t, name, leeches, wantedLeeches, badLeeches, api.OK)
	}
}

// modelSimulate asks Today on each day, with all that was done before.
func modelSimulate(l []card.State, grades []int, from, days int, b card.Bounds) ([]card.State, []int) {
	var done []card.Review
	var counts []int
	for day := from; day < from+days; day++ {
		today := modelToday(l, done, day, b)
		for _, at := range today {
			grade := grades[len(done)%len(grades)]
			done = append(done, card.Review{Block: l[at].Block, No: l[at].No, Grade: grade, Day: day})
			l = must(card.GradeAt(l, at, grade, day))
		}
		counts = append(counts, len(today))
	}
	return l, counts
}

func TestSimulateAgainstModel(t *testing.T) {
	var d dice
	for range rounds(t, 1000) {
		l, grades, days, b := d.states(14), d.grades(), d.next(30), card.Bounds{New: d.next(6), All: d.next(12)}
		from := min(d.day(), api.MaxDay-days)
		name := fmt.Sprint(l, grades, from, days, b)
		wanted, wantedCounts := modelSimulate(l, grades, from, days, b)
		got, counts, bad := card.Simulate(l, grades, from, days, b)
		want(t, name, got, wanted, bad, api.OK)
		want(t, name, counts, wantedCounts, bad, api.OK)
	}
}
