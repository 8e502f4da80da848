package day_test

import (
	"fmt"
	"regexp"
	"slices"
	"strconv"
	"strings"
	"testing"
	"time"

	"florilegium/api"
	"florilegium/day"
	"florilegium/prop"
)

// The tests of this file hold the package against slow models, on many generated
// rules, bases and strings. The calendar is that of Go's library.

// A date is a day as the calendar has it.
type date struct {
	year, month, date, length int
}

// calendar has the date of each day.
func calendar() []date {
	var all []date
	at := time.Date(2001, 1, 1, 0, 0, 0, 0, time.UTC)
	for range api.MaxDay + 1 {
		length := time.Date(at.Year(), at.Month()+1, 0, 0, 0, 0, 0, time.UTC).Day()
		all = append(all, date{at.Year(), int(at.Month()), at.Day(), length})
		at = at.AddDate(0, 0, 1)
	}
	return all
}

// isCandidate asks whether a day from From on is a candidate of a rule, if it counts or not.
func isCandidate(all []date, r day.Rule, at int) bool {
	begin, now := all[r.From], all[at]
	weekday := at % 7
	switch r.Unit {
	case day.Days:
		return (at-r.From)%r.Every == 0
	case day.Weeks:
		if (at/7-r.From/7)%r.Every != 0 {
			return false
		}
		return slices.Contains(r.Weekdays, weekday) || len(r.Weekdays) == 0 && weekday == r.From%7
	case day.Months:
		if ((now.year-begin.year)*12+now.month-begin.month)%r.Every != 0 {
			return false
		}
		switch {
		case len(r.Dates) > 0:
			return slices.Contains(r.Dates, now.date) || slices.Contains(r.Dates, now.date-now.length-1)
		case len(r.Weekdays) > 0:
			nth, fromEnd := (now.date+6)/7, (now.length-now.date)/7+1
			return slices.Contains(r.Weekdays, weekday) && (r.Nth == nth || r.Nth == -fromEnd)
		}
		return now.date == begin.date
	}
	return (now.year-begin.year)%r.Every == 0 && now.month == begin.month && now.date == begin.date
}

// modelDays gives all days on which a rule occurs.
func modelDays(all []date, r day.Rule) []int {
	var days []int
	count := 0
	for at := r.From; at <= api.MaxDay && (r.Until == -1 || at <= r.Until) && (r.Count == 0 || count < r.Count); at++ {
		if isCandidate(all, r, at) {
			count++
			if !slices.Contains(r.Skip, at) {
				days = append(days, at)
			}
		}
	}
	return days
}

func TestOccurrencesAgainstModel(t *testing.T) {
	var d dice
	all := calendar()
	for range 700 {
		r := d.rule()
		days := modelDays(all, r)
		name := fmt.Sprint(r)
		for range 12 {
			at := one(&d, d.day(), max(0, r.From-2+d.next(5)))
			if len(days) > 0 && d.next(3) > 0 {
				at = one(&d, days...) + d.next(3) - 1
			}
			at = min(api.MaxDay, max(0, at))
			from, found := slices.BinarySearch(days, at)
			after := from
			if found {
				after++
			}
			occurs, bad := day.Occurs(r, at)
			want(t, fmt.Sprint("Occurs ", name, at), occurs, found, bad, api.OK)
			number, bad := day.Number(r, at)
			want(t, fmt.Sprint("Number ", name, at), number, after, bad, api.OK)
			wantNext(t, fmt.Sprint("Next ", name, at), days, after)(day.Next(r, at))
			wantNext(t, fmt.Sprint("Before ", name, at), days, from-1)(day.Before(r, at))
			to := min(api.MaxDay, at+one(&d, d.next(10), d.next(day.MaxSpan+1)))
			end, _ := slices.BinarySearch(days, to+1)
			between, bad := day.Between(r, at, to)
			want(t, fmt.Sprint("Between ", name, at, to), between, days[from:end], bad, api.OK)
		}
		if t.Failed() {
			t.FailNow()
		}
	}
}

// wantNext wants the day with a number, or ErrNone, if there is none.
func wantNext(t *testing.T, name string, days []int, number int) func(got int, bad api.Errno) {
	return func(got int, bad api.Errno) {
		t.Helper()
		if number < 0 || number >= len(days) {
			want(t, name, got, 0, bad, api.ErrNone)
		} else {
			want(t, name, got, days[number], bad, api.OK)
		}
	}
}

func TestGridAgainstModel(t *testing.T) {
	all := calendar()
	months := map[[2]int][][]int{}
	for at, now := range all {
		weeks := months[[2]int{now.year, now.month}]
		if now.date == 1 || at%7 == 0 {
			weeks = append(weeks, []int{-1, -1, -1, -1, -1, -1, -1})
		}
		weeks[len(weeks)-1][at%7] = at
		months[[2]int{now.year, now.month}] = weeks
	}
	delete(months, [2]int{2274, 10}) // it goes on after the last day
	for year := 1999; year < 2280; year++ {
		for month := -1; month < 15; month++ {
			weeks := months[[2]int{year, month}]
			wantedBad := api.OK
			if weeks == nil {
				wantedBad = api.ErrRange
			}
			got, bad := day.Grid(year, month)
			want(t, fmt.Sprint(year, month), got, weeks, bad, wantedBad)
		}
	}
}

func TestStreakAgainstModel(t *testing.T) {
	var d dice
	for range 3000 {
		var days []int
		for range d.next(30) {
			days = append(days, one(&d, d.next(20), api.MaxDay-d.next(20)))
		}
		at := one(&d, d.next(22), api.MaxDay-d.next(20))
		n := 0
		for at := at; slices.Contains(days, at); at-- {
			n++
		}
		if n == 0 {
			for at := at - 1; slices.Contains(days, at); at-- {
				n++
			}
		}
		got, bad := day.Streak(days, at)
		want(t, fmt.Sprint(days, at), got, n, bad, api.OK)
	}
}

// modelCheck looks for each error by itself, in order.
func modelCheck(r day.Rule) api.Errno {
	within := func(n, least, most int) bool { return least <= n && n <= most }
	if !within(r.Unit, 1, 4) {
		return api.ErrKind
	}
	if !within(r.Every, 1, 1000) || !within(r.From, 0, api.MaxDay) || !within(r.Until, -1, api.MaxDay) || !within(r.Count, 0, 5000) {
		return api.ErrRange
	}
	weekdays, dates := len(r.Weekdays) > 0, len(r.Dates) > 0
	switch r.Unit {
	case day.Days, day.Years:
		if weekdays || dates || r.Nth != 0 {
			return api.ErrForm
		}
	case day.Weeks:
		if dates || r.Nth != 0 {
			return api.ErrForm
		}
	case day.Months:
		if weekdays && (dates || r.Nth == 0) || !weekdays && r.Nth != 0 {
			return api.ErrForm
		}
	}
	for list, l := range [][]int{r.Weekdays, r.Dates, r.Skip} {
		least, most := []int{0, -31, 0}[list], []int{6, 31, api.MaxDay}[list]
		if list == 2 && !within(r.Nth, -5, 5) {
			return api.ErrRange
		}
		if list == 2 && len(l) > 100 {
			return api.ErrLarge
		}
		for i, n := range l {
			if !within(n, least, most) || list == 1 && n == 0 {
				return api.ErrRange
			}
			if i > 0 && l[i-1] >= n {
				return api.ErrOrder
			}
		}
	}
	return api.OK
}

func TestCheckRuleAgainstModel(t *testing.T) {
	var d dice
	seen := map[api.Errno]int{}
	for range 20000 {
		r := d.wildRule()
		wanted := modelCheck(r)
		seen[wanted]++
		if got := day.CheckRule(r); got != wanted {
			t.Fatalf("%v: %d, want %d", r, got, wanted)
		}
	}
	for _, bad := range []api.Errno{api.OK, api.ErrKind, api.ErrRange, api.ErrForm, api.ErrOrder, api.ErrLarge} {
		if seen[bad] < 100 {
			t.Errorf("error %d: %d times", bad, seen[bad])
		}
	}
}

// The forms of the words in a rule's string, and its own.
const (
	numberForm  = `(?:0|-?[1-9][0-9]{0,8})`
	dateForm    = `[0-9]{4}-[0-9]{2}-[0-9]{2}`
	weekdayForm = `(?:mon|tue|wed|thu|fri|sat|sun)`
)

var ruleForm = wholeForm(`every (` + numberForm + `) (day|week|month|year)(s?) from (` + dateForm + `)(?: until (` + dateForm + `))?(?: times (` + numberForm + `))?` +
	`(?: on (?:(` + numberForm + `)th )?(` + weekdayForm + `(?: ` + weekdayForm + `)*))?(?: dates (` + numberForm + `(?: ` + numberForm + `)*))?(?: skip (` + dateForm + `(?: ` + dateForm + `)*))?`)

// wholeForm is a form of all of a string.
func wholeForm(form string) *regexp.Regexp {
	return regexp.MustCompile(`\A(?:` + form + `)\z`)
}

// modelRead reads the string of a rule, right or not.
func modelRead(s string) (day.Rule, bool) {
	found := ruleForm.FindStringSubmatch(s)
	if found == nil || (found[1] == "1") == (found[3] == "s") || found[6] == "0" || found[7] == "0" {
		return day.Rule{}, false
	}
	ok := true
	dayOf := func(word string) int {
		at, err := time.Parse(time.DateOnly, word)
		n := int(at.Sub(time.Date(2001, 1, 1, 0, 0, 0, 0, time.UTC)).Hours() / 24)
		ok = ok && err == nil && 0 <= n && n <= api.MaxDay
		return n
	}
	all := func(words string, of func(word string) int) []int {
		var l []int
		for _, word := range strings.Fields(words) {
			l = append(l, of(word))
		}
		return l
	}
	numberOf := func(word string) int { n, _ := strconv.Atoi(word); return n }
	indexOf := func(word string) int { return strings.Index("montuewedthufrisatsun", word) / 3 }
	r := day.Rule{Unit: map[string]int{"day": 1, "week": 2, "month": 3, "year": 4}[found[2]], Every: numberOf(found[1]), From: dayOf(found[4]), Until: -1, Count: numberOf(found[6]), Nth: numberOf(found[7])}
	if found[5] != "" {
		r.Until = dayOf(found[5])
	}
	r.Weekdays, r.Dates, r.Skip = all(found[8], indexOf), all(found[9], numberOf), all(found[10], dayOf)
	return r, ok
}

func TestReadRuleAgainstModel(t *testing.T) {
	var d dice
	seen := map[api.Errno]int{}
	for range 30000 {
		r := d.rule()
		s := must(day.RuleText(r))
		read, bad := day.ReadRule(s)
		want(t, s, read, r, bad, api.OK)
		s = d.spoilt(s)
		wanted, ok := modelRead(s)
		wantedBad := api.ErrSyntax
		if ok {
			wantedBad = modelCheck(wanted)
		}
		if wantedBad != api.OK {
			wanted = day.Rule{}
		}
		seen[wantedBad]++
		read, bad = day.ReadRule(s)
		want(t, fmt.Sprintf("%q", s), read, wanted, bad, wantedBad)
		if bad == api.OK {
			want(t, s, must(day.RuleText(read)), s, 0, 0)
		}
		if t.Failed() {
			t.FailNow()
		}
	}
	for _, bad := range []api.Errno{api.OK, api.ErrSyntax, api.ErrRange, api.ErrForm, api.ErrOrder} {
		if seen[bad] < 20 {
			t.Errorf("error %d: %d times", bad, seen[bad])
		}
	}
}

// modelTask gives the task that a block is.
func modelTask(b api.Block) (day.Task, bool) {
	task := day.Task{Block: b.Id, Due: -1, Last: -1}
	for _, p := range b.Props {
		switch v := p.Value; fmt.Sprint(p.Name, v.Kind) {
		case "task3":
			task.State = map[string]int{"todo": 1, "doing": 2, "done": 3, "dropped": 4}[v.Text]
		case "due4":
			task.Due = v.Int
		case "last4":
			task.Last = v.Int
		case "repeat3":
			r, ok := modelRead(v.Text)
			if ok && modelCheck(r) == api.OK {
				task.Repeats, task.Rule = true, r
			}
		}
	}
	return task, task.State > 0
}

// modelChange gives the properties of a task after a change.
func modelChange(all []date, name string, b api.Block, at int) ([]api.Prop, api.Errno) {
	task, is := modelTask(b)
	if open := task.State == day.Todo || task.State == day.Doing; !is || open == (name == "Reopen") {
		return nil, api.ErrState
	}
	put := map[string]api.Value{}
	state := map[string]string{"Start": "doing", "Do": "done", "Skip": "dropped", "Reopen": "todo"}[name]
	if name == "Do" {
		if at < 0 || at > api.MaxDay {
			return nil, api.ErrRange
		}
		put["last"] = api.Value{Kind: api.Date, Int: at}
	}
	if (name == "Do" || name == "Skip") && task.Repeats && task.Due >= 0 {
		days := modelDays(all, task.Rule)
		if i := slices.IndexFunc(days, func(day int) bool { return day > task.Due }); i >= 0 {
			state, put["due"] = "todo", api.Value{Kind: api.Date, Int: days[i]}
		}
	}
	put["task"] = api.Value{Kind: api.String, Text: state}
	var l []api.Prop
	for _, p := range b.Props {
		if put[p.Name].Kind == api.None {
			l = append(l, p)
		}
	}
	for name, v := range put {
		l = append(l, api.Prop{Name: name, Value: v})
	}
	slices.SortFunc(l, func(a, b api.Prop) int { return strings.Compare(a.Name, b.Name) })
	if len(l) > api.MaxProps {
		return nil, api.ErrLarge
	}
	return l, api.OK
}

func TestTasksAgainstModel(t *testing.T) {
	var d dice
	all := calendar()
	seen := map[api.Errno]int{}
	for range 400 {
		l := d.base(9)
		var tasks []day.Task
		for _, b := range l {
			if task, is := modelTask(b); is {
				tasks = append(tasks, task)
			}
			at := one(&d, d.day(), d.day(), d.day(), -1, api.MaxDay+1)
			for name, change := range changes(l, b.Id, at) {
				wanted, wantedBad := modelChange(all, name, b, at)
				got, bad := change()
				want(t, fmt.Sprint(name, b, at), got, wanted, bad, wantedBad)
				seen[bad]++
			}
		}
		got, bad := day.Tasks(l)
		want(t, fmt.Sprint("Tasks", l), got, tasks, bad, api.OK)
		if t.Failed() {
			t.FailNow()
		}
	}
	for _, bad := range []api.Errno{api.OK, api.ErrState, api.ErrRange, api.ErrLarge} {
		if seen[bad] < 20 {
			t.Errorf("error %d: %d times", bad, seen[bad])
		}
	}
}

func TestAgendaAndLateAgainstModel(t *testing.T) {
	var d dice
	all := calendar()
	for range 500 {
		l := d.base(12)
		from := d.day()
		to := min(api.MaxDay, from+one(&d, d.next(10), d.next(400)))
		var entries []day.Entry
		late := map[int][]int{}
		for _, b := range l {
			task, is := modelTask(b)
			if !is || task.State > day.Doing || task.Due < 0 {
				continue
			}
			late[task.Due] = append(late[task.Due], b.Id)
			days := []int{task.Due}
			if task.Repeats {
				days = append(days, slices.DeleteFunc(modelDays(all, task.Rule), func(day int) bool { return day <= task.Due })...)
			}
			if task.Due < from {
				entries = append(entries, day.Entry{Day: from, Block: b.Id, Late: true})
			}
			for _, at := range days {
				if from <= at && at <= to {
					entries = append(entries, day.Entry{Day: at, Block: b.Id})
				}
			}
		}
		slices.SortFunc(entries, func(a, b day.Entry) int {
			if a.Day == b.Day && a.Late != b.Late {
				return map[bool]int{true: -1, false: 1}[a.Late]
			}
			return slices.Compare([]int{a.Day, a.Block}, []int{b.Day, b.Block})
		})
		got, bad := day.Agenda(l, from, to)
		want(t, fmt.Sprint("Agenda", l, from, to), got, entries, bad, api.OK)
		var wanted []int
		for at := range from {
			wanted = append(wanted, late[at]...)
		}
		blocks, bad := day.Late(l, from)
		want(t, fmt.Sprint("Late", l, from), blocks, wanted, bad, api.OK)
	}
}

func TestDailiesAgainstModel(t *testing.T) {
	var d dice
	found := 0
	for range 500 {
		l := d.base(40)
		pages := map[int]int{}
		var days []int
		for _, b := range l {
			at, err := time.Parse(time.DateOnly, b.Text)
			if err != nil || b.Parent != 0 {
				continue
			}
			n := int(at.Sub(time.Date(2001, 1, 1, 0, 0, 0, 0, time.UTC)).Hours() / 24)
			if pages[n] == 0 {
				pages[n] = b.Id
				days = append(days, n)
			}
		}
		slices.Sort(days)
		got, bad := day.Dailies(l)
		want(t, fmt.Sprint(l), got, days, bad, api.OK)
		for at, page := range pages {
			got, bad := day.Daily(l, at)
			want(t, fmt.Sprint(l, at), got, page, bad, api.OK)
			found++
		}
	}
	if found < 500 {
		t.Error(found)
	}
}

// The forms of a template's pieces, and what can stand at the end of the beginning of a template.
const (
	braceForm  = `\{\{\{`
	fieldForm  = `\{\{([a-z0-9-]{1,20})(\|([^{}\n]*))?\}\}`
	otherForm  = `\{?[^{]`
	unfinished = `\{\{([a-z0-9-]{1,20}(\|[^{}\n]*)?\}?)?`
)

var nameForm = wholeForm(`[a-z0-9-]{1,20}`)

func TestTemplatesAgainstModel(t *testing.T) {
	var d dice
	pieces := `(?:` + braceForm + `|` + fieldForm + `|` + otherForm + `)*`
	right, begins := wholeForm(pieces+`\{?`), wholeForm(pieces+`(?:\{|`+unfinished+`)?`)
	cut := regexp.MustCompile(braceForm + `|` + fieldForm + `|(?s:.)`)
	seen := map[api.Errno]int{}
	for range 20000 {
		s, values, at := d.template(), d.values(), one(&d, d.day(), 0, api.MaxDay, d.wildNumber())
		wanted, wantedBad := 0, api.OK
		if !right.MatchString(s) {
			wantedBad = api.ErrSyntax
			for wanted < len(s) && begins.MatchString(s[:wanted+1]) {
				wanted++
			}
		}
		got, bad := day.CheckTemplate(s)
		if bad != wantedBad || got != wanted {
			t.Fatalf("%q: %d, %d, want %d, %d", s, got, bad, wanted, wantedBad)
		}
		var names []string
		filled, filledBad := "", wantedBad
		if wantedBad == api.OK {
			known, badValues := modelValues(values, at)
			filledBad = badValues
			for _, part := range cut.FindAllStringSubmatch(s, -1) {
				text, name, other, hasOther := part[0], part[1], part[3], part[2] != ""
				if name != "" {
					names = append(names, name)
					value, has := known[name]
					if !has && !hasOther && filledBad == api.OK {
						filledBad = api.ErrNone
					}
					text = value
					if value == "" {
						text = other
					}
				} else if text == "{{{" {
					text = "{{"
				}
				filled += text
			}
			slices.Sort(names)
		}
		if filledBad != api.OK {
			filled = ""
		}
		fields, bad := day.Fields(s)
		want(t, fmt.Sprintf("Fields %q", s), fields, slices.Compact(names), bad, wantedBad)
		text, bad := day.Fill(s, values, at)
		want(t, fmt.Sprintf("Fill %q %v %d", s, values, at), text, filled, bad, filledBad)
		seen[filledBad]++
		if t.Failed() {
			t.FailNow()
		}
	}
	for _, bad := range []api.Errno{api.OK, api.ErrSyntax, api.ErrRange, api.ErrName, api.ErrTwice, api.ErrNone, api.ErrLarge} {
		if seen[bad] < 20 {
			t.Errorf("error %d: %d times", bad, seen[bad])
		}
	}
}

// modelValues gives the values that names have, or the first error.
func modelValues(values []day.Pair, at int) (map[string]string, api.Errno) {
	known := map[string]string{}
	for _, v := range values {
		if !nameForm.MatchString(v.Name) {
			return nil, api.ErrName
		}
		if _, has := known[v.Name]; has {
			return nil, api.ErrTwice
		}
		if len(v.Value) > api.MaxString {
			return nil, api.ErrLarge
		}
		known[v.Name] = v.Value
	}
	if at < 0 || at > api.MaxDay {
		return nil, api.ErrRange
	}
	now := time.Date(2001, 1, 1+at, 0, 0, 0, 0, time.UTC)
	own := map[string]string{"weekday": strings.ToLower(now.Weekday().String()), "date": now.Format(time.DateOnly)}
	if at > 0 {
		own["yesterday"] = now.AddDate(0, 0, -1).Format(time.DateOnly)
	}
	if at < api.MaxDay {
		own["tomorrow"] = now.AddDate(0, 0, 1).Format(time.DateOnly)
	}
	for name, value := range own {
		if _, has := known[name]; !has {
			known[name] = value
		}
	}
	return known, api.OK
}

func TestTitleAgainstModel(t *testing.T) {
	for at, now := range calendar() {
		title := must(day.Title(at))
		if wanted := fmt.Sprintf("%04d-%02d-%02d", now.year, now.month, now.date); title != wanted || must(prop.ReadDate(title)) != at {
			t.Fatal(at, title, wanted)
		}
	}
}
