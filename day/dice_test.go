package day_test

import (
	"math"
	"slices"
	"strconv"
	"strings"

	"florilegium/api"
	"florilegium/day"
	"florilegium/prop"
)

// dice gives numbers from 0 to below n, always the same ones in a row.
type dice uint32

func (d *dice) next(n int) int {
	*d = *d*1664525 + 1013904223
	return int(uint32(*d)>>8) % n
}

// one gives one of some things.
func one[T any](d *dice, things ...T) T {
	return things[d.next(len(things))]
}

// some gives some numbers from one to another one, rising.
func (d *dice) some(from, to, most int) []int {
	var l []int
	for range d.next(most + 1) {
		l = append(l, from+d.next(to-from+1))
	}
	slices.Sort(l)
	return slices.Compact(l)
}

// day gives a day; many are near the first one, the last one, or march.
func (d *dice) day() int {
	return one(d, d.next(50), d.next(1000), march-200+d.next(400), march+d.next(30), d.next(api.MaxDay+1), api.MaxDay-d.next(400), api.MaxDay-d.next(20))
}

// rule gives a right rule.
func (d *dice) rule() day.Rule {
	r := day.Rule{Unit: 1 + d.next(4), Every: 1 + one(d, 0, 0, d.next(3), d.next(15), d.next(day.MaxEvery)), From: d.day(), Until: -1}
	if d.next(4) == 0 {
		r.Until = one(d, min(api.MaxDay, r.From+d.next(900)), d.day())
	}
	if d.next(3) == 0 {
		r.Count = one(d, d.next(4), d.next(50), d.next(day.MaxDays+1))
	}
	switch {
	case r.Unit == day.Weeks:
		r.Weekdays = d.some(0, 6, 4)
	case r.Unit == day.Months && d.next(2) == 0:
		r.Weekdays = d.some(0, 6, 3)
		if len(r.Weekdays) > 0 {
			r.Nth = one(d, -5, -4, -3, -2, -1, 1, 2, 3, 4, 5)
		}
	case r.Unit == day.Months:
		r.Dates = one(d, d.some(1, 31, 4), d.some(-31, -1, 4), append(d.some(-31, -1, 5), d.some(1, 31, 5)...), []int{-1, 31}, []int{-31, 29})
	}
	if d.next(3) == 0 {
		r.Skip = d.some(r.From, min(api.MaxDay, r.From+one(d, 5, 70, 4000)), one(d, 4, 30, day.MaxSkip))
	}
	return r
}

func (d *dice) wildNumber() int {
	return one(d, math.MinInt, math.MinInt32, -32, -1, 0, 1, 5, 6, 7, 31, 32, 99, 1000, 1001, 5000, 5001, march, api.MaxDay, api.MaxDay+1, math.MaxInt32, math.MaxInt)
}

// wildRule gives a rule in which something may be wrong.
func (d *dice) wildRule() day.Rule {
	r := d.rule()
	for range 1 + d.next(2) {
		switch d.next(9) {
		case 0:
			r.Unit = one(d, d.wildNumber(), 1+d.next(4))
		case 1:
			r.Every = d.wildNumber()
		case 2:
			r.From = d.wildNumber()
		case 3:
			r.Until = d.wildNumber()
		case 4:
			r.Count = d.wildNumber()
		case 5:
			r.Weekdays = append(r.Weekdays, d.wildNumber())
		case 6:
			r.Dates = append(r.Dates, d.wildNumber())
		case 7:
			r.Nth = d.wildNumber()
		case 8:
			r.Skip = append(r.Skip, one(d, rising(march, day.MaxSkip), []int{d.wildNumber(), d.wildNumber()})...)
		}
	}
	return r
}

// spoilt gives a string of words with some of them changed.
func (d *dice) spoilt(s string) string {
	words := strings.Split(s, " ")
	for range d.next(3) {
		at := d.next(len(words))
		switch d.next(5) {
		case 0:
			words[at] = one(d, "every", "1", "2", "day", "days", "week", "months", "years", "from", "until", "times", "on", "dates", "skip", "mon", "fri", "1th", "-5th", "0", "-1", "31",
				"", "999999999", "1000000000", "-0", "01", "2024-03-06", "2024-02-30", "2274-10-18", "9999-99-99", "0th", "th", "x")
		case 1:
			words = slices.Delete(words, at, at+1)
		case 2:
			words = slices.Insert(words, at, words[d.next(len(words))])
		case 3:
			other := one(d, d.next(len(words)), max(at-1, 0))
			words[at], words[other] = words[other], words[at]
		case 4:
			words[at] = d.spoiltWord(words[at])
		}
		if len(words) == 0 {
			return ""
		}
	}
	return strings.Join(words, " ")
}

// spoiltWord gives a word with one byte more or less.
func (d *dice) spoiltWord(word string) string {
	at := d.next(len(word) + 1)
	end := min(len(word), at+d.next(2))
	return word[:at] + one(d, "", "", "0", "1", "-", "s", "t", "h", " ", "\n", "+", "A") + word[end:]
}

// base gives a right base of pages and blocks, of which most are tasks.
func (d *dice) base(most int) []api.Block {
	l := []api.Block{{}}
	id := 0
	for range d.next(most) {
		id += 1 + d.next(2)
		parent := &l[d.next(len(l))]
		b := api.Block{Id: id, Parent: parent.Id, Text: one(d, "", "x", must(day.Title(d.day())), must(day.Title(d.next(9))), "2024-02-30", " 2024-03-06"), Props: d.props()}
		parent.Kids = slices.Insert(parent.Kids, d.next(len(parent.Kids)+1), id)
		l = append(l, b)
	}
	return l
}

// props gives a right list of properties, most often those of a task.
func (d *dice) props() []api.Prop {
	texts := []string{"todo", "doing", "done", "dropped", "", "Todo", must(day.RuleText(d.rule())), must(day.RuleText(d.rule())), d.spoilt(must(day.RuleText(d.rule())))}
	var l []api.Prop
	put := func(name string, v api.Value) {
		if v.Kind != api.None && prop.CheckValue(v) == api.OK {
			l = append(l, api.Prop{Name: name, Value: v})
		}
	}
	put("due", d.value(texts, api.Value{Kind: api.Date, Int: d.day()}))
	if d.next(3) > 0 {
		put("last", d.value(texts, api.Value{Kind: api.Date, Int: d.day()}))
	}
	put("repeat", d.value(texts, api.Value{Kind: api.String, Text: texts[6+d.next(3)]}))
	put("task", d.value(texts, api.Value{Kind: api.String, Text: texts[d.next(4)]}, api.Value{Kind: api.String, Text: texts[d.next(2)]}))
	for range one(d, 0, 0, 0, d.next(9), api.MaxProps-len(l)) {
		put("x"+strconv.Itoa(10+len(l)), api.Value{Kind: api.Number, Int: 1})
	}
	return l
}

// value gives one of some values, or, not so often, any other one.
func (d *dice) value(texts []string, most ...api.Value) api.Value {
	if d.next(4) > 0 {
		return one(d, most...)
	}
	text := one(d, texts...)
	v := api.Value{Kind: d.next(8)}
	switch v.Kind {
	case api.Flag:
		v.Int = d.next(2)
	case api.Number, api.Date:
		v.Int = d.day()
	case api.String, api.Link:
		v.Text = text
	case api.Span:
		v.Int = d.day()
		v.To = v.Int
	case api.List:
		v.Items = []api.Value{{Kind: api.String, Text: text}, {Kind: api.Date, Int: d.day()}}
	}
	return v
}

// template gives a template, or something like one.
func (d *dice) template() string {
	var s strings.Builder
	for range d.next(8) {
		s.WriteString(one(d, "{{", "{{", "{", "{{{", "}}", "}}", "}", "|", "a", "b", "date", "weekday", "tomorrow", "yesterday", "-", "A", " ", "\n", "\xc3", longName,
			"{{a}}", "{{b|x}}", "{{date}}", "{{weekday|}}", "{{yesterday|y}}", "{{tomorrow|t}}", "{{c}}", "{{"+longName+"}}"))
	}
	return s.String()
}

// values gives values for a template; something may be wrong with them.
func (d *dice) values() []day.Pair {
	var l []day.Pair
	for range d.next(5) {
		name := one(d, "a", "b", "c", "d", "date", "weekday", "tomorrow", "yesterday", longName, "e"+strconv.Itoa(d.next(99)))
		value := one(d, "", "", "1", "{{a}}", "{{{", strings.Repeat("v", 99), "\n")
		if d.next(40) == 0 {
			name, value = one(d, "", "A", tooLongName, "a ", "a", "f"), one(d, "", strings.Repeat("v", api.MaxString+1))
		}
		l = append(l, day.Pair{Name: name, Value: value})
	}
	return l
}
