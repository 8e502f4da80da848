package day

import (
	"strconv"
	"strings"

	"florilegium/api"
	"florilegium/prop"
)

// ReadRule reads what RuleText writes.
func ReadRule(s string) (Rule, api.Errno) {
	if len(s) > api.MaxString {
		return Rule{}, api.ErrLarge
	}
	r, ok := parseRule(s)
	if !ok {
		return Rule{}, api.ErrSyntax
	}
	if bad := CheckRule(r); bad != api.OK {
		return Rule{}, bad
	}
	return r, api.OK
}

// parseRule gives the rule of whose form s is, right or not. It takes each word by itself. That one
// cannot be read, or that they are too few, too many or in another order, shows when the rule is
// written again.
func parseRule(s string) (Rule, bool) {
	r := Rule{Until: noDay}
	var part string
	for _, word := range strings.Split(s, " ") {
		switch word {
		case everyWord, fromWord, untilWord, timesWord, onWord, datesWord, skipWord:
			part = word
		default:
			take(&r, part, word)
		}
	}
	return r, r.Unit != 0 && ruleText(r) == s
}

// take puts a word of a part of a rule's string where it belongs.
func take(r *Rule, part, word string) {
	switch part {
	case everyWord:
		if unit, is := unitOf(word); is {
			r.Unit = unit
		} else {
			r.Every = numberOf(word)
		}
	case fromWord:
		r.From = dayOf(word)
	case untilWord:
		r.Until = dayOf(word)
	case timesWord:
		r.Count = numberOf(word)
	case onWord:
		if weekday, is := weekdayOf(word); is {
			r.Weekdays = append(r.Weekdays, weekday)
		} else {
			r.Nth = numberOf(strings.TrimSuffix(word, nthEnd))
		}
	case datesWord:
		r.Dates = append(r.Dates, numberOf(word))
	case skipWord:
		r.Skip = append(r.Skip, dayOf(word))
	}
}

func unitOf(word string) (int, bool) {
	for unit := Days; unit <= Years; unit++ {
		period := units()[unit].word
		if word == period || word == period+"s" {
			return unit, true
		}
	}
	return 0, false
}

// numberOf gives the number of at most 9 digits that a word is, or any other one.
func numberOf(word string) int {
	if len(strings.TrimPrefix(word, "-")) > 9 {
		return 0
	}
	number, _ := strconv.Atoi(word)
	return number
}

// dayOf gives the day that a word is, or any other one.
func dayOf(word string) int {
	day, _ := prop.ReadDate(word)
	return day
}

func weekdayOf(word string) (int, bool) {
	for weekday := range weekdayNames {
		if word == weekdayWord(weekday) {
			return weekday, true
		}
	}
	return 0, false
}
