package day

import (
	"strconv"
	"strings"

	"florilegium/api"
	"florilegium/prop"
)

// The words that the parts of a rule's string begin with.
const (
	everyWord = "every"
	fromWord  = "from"
	untilWord = "until"
	timesWord = "times"
	onWord    = "on"
	datesWord = "dates"
	skipWord  = "skip"
)

// nthEnd is what follows the number of Nth.
const nthEnd = "th"

// weekdayNames has the weekdays from Monday on. Rules have their first three letters.
var weekdayNames = [7]string{"monday", "tuesday", "wednesday", "thursday", "friday", "saturday", "sunday"}

// RuleText writes a rule. The bounds of its lists keep the longest one far below api.MaxString.
func RuleText(r Rule) (string, api.Errno) {
	if bad := CheckRule(r); bad != api.OK {
		return "", bad
	}
	return ruleText(r), api.OK
}

// ruleText writes a rule, also a wrong one, if its unit, its weekdays and its days can be written.
func ruleText(r Rule) string {
	period := units()[r.Unit].word
	if r.Every != 1 {
		period += "s"
	}
	words := []string{everyWord, strconv.Itoa(r.Every), period, fromWord, dayWord(r.From)}
	if r.Until != noDay {
		words = append(words, untilWord, dayWord(r.Until))
	}
	if r.Count != 0 {
		words = append(words, timesWord, strconv.Itoa(r.Count))
	}
	if len(r.Weekdays) > 0 {
		words = append(words, onWord)
		if r.Nth != 0 {
			words = append(words, strconv.Itoa(r.Nth)+nthEnd)
		}
		words = appendWords(words, r.Weekdays, weekdayWord)
	}
	if len(r.Dates) > 0 {
		words = appendWords(append(words, datesWord), r.Dates, strconv.Itoa)
	}
	if len(r.Skip) > 0 {
		words = appendWords(append(words, skipWord), r.Skip, dayWord)
	}
	return strings.Join(words, " ")
}

func appendWords(words []string, l []int, wordOf func(n int) string) []string {
	for _, n := range l {
		words = append(words, wordOf(n))
	}
	return words
}

func weekdayWord(weekday int) string {
	return weekdayNames[weekday][:3]
}

// dayWord writes a right day.
func dayWord(day int) string {
	word, _ := prop.DateText(day)
	return word
}
