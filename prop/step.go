package prop

import (
	"strconv"
	"strings"
)

// A step reads what s begins with, and gives what comes after that, or false.
// It leaves what it has read where its closure was told to.
type step func(s string) (rest string, ok bool)

// reads asks whether the steps, one after the other, read all of s.
func reads(s string, steps ...step) bool {
	rest, ok := all(steps...)(s)
	return ok && rest == ""
}

// all reads with one step after the other.
func all(steps ...step) step {
	return func(s string) (string, bool) {
		for _, next := range steps {
			rest, ok := next(s)
			if !ok {
				return "", false
			}
			s = rest
		}
		return s, true
	}
}

// anyOf reads with the first of the steps that can.
func anyOf(steps ...step) step {
	return func(s string) (string, bool) {
		for _, next := range steps {
			if rest, ok := next(s); ok {
				return rest, true
			}
		}
		return "", false
	}
}

// mark reads bytes that say nothing.
func mark(bytes string) step {
	return func(s string) (string, bool) {
		return strings.CutPrefix(s, bytes)
	}
}

// oneOf reads the first of the words that can be read, and leaves its position among them.
func oneOf(into *int, words ...string) step {
	return func(s string) (string, bool) {
		for i, word := range words {
			if rest, ok := strings.CutPrefix(s, word); ok {
				*into = i
				return rest, true
			}
		}
		return "", false
	}
}

// digits reads so many digits.
func digits(count int, into *int) step {
	return func(s string) (string, bool) {
		if leadingDigits(s) < count {
			return "", false
		}
		*into = valueOf(s[:count])
		return s[count:], true
	}
}

// wholeNumber reads as many digits as there are, at most so many, without a 0 before others.
func wholeNumber(most int, into *int) step {
	return func(s string) (string, bool) {
		end := leadingDigits(s)
		if end == 0 || end > most || end > 1 && s[0] == '0' {
			return "", false
		}
		*into = valueOf(s[:end])
		return s[end:], true
	}
}

// number reads a number of at most 10 digits, with - before it below 0.
func number(into *int) step {
	unsigned := wholeNumber(10, into)
	return func(s string) (string, bool) {
		after, below := strings.CutPrefix(s, "-")
		rest, ok := unsigned(after)
		if !ok || below && *into == 0 {
			return "", false
		}
		if below {
			*into = -*into
		}
		return rest, true
	}
}

// date reads a date, and leaves its day, or noDay.
func date(into *int) step {
	var year, month, day int
	form := all(digits(4, &year), mark("-"), digits(2, &month), mark("-"), digits(2, &day))
	return func(s string) (string, bool) {
		rest, ok := form(s)
		if !ok {
			return "", false
		}
		*into = dayOrNone(year, month, day)
		return rest, true
	}
}

// noDay stands for the day of a date that is not there.
const noDay = -1

func leadingDigits(s string) int {
	end := 0
	for end < len(s) && '0' <= s[end] && s[end] <= '9' {
		end++
	}
	return end
}

// valueOf gives the number of digits. Where an int cannot hold it, it is the
// greatest int, which is beyond all bounds, too.
func valueOf(digits string) int {
	n, _ := strconv.Atoi(digits)
	return n
}
