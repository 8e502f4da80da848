package text

import (
	"strconv"
	"strings"

	"florilegium/api"
)

// PlainOf gives what is shown of a string.
func PlainOf(s string) string {
	var shown strings.Builder
	eachSpan(s, func(span Span) {
		from, to := shownPart(span)
		shown.WriteString(s[from:to])
	})
	return shown.String()
}

// Source gives the position in s of the byte of PlainOf(s) with the number at.
func Source(s string, at int) (int, api.Errno) {
	if at < 0 {
		return 0, api.ErrRange
	}
	before, source, found := 0, 0, false
	eachSpan(s, func(span Span) {
		from, to := shownPart(span)
		if !found && at-before < to-from {
			source, found = from+at-before, true
		}
		before += to - from
	})
	if found {
		return source, api.OK
	}
	if at > before {
		return 0, api.ErrRange
	}
	return len(s), api.OK
}

// Links gives the targets of a string's links.
func Links(s string) []string {
	return textsOf(s, Link)
}

// Tags gives the names of a string's tags.
func Tags(s string) []string {
	return textsOf(s, Tag)
}

func textsOf(s string, kind int) []string {
	var texts []string
	eachSpan(s, func(span Span) {
		if span.Kind == kind {
			texts = append(texts, span.Text)
		}
	})
	return texts
}

// Refs gives the numbers of a string's references.
func Refs(s string) []int {
	var ids []int
	eachSpan(s, func(span Span) {
		if span.Kind == Ref {
			ids = append(ids, span.Id)
		}
	})
	return ids
}

// Escaped gives a string without marks of which s is shown.
func Escaped(s string) string {
	var escaped strings.Builder
	for i := range len(s) {
		if strings.IndexByte(openers, s[i]) >= 0 {
			escaped.WriteByte('\\')
		}
		escaped.WriteByte(s[i])
	}
	return escaped.String()
}

// LinkText gives a link to target that shows show, or the target, if show is empty.
func LinkText(target, show string) (string, api.Errno) {
	if !isTarget(target) {
		return "", api.ErrName
	}
	if runEnd(show, 0, isShownByte) < len(show) {
		return "", api.ErrForm
	}
	if show == "" {
		return "[[" + target + "]]", api.OK
	}
	return "[[" + target + "|" + show + "]]", api.OK
}

// Retarget gives the string in which the link with a number has another target.
func Retarget(s string, link int, target string) (string, api.Errno) {
	var changed Span
	count := 0
	eachSpan(s, func(span Span) {
		if span.Kind != Link {
			return
		}
		if count == link {
			changed = span
		}
		count++
	})
	if link < 0 || link >= count {
		return "", api.ErrNone
	}
	if !isTarget(target) {
		return "", api.ErrName
	}
	from := changed.From + 2
	to := from + len(changed.Text)
	if tooLong(len(s)-(to-from), len(target)) {
		return "", api.ErrLarge
	}
	return s[:from] + target + s[to:], api.OK
}

// Renumber gives the string in which the references to from[i] are to to[i].
func Renumber(s string, from, to []int) (string, api.Errno) {
	if len(from) != len(to) {
		return "", api.ErrForm
	}
	for _, id := range to {
		if id < 1 || id > api.MaxId {
			return "", api.ErrRange
		}
	}
	next := firstOf(from, to)
	var renumbered strings.Builder
	eachSpan(s, func(span Span) {
		id, ok := next[span.Id]
		if span.Kind == Ref && ok {
			renumbered.WriteString("((" + strconv.Itoa(id) + "))")
		} else {
			renumbered.WriteString(s[span.From:span.To])
		}
	})
	if renumbered.Len() > api.MaxString {
		return "", api.ErrLarge
	}
	return renumbered.String(), api.OK
}

// firstOf has for each number of from the one of to that stands where it is first.
func firstOf(from, to []int) map[int]int {
	first := make(map[int]int, len(from))
	for i, id := range from {
		if _, ok := first[id]; !ok {
			first[id] = to[i]
		}
	}
	return first
}

// Unmarked gives the string without the stars of its bold parts.
func Unmarked(s string) string {
	var rest strings.Builder
	eachSpan(s, func(span Span) {
		if span.Kind != Bold {
			rest.WriteString(s[span.From:span.To])
		}
	})
	return rest.String()
}

// Parts gives the string cut before and after each link, reference and tag.
func Parts(s string) []string {
	var parts []string
	done := 0
	cutAt := func(at int) {
		if at > done {
			parts = append(parts, s[done:at])
			done = at
		}
	}
	eachSpan(s, func(span Span) {
		if span.Kind == Link || span.Kind == Ref || span.Kind == Tag {
			cutAt(span.From)
			cutAt(span.To)
		}
	})
	cutAt(len(s))
	return parts
}

// Excerpt gives the first words that are shown of a string, of most bytes at most.
func Excerpt(s string, most int) string {
	if most <= 0 {
		return ""
	}
	shown := strings.Trim(PlainOf(s), " ")
	if len(shown) <= most {
		return shown
	}
	end := most
	if shown[most] != ' ' {
		end = strings.LastIndexByte(shown[:most], ' ')
	}
	if end < 0 {
		return shown[:most]
	}
	return strings.TrimRight(shown[:end], " ")
}
