package text

import "strings"

// Spans cuts a string into spans that cover it.
func Spans(s string) []Span {
	var spans []Span
	eachSpan(s, func(span Span) {
		spans = append(spans, span)
	})
	return spans
}

// eachSpan calls visit with each span of s, from left to right.
func eachSpan(s string, visit func(Span)) {
	partners := countStars(s) &^ 1
	seen, done := 0, 0
	plainTo := func(to int) {
		if to > done {
			visit(Span{Kind: Plain, From: done, To: to, Text: s[done:to], Strong: seen%2 == 1})
		}
	}
	eachToken(s, func(kind, from, to int) {
		if kind == starsToken && seen == partners {
			return
		}
		plainTo(from)
		span := spanOf(s, kind, from, to)
		span.Strong = seen%2 == 1 || kind == starsToken
		visit(span)
		if kind == starsToken {
			seen++
		}
		done = to
	})
	plainTo(len(s))
}

func countStars(s string) int {
	count := 0
	eachToken(s, func(kind, _, _ int) {
		if kind == starsToken {
			count++
		}
	})
	return count
}

// spanOf makes a span of a token; whether it is within a bold part it does not know.
func spanOf(s string, kind, from, to int) Span {
	span := Span{From: from, To: to}
	switch kind {
	case escapeToken:
		span.Kind, span.Text = Escape, s[from+1:to]
	case codeToken:
		span.Kind, span.Text = Code, s[from+1:to-1]
	case linkToken:
		span.Kind = Link
		span.Text, span.Show, _ = strings.Cut(s[from+2:to-2], "|")
	case refToken:
		span.Kind, span.Text = Ref, s[from+2:to-2]
		span.Id = refId(span.Text)
	case tagToken:
		span.Kind, span.Text = Tag, s[from+1:to]
	case starsToken:
		span.Kind, span.Text = Bold, s[from:to]
	}
	return span
}

// shownPart gives from where to where a span's bytes are shown.
func shownPart(span Span) (from, to int) {
	switch span.Kind {
	case Escape:
		return span.From + 1, span.To
	case Code:
		return span.From + 1, span.To - 1
	case Link:
		to = span.To - 2
		if span.Show != "" {
			return to - len(span.Show), to
		}
		return to - len(span.Text), to
	case Bold:
		return span.To, span.To
	}
	return span.From, span.To
}
