package text_test

import (
	"regexp"
	"slices"
	"strconv"
	"strings"
	"testing"

	"florilegium/api"
	"florilegium/text"
)

// The tests of this file hold the package against a slow model, and against
// what follows from the promises, on many generated strings.

// generated gives strings that are put together from pieces of marks, always the same ones.
func generated(count int) []string {
	pieces := []string{
		"[[", "[", "]]", "]", "|", "((", "))", "(", "**", "**", "*", "#", "#", "a", "b", "1", "20", "0", " ", "\\", "\\",
		"`", "`", "/", "-", "_", "\xff", "&", "\x1f", ".", "[[a]]", "[[b|c]]", "((7))", "#t", " x y ",
	}
	var seed uint32 = 1
	next := func(n int) int {
		seed = seed*1664525 + 1013904223
		return int(seed>>16) % n
	}
	strs := make([]string, count)
	for i := range strs {
		for range next(14) {
			strs[i] += pieces[next(len(pieces))]
		}
	}
	return strs
}

// The forms of P1.2, in its order.
var (
	escapeForm = regexp.MustCompile("^\\\\[!-/:-@\\[-`{-~]")
	codeForm   = regexp.MustCompile("^`[^`]+`")
	linkForm   = regexp.MustCompile("^\\[\\[([^\\[\\]|`\\x00-\\x20](?:[^\\[\\]|`\\x00-\\x1f]{0,98}[^\\[\\]|`\\x00-\\x20])?)(?:\\|([^\\[\\]]+))?\\]\\]")
	refForm    = regexp.MustCompile(`^\(\(([1-9][0-9]{0,5}|1000000)\)\)`)
	tagForm    = regexp.MustCompile("^#([a-zA-Z0-9_/\uFFFD-]+)")
	boldForm   = regexp.MustCompile(`^\*\*`)
	letterForm = regexp.MustCompile("[a-zA-Z\uFFFD]")
	beforeForm = regexp.MustCompile("[a-zA-Z0-9#&\uFFFD]$")
)

func modelTag(before, s string) []string {
	m := tagForm.FindStringSubmatch(s)
	if m == nil || len(m[1]) > 100 || m[1][0] == '/' || strings.HasSuffix(m[1], "/") {
		return nil
	}
	if !letterForm.MatchString(m[1]) || beforeForm.MatchString(before) {
		return nil
	}
	return m
}

// modelSpan gives the span that begins at a position, as if each two stars were plain.
func modelSpan(s string, at int) text.Span {
	rest := s[at:]
	span := func(kind int, m []string, name, show string) text.Span {
		return text.Span{Kind: kind, From: at, To: at + len(m[0]), Text: name, Show: show}
	}
	if m := escapeForm.FindStringSubmatch(rest); m != nil {
		return span(text.Escape, m, m[0][1:], "")
	}
	if m := codeForm.FindStringSubmatch(rest); m != nil {
		return span(text.Code, m, strings.Trim(m[0], "`"), "")
	}
	if m := linkForm.FindStringSubmatch(rest); m != nil {
		return span(text.Link, m, m[1], m[2])
	}
	if m := refForm.FindStringSubmatch(rest); m != nil {
		ref := span(text.Ref, m, m[1], "")
		ref.Id, _ = strconv.Atoi(m[1])
		return ref
	}
	if m := modelTag(s[:at], rest); m != nil {
		return span(text.Tag, m, m[1], "")
	}
	if m := boldForm.FindStringSubmatch(rest); m != nil {
		return span(text.Bold, m, m[0], "")
	}
	return text.Span{Kind: text.Plain, From: at, To: at + 1, Text: rest[:1]}
}

// modelSpans gives the spans of s as P1.2 says it: cut, paired, put together.
func modelSpans(s string) []text.Span {
	var bits []text.Span
	var bolds []int
	for at := 0; at < len(s); {
		bit := modelSpan(s, at)
		if bit.Kind == text.Bold {
			bolds = append(bolds, len(bits))
		}
		bits = append(bits, bit)
		at = bit.To
	}
	if n := len(bolds); n%2 == 1 {
		bits[bolds[n-1]].Kind = text.Plain
		bolds = bolds[:n-1]
	}
	for pair := range slices.Chunk(bolds, 2) {
		for i := pair[0]; i <= pair[1]; i++ {
			bits[i].Strong = true
		}
	}
	var spans []text.Span
	for _, bit := range bits {
		if n := len(spans); n > 0 && bit.Kind == text.Plain && spans[n-1].Kind == text.Plain && spans[n-1].Strong == bit.Strong {
			spans[n-1].To = bit.To
			spans[n-1].Text += bit.Text
		} else {
			spans = append(spans, bit)
		}
	}
	return spans
}

func TestSpansByModel(t *testing.T) {
	for _, s := range generated(60000) {
		if got, want := text.Spans(s), modelSpans(s); !slices.Equal(got, want) {
			t.Fatalf("Spans(%q) = %+v, want %+v", s, got, want)
		}
	}
}

func TestSpansCover(t *testing.T) {
	for _, s := range generated(20000) {
		at := 0
		for _, span := range text.Spans(s) {
			if span.From != at || span.To <= span.From {
				t.Fatalf("Spans(%q): %+v", s, span)
			}
			at = span.To
		}
		if at != len(s) {
			t.Fatalf("Spans(%q) end at %d", s, at)
		}
	}
}

// modelShown gives what is shown of a span, and from where on it stands in s.
func modelShown(s string, span text.Span) (string, int) {
	source := s[span.From:span.To]
	switch {
	case span.Kind == text.Bold:
		return "", 0
	case span.Kind == text.Ref || span.Kind == text.Tag:
		return source, span.From
	case span.Kind == text.Plain:
		return span.Text, span.From
	case span.Show != "":
		return span.Show, span.From + len("[[") + len(span.Text) + len("|")
	case span.Kind == text.Link:
		return span.Text, span.From + len("[[")
	}
	return span.Text, span.From + 1 // behind a backslash, or behind `
}

func TestPlainOfAndSourceByModel(t *testing.T) {
	for _, s := range generated(20000) {
		shown := ""
		for _, span := range modelSpans(s) {
			part, from := modelShown(s, span)
			for i := range len(part) {
				if got, bad := text.Source(s, len(shown)+i); bad != api.OK || got != from+i || s[got] != part[i] {
					t.Fatalf("Source(%q, %d) = %d, %d", s, len(shown)+i, got, bad)
				}
			}
			shown += part
		}
		if got := text.PlainOf(s); got != shown {
			t.Fatalf("PlainOf(%q) = %q, want %q", s, got, shown)
		}
		if got, bad := text.Source(s, len(shown)); bad != api.OK || got != len(s) {
			t.Fatalf("Source(%q, %d) = %d, %d", s, len(shown), got, bad)
		}
	}
}

func TestListsByModel(t *testing.T) {
	for _, s := range generated(20000) {
		var links, tags, parts []string
		var refs []int
		rest, unmarked := "", ""
		for _, span := range modelSpans(s) {
			source := s[span.From:span.To]
			switch span.Kind {
			case text.Link:
				links = append(links, span.Text)
			case text.Ref:
				refs = append(refs, span.Id)
			case text.Tag:
				tags = append(tags, span.Text)
			}
			if span.Kind != text.Bold {
				unmarked += source
			}
			if span.Kind == text.Link || span.Kind == text.Ref || span.Kind == text.Tag {
				parts = append(parts, rest, source)
				rest = ""
			} else {
				rest += source
			}
		}
		parts = slices.DeleteFunc(append(parts, rest), func(part string) bool { return part == "" })
		if !slices.Equal(text.Links(s), links) || !slices.Equal(text.Refs(s), refs) || !slices.Equal(text.Tags(s), tags) {
			t.Fatalf("%q: %q %d %q", s, text.Links(s), text.Refs(s), text.Tags(s))
		}
		if !slices.Equal(text.Parts(s), parts) || text.Unmarked(s) != unmarked {
			t.Fatalf("%q: %q %q", s, text.Parts(s), text.Unmarked(s))
		}
	}
}

func TestEscapedIsShown(t *testing.T) {
	for _, s := range generated(20000) {
		escaped := text.Escaped(s)
		if got := text.PlainOf(escaped); got != s {
			t.Fatalf("PlainOf(%q) = %q, want %q", escaped, got, s)
		}
		for _, span := range text.Spans(escaped) {
			if span.Kind != text.Plain && span.Kind != text.Escape {
				t.Fatalf("Spans(%q): %+v", escaped, span)
			}
		}
	}
}

func TestRetargetChangesNoOtherSpan(t *testing.T) {
	for _, s := range generated(20000) {
		for link := range text.Links(s) {
			changed, bad := text.Retarget(s, link, "**new#t((1))")
			if bad != api.OK {
				t.Fatal(s, link, bad)
			}
			count := 0
			want := text.Spans(s)
			for i := range want {
				if want[i].Kind == text.Link {
					if count == link {
						want[i].Text = "**new#t((1))"
					}
					count++
				}
			}
			got := text.Spans(changed)
			for i := range got { // positions move
				got[i].From, got[i].To, want[i].From, want[i].To = 0, 0, 0, 0
			}
			if !slices.Equal(got, want) {
				t.Fatalf("Retarget(%q, %d) = %q", s, link, changed)
			}
		}
	}
}

func TestRenumberByModel(t *testing.T) {
	for _, s := range generated(20000) {
		want := ""
		for _, span := range modelSpans(s) {
			switch {
			case span.Kind == text.Ref && span.Id == 7:
				want += "((20))"
			case span.Kind == text.Ref && span.Id == 20:
				want += "((1))"
			default:
				want += s[span.From:span.To]
			}
		}
		if got, bad := text.Renumber(s, []int{7, 20, 7}, []int{20, 1, 3}); bad != api.OK || got != want {
			t.Fatalf("Renumber(%q) = %q, %d, want %q", s, got, bad, want)
		}
	}
}

func TestExcerptByModel(t *testing.T) {
	for _, s := range generated(5000) {
		shown := strings.Trim(text.PlainOf(s), " ")
		for most := range len(shown) + 3 {
			want := ""
			for end := 0; end <= min(most, len(shown)); end++ { // the ends of whole words
				if end > 0 && shown[end-1] != ' ' && (end == len(shown) || shown[end] == ' ') {
					want = shown[:end]
				}
			}
			if want == "" {
				want = shown[:min(most, len(shown))]
			}
			if got := text.Excerpt(s, most); got != want {
				t.Fatalf("Excerpt(%q, %d) = %q, want %q", s, most, got, want)
			}
		}
	}
}

// words are all strings of at most most bytes that are a or b.
func words(most int) []string {
	all := []string{""}
	for i := 0; len(all[i]) < most; i++ {
		all = append(all, all[i]+"a", all[i]+"b")
	}
	return all
}

func TestDiffIsShortest(t *testing.T) {
	all := words(5)
	for _, a := range all {
		for _, b := range all {
			e := text.Diff(a, b)
			if got, bad := text.Apply(a, e); bad != api.OK || got != b {
				t.Fatalf("Apply(%q, Diff(%q, %q)) = %q, %d", a, a, b, got, bad)
			}
			for from := range len(a) + 1 {
				for to := from; to <= len(a); to++ {
					fits := strings.HasPrefix(b, a[:from]) && strings.HasSuffix(b[from:], a[to:])
					if fits && (to-from < e.To-e.From || to-from == e.To-e.From && from > e.From) {
						t.Fatalf("Diff(%q, %q) = %v, but %d, %d", a, b, e, from, to)
					}
				}
			}
		}
	}
}

func TestInverseUndoes(t *testing.T) {
	for _, s := range words(4) {
		for from := range len(s) + 1 {
			for to := from; to <= len(s); to++ {
				for _, with := range words(2) {
					e := text.Edit{From: from, To: to, With: with}
					edited, bad := text.Apply(s, e)
					inverse, bad2 := text.Inverse(s, e)
					back, bad3 := text.Apply(edited, inverse)
					if back != s || bad != api.OK || bad2 != api.OK || bad3 != api.OK {
						t.Fatalf("%q %v: %q, %q", s, e, edited, back)
					}
				}
			}
		}
	}
}
