package text

import (
	"strconv"
	"strings"

	"florilegium/api"
)

// Kinds of tokens. A token is a mark as it stands in the string: that a pair
// of stars can be without a partner, and is plain then, shows only at the end.
const (
	escapeToken = iota
	codeToken
	linkToken
	refToken
	tagToken
	starsToken
)

// openers has for each kind of tokens the byte that these begin with.
const openers = "\\`[(#*"

// eachToken calls visit with each token of s, from left to right.
// What is between them is plain.
func eachToken(s string, visit func(kind, from, to int)) {
	at := 0
next:
	for at < len(s) {
		for kind := range len(openers) {
			if s[at] != openers[kind] {
				continue
			}
			if end := tokenEnd(s, at, kind); end > at {
				visit(kind, at, end)
				at = end
				continue next
			}
		}
		at++
	}
}

// tokenEnd gives the end of the token of a kind that begins at a position, 0 if none does.
// The byte there is the kind's opener.
func tokenEnd(s string, at, kind int) int {
	switch kind {
	case escapeToken:
		return escapeEnd(s, at)
	case codeToken:
		return codeEnd(s, at)
	case linkToken:
		return linkEnd(s, at)
	case refToken:
		return refEnd(s, at)
	case tagToken:
		return tagEnd(s, at)
	default: // starsToken
		return endAfter(s, at, "**")
	}
}

// endAfter gives the end of mark, if it stands at a position, and 0 otherwise.
func endAfter(s string, at int, mark string) int {
	if !strings.HasPrefix(s[at:], mark) {
		return 0
	}
	return at + len(mark)
}

func escapeEnd(s string, at int) int {
	if at+1 == len(s) || !isPunctuation(s[at+1]) {
		return 0
	}
	return at + 2
}

func codeEnd(s string, at int) int {
	inside := strings.IndexByte(s[at+1:], '`')
	if inside < 1 {
		return 0
	}
	return at + inside + 2
}

func linkEnd(s string, at int) int {
	from := endAfter(s, at, "[[")
	if from == 0 {
		return 0
	}
	end := runEnd(s, from, isTargetByte)
	if !isTarget(s[from:end]) {
		return 0
	}
	if show := endAfter(s, end, "|"); show > 0 {
		end = runEnd(s, show, isShownByte)
		if end == show {
			return 0
		}
	}
	return endAfter(s, end, "]]")
}

func isTarget(s string) bool {
	if s == "" || len(s) > api.MaxTitle {
		return false
	}
	if s[0] == ' ' || s[len(s)-1] == ' ' {
		return false
	}
	return runEnd(s, 0, isTargetByte) == len(s)
}

func refEnd(s string, at int) int {
	from := endAfter(s, at, "((")
	if from == 0 {
		return 0
	}
	end := runEnd(s, from, isDigit)
	if refId(s[from:end]) == 0 {
		return 0
	}
	return endAfter(s, end, "))")
}

// refId gives the number of a reference with these digits, 0 if it cannot have them.
func refId(digits string) int {
	if digits == "" || len(digits) > 7 || digits[0] == '0' {
		return 0
	}
	id, err := strconv.Atoi(digits)
	if err != nil || id > api.MaxId {
		return 0
	}
	return id
}

func tagEnd(s string, at int) int {
	if at > 0 && keepsFromTag(s[at-1]) {
		return 0
	}
	end := runEnd(s, at+1, isTagByte)
	if !isTag(s[at+1 : end]) {
		return 0
	}
	return end
}

// isTag asks whether a run of bytes that a tag can have is a tag.
func isTag(run string) bool {
	if run == "" || len(run) > api.MaxTitle {
		return false
	}
	if run[0] == '/' || run[len(run)-1] == '/' {
		return false
	}
	return runEnd(run, 0, isNoLetter) < len(run)
}
