package card

import (
	"strings"

	"florilegium/api"
	"florilegium/tree"
)

// Cut gives the cards of a string.
func Cut(s string) []Card {
	front, back, turns, ok := divide(s)
	if !ok {
		return cutGaps(s)
	}
	cards := []Card{{No: 1, Front: front, Back: back}}
	if turns {
		cards = append(cards, Card{No: 2, Front: back, Back: front})
	}
	return cards
}

// divide gives what is before and after the first `::` that has something on both sides,
// and whether it is `:::`.
func divide(s string) (front, back string, turns, ok bool) {
	s = strings.Trim(s, " ")
	if s == "" {
		return "", "", false, false
	}
	// Without spaces at the ends something is before all but the first byte. If nothing is
	// after the first `::` from there on, nothing is after a later one.
	front, back, _ = strings.Cut(s[1:], "::")
	back, turns = strings.CutPrefix(back, ":")
	if back == "" {
		return "", "", false, false
	}
	return strings.TrimRight(s[:1]+front, " "), strings.TrimLeft(back, " "), turns, true
}

// A gap is a part of a string, from its braces to its braces.
type gap struct {
	from, to int
	answer   string
	question string // what stands there while the answer is asked
}

func cutGaps(s string) []Card {
	gaps := gapsOf(s)
	var cards []Card
	for asked := range min(len(gaps), MaxNumbers) {
		cards = append(cards, Card{No: asked + 1, Front: frontOf(s, gaps, asked), Back: gaps[asked].answer})
	}
	return cards
}

// gapsOf gives the gaps of a string, from left to right.
func gapsOf(s string) []gap {
	var gaps []gap
	at := 0
	for {
		braces := strings.Index(s[at:], "{{")
		if braces < 0 {
			return gaps
		}
		from := at + braces
		inside := s[from+2:]
		length := strings.IndexAny(inside, "{}")
		if length < 0 {
			return gaps
		}
		if length == 0 || !strings.HasPrefix(inside[length:], "}}") {
			at = from + 1 // the second one of three braces can begin a gap
			continue
		}
		at = from + 2 + length + 2
		gaps = append(gaps, newGap(from, at, inside[:length]))
	}
}

func newGap(from, to int, inside string) gap {
	answer, hint, hasHint := strings.Cut(inside, "|")
	if !hasHint {
		hint = "..."
	}
	return gap{from, to, answer, "[" + hint + "]"}
}

// frontOf gives a string in which one of the gaps is asked, and the others are filled.
func frontOf(s string, gaps []gap, asked int) string {
	var front strings.Builder
	end := 0
	for i, g := range gaps {
		front.WriteString(s[end:g.from])
		if i == asked {
			front.WriteString(g.question)
		} else {
			front.WriteString(g.answer)
		}
		end = g.to
	}
	front.WriteString(s[end:])
	return front.String()
}

// Cards gives the cards of all blocks that are no pages.
func Cards(base []api.Block) ([]Card, api.Errno) {
	if bad := tree.Check(base); bad != api.OK {
		return nil, bad
	}
	var cards []Card
	for _, block := range base {
		if block.Parent == 0 { // also the root's is 0
			continue
		}
		for _, card := range Cut(block.Text) {
			card.Block = block.Id
			cards = append(cards, card)
		}
	}
	return cards, api.OK
}
