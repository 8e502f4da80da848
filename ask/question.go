package ask

import (
	"slices"
	"strconv"
	"strings"

	"florilegium/api"
	"florilegium/prop"
)

// CheckQuestion says whether a question is right.
func CheckQuestion(q Question) api.Errno {
	if bad := CheckCond(q.Where); bad != api.OK {
		return bad
	}
	if len(q.Sorts) > MaxSorts {
		return api.ErrLarge
	}
	for i, sort := range q.Sorts {
		if bad := checkBy(sort.By); bad != api.OK {
			return bad
		}
		if slices.ContainsFunc(q.Sorts[:i], func(before Sort) bool { return before.By == sort.By }) {
			return api.ErrTwice
		}
	}
	if q.Group != "" {
		if bad := prop.CheckName(q.Group); bad != api.OK {
			return bad
		}
	}
	if q.Most < 0 || q.Most > api.MaxBlocks {
		return api.ErrRange
	}
	return api.OK
}

// checkBy says whether something can be sorted by.
func checkBy(by string) api.Errno {
	switch by {
	case ById, ByText, ByDepth:
		return api.OK
	}
	return prop.CheckName(by)
}

// QuestionText writes a question.
func QuestionText(q Question) (string, api.Errno) {
	if bad := CheckQuestion(q); bad != api.OK {
		return "", bad
	}
	lines := "where " + condText(q.Where) + "\n"
	for _, sort := range q.Sorts {
		lines += "sort " + sortText(sort) + "\n"
	}
	if q.Group != "" {
		lines += "group " + q.Group + "\n"
	}
	if q.Most != 0 {
		lines += "most " + strconv.Itoa(q.Most) + "\n"
	}
	if len(lines) > api.MaxBody {
		return "", api.ErrLarge
	}
	return lines, api.OK
}

func sortText(sort Sort) string {
	if sort.Down {
		return sort.By + " down"
	}
	return sort.By + " up"
}

// ReadQuestion reads what QuestionText writes.
func ReadQuestion(s string) (Question, api.Errno) {
	if len(s) > api.MaxBody {
		return Question{}, api.ErrLarge
	}
	q, ok := parseQuestion(s)
	if !ok {
		return Question{}, api.ErrSyntax
	}
	if bad := CheckQuestion(q); bad != api.OK {
		return Question{}, bad
	}
	return q, api.OK
}

// parseQuestion gives the question of whose form s is, right or not.
func parseQuestion(s string) (Question, bool) {
	said, rest, found := cutLine(s, "where ")
	where, ok := parseCond(said)
	if !found || !ok {
		return Question{}, false
	}
	q := Question{Where: where}
	for {
		said, after, found := cutLine(rest, "sort ")
		if !found {
			break
		}
		sort, ok := parseSort(said)
		if !ok {
			return Question{}, false
		}
		q.Sorts, rest = append(q.Sorts, sort), after
	}
	if q.Group, rest, found = cutLine(rest, "group "); found && q.Group == "" {
		return Question{}, false
	}
	if said, after, found := cutLine(rest, "most "); found {
		most, more, ok := cutNumber(said)
		if !ok || more != "" || most == 0 {
			return Question{}, false
		}
		q.Most, rest = most, after
	}
	return q, rest == ""
}

// cutLine reads a line that begins with a word. If s begins with no such line, all of s is the rest.
func cutLine(s, word string) (said, rest string, found bool) {
	line, rest, ended := strings.Cut(s, "\n")
	said, found = strings.CutPrefix(line, word)
	if !ended || !found {
		return "", s, false
	}
	return said, rest, true
}

func parseSort(s string) (Sort, bool) {
	by, up := strings.CutSuffix(s, " up")
	if up {
		return Sort{By: by}, by != ""
	}
	by, down := strings.CutSuffix(s, " down")
	return Sort{By: by, Down: true}, down && by != ""
}
