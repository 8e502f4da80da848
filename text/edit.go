package text

import "florilegium/api"

// CheckEdit says whether an edit of s may be.
func CheckEdit(s string, e Edit) api.Errno {
	if e.From < 0 || e.To < e.From || e.To > len(s) {
		return api.ErrRange
	}
	if hasControl(e.With) {
		return api.ErrByte
	}
	if tooLong(len(s)-(e.To-e.From), len(e.With)) {
		return api.ErrLarge
	}
	return api.OK
}

// Apply gives the string after an edit.
func Apply(s string, e Edit) (string, api.Errno) {
	if bad := CheckEdit(s, e); bad != api.OK {
		return "", bad
	}
	return s[:e.From] + e.With + s[e.To:], api.OK
}

// Inverse gives the edit that makes s again of what e makes of it.
func Inverse(s string, e Edit) (Edit, api.Errno) {
	if bad := CheckEdit(s, e); bad != api.OK {
		return Edit{}, bad
	}
	return Edit{From: e.From, To: e.From + len(e.With), With: s[e.From:e.To]}, api.OK
}

// Shift gives where marks are after an edit.
func Shift(marks []int, e Edit, after bool) []int {
	shifted := make([]int, len(marks))
	for i, mark := range marks {
		shifted[i] = shiftMark(mark, e, after)
	}
	return shifted
}

func shiftMark(mark int, e Edit, after bool) int {
	if mark < 0 || mark > api.MaxString || e.From < 0 || e.To < e.From || mark < e.From {
		return mark
	}
	if mark > e.To {
		return mark - (e.To - e.From) + len(e.With)
	}
	if after {
		return e.From + len(e.With)
	}
	return e.From
}

// Compose gives one edit that does what a list of edits does.
func Compose(s string, l []Edit) (Edit, api.Errno) {
	if len(l) > MaxEdits {
		return Edit{}, api.ErrLarge
	}
	edited := s
	for _, e := range l {
		var bad api.Errno
		edited, bad = Apply(edited, e)
		if bad != api.OK {
			return Edit{}, bad
		}
	}
	return Diff(s, edited), api.OK
}

// Diff gives the shortest edit that makes b of a.
func Diff(a, b string) Edit {
	from := 0
	for from < len(a) && from < len(b) && a[from] == b[from] {
		from++
	}
	toA, toB := len(a), len(b)
	for toA > from && toB > from && a[toA-1] == b[toB-1] {
		toA--
		toB--
	}
	return Edit{From: from, To: toA, With: b[from:toB]}
}
