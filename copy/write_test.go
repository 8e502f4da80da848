package copy_test

import (
	"fmt"
	"slices"
	"strings"
	"testing"

	"florilegium/api"
	"florilegium/copy"
)

// P8.1: OpsText, ReadOps

func TestOpsText(t *testing.T) {
	got, bad := copy.OpsText(rightOps())
	want(t, "each kind", got, `2 1 insert 17 3 4 "a \"q\" \\"
3 1 move 17 3 4
4 15 remove 17
5 0 type 17 2 1 2 "x `+"\x80"+`"
6 0 erase 17 2 1 0 2 1 2 5 0 0
7 2 set 17 n [-3, "\""]
`, bad, api.OK)
	for line, o := range map[string]copy.Op{
		"1 0 insert 1000000 0 0 \"\"\n":         inserted(at(1, 0), 1_000_000, 0, 0, ""),
		"1000000000 15 move 1 1000000 0\n":      moved(at(copy.MaxTime, 15), 1, api.MaxId, 0),
		"1 0 type 1 0 0 0 \"x\"\n":              typed(at(1, 0), 1, copy.Spot{}, "x"),
		"2 0 type 1 1 15 2000 \" \"\n":          typed(at(2, 0), 1, spot(1, 15, 2000), " "),
		"2 0 erase 1 1 0 2000\n":                erased(at(2, 0), 1, spot(1, 0, 2000)),
		"1 0 set 1 n-1 -\n":                     given(at(1, 0), 1, "n-1", api.Value{}),
		"1 0 set 1 n \"a b\"\n":                 given(at(1, 0), 1, "n", str("a b")),
		"1 0 set 1 n 2024-03-06..2024-03-07\n":  given(at(1, 0), 1, "n", api.Value{Kind: api.Span, Int: 8465, To: 8466}),
		"1 0 set 1 n [[a page]]\n":              given(at(1, 0), 1, "n", api.Value{Kind: api.Link, Text: "a page"}),
		"1 0 set 1 n yes\n":                     given(at(1, 0), 1, "n", api.Value{Kind: api.Flag, Int: 1}),
		"1 0 set 1 n [[[a b]], no, \"\\\\\"]\n": given(at(1, 0), 1, "n", list(api.Value{Kind: api.Link, Text: "a b"}, api.Value{Kind: api.Flag}, str(`\`))),
	} {
		got, bad := copy.OpsText([]copy.Op{o})
		want(t, line, got, line, bad, api.OK)
		read, bad := copy.ReadOps(line)
		want(t, line, read, []copy.Op{o}, bad, api.OK)
	}
	for _, l := range [][]copy.Op{nil, {}} {
		got, bad := copy.OpsText(l)
		want(t, "none", got, "", bad, api.OK)
	}
	// Whether they go together is not asked.
	got, bad = copy.OpsText([]copy.Op{removed(at(2, 0), 1), removed(at(1, 0), 1), removed(at(2, 0), 1)})
	want(t, "in any order", got, "2 0 remove 1\n1 0 remove 1\n2 0 remove 1\n", bad, api.OK)
}

// long gives operations with a string of so many bytes.
func long(length int) []copy.Op {
	line := func(room int) copy.Op {
		return inserted(at(1, 0), 16, 0, 0, strings.Repeat("x", room-len("1 0 insert 16 0 0 \"\"\n")))
	}
	var l []copy.Op
	for ; length > 4000; length -= 1000 {
		l = append(l, line(1000))
	}
	return append(l, line(length/2), line(length-length/2))
}

func TestOpsTextErrors(t *testing.T) {
	wrong := changed(removed(at(1, 0), 1), func(o *copy.Op) { o.Kind = 9 })
	for name, c := range map[string]struct {
		l   []copy.Op
		bad api.Errno
	}{
		"most":                {many(1, copy.MaxOps), api.OK},
		"too many":            {many(1, copy.MaxOps+1), api.ErrLarge},
		"too many before bad": {append(many(1, copy.MaxOps), wrong), api.ErrLarge},
		"first of two":        {append(rightOps(), removed(at(0, 0), 1), wrong), api.ErrRange},
		"other first":         {append(rightOps(), wrong, removed(at(0, 0), 1)), api.ErrKind},
		"longest":             {long(api.MaxBody), api.OK},
		"too long":            {long(api.MaxBody + 1), api.ErrLarge},
		"bad before too long": {append(long(api.MaxBody+1), wrong), api.ErrKind},
		"much too long":       {slices.Repeat(long(api.MaxBody), 9), api.ErrLarge},
	} {
		got, bad := copy.OpsText(c.l)
		wantError(t, name, bad, c.bad)
		if c.bad == api.OK {
			read, bad := copy.ReadOps(got)
			want(t, name, read, c.l, bad, api.OK)
		}
	}
}

func TestReadOpsErrors(t *testing.T) {
	right := "1 1 remove 1\n"
	for s, bad := range map[string]api.Errno{
		"": api.OK, right + right: api.OK,
		"\n": api.ErrSyntax, right + "\n": api.ErrSyntax, "\n" + right: api.ErrSyntax, "1 1 remove 1": api.ErrSyntax, right + "1 1 remove 1": api.ErrSyntax, "1 1 remove 1\r\n": api.ErrSyntax,
		" 1 1 remove 1\n": api.ErrSyntax, "1 1 remove 1 \n": api.ErrSyntax, "1  1 remove 1\n": api.ErrSyntax, "1 1 remove  1\n": api.ErrSyntax, "1 1  remove 1\n": api.ErrSyntax, "1\t1 remove 1\n": api.ErrSyntax,
		"1 1 remove\n": api.ErrSyntax, "1 1 remove \n": api.ErrSyntax, "1 remove 1\n": api.ErrSyntax, "1 1\n": api.ErrSyntax, "1 1 \n": api.ErrSyntax, "1\n": api.ErrSyntax, "1 1 remove 1 1\n": api.ErrSyntax, "1 1 remove 1 0 0\n": api.ErrSyntax,
		"1 1 Remove 1\n": api.ErrSyntax, "1 1  1\n": api.ErrSyntax, "1 1 3 1\n": api.ErrSyntax, "1 1 removes 1\n": api.ErrSyntax, "1 1 setprop 1 n -\n": api.ErrSyntax,
		"01 1 remove 1\n": api.ErrSyntax, "1 01 remove 1\n": api.ErrSyntax, "1 1 remove 01\n": api.ErrSyntax, "1 00 remove 1\n": api.ErrSyntax, "+1 1 remove 1\n": api.ErrSyntax, "-1 1 remove 1\n": api.ErrSyntax, "1 -0 remove 1\n": api.ErrSyntax,
		"1 1 remove -1\n": api.ErrSyntax, "1 a remove 1\n": api.ErrSyntax, "1_0 1 remove 1\n": api.ErrSyntax, "0x1 1 remove 1\n": api.ErrSyntax, "1.0 1 remove 1\n": api.ErrSyntax, "1 1 remove \xd9\xa1\n": api.ErrSyntax,
		"9999999999 1 remove 1\n": api.ErrRange, "10000000000 1 remove 1\n": api.ErrSyntax, "00000000001 1 remove 1\n": api.ErrSyntax, "18446744073709551617 1 remove 1\n": api.ErrSyntax, "1 9999999999 remove 1\n": api.ErrRange, "1 1 remove 9999999999\n": api.ErrRange, "4294967297 1 remove 1\n": api.ErrRange,
		"0 1 remove 1\n": api.ErrRange, "1 16 remove 1\n": api.ErrRange, "1 0 remove 0\n": api.ErrRange, "1 1 remove 1000001\n": api.ErrRange, "1000000001 1 remove 1\n": api.ErrRange,

		"1 1 insert 1 0 0 \"\"\n": api.OK, "1 1 insert 1 0 0 \"a b\"\n": api.OK, "1 1 insert 1 0 0\n": api.ErrSyntax, "1 1 insert 1 0 0 \n": api.ErrSyntax, "1 1 insert 1 0 \"\"\n": api.ErrSyntax, "1 1 insert 1 0 0 0 \"\"\n": api.ErrSyntax, "1 1 insert 1 0 0 \"\" \n": api.ErrSyntax,
		"1 1 insert 1 0 0  \"\"\n": api.ErrSyntax, "1 1 insert 1 0 0 \"\n": api.ErrSyntax, "1 1 insert 1 0 0 a\n": api.ErrSyntax, "1 1 insert 1 0 0 \"a\\b\"\n": api.ErrSyntax, "1 1 insert 1 0 0 \"a\"b\"\n": api.ErrSyntax, "1 1 insert 1 0 0 \"a\"\"b\"\n": api.ErrSyntax,
		"1 1 insert 1 0 0 1\n": api.ErrSyntax, "1 1 insert 1 0 0 -\n": api.ErrSyntax, "1 1 insert 1 0 0 [[a]]\n": api.ErrSyntax, "1 1 insert 1 0 0 [\"a\"]\n": api.ErrSyntax, "1 1 insert 1 0 0 \"a\x1f\"\n": api.ErrSyntax, "1 1 insert 1 0 0 \"\x7f\"\n": api.ErrSyntax,
		"1 1 insert 1 0 0 \"" + strings.Repeat("x", 2000) + "\"\n": api.OK, "1 1 insert 1 0 0 \"" + strings.Repeat("x", 2001) + "\"\n": api.ErrSyntax, "1 1 insert 1 0 0 \"" + strings.Repeat("\\\\", 2000) + "\"\n": api.OK,
		"1 1 insert 2 0 0 \"\"\n": api.ErrForm, "1 1 insert 1 1000001 0 \"\"\n": api.ErrRange, "1 1 insert 1 0 9999999999 \"\"\n": api.ErrRange, "1 1 insert 1 0 1 \"\"\n": api.ErrLoop, "1 1 insert 1 1 0 \"\"\n": api.ErrLoop, "1 1 insert 1 -1 0 \"\"\n": api.ErrSyntax,

		"1 1 move 1 0 0\n": api.OK, "1 1 move 1 0\n": api.ErrSyntax, "1 1 move 1\n": api.ErrSyntax, "1 1 move 1 0 0 0\n": api.ErrSyntax, "1 1 move 1 0 0 \n": api.ErrSyntax, "1 1 move 1 0 00\n": api.ErrSyntax, "1 1 move 1 0 \"\"\n": api.ErrSyntax, "1 1 move 2 2 0\n": api.ErrLoop, "1 1 move 2 0 2\n": api.ErrLoop,

		"2 1 type 1 1 1 0 \"a\"\n": api.OK, "2 1 type 1 0 0 0 \"a\"\n": api.OK, "2 1 type 1 1 1 \"a\"\n": api.ErrSyntax, "2 1 type 1 1 1 0\n": api.ErrSyntax, "2 1 type 1 1 1 0 0 \"a\"\n": api.ErrSyntax, "2 1 type 1 1 1 0 \"a\" \n": api.ErrSyntax, "2 1 type 1 1 1 0 1\n": api.ErrSyntax, "2 1 type 1 \"a\"\n": api.ErrSyntax,
		"2 1 type 1 1 1 0 \"\"\n": api.ErrLarge, "2 1 type 1 1 1 0 \"" + strings.Repeat("x", 501) + "\"\n": api.ErrLarge, "2 1 type 1 1 1 0 \"" + strings.Repeat("x", 2001) + "\"\n": api.ErrSyntax, "2 1 type 1 2 1 0 \"a\"\n": api.ErrStamp, "2 1 type 1 0 0 1 \"a\"\n": api.ErrStamp, "2 1 type 1 1 1 2001 \"a\"\n": api.ErrStamp, "2 1 type 1 1 1 -1 \"a\"\n": api.ErrSyntax,

		"2 1 erase 1 1 1 0\n": api.OK, "2 1 erase 1 1 1 0 1 1 1\n": api.OK, "2 1 erase 1\n": api.ErrLarge, "2 1 erase 1 \n": api.ErrSyntax, "2 1 erase 1 1\n": api.ErrSyntax, "2 1 erase 1 1 1\n": api.ErrSyntax, "2 1 erase 1 1 1 0 1\n": api.ErrSyntax, "2 1 erase 1 1 1 0 1 1\n": api.ErrSyntax, "2 1 erase 1 1 1 0 \n": api.ErrSyntax,
		"2 1 erase 1 1 1 0  1 1 1\n": api.ErrSyntax, "2 1 erase 1 1 1 a\n": api.ErrSyntax, "2 1 erase 1 0 0 0\n": api.ErrStamp, "2 1 erase 1 1 1 1 1 1 1\n": api.ErrOrder, "2 1 erase 1 1 1 1 1 1 0\n": api.ErrOrder, "2 1 erase 1" + strings.Repeat(" 1 1 0", 501) + "\n": api.ErrLarge, "2 1 erase 1" + strings.Repeat(" 2 1 0", 501) + "\n": api.ErrStamp,

		"1 1 set 1 n -\n": api.OK, "1 1 set 1 n\n": api.ErrSyntax, "1 1 set 1 n \n": api.ErrSyntax, "1 1 set 1\n": api.ErrSyntax, "1 1 set 1 \n": api.ErrSyntax, "1 1 set 1  -\n": api.ErrSyntax, "1 1 set 1  n -\n": api.ErrSyntax, "1 1 set 1 n  -\n": api.ErrSyntax, "1 1 set 1 n - \n": api.ErrSyntax, "1 1 set 1 n m -\n": api.ErrSyntax, "1 1 set -\n": api.ErrSyntax,
		"1 1 set 1 A -\n": api.ErrName, "1 1 set 1 \x01 -\n": api.ErrName, "1 1 set 1 " + strings.Repeat("n", 21) + " -\n": api.ErrName, "1 1 set 1 n x\n": api.ErrSyntax, "1 1 set 1 n 01\n": api.ErrSyntax, "1 1 set 1 n 1000000001\n": api.ErrSyntax, "1 1 set 1 n -1000000000\n": api.OK, "1 1 set 1 n 2023-02-29\n": api.ErrSyntax, "1 1 set 1 n 2024-03-07..2024-03-06\n": api.ErrSyntax,
		"1 1 set 1 n \"\x01\"\n": api.ErrSyntax, "1 1 set 1 n [[]]\n": api.ErrSyntax, "1 1 set 1 n [[a]]\n": api.OK, "1 1 set 1 n [" + strings.Repeat("1, ", 20) + "1]\n": api.ErrSyntax, "1 1 set 1 n [" + strings.Repeat("1, ", 19) + "1]\n": api.OK, "1 1 set 0 n -\n": api.ErrRange,

		strings.Repeat(right, copy.MaxOps): api.OK, strings.Repeat(right, copy.MaxOps+1): api.ErrLarge, strings.Repeat(right, copy.MaxOps+1) + "x\n": api.ErrSyntax, strings.Repeat(right, copy.MaxOps) + "0 1 remove 1\n": api.ErrLarge, "0 1 remove 1\n1 1 set 1 A -\n": api.ErrRange, "1 1 set 1 A -\n0 1 remove 1\n": api.ErrName, "0 1 remove 1\nx\n": api.ErrSyntax,
		strings.Repeat("x", api.MaxBody): api.ErrSyntax, strings.Repeat("x", api.MaxBody+1): api.ErrLarge, strings.Repeat(right, api.MaxBody/len(right)+1): api.ErrLarge, must(copy.OpsText(long(api.MaxBody))): api.OK, must(copy.OpsText(long(api.MaxBody)))[1:]: api.ErrSyntax,
	} {
		got, errno := copy.ReadOps(s)
		if wantError(t, fmt.Sprintf("%q", s), errno, bad); bad != api.OK {
			continue
		}
		written, errno := copy.OpsText(got)
		want(t, s, written, s, errno, api.OK)
	}
}
