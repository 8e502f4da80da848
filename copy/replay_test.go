package copy_test

import (
	"fmt"
	"slices"
	"strings"
	"testing"

	"florilegium/api"
	"florilegium/copy"
	"florilegium/tree"
)

// P8.2: Replay

// wantReplay tells where operations make another base, or other blocks gone. They come to it turned round.
func wantReplay(t *testing.T, name string, l []copy.Op, drawn string, gone ...int) {
	t.Helper()
	l = slices.Clone(l)
	slices.Reverse(l)
	base, others, bad := copy.Replay(l)
	want(t, name+": base", draw(base), drawn, bad, api.OK)
	want(t, name+": gone", others, gone, bad, api.OK)
	if bad := tree.Check(base); bad != api.OK {
		t.Errorf("%s: %d", name, bad)
	}
}

// A replay is lines of operations, and what they make: the base, and the blocks that are gone.
type replay struct {
	lines []string
	drawn string
	gone  []int
}

func (r replay) check(t *testing.T, name string, before ...string) {
	t.Helper()
	wantReplay(t, name, read(append(before, r.lines...)...), r.drawn, r.gone...)
}

func TestReplayOfNothing(t *testing.T) {
	base, gone, bad := copy.Replay(nil)
	want(t, "base", base, []api.Block{{}}, bad, api.OK)
	want(t, "gone", gone, nil, bad, api.OK)
}

// zoo is two pages, the first one with three kids: 1 (4 5 6) 2.
var zoo = []string{
	`1 1 insert 1 0 0 "a"`, `1 2 insert 2 0 1 "b"`,
	`2 4 insert 4 1 0 "d"`, `2 5 insert 5 1 4 "e"`, `2 6 insert 6 1 5 "f"`,
}

func TestReplayInsert(t *testing.T) {
	for name, r := range map[string]replay{
		"nothing else":         {nil, "1:a(4:d, 5:e, 6:f), 2:b", nil},
		"first":                {[]string{`3 7 insert 7 1 0 "x"`}, "1:a(7:x, 4:d, 5:e, 6:f), 2:b", nil},
		"after a kid":          {[]string{`3 7 insert 7 1 4 "x"`}, "1:a(4:d, 7:x, 5:e, 6:f), 2:b", nil},
		"after the last kid":   {[]string{`3 7 insert 7 1 6 "x"`}, "1:a(4:d, 5:e, 6:f, 7:x), 2:b", nil},
		"after another's kid":  {[]string{`3 7 insert 7 1 2 "x"`}, "1:a(4:d, 5:e, 6:f, 7:x), 2:b", nil},
		"after the parent":     {[]string{`3 7 insert 7 2 1 "x"`}, "1:a(4:d, 5:e, 6:f), 2:b(7:x)", nil},
		"after none":           {[]string{`3 7 insert 7 1 99 "x"`}, "1:a(4:d, 5:e, 6:f, 7:x), 2:b", nil},
		"a page":               {[]string{`3 7 insert 7 0 1 "x"`}, "1:a(4:d, 5:e, 6:f), 7:x, 2:b", nil},
		"the first page":       {[]string{`3 7 insert 7 0 0 ""`}, "7:, 1:a(4:d, 5:e, 6:f), 2:b", nil},
		"without kids yet":     {[]string{`3 7 insert 7 5 4 "x"`}, "1:a(4:d, 5:e(7:x), 6:f), 2:b", nil},
		"two at one place":     {[]string{`3 7 insert 7 1 4 "x"`, `3 8 insert 8 1 4 "y"`, `3 9 insert 9 1 7 "z"`}, "1:a(4:d, 8:y, 7:x, 9:z, 5:e, 6:f), 2:b", nil},
		"an id again":          {[]string{`3 4 insert 4 0 0 "x"`}, "1:a(4:d, 5:e, 6:f), 2:b", nil},
		"an id that is gone":   {[]string{`3 1 remove 4`, `4 4 insert 4 0 0 "x"`}, "1:a(5:e, 6:f), 2:b", []int{4}},
		"no parent":            {[]string{`3 7 insert 7 99 0 "x"`}, "1:a(4:d, 5:e, 6:f), 2:b", nil},
		"a parent later":       {[]string{`3 7 insert 7 8 0 "x"`, `3 8 insert 8 0 0 "y"`}, "8:y, 1:a(4:d, 5:e, 6:f), 2:b", nil},
		"again with a parent":  {[]string{`3 7 insert 7 8 0 "x"`, `3 8 insert 8 0 0 "y"`, `4 7 insert 7 8 0 "z"`}, "8:y(7:z), 1:a(4:d, 5:e, 6:f), 2:b", nil},
		"below one gone":       {[]string{`3 1 remove 5`, `4 7 insert 7 5 0 "x"`}, "1:a(4:d, 6:f), 2:b", []int{5, 7}},
		"below one gone later": {[]string{`3 7 insert 7 5 0 "x"`, `4 8 insert 8 7 0 "y"`, `5 1 remove 5`}, "1:a(4:d, 6:f), 2:b", []int{5, 7, 8}},
		"after one gone":       {[]string{`3 1 remove 5`, `4 7 insert 7 1 5 "x"`}, "1:a(4:d, 7:x, 6:f), 2:b", []int{5}},
		"first before gone":    {[]string{`3 1 remove 4`, `4 7 insert 7 1 0 "x"`, `5 1 move 4 1 7`}, "1:a(7:x, 4:d, 5:e, 6:f), 2:b", nil},
	} {
		r.check(t, name, zoo...)
	}
}

func TestReplayMove(t *testing.T) {
	for name, r := range map[string]replay{
		"first":                   {[]string{`3 0 move 5 1 0`}, "1:a(5:e, 4:d, 6:f), 2:b", nil},
		"after":                   {[]string{`3 0 move 4 1 5`}, "1:a(5:e, 4:d, 6:f), 2:b", nil},
		"back":                    {[]string{`3 0 move 6 1 4`}, "1:a(4:d, 6:f, 5:e), 2:b", nil},
		"where it is":             {[]string{`3 0 move 5 1 4`}, "1:a(4:d, 5:e, 6:f), 2:b", nil},
		"first again":             {[]string{`3 0 move 4 1 0`}, "1:a(4:d, 5:e, 6:f), 2:b", nil},
		"after none":              {[]string{`3 0 move 4 1 99`}, "1:a(5:e, 6:f, 4:d), 2:b", nil},
		"after another's kid":     {[]string{`3 0 move 4 1 2`}, "1:a(5:e, 6:f, 4:d), 2:b", nil},
		"to another":              {[]string{`3 0 move 4 2 0`}, "1:a(5:e, 6:f), 2:b(4:d)", nil},
		"after one left behind":   {[]string{`3 0 move 4 2 5`}, "1:a(5:e, 6:f), 2:b(4:d)", nil},
		"with kids":               {[]string{`3 0 move 1 2 0`}, "2:b(1:a(4:d, 5:e, 6:f))", nil},
		"to the root":             {[]string{`3 0 move 4 0 1`}, "1:a(5:e, 6:f), 4:d, 2:b", nil},
		"into itself":             {[]string{`3 0 move 1 4 0`}, "1:a(4:d, 5:e, 6:f), 2:b", nil},
		"into what is deep in it": {[]string{`3 0 move 5 4 0`, `4 0 move 6 5 0`, `5 0 move 1 6 0`, `6 0 move 4 6 0`}, "1:a(4:d(5:e(6:f))), 2:b", nil},
		"into itself, gone":       {[]string{`3 0 move 5 4 0`, `4 0 remove 4`, `5 0 move 1 5 0`, `6 0 move 2 5 0`}, "1:a(6:f)", []int{2, 4, 5}},
		"a block that is not":     {[]string{`3 0 move 99 1 0`}, "1:a(4:d, 5:e, 6:f), 2:b", nil},
		"to what is not":          {[]string{`3 0 move 4 99 0`}, "1:a(4:d, 5:e, 6:f), 2:b", nil},
		"to what is later":        {[]string{`3 0 move 4 7 0`, `4 7 insert 7 0 0 "x"`}, "7:x, 1:a(4:d, 5:e, 6:f), 2:b", nil},
		"one gone":                {[]string{`3 0 remove 4`, `4 0 move 4 2 0`}, "1:a(5:e, 6:f), 2:b(4:d)", nil},
		"one gone, with kids":     {[]string{`3 0 remove 1`, `4 0 move 1 0 2`}, "2:b, 1:a(4:d, 5:e, 6:f)", nil},
		"one gone, to what isn't": {[]string{`3 0 remove 4`, `4 0 move 4 99 0`}, "1:a(5:e, 6:f), 2:b", []int{4}},
		"one gone, into itself":   {[]string{`3 0 remove 1`, `4 0 move 1 4 0`}, "2:b", []int{1, 4, 5, 6}},
		"to one gone":             {[]string{`3 0 remove 1`, `4 0 move 2 1 5`, `5 0 move 1 0 0`}, "1:a(4:d, 5:e, 2:b, 6:f)", nil},
		"after one gone":          {[]string{`3 0 remove 4`, `4 0 remove 5`, `5 0 move 2 1 4`, `6 0 move 5 1 2`}, "1:a(2:b, 5:e, 6:f)", []int{4}},
		"a kid out of one gone":   {[]string{`3 0 remove 1`, `4 0 move 5 0 0`}, "5:e, 2:b", []int{1, 4, 6}},
		"later kids stay":         {[]string{`3 0 move 4 2 0`, `3 1 move 5 2 4`, `3 2 move 6 2 4`}, "1:a, 2:b(4:d, 6:f, 5:e)", nil},
	} {
		r.check(t, name, zoo...)
	}
}

func TestReplayRemove(t *testing.T) {
	for name, r := range map[string]replay{
		"one":                  {[]string{`3 0 remove 5`}, "1:a(4:d, 6:f), 2:b", []int{5}},
		"two":                  {[]string{`3 0 remove 6`, `4 0 remove 4`}, "1:a(5:e), 2:b", []int{4, 6}},
		"again":                {[]string{`3 0 remove 5`, `3 1 remove 5`}, "1:a(4:d, 6:f), 2:b", []int{5}},
		"with kids":            {[]string{`3 0 remove 1`}, "2:b", []int{1, 4, 5, 6}},
		"with one gone":        {[]string{`3 0 remove 5`, `4 0 remove 1`, `5 0 move 1 0 0`}, "1:a(4:d, 6:f), 2:b", []int{5}},
		"what is not":          {[]string{`3 0 remove 99`}, "1:a(4:d, 5:e, 6:f), 2:b", nil},
		"what is later":        {[]string{`3 0 remove 7`, `4 7 insert 7 0 0 "x"`}, "7:x, 1:a(4:d, 5:e, 6:f), 2:b", nil},
		"keeps its position":   {[]string{`3 0 remove 5`, `4 0 move 2 1 5`, `5 0 move 4 1 2`}, "1:a(2:b, 4:d, 6:f)", []int{5}},
		"all":                  {[]string{`3 0 remove 1`, `4 0 remove 2`}, "", []int{1, 2, 4, 5, 6}},
		"moved at one time":    {[]string{`3 0 remove 5`, `3 1 move 5 1 0`}, "1:a(5:e, 4:d, 6:f), 2:b", nil},
		"removed at that time": {[]string{`3 0 move 5 1 0`, `3 1 remove 5`}, "1:a(4:d, 6:f), 2:b", []int{5}},
	} {
		r.check(t, name, zoo...)
	}
}

func TestReplayType(t *testing.T) {
	for name, r := range map[string]replay{
		"at the beginning":       {[]string{`2 2 type 1 0 0 0 "x"`}, "1:xabcd", nil},
		"after the first":        {[]string{`2 2 type 1 1 1 0 "xy"`}, "1:axybcd", nil},
		"inside":                 {[]string{`2 2 type 1 1 1 2 "xy"`}, "1:abcxyd", nil},
		"at the end":             {[]string{`2 2 type 1 1 1 3 "xy"`}, "1:abcdxy", nil},
		"after no octet":         {[]string{`2 2 type 1 1 1 4 "x"`, `3 2 type 1 1 1 9 "y"`, `4 2 type 1 2 7 0 "z"`, `5 2 type 1 1 2 0 "q"`}, "1:abcdxyzq", nil},
		"in what was typed":      {[]string{`2 2 type 1 1 1 1 "xyz"`, `3 2 type 1 2 2 0 "!"`, `4 2 type 1 2 2 1 "?"`, `5 2 type 1 2 2 2 "."`}, "1:abx!y?z.cd", nil},
		"at one place":           {[]string{`2 2 type 1 1 1 0 "x"`, `2 3 type 1 1 1 0 "y"`, `3 0 type 1 1 1 0 "z"`}, "1:azyxbcd", nil},
		"at the beginning often": {[]string{`2 2 type 1 0 0 0 "x"`, `2 3 type 1 0 0 0 "y"`, `3 0 type 1 2 3 0 "z"`}, "1:yzxabcd", nil},
		"at the end often":       {[]string{`2 2 type 1 1 1 3 "x"`, `2 3 type 1 1 1 3 "y"`, `3 0 type 1 1 0 3 "z"`}, "1:abcdyxz", nil},
		"cut often":              {[]string{`2 2 type 1 1 1 2 "x"`, `3 2 type 1 1 1 0 "y"`, `4 2 type 1 1 1 1 "z"`, `5 2 type 1 1 1 2 "!"`, `6 2 type 1 1 1 3 "?"`}, "1:aybzc!xd?", nil},
		"after one erased":       {[]string{`2 2 erase 1 1 1 1`, `3 2 type 1 1 1 1 "x"`}, "1:axcd", nil},
		"after one erased later": {[]string{`2 2 type 1 1 1 1 "x"`, `3 2 erase 1 1 1 1 1 1 2 2 2 0`, `4 2 type 1 2 2 0 "y"`}, "1:ayd", nil},
		"all erased":             {[]string{`2 2 erase 1 1 1 0 1 1 1 1 1 2 1 1 3`, `3 2 type 1 1 1 1 "x"`, `4 3 type 1 0 0 0 "y"`, `5 3 type 1 3 9 9 "z"`}, "1:yxz", nil},
		"to no block":            {[]string{`2 2 type 2 0 0 0 "x"`, `3 2 insert 2 0 1 "y"`}, "1:abcd, 2:y", nil},
		"to one gone":            {[]string{`2 2 remove 1`, `3 2 type 1 1 1 0 "x"`, `4 2 move 1 0 0`}, "1:axbcd", nil},
		"after another's octet":  {[]string{`2 2 insert 2 0 1 "uv"`, `3 2 type 2 1 1 0 "x"`, `4 2 type 1 2 2 0 "y"`}, "1:abcdy, 2:uvx", nil},
		"of one without effect":  {[]string{`2 1 insert 1 0 0 "uv"`, `3 2 type 1 2 1 0 "x"`, `4 2 erase 1 2 1 0 2 1 1`}, "1:abcdx", nil},
		"high bytes":             {[]string{"2 2 type 1 1 1 0 \"\xc3\xa4\"", "3 2 type 1 2 2 0 \"\xff\""}, "1:a\xc3\xff\xa4bcd", nil},
	} {
		r.check(t, name, `1 1 insert 1 0 0 "abcd"`)
	}
}

func TestReplayErase(t *testing.T) {
	for name, r := range map[string]replay{
		"one":                {[]string{`2 2 erase 1 1 1 1`}, "1:acd, 2:efg", nil},
		"some":               {[]string{`2 2 erase 1 1 1 0 1 1 3`}, "1:bc, 2:efg", nil},
		"all":                {[]string{`2 2 erase 1 1 1 0 1 1 1 1 1 2 1 1 3`}, "1:, 2:efg", nil},
		"again":              {[]string{`2 2 erase 1 1 1 1`, `2 3 erase 1 1 1 1 1 1 2`}, "1:ad, 2:efg", nil},
		"no octet":           {[]string{`2 2 erase 1 1 1 4`, `3 2 erase 1 1 1 2000`, `4 2 erase 1 2 9 0`, `5 2 erase 1 1 3 0`}, "1:abcd, 2:efg", nil},
		"another's":          {[]string{`2 2 erase 1 1 1 0 1 2 0 1 2 1`}, "1:bcd, 2:efg", nil},
		"no block":           {[]string{`2 2 erase 3 1 1 0`}, "1:abcd, 2:efg", nil},
		"of one gone":        {[]string{`2 2 remove 1`, `3 2 erase 1 1 1 0`, `4 2 move 1 0 0`}, "1:bcd, 2:efg", nil},
		"of several":         {[]string{`2 2 type 1 1 1 0 "xyz"`, `3 2 erase 1 1 1 0 1 1 1 2 2 0 2 2 2`}, "1:ycd, 2:efg", nil},
		"before it is typed": {[]string{`2 2 erase 1 1 1 0`, `2 3 type 1 1 1 0 "x"`, `3 1 type 1 0 0 0 "y"`}, "1:yxbcd, 2:efg", nil},
		"part of a part":     {[]string{`2 2 type 1 1 1 1 "x"`, `3 2 erase 1 1 1 2`, `4 2 type 1 1 1 2 "y"`, `5 2 erase 1 1 1 0 1 1 3`}, "1:bxy, 2:efg", nil},
	} {
		r.check(t, name, `1 1 insert 1 0 0 "abcd"`, `1 2 insert 2 0 1 "efg"`)
	}
}

func TestReplaySetProp(t *testing.T) {
	for name, r := range map[string]replay{
		"one":             {[]string{`2 2 set 1 n 1`}, "1:a n=1", nil},
		"by name":         {[]string{`2 2 set 1 n 1`, `3 2 set 1 b "x"`, `4 2 set 1 z [1, 2]`, `5 2 set 1 b-1 yes`}, `1:a b="x" b-1=yes n=1 z=[1, 2]`, nil},
		"again":           {[]string{`2 2 set 1 n 1`, `3 2 set 1 n "x"`}, `1:a n="x"`, nil},
		"by stamps":       {[]string{`2 3 set 1 n 3`, `2 2 set 1 n 2`, `2 4 set 1 m 4`}, "1:a m=4 n=3", nil},
		"none":            {[]string{`2 2 set 1 n -`}, "1:a", nil},
		"gone":            {[]string{`2 2 set 1 n 1`, `3 2 set 1 m 1`, `4 2 set 1 n -`}, "1:a m=1", nil},
		"back":            {[]string{`2 2 set 1 n 1`, `3 2 set 1 n -`, `4 2 set 1 n 2`}, "1:a n=2", nil},
		"no block":        {[]string{`2 2 set 2 n 1`, `3 2 insert 2 0 1 "b"`}, "1:a, 2:b", nil},
		"of one gone":     {[]string{`2 2 remove 1`, `3 2 set 1 n 1`, `4 2 move 1 0 0`}, "1:a n=1", nil},
		"kept by a block": {[]string{`2 2 insert 2 0 1 "b"`, `3 2 set 1 n 1`, `4 2 move 1 2 0`}, "2:b(1:a n=1)", nil},
	} {
		r.check(t, name, `1 1 insert 1 0 0 "a"`)
	}
}

func TestReplayErrors(t *testing.T) {
	wrong := changed(removed(at(1, 0), 1), func(o *copy.Op) { o.Kind = 9 })
	for name, c := range map[string]struct {
		l   []copy.Op
		bad api.Errno
	}{
		"most":                   {many(1, copy.MaxOps), api.OK},
		"too many":               {many(1, copy.MaxOps+1), api.ErrLarge},
		"too many before bad":    {append(many(1, copy.MaxOps), wrong), api.ErrLarge},
		"first bad":              {append(many(1, 9), removed(at(0, 0), 1), wrong), api.ErrRange},
		"first bad of the list":  {append(many(1, 9), wrong, removed(at(0, 0), 1)), api.ErrKind},
		"equal":                  {append(many(1, 9), removed(at(5, 0), 1)), api.ErrTwice},
		"one stamp":              {[]copy.Op{removed(at(3, 4), 1), removed(at(3, 5), 1), moved(at(3, 4), 2, 1, 0)}, api.ErrTwice},
		"one stamp, bad":         {append(append(many(1, 9), removed(at(5, 0), 1)), wrong), api.ErrKind},
		"one time":               {[]copy.Op{removed(at(3, 4), 1), removed(at(3, 5), 1)}, api.OK},
		"most, and one is twice": {append(many(1, copy.MaxOps-1), removed(at(1, 0), 1)), api.ErrTwice},
	} {
		_, _, bad := copy.Replay(c.l)
		wantError(t, name, bad, c.bad)
	}
}

// The bounds of a base.

// full gives the insert of a page 1 with as many octets as a base shows.
func full() []copy.Op {
	return []copy.Op{inserted(at(1, 1), 1, 0, 0, strings.Repeat("x", api.MaxString))}
}

func TestReplayLongTexts(t *testing.T) {
	xs := func(n int) string { return strings.Repeat("x", n) }
	for name, c := range map[string]struct {
		lines []string
		text  string
	}{
		"full":                {nil, xs(2000)},
		"one more":            {[]string{`2 1 type 1 1 1 1999 "y"`}, xs(2000)},
		"one more first":      {[]string{`2 1 type 1 0 0 0 "y"`}, "y" + xs(1999)},
		"one more inside":     {[]string{`2 1 type 1 1 1 1997 "yz"`}, xs(1998) + "yz"},
		"shown again":         {[]string{`2 1 type 1 1 1 1999 "yz"`, `3 1 erase 1 1 1 7`}, xs(1999) + "y"},
		"after one too far":   {[]string{`2 1 type 1 1 1 1999 "yz"`, `3 1 type 1 2 1 0 "q"`, `4 1 erase 1 1 1 7 1 1 8 1 1 9`}, xs(1997) + "yqz"},
		"erased too far":      {[]string{`2 1 type 1 1 1 1999 "yz"`, `3 1 erase 1 2 1 0`, `4 1 erase 1 1 1 7`}, xs(1999) + "z"},
		"erased do not count": {[]string{`2 1 erase 1 1 1 0`, `3 1 type 1 1 1 0 "y"`}, "y" + xs(1999)},
	} {
		base, _, bad := copy.Replay(append(full(), read(append(c.lines, "9 9 remove 9")...)...))
		want(t, name, textOf(base, 1), c.text, bad, api.OK)
		wantError(t, name, tree.Check(base), api.OK)
	}
}

func TestReplayManyProps(t *testing.T) {
	l := []copy.Op{inserted(at(1, 1), 1, 0, 0, "")}
	for i := range 22 {
		l = append(l, given(at(30-i, 1), 1, fmt.Sprint("p", 10+i), num(i)))
	}
	names := func(l []copy.Op) string {
		base, _, bad := copy.Replay(l)
		wantError(t, "Replay", max(bad, tree.Check(base)), api.OK)
		b, _ := tree.Get(base, 1)
		s := fmt.Sprint(len(b.Props))
		for _, p := range b.Props {
			s += " " + p.Name
		}
		return s
	}
	first := "20 p10 p11 p12 p13 p14 p15 p16 p17 p18 p19 p20 p21 p22 p23 p24 p25 p26 p27 p28 p29"
	want(t, "20", names(l[:21]), first, 0, 0)
	want(t, "22", names(l), first, 0, 0)
	want(t, "one less", names(append(l, given(at(40, 1), 1, "p12", api.Value{}))), strings.Replace(first, " p12", "", 1)+" p30", 0, 0)
	want(t, "one more", names(append(l, given(at(40, 1), 1, "a", num(1)))), strings.Replace(strings.Replace(first, " p29", "", 1), " p10", " a p10", 1), 0, 0)
}

// kids gives so many inserts, one after the other, from a time and an id on.
func kids(time, id, parent, count int) []copy.Op {
	var l []copy.Op
	left := 0
	for i := range count {
		l = append(l, inserted(at(time+i, id%copy.MaxCopies), id, parent, left, ""))
		left = id
		id++
	}
	return l
}

func TestReplayManyKids(t *testing.T) {
	shown := func(l []copy.Op, id int) ([]int, []int) {
		base, gone, bad := copy.Replay(l)
		wantError(t, "Replay", max(bad, tree.Check(base)), api.OK)
		b, _ := tree.Get(base, id)
		return b.Kids, gone
	}
	l := append([]copy.Op{inserted(at(1, 1), 1, 0, 0, "")}, kids(2, 2, 1, tree.MaxKids+2)...)
	last := tree.MaxKids + 1
	got, gone := shown(l, 1)
	want(t, "kids", []int{len(got), got[0], got[len(got)-1]}, []int{tree.MaxKids, 2, last}, 0, 0)
	want(t, "gone", gone, []int{last + 1, last + 2}, 0, 0)
	got, gone = shown(append(l, removed(at(9000, 1), 5), inserted(at(9001, 0), 8000, last+1, 0, "")), 1)
	want(t, "kids", []int{len(got), got[len(got)-1]}, []int{tree.MaxKids, last + 1}, 0, 0)
	want(t, "gone", gone, []int{5, last + 2}, 0, 0)
	got, gone = shown(append(l, inserted(at(9001, 0), 8000, last+1, 0, "")), 1)
	want(t, "kids", []int{len(got), got[len(got)-1]}, []int{tree.MaxKids, last}, 0, 0)
	want(t, "gone", gone, []int{last + 1, last + 2, 8000}, 0, 0)
	got, gone = shown(kids(1, 1, 0, tree.MaxKids+1), 0)
	want(t, "pages", []int{len(got), got[len(got)-1]}, []int{tree.MaxKids, tree.MaxKids}, 0, 0)
	want(t, "gone", gone, []int{tree.MaxKids + 1}, 0, 0)
}

// chain gives so many inserts, one below the other, from a time and an id on.
func chain(time, id, parent, count int) []copy.Op {
	var l []copy.Op
	for i := range count {
		l = append(l, inserted(at(time+i, id%copy.MaxCopies), id, parent, 0, ""))
		parent = id
		id++
	}
	return l
}

func TestReplayDeep(t *testing.T) {
	l := chain(1, 1, 0, api.MaxDeep+2)
	base, gone, bad := copy.Replay(l)
	want(t, "deep", len(base), api.MaxDeep+1, bad, api.OK)
	want(t, "gone", gone, []int{api.MaxDeep + 1, api.MaxDeep + 2}, bad, api.OK)
	wantError(t, "Check", tree.Check(base), api.OK)
	base, gone, bad = copy.Replay(append(l, moved(at(900, 1), 3, 0, 0)))
	want(t, "less deep", len(base), api.MaxDeep+3, bad, api.OK)
	want(t, "gone", gone, nil, bad, api.OK)
	base, gone, bad = copy.Replay(append(l, inserted(at(900, 0), 8000, api.MaxDeep, 0, ""), inserted(at(901, 1), 8001, api.MaxDeep-1, api.MaxDeep, "")))
	want(t, "beside", len(base), api.MaxDeep+2, bad, api.OK)
	want(t, "gone", gone, []int{api.MaxDeep + 1, api.MaxDeep + 2, 8000}, bad, api.OK)
	kid, _ := tree.Get(base, api.MaxDeep)
	want(t, "kids of the deepest", kid.Kids, nil, bad, api.OK)
}

// crowd gives inserts of four pages with 498 kids each, and a fifth one with three:
// as many blocks as a base has, and so many more. Ids are from 1 on in the base's order.
func crowd(more int) []copy.Op {
	var l []copy.Op
	left := 0
	for id := 1; id < api.MaxBlocks; id += 499 {
		l = append(l, inserted(at(id, id%copy.MaxCopies), id, 0, left, ""))
		count := min(498, api.MaxBlocks-1-id+more)
		l = append(l, kids(id+1, id+1, id, count)...)
		left = id
	}
	return l
}

func TestReplayManyBlocks(t *testing.T) {
	base, gone, bad := copy.Replay(crowd(0))
	want(t, "all", len(base), api.MaxBlocks, bad, api.OK)
	want(t, "gone", gone, nil, bad, api.OK)
	base, gone, bad = copy.Replay(crowd(3))
	want(t, "more", len(base), api.MaxBlocks, bad, api.OK)
	want(t, "gone", gone, []int{2000, 2001, 2002}, bad, api.OK)
	wantError(t, "Check", tree.Check(base), api.OK)
	want(t, "order", tree.Order(base)[api.MaxBlocks-2], api.MaxBlocks-1, bad, api.OK)
	page, _ := tree.Get(base, 1997)
	want(t, "kids of the last page", page.Kids, []int{1998, 1999}, bad, api.OK)
	// In the tree's order the fifth page comes first now, so that the fourth one's end has no room.
	base, gone, bad = copy.Replay(append(crowd(3), moved(at(9000, 1), 1997, 0, 0)))
	want(t, "page first", len(base), api.MaxBlocks, bad, api.OK)
	want(t, "gone", gone, []int{1994, 1995, 1996}, bad, api.OK)
	// What is too deep takes no room: 9000 to 9039 are shown, and all others.
	base, gone, bad = copy.Replay(append(crowd(0)[:api.MaxBlocks-1-api.MaxDeep], chain(9000, 9000, 0, api.MaxDeep+2)...))
	want(t, "deep", len(base), api.MaxBlocks, bad, api.OK)
	want(t, "gone", gone, []int{9040, 9041}, bad, api.OK)
	// Below 1996, which is 2 deep and comes before the last page, there is room for three.
	base, gone, bad = copy.Replay(append(crowd(0), chain(9000, 9000, 1996, 5)...))
	want(t, "below", len(base), api.MaxBlocks, bad, api.OK)
	want(t, "gone", gone, []int{1997, 1998, 1999, 9003, 9004}, bad, api.OK)
	last, _ := tree.Get(base, 9002)
	want(t, "kids of the last one", last.Kids, nil, bad, api.OK)
}

// P8.2, what follows: the base is that of the set of operations.
func TestReplayInAnyOrder(t *testing.T) {
	var d dice
	for i := range rounds(t, 300) {
		l := d.history(40)
		base, gone, bad := copy.Replay(l)
		wantError(t, "Replay", bad, api.OK)
		other, otherGone, bad := copy.Replay(d.shuffled(l))
		want(t, fmt.Sprint("base ", i), other, base, bad, api.OK)
		want(t, fmt.Sprint("gone ", i), otherGone, gone, bad, api.OK)
	}
}
