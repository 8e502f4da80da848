package copy_test

import (
	"fmt"
	"math"
	"slices"
	"strings"
	"testing"

	"florilegium/api"
	"florilegium/copy"
	"florilegium/tree"
)

// P8.3: New, Number, Time, Base, Gone, Spots, Fresh

func TestNew(t *testing.T) {
	for _, number := range []int{0, 1, 9, copy.MaxCopies - 1} {
		c, bad := copy.New(number)
		wantError(t, "New", bad, api.OK)
		want(t, "number and time", []int{c.Number(), c.Time(), len(c.Ops())}, []int{number, 0, 0}, 0, 0)
		wantBase(t, "new", c, "")
		want(t, "Base", c.Base(), tree.Empty(), 0, 0)
		want(t, "Knows", c.Knows(), make(copy.Knows, copy.MaxCopies), 0, 0)
	}
	for _, number := range []int{math.MinInt, -1, copy.MaxCopies, math.MaxInt} {
		c, bad := copy.New(number)
		wantError(t, fmt.Sprint(number), bad, api.ErrRange)
		if c != nil {
			t.Error(c)
		}
	}
}

func TestBaseAndGone(t *testing.T) {
	c := knowing(3, read(zoo...)...)
	wantBase(t, "taken", c, "1:a(4:d, 5:e, 6:f), 2:b")
	want(t, "Time", c.Time(), 2, 0, 0)
	must(c.Take(read(`5 4 remove 5`)))
	wantBase(t, "removed", c, "1:a(4:d, 6:f), 2:b", 5)
	must(c.Take(read(`4 9 remove 1`)))
	wantBase(t, "from before", c, "2:b", 1, 4, 5, 6)
	must(c.Take(read(`4 10 move 1 2 0`, `4 8 move 5 0 0`)))
	wantBase(t, "between", c, "2:b(1:a(4:d, 6:f))", 5)
	want(t, "Time", c.Time(), 5, 0, 0)
	must(c.Take(read(`5 6 move 5 6 0`)))
	wantBase(t, "after all", c, "2:b(1:a(4:d, 6:f(5:e)))")
	want(t, "Number", c.Number(), 3, 0, 0)
}

func TestSpots(t *testing.T) {
	c := knowing(3, read(`1 1 insert 1 0 0 "abcd"`, `2 2 type 1 1 1 1 "xy"`, `3 0 insert 16 1 0 ""`, `4 0 type 1 2 2 0 "z"`)...)
	got, bad := c.Spots(1)
	want(t, "typed", got, []copy.Spot{spot(1, 1, 0), spot(1, 1, 1), spot(2, 2, 0), spot(4, 0, 0), spot(2, 2, 1), spot(1, 1, 2), spot(1, 1, 3)}, bad, api.OK)
	got, bad = c.Spots(16)
	want(t, "no octets", got, nil, bad, api.OK)
	must(c.Take(read(`5 5 erase 1 1 1 0 2 2 0 2 2 1`)))
	got, bad = c.Spots(1)
	want(t, "erased", got, []copy.Spot{spot(1, 1, 1), spot(4, 0, 0), spot(1, 1, 2), spot(1, 1, 3)}, bad, api.OK)
	for _, id := range []int{math.MinInt, -1, 0, 2, 17, api.MaxId + 1, math.MaxInt} {
		wantError(t, fmt.Sprint(id), second(c.Spots(id)), api.ErrNone)
	}
	must(c.Take(read(`6 5 remove 1`)))
	wantError(t, "gone", second(c.Spots(1)), api.ErrNone)
	wantError(t, "below one gone", second(c.Spots(16)), api.ErrNone)
}

func TestSpotsOfLongTexts(t *testing.T) {
	c := knowing(1, append(full(), typed(at(2, 1), 1, spot(1, 1, 1997), "yz"))...)
	got, bad := c.Spots(1)
	want(t, "most", len(got), api.MaxString, bad, api.OK)
	want(t, "ends", []copy.Spot{got[0], got[1997], got[1999]}, []copy.Spot{spot(1, 1, 0), spot(1, 1, 1997), spot(2, 1, 1)}, bad, api.OK)
	deep := knowing(1, chain(1, 1, 0, api.MaxDeep+1)...)
	wantError(t, "deepest", second(deep.Spots(api.MaxDeep)), api.OK)
	wantError(t, "too deep", second(deep.Spots(api.MaxDeep+1)), api.ErrNone)
}

func TestFresh(t *testing.T) {
	for number, c := range map[int]struct {
		l    []copy.Op
		want int
	}{
		0:  {nil, 16},
		1:  {nil, 1},
		15: {nil, 15},
		2:  {read(`1 1 insert 1 0 0 ""`), 2},
		3:  {read(`1 3 insert 3 0 0 ""`), 19},
		4:  {read(`1 5 insert 5 0 0 ""`), 20},
		5:  {read(`1 4 insert 36 0 0 ""`, `2 0 insert 16 0 0 ""`), 37},
		6:  {read(`1 6 insert 38 99 0 ""`), 54},
		7:  {read(`1 1 move 999 0 0`, `2 1 remove 999`, `3 1 set 999 n 1`, `4 1 type 999 0 0 0 "x"`), 7},
		8:  {read(`1 0 insert 1000000 0 0 ""`), 1_000_008},
		9:  {read(`1 0 insert 999984 0 0 ""`), 999_993},
		10: {read(`1 1 insert 17 0 0 ""`, `2 1 remove 17`), 26},
		11: {read(`1 1 insert 17 0 0 ""`, `2 1 insert 1 0 0 ""`), 27},
		12: {read(`1 11 insert 11 0 0 ""`), 12},
		13: {read(`1 13 insert 999997 0 0 ""`), 1_000_013},
	} {
		want(t, fmt.Sprint(number), knowing(number, c.l...).Fresh(), c.want, 0, 0)
	}
	zero := knowing(0, read(`1 15 insert 15 0 0 ""`)...)
	want(t, "0 after 15", zero.Fresh(), 16, 0, 0)
	must(zero.Take(read(`2 0 insert 16 0 0 ""`)))
	want(t, "0 after 16", zero.Fresh(), 32, 0, 0)
}

// Each block that a copy makes with Fresh is a new one, there and elsewhere.
func TestFreshIsFresh(t *testing.T) {
	a, b := must(copy.New(0)), must(copy.New(7))
	for i := range 20 {
		done(a, insert(a.Fresh(), 0, 0, "a"))
		done(b, insert(b.Fresh(), 0, 0, "b"))
		if i%3 == 0 {
			must(a.Take(b.Ops()))
		}
	}
	must(a.Take(b.Ops()))
	must(b.Take(a.Ops()))
	want(t, "blocks", len(a.Base()), 41, 0, 0)
	want(t, "Base", b.Base(), a.Base(), 0, 0)
}

// P8.5: Ops, Knows, Since, Take, Fork, Meet

func TestOpsKnowsSince(t *testing.T) {
	l := read(`2 4 insert 4 0 0 "a"`, `2 5 insert 5 0 0 ""`, `3 0 set 4 n [1, "x"]`, `3 4 type 4 2 4 0 "b"`, `3 5 erase 4 2 4 0 3 4 0`, `7 4 remove 5`)
	c := must(copy.New(4))
	for _, i := range []int{3, 0, 5, 1, 4, 2} {
		must(c.Take(l[i : i+1]))
	}
	want(t, "Ops", c.Ops(), l, 0, 0)
	want(t, "Knows", c.Knows(), copy.Knows{3, 0, 0, 0, 7, 3, 0, 0, 0, 0, 0, 0, 0, 0, 0, 0}, 0, 0)
	for name, x := range map[string]struct {
		k    copy.Knows
		want []copy.Op
	}{
		"nothing":         {nil, l},
		"none":            {copy.Knows{}, l},
		"zeros":           {make(copy.Knows, copy.MaxCopies), l},
		"all":             {c.Knows(), nil},
		"up to 2":         {copy.Knows{2, 2, 2, 2, 2, 2}, l[2:]},
		"up to 2 of some": {copy.Knows{2, 2, 2, 2, 2}, l[1:]},
		"up to 3":         {copy.Knows{3, 0, 0, 0, 3}, []copy.Op{l[1], l[4], l[5]}},
		"up to 6":         {copy.Knows{2, 0, 0, 0, 6, 9}, []copy.Op{l[2], l[5]}},
		"much":            {slices.Repeat(copy.Knows{math.MaxInt}, 16), nil},
		"of others":       {copy.Knows{0, 9, 9, 9, 0, 0, 9, 9, 9, 9, 9, 9, 9, 9, 9, 9, 9, 9, 9}, l},
		"the first":       {copy.Knows{3}, slices.Concat(l[:2], l[3:])},
	} {
		got, bad := c.Since(x.k)
		want(t, name, got, x.want, bad, api.OK)
	}
	for _, k := range []copy.Knows{{-1}, {0, 0, -1, 0}, {math.MinInt, 1}, append(make(copy.Knows, 16), -1), append(make(copy.Knows, 99), -1)} {
		wantError(t, fmt.Sprint(k), second(c.Since(k)), api.ErrRange)
		wantError(t, fmt.Sprint(k), second(must(copy.New(0)).Since(k)), api.ErrRange)
	}
	got, bad := must(copy.New(0)).Since(nil)
	want(t, "new", got, nil, bad, api.OK)
	// Parts that leave something out between have gaps that Since does not see.
	gap := knowing(1, l[5])
	got, bad = c.Since(gap.Knows())
	want(t, "gap", got, []copy.Op{l[1], l[2], l[4]}, bad, api.OK)
}

func TestTake(t *testing.T) {
	l := read(`1 1 insert 1 0 0 "a"`, `2 2 set 1 n [1]`, `2 3 erase 1 1 1 0`, `3 2 type 1 1 1 0 "b"`)
	c := must(copy.New(5))
	take := func(name string, l []copy.Op, count, time int) {
		t.Helper()
		got, bad := c.Take(l)
		want(t, name, []int{got, c.Time()}, []int{count, time}, bad, api.OK)
	}
	take("nothing", nil, 0, 0)
	take("one", l[1:2], 1, 2)
	take("again", l[1:2], 0, 2)
	take("twice in one", []copy.Op{l[0], l[1], l[0], l[0]}, 1, 2)
	take("all", l, 2, 3)
	take("all again, turned round", []copy.Op{l[3], l[2], l[1], l[0]}, 0, 3)
	take("its own number", read(`9 5 insert 5 0 1 "c"`), 1, 9)
	take("a time before", read(`8 5 insert 21 0 1 "d"`), 1, 9)
	wantBase(t, "taken", c, "1:b n=[1], 5:c, 21:d")
	want(t, "Ops", c.Ops(), append(slices.Clone(l), read(`8 5 insert 21 0 1 "d"`, `9 5 insert 5 0 1 "c"`)...), 0, 0)
	take("the greatest time", []copy.Op{removed(at(copy.MaxTime, 15), 5)}, 1, copy.MaxTime)
}

func TestTakeErrors(t *testing.T) {
	known := append(rightOps(), inserted(at(9, 0), 16, 0, 0, ""))
	other := func(i int, change func(o *copy.Op)) []copy.Op { return []copy.Op{changed(known[i], change)} }
	wrong := changed(removed(at(20, 0), 1), func(o *copy.Op) { o.Kind = 9 })
	for name, x := range map[string]struct {
		l   []copy.Op
		bad api.Errno
	}{
		"right":               {rightOps(), api.OK},
		"too many":            {many(100, copy.MaxOps+1), api.ErrLarge},
		"too many before bad": {append(many(100, copy.MaxOps), wrong), api.ErrLarge},
		"bad":                 {append(rightOps(), wrong), api.ErrKind},
		"bad in order":        {append(rightOps(), removed(at(0, 0), 1), wrong), api.ErrRange},
		"bad after twice":     {append(other(0, func(o *copy.Op) { o.Octets = "x" }), wrong), api.ErrKind},
		"bad after full":      {append(many(100, copy.MaxOps-1), wrong), api.ErrKind},
		"twice after full":    {append(many(100, copy.MaxOps-1), other(0, func(o *copy.Op) { o.Octets = "x" })...), api.ErrTwice},
		"full":                {many(100, copy.MaxOps-6), api.ErrFull},
		"just not full":       {append(many(100, copy.MaxOps-7), known...), api.OK},
		"kind":                {[]copy.Op{removed(at(2, 1), 17)}, api.ErrTwice},
		"id":                  {other(0, func(o *copy.Op) { o.Id = 33 }), api.ErrTwice},
		"parent":              {other(0, func(o *copy.Op) { o.Parent = 33 }), api.ErrTwice},
		"left":                {other(1, func(o *copy.Op) { o.Left = 33 }), api.ErrTwice},
		"id of a remove":      {other(2, func(o *copy.Op) { o.Id = 33 }), api.ErrTwice},
		"after":               {other(3, func(o *copy.Op) { o.After.At = 33 }), api.ErrTwice},
		"no after":            {other(3, func(o *copy.Op) { o.After = copy.Spot{} }), api.ErrTwice},
		"octets":              {other(3, func(o *copy.Op) { o.Octets = "y" }), api.ErrTwice},
		"octets of insert":    {other(0, func(o *copy.Op) { o.Octets = "" }), api.ErrTwice},
		"fewer spots":         {other(4, func(o *copy.Op) { o.Spots = o.Spots[:2] }), api.ErrTwice},
		"another spot":        {other(4, func(o *copy.Op) { o.Spots = []copy.Spot{o.Spots[0], o.Spots[1], spot(5, 0, 1)} }), api.ErrTwice},
		"name":                {other(5, func(o *copy.Op) { o.Name = "m" }), api.ErrTwice},
		"value":               {other(5, func(o *copy.Op) { o.Value = num(1) }), api.ErrTwice},
		"none":                {other(5, func(o *copy.Op) { o.Value = api.Value{} }), api.ErrTwice},
		"item":                {other(5, func(o *copy.Op) { o.Value = list(num(-3), str("x")) }), api.ErrTwice},
		"items":               {other(5, func(o *copy.Op) { o.Value = list(num(-3)) }), api.ErrTwice},
		"twice in it":         {[]copy.Op{removed(at(30, 0), 1), removed(at(31, 0), 1), removed(at(30, 0), 2)}, api.ErrTwice},
		"equal, then not":     {[]copy.Op{removed(at(30, 0), 1), removed(at(30, 0), 1), moved(at(30, 0), 1, 0, 0)}, api.ErrTwice},
		"another copy's":      {[]copy.Op{removed(at(30, 0), 1), removed(at(30, 1), 2)}, api.OK},
	} {
		c := knowing(3, known...)
		got, bad := c.Take(x.l)
		wantError(t, name, bad, x.bad)
		if x.bad == api.OK {
			continue
		}
		want(t, name, got, 0, 0, 0)
		want(t, name, c.Ops(), known, 0, 0)
		want(t, name, c.Time(), 9, 0, 0)
		wantBase(t, name, c, "16:")
	}
}

// What is equal may be so by other memory, and by empty lists that are nil or not.
func TestTakeOfEqualOps(t *testing.T) {
	c := knowing(3, rightOps()...)
	l := rightOps()
	l[0].Spots, l[0].Value.Items = []copy.Spot{}, []api.Value{}
	l[5].Value = list(api.Value{Kind: api.Number, Int: -3, Items: []api.Value{}}, str(strings.Clone("\"")))
	got, bad := c.Take(l)
	want(t, "Take", got, 0, bad, api.OK)
	want(t, "Ops", c.Ops(), rightOps(), 0, 0)
}

func TestFork(t *testing.T) {
	a := knowing(3, read(zoo...)...)
	done(a, edit(4, 1, 1, "x"), set(4, "n", list(num(1))))
	b, bad := a.Fork(0)
	wantError(t, "Fork", bad, api.OK)
	want(t, "numbers and times", []int{a.Number(), a.Time(), b.Number(), b.Time()}, []int{3, 4, 0, 4}, 0, 0)
	want(t, "Ops", b.Ops(), a.Ops(), 0, 0)
	want(t, "Knows", b.Knows(), a.Knows(), 0, 0)
	want(t, "Fresh", []int{a.Fresh(), b.Fresh()}, []int{19, 16}, 0, 0)
	// From now on each one is changed for itself.
	done(a, insert(19, 0, 0, "A"))
	done(b, insert(16, 0, 0, "B"), edit(4, 0, 1, ""))
	c := must(b.Fork(15))
	wantBase(t, "a", a, "19:A, 1:a(4:dx n=[1], 5:e, 6:f), 2:b")
	wantBase(t, "b", b, "16:B, 1:a(4:x n=[1], 5:e, 6:f), 2:b")
	wantBase(t, "c", c, "16:B, 1:a(4:x n=[1], 5:e, 6:f), 2:b")
	must(a.Take(read(`2 9 remove 2`)))
	done(c, remove(4))
	wantBase(t, "a", a, "19:A, 1:a(4:dx n=[1], 5:e, 6:f)", 2)
	wantBase(t, "b", b, "16:B, 1:a(4:x n=[1], 5:e, 6:f), 2:b")
	wantBase(t, "c", c, "16:B, 1:a(5:e, 6:f), 2:b", 4)
	for number, wanted := range map[int]api.Errno{3: api.ErrTwice, -1: api.ErrRange, 16: api.ErrRange, math.MinInt: api.ErrRange, math.MaxInt: api.ErrRange, 15: api.OK} {
		got, bad := a.Fork(number)
		if wantError(t, fmt.Sprint(number), bad, wanted); bad != api.OK && got != nil {
			t.Error(got)
		}
	}
}

func TestMeet(t *testing.T) {
	for _, x := range []struct{ a, b, want copy.Knows }{
		{nil, nil, nil},
		{copy.Knows{3, 1}, copy.Knows{2}, copy.Knows{2, 0}},
		{copy.Knows{1, 5, 3}, copy.Knows{4, 2, 3}, copy.Knows{1, 2, 3}},
		{nil, copy.Knows{7, 8, 9}, copy.Knows{0, 0, 0}},
		{copy.Knows{7}, copy.Knows{}, copy.Knows{0}},
		{copy.Knows{-7, 2}, copy.Knows{}, copy.Knows{-7, 0}},
		{copy.Knows{math.MinInt, math.MaxInt}, copy.Knows{math.MaxInt, math.MaxInt}, copy.Knows{math.MinInt, math.MaxInt}},
		{make(copy.Knows, 40), copy.Knows{1}, make(copy.Knows, 40)},
	} {
		want(t, fmt.Sprint(x.a, x.b), copy.Meet(x.a, x.b), x.want, 0, 0)
		want(t, fmt.Sprint(x.b, x.a), copy.Meet(x.b, x.a), x.want, 0, 0)
	}
}
