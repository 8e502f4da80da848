package copy_test

import (
	"fmt"
	"math"
	"slices"
	"strings"
	"testing"

	"florilegium/api"
	"florilegium/copy"
	"florilegium/tree"
)

// P8.4: Do, Restore

// pets is a copy 3 that knows the zoo, and that 5 is gone. Its time is 4.
func pets() *copy.Copy {
	return knowing(3, read(append(zoo, `3 1 type 2 1 2 0 "cd"`, `4 0 remove 5`)...)...)
}

func TestDo(t *testing.T) {
	for name, x := range map[string]struct {
		o     tree.Op
		lines string
		drawn string
	}{
		"insert first":       {insert(3, 1, 0, "x"), "5 3 insert 3 1 0 \"x\"\n", "1:a(3:x, 4:d, 6:f), 2:bcd"},
		"insert after":       {insert(19, 1, 1, ""), "5 3 insert 19 1 4 \"\"\n", "1:a(4:d, 19:, 6:f), 2:bcd"},
		"insert last":        {insert(3, 1, 2, "x"), "5 3 insert 3 1 6 \"x\"\n", "1:a(4:d, 6:f, 3:x), 2:bcd"},
		"insert a page":      {insert(3, 0, 1, "x"), "5 3 insert 3 0 1 \"x\"\n", "1:a(4:d, 6:f), 3:x, 2:bcd"},
		"insert a first kid": {insert(3, 6, 0, "x"), "5 3 insert 3 6 0 \"x\"\n", "1:a(4:d, 6:f(3:x)), 2:bcd"},
		"remove":             {remove(4), "5 3 remove 4\n", "1:a(6:f), 2:bcd"},
		"remove a page":      {remove(2), "5 3 remove 2\n", "1:a(4:d, 6:f)"},
		"move first":         {move(6, 1, 0), "5 3 move 6 1 0\n", "1:a(6:f, 4:d), 2:bcd"},
		"move back":          {move(4, 1, 1), "5 3 move 4 1 6\n", "1:a(6:f, 4:d), 2:bcd"},
		"move nowhere":       {move(6, 1, 1), "5 3 move 6 1 4\n", "1:a(4:d, 6:f), 2:bcd"},
		"move to the root":   {move(4, 0, 1), "5 3 move 4 0 1\n", "1:a(6:f), 4:d, 2:bcd"},
		"move with kids":     {move(1, 2, 0), "5 3 move 1 2 0\n", "2:bcd(1:a(4:d, 6:f))"},
		"move below":         {move(2, 1, 1), "5 3 move 2 1 4\n", "1:a(4:d, 2:bcd, 6:f)"},
		"type first":         {edit(2, 0, 0, "x"), "5 3 type 2 0 0 0 \"x\"\n", "1:a(4:d, 6:f), 2:xbcd"},
		"type inside":        {edit(2, 1, 1, "xy"), "5 3 type 2 1 2 0 \"xy\"\n", "1:a(4:d, 6:f), 2:bxycd"},
		"type last":          {edit(2, 3, 3, "xy"), "5 3 type 2 3 1 1 \"xy\"\n", "1:a(4:d, 6:f), 2:bcdxy"},
		"erase":              {edit(2, 1, 2, ""), "5 3 erase 2 3 1 0\n", "1:a(4:d, 6:f), 2:bd"},
		"erase all":          {edit(2, 0, 3, ""), "5 3 erase 2 1 2 0 3 1 0 3 1 1\n", "1:a(4:d, 6:f), 2:"},
		"erase and type":     {edit(2, 1, 3, "x"), "5 3 erase 2 3 1 0 3 1 1\n6 3 type 2 1 2 0 \"x\"\n", "1:a(4:d, 6:f), 2:bx"},
		"erase and type all": {edit(2, 0, 3, "bcd"), "5 3 erase 2 1 2 0 3 1 0 3 1 1\n6 3 type 2 0 0 0 \"bcd\"\n", "1:a(4:d, 6:f), 2:bcd"},
		"edit nothing":       {edit(2, 1, 1, ""), "", "1:a(4:d, 6:f), 2:bcd"},
		"set":                {set(6, "n", list(num(1), str("x"))), "5 3 set 6 n [1, \"x\"]\n", "1:a(4:d, 6:f n=[1, \"x\"]), 2:bcd"},
		"set to none":        {set(6, "n", api.Value{}), "5 3 set 6 n -\n", "1:a(4:d, 6:f), 2:bcd"},
	} {
		c := pets()
		before := c.Ops()
		got, bad := c.Do(x.o)
		wantError(t, name, bad, api.OK)
		lines, bad := copy.OpsText(got)
		want(t, name, lines, x.lines, bad, api.OK)
		gone := []int{5}
		if x.o.Kind == tree.Remove {
			gone = append(gone, x.o.Id)
			slices.Sort(gone)
		}
		wantBase(t, name, c, x.drawn, gone...)
		want(t, name, c.Ops(), append(before, got...), 0, 0)
		want(t, name, c.Time(), 4+len(got), 0, 0)
	}
}

// After goes by what is shown: what is erased between does not matter. The order of Spots is that of stamps.
func TestDoWhereThingsAreErased(t *testing.T) {
	c := knowing(2, read(`1 1 insert 1 0 0 "abcd"`)...)
	var got []string
	for _, o := range []tree.Op{edit(1, 1, 3, ""), edit(1, 1, 1, "x"), edit(1, 0, 1, ""), edit(1, 0, 0, "yz"), edit(1, 1, 3, "!"), edit(1, 0, 3, "")} {
		got = append(got, must(copy.OpsText(must(c.Do(o)))))
	}
	want(t, "operations", strings.Join(got, ""), `2 2 erase 1 1 1 1 1 1 2
3 2 type 1 1 1 0 "x"
4 2 erase 1 1 1 0
5 2 type 1 0 0 0 "yz"
6 2 erase 1 3 2 0 5 2 1
7 2 type 1 5 2 0 "!"
8 2 erase 1 1 1 3 5 2 0 7 2 0
`, 0, 0)
	wantBase(t, "erased", c, "1:")
}

// Left is a kid of the base: one that is gone comes behind what is new.
func TestDoBesideGoneKids(t *testing.T) {
	c := pets() // 4, 5 that is gone, 6
	got := done(c, insert(3, 1, 1, "x"), insert(19, 1, 1, "y"))
	want(t, "operations", got, []copy.Op{inserted(at(5, 3), 3, 1, 4, "x"), inserted(at(6, 3), 19, 1, 4, "y")}, 0, 0)
	must(c.Take(read(`9 0 move 2 1 5`)))
	wantBase(t, "after the one gone", c, "1:a(4:d, 19:y, 3:x, 2:bcd, 6:f)", 5)
}

func TestDoLongTexts(t *testing.T) {
	c := must(copy.New(1))
	long := strings.Repeat("abcdefghij", api.MaxString/10)
	got := done(c, insert(1, 0, 0, long))
	want(t, "insert", []int{len(got), len(got[0].Octets)}, []int{1, api.MaxString}, 0, 0)
	got = done(c, edit(1, 0, 500, ""))
	want(t, "one erase", []int{len(got), len(got[0].Spots)}, []int{1, 500}, 0, 0)
	got = done(c, edit(1, 0, 501, ""))
	want(t, "two erases", []int{len(got), len(got[0].Spots), len(got[1].Spots)}, []int{2, 500, 1}, 0, 0)
	want(t, "first ones first", []copy.Spot{got[0].Spots[0], got[0].Spots[499], got[1].Spots[0]}, []copy.Spot{spot(1, 1, 500), spot(1, 1, 999), spot(1, 1, 1000)}, 0, 0)
	want(t, "stamps", []copy.Stamp{got[0].Stamp, got[1].Stamp}, []copy.Stamp{at(3, 1), at(4, 1)}, 0, 0)
	got = done(c, edit(1, 1, 1, long[:500]))
	want(t, "one type", []int{len(got), len(got[0].Octets)}, []int{1, 500}, 0, 0)
	got = done(c, edit(1, 1, 1, long[:501]))
	want(t, "two types", got, []copy.Op{typed(at(6, 1), 1, spot(1, 1, 1001), long[:500]), typed(at(7, 1), 1, spot(6, 1, 499), "a")}, 0, 0)
	want(t, "text", textOf(c.Base(), 1), "b"+long[:501]+long[:500]+long[1002:], 0, 0)
	got = done(c, edit(1, 0, api.MaxString, long))
	want(t, "all", len(got), 8, 0, 0)
	for i, o := range got[5:] {
		want(t, "each after the last one", o.After, copy.Spot{Stamp: got[i+4].Stamp, At: 499}, 0, 0)
	}
	want(t, "the first one", got[4].After, copy.Spot{}, 0, 0)
	want(t, "text", textOf(c.Base(), 1), long, 0, 0)
	want(t, "Time", c.Time(), 15, 0, 0)
}

// unchanged tells where a copy is another one after a call that had an error.
func unchanged(t *testing.T, name string, c *copy.Copy, call func() api.Errno, wanted api.Errno) {
	t.Helper()
	ops, base, gone, fresh, time := c.Ops(), c.Base(), c.Gone(), c.Fresh(), c.Time()
	wantError(t, name, call(), wanted)
	want(t, name, c.Ops(), ops, 0, 0)
	want(t, name, c.Base(), base, 0, 0)
	want(t, name, c.Gone(), gone, 0, 0)
	want(t, name, []int{c.Fresh(), c.Time()}, []int{fresh, time}, 0, 0)
}

// refused tells where an operation has another error than wanted, or has changed something.
func refused(t *testing.T, name string, c *copy.Copy, o tree.Op, wanted api.Errno) {
	t.Helper()
	unchanged(t, name, c, func() api.Errno {
		got, bad := c.Do(o)
		want(t, name, got, nil, 0, 0)
		return bad
	}, wanted)
}

func TestDoErrors(t *testing.T) {
	c := pets()
	for name, x := range map[string]struct {
		o   tree.Op
		bad api.Errno
	}{
		"kind":                      {tree.Op{Kind: 6, Id: 1}, api.ErrKind},
		"no kind":                   {tree.Op{}, api.ErrKind},
		"unused":                    {tree.Op{Kind: tree.Remove, Id: 4, At: 1}, api.ErrForm},
		"id":                        {insert(0, 0, 0, ""), api.ErrRange},
		"great id":                  {insert(api.MaxId+1, 0, 0, ""), api.ErrRange},
		"there":                     {insert(4, 0, 0, ""), api.ErrTwice},
		"no parent":                 {insert(3, 5, 0, ""), api.ErrNone},
		"place":                     {insert(3, 1, 3, ""), api.ErrRange},
		"byte":                      {insert(3, 1, 0, "\n"), api.ErrByte},
		"another copy's id":         {insert(20, 0, 0, ""), api.ErrForm},
		"another's id that is gone": {insert(5, 0, 0, ""), api.ErrForm},
		"byte and another's id":     {insert(20, 1, 0, "\n"), api.ErrByte},
		"remove what is gone":       {remove(5), api.ErrNone},
		"remove what is not":        {remove(3), api.ErrNone},
		"remove with kids":          {remove(1), api.ErrState},
		"remove the root":           {remove(0), api.ErrNone},
		"move what is gone":         {move(5, 1, 0), api.ErrNone},
		"move to what is gone":      {move(4, 5, 0), api.ErrNone},
		"move in a ring":            {move(1, 4, 0), api.ErrLoop},
		"move too far":              {move(4, 1, 2), api.ErrRange},
		"edit what is gone":         {edit(5, 0, 0, "x"), api.ErrNone},
		"edit too far":              {edit(2, 0, 4, "x"), api.ErrRange},
		"edit with a byte":          {edit(2, 0, 1, "\n"), api.ErrByte},
		"edit too long":             {edit(2, 0, 1, strings.Repeat("x", api.MaxString-1)), api.ErrLarge},
		"set what is gone":          {set(5, "n", num(1)), api.ErrNone},
		"set no name":               {set(4, "N", num(1)), api.ErrName},
		"set no value":              {set(4, "n", api.Value{Kind: 9}), api.ErrKind},
	} {
		refused(t, name, c, x.o, x.bad)
	}
	mine := knowing(5, c.Ops()...)
	refused(t, "its own id that is gone", mine, insert(5, 0, 0, ""), api.ErrTwice)
	done(mine, remove(4), remove(6), remove(1))
	other := must(mine.Fork(4))
	refused(t, "an id that is gone twice", other, insert(4, 0, 0, ""), api.ErrTwice)
	deep := knowing(1, chain(1, 1, 0, api.MaxDeep+9)...)
	refused(t, "an id too deep", deep, insert(49, 0, 0, ""), api.ErrTwice)
	// An Insert without effect leaves its id free.
	free := knowing(7, read(`1 7 insert 7 99 0 "x"`)...)
	want(t, "free", len(done(free, insert(7, 0, 0, "y"))), 1, 0, 0)
	wantBase(t, "free", free, "7:y")
}

func TestDoWithoutRoom(t *testing.T) {
	nearly := func(left int) *copy.Copy {
		return knowing(1, append(read(`1 1 insert 1 0 0 "abc"`), many(2, copy.MaxOps-1-left)...)...)
	}
	c := nearly(1)
	must(c.Take(read(`9000 2 move 1 0 0`)))
	for name, o := range map[string]tree.Op{"insert": insert(17, 0, 0, ""), "remove": remove(1), "move": move(1, 0, 0), "type": edit(1, 0, 0, "x"), "erase": edit(1, 0, 1, ""), "set": set(1, "n", num(1)), "erase and type": edit(1, 0, 1, "x")} {
		refused(t, name, c, o, api.ErrFull)
		refused(t, name+" at the end of time", ended(0), o, api.ErrLarge)
	}
	want(t, "nothing", len(done(c, edit(1, 1, 1, ""))), 0, 0, 0)
	refused(t, "another's id before full", c, insert(18, 0, 0, ""), api.ErrForm)
	refused(t, "what tree.Apply refuses before full", c, insert(18, 0, 0, "\n"), api.ErrByte)

	c = nearly(2)
	must(c.Take(read(`9000 2 move 1 0 0`)))
	refused(t, "two", c, edit(1, 0, 1, "x"), api.ErrFull)
	want(t, "one", len(done(c, edit(1, 0, 1, ""))), 1, 0, 0)
	want(t, "all", len(c.Ops()), copy.MaxOps, 0, 0)
	c = ended(1)
	refused(t, "two", c, edit(1, 0, 1, "x"), api.ErrLarge)
	want(t, "nothing", len(done(ended(0), edit(1, 1, 1, ""))), 0, 0, 0)
	want(t, "one", done(c, edit(1, 0, 1, ""))[0].Stamp.Time, copy.MaxTime, 0, 0)
	want(t, "two", done(ended(2), edit(1, 0, 1, "x"))[1].Stamp.Time, copy.MaxTime, 0, 0)

	full := knowing(1, append(read(`1 1 insert 1 0 0 "abc"`, `1000000000 2 move 1 0 0`), laterMany(copy.MaxOps-2)...)...)
	refused(t, "full before the end of time", full, set(1, "n", num(1)), api.ErrFull)
}

// laterMany gives so many operations without effect.
func laterMany(count int) []copy.Op {
	l := many(2, count)
	for i := range l {
		l[i].Id = 999
	}
	return l
}

// ended gives a copy with a page 1 that has so much time left.
func ended(left int) *copy.Copy {
	return knowing(1, append(read(`1 1 insert 1 0 0 "abc"`), removed(at(copy.MaxTime-left, 2), 999))...)
}

// Where more is known than a base shows, an operation can have another result than tree.Apply has.
func TestDoAtBounds(t *testing.T) {
	long := knowing(1, append(full(), typed(at(2, 1), 1, spot(1, 1, 1999), "yz"))...)
	refused(t, "shorter text", long, edit(1, 5, 6, ""), api.ErrState)
	refused(t, "shorter text by some", long, edit(1, 5, 9, "abc"), api.ErrState)
	refused(t, "longer text", long, edit(1, 5, 5, "a"), api.ErrLarge)
	want(t, "as long", len(done(long, edit(1, 5, 7, "ab"))), 2, 0, 0)
	want(t, "at the end", len(done(long, edit(1, 1999, 2000, "c"))), 2, 0, 0)
	want(t, "set", len(done(long, set(1, "n", num(1)))), 1, 0, 0)
	want(t, "text", textOf(long.Base(), 1), "xxxxxab"+strings.Repeat("x", 1992)+"c", 0, 0)

	var l []copy.Op
	for i := range 21 {
		l = append(l, given(at(2+i, 1), 1, fmt.Sprint("p", 10+i), num(i)))
	}
	props := knowing(1, append(full(), l...)...)
	refused(t, "one name less", props, set(1, "p12", api.Value{}), api.ErrState)
	refused(t, "one name more", props, set(1, "a", num(1)), api.ErrFull)
	refused(t, "a name that is not shown", props, set(1, "p30", num(1)), api.ErrFull)
	want(t, "another value", len(done(props, set(1, "p12", num(99)))), 1, 0, 0)
	want(t, "not shown to none", len(done(props, set(1, "p30", api.Value{}))), 1, 0, 0)
	want(t, "one name less", len(done(props, set(1, "p12", api.Value{}))), 1, 0, 0)

	wide := knowing(1, append(full(), kids(2, 2, 1, tree.MaxKids+1)...)...)
	refused(t, "one kid less", wide, remove(2), api.ErrState)
	refused(t, "one kid moved away", wide, move(2, 0, 0), api.ErrState)
	refused(t, "one kid more", wide, insert(8001, 1, 0, ""), api.ErrFull)
	want(t, "another order", len(done(wide, move(2, 1, 9))), 1, 0, 0)
	want(t, "the last one first", len(done(wide, move(501, 1, 0))), 1, 0, 0)
}

func TestDoAtMoreBounds(t *testing.T) {
	deep := knowing(1, chain(1, 1, 0, api.MaxDeep+1)...)
	refused(t, "moved up", deep, move(2, 0, 0), api.ErrState)
	refused(t, "moved deeper", deep, insert(49, api.MaxDeep, 0, ""), api.ErrDeep)
	want(t, "the deepest removed", len(done(deep, remove(api.MaxDeep))), 1, 0, 0)
	wantError(t, "Check", tree.Check(deep.Base()), api.OK)
	want(t, "gone", deep.Gone(), []int{api.MaxDeep, api.MaxDeep + 1}, 0, 0)

	crowded := knowing(1, crowd(2)...)
	refused(t, "one block less", crowded, remove(700), api.ErrState)
	refused(t, "one block more", crowded, insert(8001, 0, 0, ""), api.ErrFull)
	refused(t, "page to the end", crowded, move(1, 0, 4), api.ErrState)
	want(t, "moved among those before", len(done(crowded, move(700, 1, 7))), 1, 0, 0)
	want(t, "edited", len(done(crowded, edit(700, 0, 0, "x"))), 1, 0, 0)
	exact := knowing(1, crowd(0)...)
	want(t, "one block less", len(done(exact, remove(700))), 1, 0, 0)
	want(t, "one block more", len(done(exact, insert(8001, 0, 0, ""))), 1, 0, 0)
}

func TestRestore(t *testing.T) {
	for name, x := range map[string]struct {
		id, parent, at int
		want           copy.Op
		drawn          string
		gone           []int
	}{
		"where it was":    {5, 1, 1, moved(at(5, 3), 5, 1, 4), "1:a(4:d, 5:e, 6:f), 2:bcd", nil},
		"first":           {5, 1, 0, moved(at(5, 3), 5, 1, 0), "1:a(5:e, 4:d, 6:f), 2:bcd", nil},
		"last":            {5, 1, 2, moved(at(5, 3), 5, 1, 6), "1:a(4:d, 6:f, 5:e), 2:bcd", nil},
		"as a page":       {5, 0, 1, moved(at(5, 3), 5, 0, 1), "1:a(4:d, 6:f), 5:e, 2:bcd", nil},
		"as the only kid": {5, 2, 0, moved(at(5, 3), 5, 2, 0), "1:a(4:d, 6:f), 2:bcd(5:e)", nil},
	} {
		c := pets()
		before := c.Ops()
		got, bad := c.Restore(x.id, x.parent, x.at)
		want(t, name, got, x.want, bad, api.OK)
		wantBase(t, name, c, x.drawn, x.gone...)
		want(t, name, c.Ops(), append(before, x.want), 0, 0)
		want(t, name, c.Time(), 5, 0, 0)
	}
	// What was below a block is there again with it, but for what is gone itself; from below one gone a block comes alone.
	c := pets()
	must(c.Take(read(`5 0 remove 1`)))
	wantBase(t, "page gone", c, "2:bcd", 1, 4, 5, 6)
	fork := must(c.Fork(4))
	got, bad := c.Restore(1, 2, 0)
	want(t, "page", got, moved(at(6, 3), 1, 2, 0), bad, api.OK)
	wantBase(t, "page", c, "2:bcd(1:a(4:d, 6:f))", 5)
	got, bad = fork.Restore(4, 0, 1)
	want(t, "kid", got, moved(at(6, 4), 4, 0, 2), bad, api.OK)
	wantBase(t, "kid", fork, "2:bcd, 4:d", 1, 5, 6)
}

func TestRestoreErrors(t *testing.T) {
	c := pets()
	must(c.Take(read(`3 6 move 2 5 0`)))
	wantBase(t, "below one gone", c, "1:a(4:d, 6:f)", 2, 5)
	for name, x := range map[string]struct {
		id, parent, at int
		bad            api.Errno
	}{
		"there":                   {4, 1, 0, api.ErrNone},
		"the root":                {0, 1, 0, api.ErrNone},
		"no block":                {3, 1, 0, api.ErrNone},
		"below 0":                 {-1, 1, 0, api.ErrNone},
		"least":                   {math.MinInt, 1, 0, api.ErrNone},
		"greatest":                {math.MaxInt, 1, 0, api.ErrNone},
		"no parent":               {5, 3, 0, api.ErrNone},
		"parent below 0":          {5, math.MinInt, 0, api.ErrNone},
		"parent gone":             {5, 2, 0, api.ErrNone},
		"itself":                  {5, 5, 0, api.ErrNone},
		"too far":                 {5, 1, 3, api.ErrRange},
		"much too far":            {5, 1, math.MaxInt, api.ErrRange},
		"before":                  {5, 1, -1, api.ErrRange},
		"much before":             {5, 1, math.MinInt, api.ErrRange},
		"there, too far":          {4, 1, 9, api.ErrNone},
		"parent gone and too far": {5, 2, 9, api.ErrNone},
	} {
		unchanged(t, name, c, func() api.Errno {
			got, bad := c.Restore(x.id, x.parent, x.at)
			want(t, name, got, copy.Op{}, 0, 0)
			return bad
		}, x.bad)
	}
	l := append(read(`1 1 insert 1 0 0 ""`, `2 1 insert 17 0 0 ""`, `3 1 remove 17`), laterMany(copy.MaxOps)[2:]...)
	room := knowing(1, l[:copy.MaxOps-1]...)
	wantError(t, "last one", second(room.Restore(17, 1, 0)), api.OK)
	unchanged(t, "full", knowing(1, l[:copy.MaxOps]...), func() api.Errno { return second(must(knowing(1, l[:copy.MaxOps]...).Fork(2)).Restore(17, 1, 0)) }, api.ErrFull)
	wantError(t, "range before full", second(knowing(1, l[:copy.MaxOps]...).Restore(17, 1, 1)), api.ErrRange)
	late := knowing(1, append(l[:3:3], removed(at(copy.MaxTime-1, 0), 999))...)
	wantError(t, "last time", second(late.Restore(17, 1, 0)), api.OK)
	late = knowing(1, append(l[:3:3], removed(at(copy.MaxTime, 0), 999))...)
	unchanged(t, "no time", late, func() api.Errno { return second(late.Restore(17, 1, 0)) }, api.ErrLarge)
	both := knowing(1, append(l[:copy.MaxOps-1:copy.MaxOps-1], removed(at(copy.MaxTime, 0), 999))...)
	wantError(t, "full before no time", second(both.Restore(17, 1, 0)), api.ErrFull)
}

// A bound does not keep Restore from being done.
func TestRestoreAtBounds(t *testing.T) {
	deep := knowing(1, chain(1, 1, 0, api.MaxDeep+1)...)
	got, bad := deep.Restore(api.MaxDeep+1, api.MaxDeep, 0)
	want(t, "too deep", got, moved(at(api.MaxDeep+2, 1), api.MaxDeep+1, api.MaxDeep, 0), bad, api.OK)
	want(t, "too deep", deep.Gone(), []int{api.MaxDeep + 1}, 0, 0)
	got, bad = deep.Restore(api.MaxDeep+1, api.MaxDeep-1, 1)
	want(t, "less deep", got, moved(at(api.MaxDeep+3, 1), api.MaxDeep+1, api.MaxDeep-1, api.MaxDeep), bad, api.OK)
	want(t, "less deep", deep.Gone(), nil, 0, 0)
	wide := knowing(1, append(full(), kids(2, 2, 1, tree.MaxKids+1)...)...)
	wantError(t, "first kid", second(wide.Restore(502, 1, 0)), api.OK)
	want(t, "first kid", wide.Gone(), []int{501}, 0, 0)
	wantError(t, "last kid", second(wide.Restore(501, 1, tree.MaxKids)), api.OK)
	want(t, "last kid", wide.Gone(), []int{501}, 0, 0)
}
