package link_test

import (
	"fmt"
	"math"
	"reflect"
	"runtime/debug"
	"slices"
	"strings"
	"sync"
	"testing"
	"time"

	"florilegium/api"
	"florilegium/link"
	"florilegium/tree"
)

// The tests of this file hold the package against the general rules, Z1 to Z9.
// (Z4 stands with the errors of each function, Z11 with ways, Z12 with ranks; of Z10 the package has no use.)

// A result is what one call returns. Where it has no error, bad is OK.
type result struct {
	name   string
	values []any
	bad    api.Errno
}

// An ask is what the functions are asked beside the base.
type ask struct {
	page, other, n int
	s, to          string
	m              link.Mention
}

func found[T any](name string, got T, bad api.Errno) result {
	return result{name, []any{got}, bad}
}

func twice[A, B any](name string, a A, b B, bad api.Errno) result {
	return result{name, []any{a, b}, bad}
}

// callAll calls every function with a base, and gives all results.
func callAll(l []api.Block, q ask) []result {
	named := func(name string) func(bases []api.Block, ids []int, bad api.Errno) result {
		return func(bases []api.Block, ids []int, bad api.Errno) result { return twice(name, bases, ids, bad) }
	}
	page, pageBad := link.Page(l, q.s)
	names, namesBad := link.Names(l, q.page)
	links, linksBad := link.Links(l)
	back, backBad := link.Back(l, q.page)
	refs, refsBad := link.Refs(l, q.page)
	broken, pairs, brokenBad := link.Broken(l)
	mentions, mentionsBad := link.Mentions(l, q.page)
	linked, linkedBad := link.LinkUp(l, q.m)
	tags, tagsBad := link.Tags(l)
	tagged, taggedBad := link.Tagged(l, q.s)
	edges, edgesBad := link.Graph(l)
	way, wayBad := link.Way(l, q.page, q.other)
	groups, groupsBad := link.Groups(l)
	orphans, orphansBad := link.Orphans(l)
	ranks, ranksBad := link.Ranks(l, q.n)
	hits, hitsBad := link.Near(l, q.page, q.n)
	return []result{
		found("Page", page, pageBad), found("Names", names, namesBad), found("Links", links, linksBad),
		found("Back", back, backBad), found("Refs", refs, refsBad), twice("Broken", broken, pairs, brokenBad),
		found("Mentions", mentions, mentionsBad), found("LinkUp", linked, linkedBad),
		found("Tags", tags, tagsBad), found("Tagged", tagged, taggedBad),
		named("Rename")(link.Rename(l, q.page, q.to)), named("RenameTag")(link.RenameTag(l, q.s, q.to)),
		named("Retarget")(link.Retarget(l, q.page, q.other)),
		found("Graph", edges, edgesBad), found("Way", way, wayBad), found("Groups", groups, groupsBad),
		found("Orphans", orphans, orphansBad), found("Ranks", ranks, ranksBad), found("Near", hits, hitsBad),
	}
}

// ask gives questions of which many have an answer.
func (d *dice) ask(l []api.Block) ask {
	q := ask{page: d.id(l), other: d.id(l), n: one(d, d.wildNumber(), 1, 3), s: one(d, d.title(), "t", "u"), to: one(d, "new", d.title())}
	if mentions, _ := link.Mentions(l, q.page); len(mentions) > 0 {
		q.m = one(d, mentions...)
	} else {
		q.m = link.Mention{Page: d.id(l), Block: d.id(l), From: d.wildNumber(), To: d.wildNumber()}
	}
	return q
}

func (d *dice) id(l []api.Block) int {
	if len(l) > 0 && len(l[0].Kids) > 0 && d.next(4) > 0 {
		return one(d, l[0].Kids...)
	}
	return d.wildNumber()
}

func (d *dice) wildNumber() int {
	return one(d, math.MinInt, math.MinInt+1, math.MinInt32, -1, 0, 0, 1, 1, 2, 3, 5, 50, 51, 200, 201, api.MaxId, api.MaxId+1, math.MaxInt32, math.MaxInt-1, math.MaxInt)
}

// wildBase gives a right base, or one with something wrong, or with any fields.
func (d *dice) wildBase() []api.Block {
	l := d.base(9)
	if d.next(3) == 0 {
		return l
	}
	for range 1 + d.next(3) {
		b := &l[d.next(len(l))]
		switch d.next(7) {
		case 0:
			b.Id = d.wildNumber()
		case 1:
			b.Parent = d.wildNumber()
		case 2:
			b.Kids = append(b.Kids, d.wildNumber())
		case 3:
			b.Text = one(d, "\n", "\x7f", strings.Repeat("x", api.MaxString+1))
		case 4:
			b.Props = append(b.Props, api.Prop{Name: one(d, "", "A", "alias"), Value: api.Value{Kind: d.next(10) - 1, Int: d.wildNumber(), Text: "x"}})
		case 5:
			b.Props = append(b.Props, api.Prop{Name: "z", Value: api.Value{Kind: api.List, Items: []api.Value{{Kind: api.List, Items: []api.Value{{}}}}}})
		case 6:
			l = l[:1+d.next(len(l))]
		}
		if d.next(20) == 0 {
			return nil
		}
	}
	return l
}

// Z1, Z3, Z9

func TestCallsReturnAndErrorsHaveZeroValues(t *testing.T) {
	var d dice
	wrong := 0
	for range 4000 {
		l := d.wildBase()
		for _, r := range callAll(l, d.ask(l)) {
			if bad := tree.Check(l); bad != api.OK {
				wrong++
				if r.bad != bad {
					t.Fatal(r.name, r.bad, bad)
				}
			}
			for _, v := range r.values {
				got := reflect.ValueOf(v)
				if r.bad != api.OK && !got.IsZero() && !(got.Kind() == reflect.Slice && got.Len() == 0) {
					t.Fatalf("%s: %v beside %d", r.name, v, r.bad)
				}
			}
		}
	}
	if wrong < 20000 {
		t.Error(wrong)
	}
}

// The error of the base comes before all others, which all these calls would have.
func TestErrorOfTheBaseIsTheFirst(t *testing.T) {
	for wanted, l := range map[api.Errno][]api.Block{
		api.ErrForm:  nil,
		api.ErrLarge: make([]api.Block, api.MaxBlocks+1),
		api.ErrRange: {{Id: 1}},
		api.ErrOrder: {{Kids: []int{2, 1}}, {Id: 2}, {Id: 1}},
		api.ErrNone:  {{Kids: []int{1}}},
		api.ErrByte:  {{Kids: []int{1}}, {Id: 1, Text: "\n"}},
		api.ErrTwice: {{Kids: []int{1, 1}}, {Id: 1}},
		api.ErrLoop:  {{}, {Id: 1}},
		api.ErrName:  {{Kids: []int{1}}, {Id: 1, Props: []api.Prop{{}}}},
		api.ErrKind:  {{Kids: []int{1}}, {Id: 1, Props: []api.Prop{{Name: "a"}}}},
	} {
		for _, q := range []ask{{page: 7, other: 7, n: -1}, {page: -1, n: 1 << 20, s: "#", to: "#"}} {
			for _, r := range callAll(l, q) {
				if r.bad != wanted {
					t.Errorf("%s: error %d, want %d", r.name, r.bad, wanted)
				}
			}
		}
	}
}

// Lists within lists, deeper than calls could go if each had a frame.
func TestDeepValues(t *testing.T) {
	defer debug.SetMaxStack(debug.SetMaxStack(1 << 24))
	inner := api.Value{Kind: api.Link, Text: "a"}
	for range 400000 {
		inner = api.Value{Kind: api.List, Items: []api.Value{inner}}
	}
	l := []api.Block{{Kids: []int{1}}, {Id: 1, Props: []api.Prop{{Name: "alias", Value: inner}}}}
	for _, r := range callAll(l, ask{page: 1, s: "a", to: "b"}) {
		if r.bad != api.ErrKind {
			t.Error(r.name, r.bad)
		}
	}
}

// Z6

func TestLongArguments(t *testing.T) {
	begin := time.Now()
	long := strings.Repeat(" Ab", 1<<20)
	if got := link.FoldTitle(long); len(got) != 3<<20-1 {
		t.Error(len(got))
	}
	q := ask{page: 2, other: 1, n: 50, s: "t", to: "new"}
	callAll(crowd(), q)
	for _, piece := range []string{"#a/b//c/d///e ", "- ", "((1234))", "[[a|"} {
		l := crowd()
		for i := range l {
			if l[i].Parent == 0 {
				continue
			}
			l[i].Text = strings.Repeat(piece, api.MaxString/len(piece))
			l[i].Props = nil
		}
		var aliases []api.Value
		for n := range api.MaxItems {
			alias := strings.Repeat(piece, 100)[:60+n] + "x"
			aliases = append(aliases, api.Value{Kind: api.String, Text: alias})
		}
		l[2].Props = []api.Prop{{Name: "alias", Value: api.Value{Kind: api.List, Items: aliases}}}
		for _, r := range callAll(l, q) {
			if r.bad == api.ErrName || r.bad == api.ErrForm {
				t.Error(r.name, r.bad)
			}
		}
	}
	callAll(crowd(), ask{page: 2, other: 1, n: 50, s: long, to: long})
	if took := time.Since(begin); took > time.Minute {
		t.Error(took)
	}
}

// Z2

// A memory is that of a list, up to its capacity.
type memory struct {
	from, to uintptr
	what     string
}

// memoryOf gives the memory of all lists in something.
func memoryOf(what string, v reflect.Value) []memory {
	var all []memory
	switch v.Kind() {
	case reflect.Struct:
		for i := range v.NumField() {
			all = append(all, memoryOf(what+"."+v.Type().Field(i).Name, v.Field(i))...)
		}
	case reflect.Slice:
		if size := uintptr(v.Cap()) * v.Type().Elem().Size(); size > 0 {
			all = append(all, memory{v.Pointer(), v.Pointer() + size, what})
		}
		for i := range v.Len() {
			all = append(all, memoryOf(fmt.Sprintf("%s[%d]", what, i), v.Index(i))...)
		}
	}
	return all
}

// shared tells which two of some lists share memory.
func shared(all []memory) string {
	slices.SortFunc(all, func(a, b memory) int { return int(int64(a.from) - int64(b.from)) })
	for i := 1; i < len(all); i++ {
		if all[i].from < all[i-1].to {
			return all[i-1].what + " and " + all[i].what
		}
	}
	return ""
}

// roomy gives something with lists that have room behind their ends, the empty ones too. What is there is not zero.
func roomy[T any](v T) T {
	copied := reflect.New(reflect.TypeFor[T]()).Elem()
	copied.Set(roomyValue(reflect.ValueOf(&v).Elem()))
	return copied.Interface().(T)
}

func roomyValue(v reflect.Value) reflect.Value {
	copied := reflect.New(v.Type()).Elem()
	switch v.Kind() {
	case reflect.Slice:
		copied.Set(reflect.MakeSlice(v.Type(), v.Len()+3, v.Len()+3))
		for i := range v.Len() {
			copied.Index(i).Set(roomyValue(v.Index(i)))
		}
		for i := range 3 {
			copied.Index(v.Len() + i).Set(rubbish(v.Type().Elem()))
		}
		copied.Set(copied.Slice(0, v.Len()))
	case reflect.Struct:
		for i := range v.NumField() {
			copied.Field(i).Set(roomyValue(v.Field(i)))
		}
	default:
		copied.Set(v)
	}
	return copied
}

func rubbish(t reflect.Type) reflect.Value {
	alias := api.Value{Kind: api.String, Text: "cats"}
	for _, v := range []any{1, api.Block{Id: 77, Text: "[[cats]] dog #t"}, api.Prop{Name: "alias", Value: alias}, alias} {
		if reflect.TypeOf(v) == t {
			return reflect.ValueOf(v)
		}
	}
	panic(t)
}

// full gives what lists are up to their capacities.
func full(v reflect.Value) string {
	switch v.Kind() {
	case reflect.Slice:
		s := fmt.Sprint(v.Len(), "[")
		for i := range v.Cap() {
			s += full(v.Slice(0, v.Cap()).Index(i)) + " "
		}
		return s + "]"
	case reflect.Struct:
		s := "{"
		for i := range v.NumField() {
			s += full(v.Field(i)) + " "
		}
		return s + "}"
	}
	return fmt.Sprint(v)
}

func TestArgumentsStayAndResultsAreNew(t *testing.T) {
	var d dice
	for range 1500 {
		l := roomy(d.base(12))
		before := full(reflect.ValueOf(l))
		memories := memoryOf("base", reflect.ValueOf(l))
		all := callAll(l, d.ask(l))
		if full(reflect.ValueOf(l)) != before {
			t.Fatal("an argument has changed: ", before)
		}
		for _, r := range all {
			for _, v := range r.values {
				memories = append(memories, memoryOf(r.name, reflect.ValueOf(v))...)
			}
		}
		if names := shared(memories); names != "" {
			t.Fatal(names, " share memory")
		}
	}
}

// Z5

func TestEmptyAndNilAreTheSame(t *testing.T) {
	var d dice
	for range 1000 {
		l := d.base(10)
		q := d.ask(l)
		all, again := callAll(plain(l), q), callAll(roomy(l), q)
		for i, r := range all {
			if r.bad != again[i].bad {
				t.Fatalf("%s: %d and %d", r.name, r.bad, again[i].bad)
			}
			for k, v := range r.values {
				if a, b := fmt.Sprint(v), fmt.Sprint(again[i].values[k]); a != b {
					t.Fatalf("%s: %s and %s", r.name, a, b)
				}
			}
		}
	}
}

// Z7, and Z2: a call depends on its arguments alone

func TestSameArgumentsGiveSameResults(t *testing.T) {
	run := func() [][]result {
		var d dice
		var all [][]result
		for range 300 {
			l := d.base(20)
			all = append(all, callAll(l, d.ask(l)))
		}
		return all
	}
	want := run()
	got := make([][][]result, 4)
	var group sync.WaitGroup
	for i := range got {
		group.Go(func() { got[i] = run() })
	}
	group.Wait()
	for i := range got {
		if !reflect.DeepEqual(got[i], want) {
			t.Error("results differ")
		}
	}
}
