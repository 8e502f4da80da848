package ask_test

import (
	"regexp"
	"slices"
	"strconv"
	"strings"
	"testing"

	"florilegium/api"
	"florilegium/ask"
	"florilegium/link"
	"florilegium/prop"
	"florilegium/text"
	"florilegium/tree"
)

// The tests of this file hold the package against a slow model, on many generated bases,
// conditions, questions and operations.

var capital = regexp.MustCompile("[A-Z]")

// small gives a string with A to Z as a to z.
func small(s string) string {
	return capital.ReplaceAllStringFunc(s, func(c string) string { return string(rune(c[0] | 32)) })
}

// get gives a block that there is.
func get(l []api.Block, id int) api.Block {
	b, ok := tree.Get(l, id)
	if !ok {
		panic(id)
	}
	return b
}

// modelHolds asks the functions of the chapters before, each time anew.
func modelHolds(l []api.Block, c ask.Cond, id int) bool {
	b := get(l, id)
	some := func(ids []int) bool {
		return slices.ContainsFunc(ids, func(id int) bool { return modelHolds(l, c.Kids[0], id) })
	}
	v, has := prop.Get(b.Props, c.Name)
	switch c.Op {
	case ask.And, ask.Or:
		count := 0
		for _, kid := range c.Kids {
			if modelHolds(l, kid, id) {
				count++
			}
		}
		return count > 0 && c.Op == ask.Or || count == len(c.Kids) && c.Op == ask.And
	case ask.Not:
		return !modelHolds(l, c.Kids[0], id)
	case ask.Says:
		return strings.Contains(small(text.PlainOf(b.Text)), small(c.Text))
	case ask.LinksTo:
		return slices.ContainsFunc(text.Links(b.Text), func(s string) bool { return link.FoldTitle(s) == link.FoldTitle(c.Text) })
	case ask.Tagged:
		return slices.ContainsFunc(text.Tags(b.Text), func(s string) bool { return strings.Index(small(s)+"/", small(c.Text)+"/") == 0 })
	case ask.InPage:
		return link.FoldTitle(get(l, must(tree.PageOf(l, id))).Text) == link.FoldTitle(c.Text)
	case ask.IsPage:
		return slices.Contains(tree.Pages(l), id)
	case ask.Deep:
		return must(tree.Depth(l, id)) >= c.Num
	case ask.Under:
		below, _ := tree.Below(l, c.Num)
		return slices.Contains(below, id)
	case ask.Has:
		return has
	case ask.Equal:
		return has && prop.Compare(v, c.Value) == 0
	case ask.Less:
		return has && v.Kind == c.Value.Kind && prop.Compare(v, c.Value) < 0
	case ask.More:
		return has && v.Kind == c.Value.Kind && prop.Compare(v, c.Value) > 0
	case ask.Parent:
		return b.Parent != 0 && some([]int{b.Parent})
	case ask.SomeKid:
		return some(b.Kids)
	}
	return some(must(tree.Below(l, id)))
}

func modelFind(l []api.Block, c ask.Cond) []int {
	return slices.DeleteFunc(tree.Order(l), func(id int) bool { return !modelHolds(l, c, id) })
}

// before asks whether a block comes before another one that has come before it until now.
func before(l []api.Block, sorts []ask.Sort, a, b int) bool {
	for _, s := range sorts {
		var keys [2]api.Value
		for i, id := range []int{a, b} {
			keys[i] = modelCell(l, id, s.By)
		}
		if (keys[0].Kind == api.None) != (keys[1].Kind == api.None) {
			return keys[1].Kind == api.None
		}
		switch order := prop.Compare(keys[0], keys[1]); {
		case order < 0:
			return !s.Down
		case order > 0:
			return s.Down
		}
	}
	return false
}

func modelCell(l []api.Block, id int, column string) api.Value {
	switch column {
	case ask.ById:
		return num(id)
	case ask.ByText:
		return str(text.PlainOf(get(l, id).Text))
	case ask.ByDepth:
		return num(must(tree.Depth(l, id)))
	}
	v, _ := prop.Get(get(l, id).Props, column)
	return v
}

// modelAsk changes places of neighbours until none is to come before the other one.
func modelAsk(l []api.Block, q ask.Question) []ask.Group {
	ids := modelFind(l, q.Where)
	for range ids {
		for i := 1; i < len(ids); i++ {
			if before(l, q.Sorts, ids[i], ids[i-1]) {
				ids[i], ids[i-1] = ids[i-1], ids[i]
			}
		}
	}
	if q.Group == "" {
		return []ask.Group{{Ids: modelMost(ids, q.Most)}}
	}
	var values []api.Value
	for _, id := range ids {
		values = append(values, modelCell(l, id, q.Group))
	}
	slices.SortFunc(values, func(a, b api.Value) int {
		if a.Kind == api.None || b.Kind == api.None {
			return b.Kind - a.Kind // None is the last one
		}
		return prop.Compare(a, b)
	})
	var groups []ask.Group
	for _, v := range values {
		with := slices.DeleteFunc(slices.Clone(ids), func(id int) bool { return prop.Compare(modelCell(l, id, q.Group), v) != 0 })
		g := ask.Group{Value: v, Ids: modelMost(with, q.Most)}
		if !slices.ContainsFunc(groups, func(other ask.Group) bool { return prop.Compare(other.Value, v) == 0 }) {
			groups = append(groups, g)
		}
	}
	return groups
}

func modelMost(ids []int, most int) []int {
	for most > 0 && len(ids) > most {
		ids = ids[:len(ids)-1]
	}
	return ids
}

// modelPlan counts what each condition gives that can lead.
func modelPlan(l []api.Block, c ask.Cond) ask.Plan {
	p := ask.Plan{Count: len(l) - 1}
	var visit func(c ask.Cond)
	visit = func(c ask.Cond) {
		switch c.Op {
		case ask.LinksTo, ask.Tagged, ask.InPage, ask.Has, ask.Equal:
			if count := len(modelFind(l, c)); p.Lead == "" || count < p.Count {
				p = ask.Plan{must(ask.CondText(c)), count}
			}
		case ask.And:
			for _, kid := range c.Kids {
				visit(kid)
			}
		}
	}
	visit(c)
	return p
}

func TestFindAgainstModel(t *testing.T) {
	var d dice
	found, some := 0, 0
	for range 6000 {
		l := d.base(12)
		c := d.cond(4)
		ids := modelFind(l, c)
		wantFound(t, l, c, ids...)
		found += len(ids)
		if len(ids) > 0 && len(ids) < len(l)-1 {
			some++
		}
		if t.Failed() {
			t.Fatal(l)
		}
	}
	if found < 5000 || some < 1000 {
		t.Error(found, some)
	}
}

func TestAskAgainstModel(t *testing.T) {
	var d dice
	grouped := 0
	for range 6000 {
		l := d.base(14)
		q := d.question()
		groups := modelAsk(l, q)
		got, bad := ask.Ask(l, q)
		want(t, must(ask.QuestionText(q)), got, groups, bad, api.OK)
		if len(groups) > 2 {
			grouped++
		}
		columns := []string{one(&d, "m", "n", "@id"), one(&d, "@text", "p"), "@depth"}[:d.next(4)]
		var rows [][]api.Value
		for _, id := range groups0(groups) {
			var row []api.Value
			for _, column := range columns {
				row = append(row, modelCell(l, id, column))
			}
			rows = append(rows, row)
		}
		table, bad := ask.Table(l, groups0(groups), columns)
		want(t, "Table", table, rows, bad, api.OK)
		if t.Failed() {
			t.Fatal(l)
		}
	}
	if grouped < 700 {
		t.Error(grouped)
	}
}

// groups0 gives the ids of the first group.
func groups0(l []ask.Group) []int {
	if len(l) == 0 {
		return nil
	}
	return l[0].Ids
}

// What follows: an index, and a live question, give what Ask gives after all operations that were taken.
func TestGoingAlong(t *testing.T) {
	var d dice
	taken, changes, led := 0, 0, 0
	for range 600 {
		l := d.base(10)
		q := d.question()
		x, live := must(ask.NewIndex(l)), must(ask.NewLive(l, q))
		groups := must(ask.Ask(l, q))
		for range 15 {
			o := d.op(l)
			next, wanted := tree.Apply(l, o)
			wantError(t, "Index.Apply", x.Apply(o), wanted)
			changed, bad := live.Apply(o)
			before := groups
			if wanted == api.OK {
				l, groups = next, must(ask.Ask(next, q))
				taken++
			}
			want(t, "Live.Apply", changed, !ask.SameGroups(before, groups), bad, wanted)
			if changed {
				changes++
			}
			want(t, "Live.Groups", live.Groups(), groups, 0, 0)
			got, bad := x.Ask(q)
			want(t, "Index.Ask", got, groups, bad, api.OK)
			want(t, "Base", x.Base(), l, 0, 0)
			c := one(&d, q.Where, d.cond(3), kids(ask.And, d.cond(2), d.cond(2), kids(ask.And, d.cond(1), d.cond(1))))
			p, bad := x.Plan(c)
			want(t, must(ask.CondText(c)), p, modelPlan(l, c), bad, api.OK)
			if p.Lead != "" {
				led++
			}
			if t.Failed() {
				t.Fatal(l, o)
			}
		}
	}
	if taken < 4000 || changes < 500 || led < 2000 {
		t.Error(taken, changes, led)
	}
}

// modelCut reads a condition that s begins with. Of a value it tries all ends.
func modelCut(s string) (c ask.Cond, rest string, ok bool) {
	for i, word := range strings.Fields("all any not parent kid below") {
		if after, found := strings.CutPrefix(s, word+"("); found {
			c.Op = []int{ask.And, ask.Or, ask.Not, ask.Parent, ask.SomeKid, ask.SomeBelow}[i]
			if rest, ok = strings.CutPrefix(after, ")"); ok {
				return c, rest, true
			}
			for {
				kid, rest, ok := modelCut(after)
				if !ok || rest == "" {
					return c, "", false
				}
				c.Kids = append(c.Kids, kid)
				if rest[0] == ')' {
					return c, rest[1:], true
				}
				if after, ok = strings.CutPrefix(rest, ", "); !ok {
					return c, "", false
				}
			}
		}
	}
	for _, form := range []struct {
		op   int
		form string
	}{
		{ask.Says, `says "((?:[^"\\]|\\["\\])*)"`}, {ask.LinksTo, `links "((?:[^"\\]|\\["\\])*)"`}, {ask.Tagged, `tag "((?:[^"\\]|\\["\\])*)"`},
		{ask.InPage, `page "((?:[^"\\]|\\["\\])*)"`}, {ask.IsPage, `is-page()`}, {ask.Deep, `deep (0|[1-9][0-9]{0,8})`}, {ask.Under, `under (0|[1-9][0-9]{0,8})`},
		{ask.Has, `has\(([^ )]*)\)`}, {ask.Equal, `\.([^ )]*) = `}, {ask.Less, `\.([^ )]*) < `}, {ask.More, `\.([^ )]*) > `},
	} {
		at := regexp.MustCompile("^" + form.form).FindStringSubmatchIndex(s)
		if at == nil {
			continue
		}
		c.Op, rest = form.op, s[at[1]:]
		said := s[at[2]:at[3]]
		switch form.op {
		case ask.Says, ask.LinksTo, ask.Tagged, ask.InPage:
			c.Text = regexp.MustCompile(`\\(.)`).ReplaceAllString(said, "$1")
		case ask.Deep, ask.Under:
			c.Num, _ = strconv.Atoi(said)
		case ask.Has, ask.Equal, ask.Less, ask.More:
			c.Name = said
		}
		if form.op < ask.Equal {
			return c, rest, true
		}
		for end := range len(rest) + 1 {
			if end == len(rest) || rest[end] == ',' || rest[end] == ')' {
				v, bad := prop.Read(rest[:end])
				if bad == api.OK {
					c.Value = v
					return c, rest[end:], true
				}
			}
		}
		return c, "", false
	}
	return c, "", false
}

func TestReadCondAgainstModel(t *testing.T) {
	var d dice
	codes := map[api.Errno]int{}
	for range 20000 {
		c := d.cond(4)
		s := must(ask.CondText(c))
		read, bad := ask.ReadCond(s)
		want(t, s, read, c, bad, api.OK)
		for range d.next(3) { // some bytes go, others come
			from := d.next(len(s) + 1)
			to := min(from+d.next(3), len(s))
			s = s[:from] + one(&d, "", "", "\"", "\\", ")", "(", ", ", " ", "[", "]", "[[", "]]", "1", "-", "all(", "is-page", "\n", ".n = ", ">", "#") + s[to:]
		}
		c, rest, ok := modelCut(s)
		wanted := api.ErrSyntax
		if ok && rest == "" {
			wanted = ask.CheckCond(c)
		}
		if wanted != api.OK {
			c = ask.Cond{}
		}
		got, bad := ask.ReadCond(s)
		want(t, s, got, c, bad, wanted)
		codes[bad]++
		if bad == api.OK { // nothing else is read
			again, bad := ask.CondText(got)
			want(t, s, again, s, bad, api.OK)
		}
		q, bad := ask.ReadQuestion("where " + s + "\nmost 5\n")
		if strings.Contains(s, "\n") {
			wanted = api.ErrSyntax
		}
		if wanted == api.OK {
			want(t, s, q, ask.Question{Where: c, Most: 5}, bad, api.OK)
		} else {
			want(t, s, q, ask.Question{}, bad, wanted)
		}
	}
	if codes[api.OK] < 5000 || codes[api.ErrSyntax] < 5000 || codes[api.ErrName] < 50 {
		t.Error(codes)
	}
}

func TestQuestionsAreReadAsWritten(t *testing.T) {
	var d dice
	for range 5000 {
		q := d.question()
		s := must(ask.QuestionText(q))
		read, bad := ask.ReadQuestion(s)
		want(t, s, read, q, bad, api.OK)
	}
}
