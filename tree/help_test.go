package tree_test

import (
	"reflect"
	"slices"
	"strconv"
	"strings"
	"testing"

	"florilegium/api"
	"florilegium/tree"
)

// Values, properties and operations in short.

func num(n int) api.Value               { return api.Value{Kind: api.Number, Int: n} }
func str(s string) api.Value            { return api.Value{Kind: api.String, Text: s} }
func list(l ...api.Value) api.Value     { return api.Value{Kind: api.List, Items: l} }
func pr(n string, v api.Value) api.Prop { return api.Prop{Name: n, Value: v} }

func insert(id, parent, at int, text string) tree.Op {
	return tree.Op{Kind: tree.Insert, Id: id, Parent: parent, At: at, Text: text}
}
func remove(id int) tree.Op { return tree.Op{Kind: tree.Remove, Id: id} }
func move(id, parent, at int) tree.Op {
	return tree.Op{Kind: tree.Move, Id: id, Parent: parent, At: at}
}
func edit(id, from, to int, text string) tree.Op {
	return tree.Op{Kind: tree.Edit, Id: id, From: from, To: to, Text: text}
}
func set(id int, name string, v api.Value) tree.Op {
	return tree.Op{Kind: tree.SetProp, Id: id, Name: name, Value: v}
}

// base gives the base that its lines show: two spaces for each depth below
// that of a page, the id, the text after a space, and properties, all of them numbers.
func base(lines ...string) []api.Block {
	l := []api.Block{{}}
	at := map[int]int{0: 0}
	way := []int{0}
	for _, line := range lines {
		rest := strings.TrimLeft(line, " ")
		depth := (len(line) - len(rest)) / 2
		words := strings.Split(rest, " ")
		id, _ := strconv.Atoi(words[0])
		b := api.Block{Id: id, Parent: way[depth]}
		for i, word := range words[1:] {
			if name, digits, ok := strings.Cut(word, "="); ok {
				n, _ := strconv.Atoi(digits)
				b.Props = append(b.Props, pr(name, num(n)))
			} else if i == 0 {
				b.Text = word
			}
		}
		at[id] = len(l)
		l = append(l, b)
		l[at[b.Parent]].Kids = append(l[at[b.Parent]].Kids, id)
		way = append(way[:depth+1], id)
	}
	slices.SortFunc(l, func(a, b api.Block) int { return a.Id - b.Id })
	return l
}

// example is the base of the chapter's example.
func example() []api.Block {
	return base("1 A", "  2 b", "  3 c")
}

// zoo is a base whose ids are not in its order.
func zoo() []api.Block {
	return base("5 cats n=1", "  2 tom", "    9 grey", "    4 old a=1 b=2", "  7 kit", "3 dogs", "8 birds", "  6 owl", "  1 tit z=3", "    10 blue")
}

// chain is a base of blocks within one another, from 1 on.
func chain(count int) []api.Block {
	return chains(count)
}

// chains is a base of several chains, one after the other; the ids count on.
func chains(counts ...int) []api.Block {
	l := tree.Empty()
	for _, count := range counts {
		above := 0
		for range count {
			id := len(l)
			l[above].Kids = append(l[above].Kids, id)
			l = append(l, api.Block{Id: id, Parent: above})
			above = id
		}
	}
	return l
}

// widen gives a base with so many new blocks, from id on, at the end of the kids of a block.
func widen(l []api.Block, parent, id, count int) []api.Block {
	l = plain(l)
	at := slices.IndexFunc(l, func(b api.Block) bool { return b.Id == parent })
	for range count {
		l[at].Kids = append(l[at].Kids, id)
		l = append(l, api.Block{Id: id, Parent: parent})
		id++
	}
	return l
}

// wide is a base with so many kids in block 1, the only page, from 2 on.
func wide(count int) []api.Block {
	return widen(base("1"), 1, 2, count)
}

// crowd is a base of so many blocks: the given one, and pages with 400 kids each, from 5000 on.
func crowd(l []api.Block, count int) []api.Block {
	for page := 5000; len(l) < count; page += 1000 {
		l = widen(l, 0, page, 1)
		l = widen(l, page, page+1, min(400, count-len(l)))
	}
	return l
}

// props gives a right list with so many names: p10, p11 and so on.
func props(count int) []api.Prop {
	var l []api.Prop
	for i := range count {
		l = append(l, pr("p"+strconv.Itoa(10+i), num(i)))
	}
	return l
}

// changed gives a base after a change that no function of the package makes.
func changed(l []api.Block, change func(l []api.Block)) []api.Block {
	change(l)
	return l
}

// plain gives what a result is with each empty list as nil, as new memory.
func plain[T any](result T) T {
	v := reflect.New(reflect.TypeFor[T]()).Elem()
	v.Set(plainValue(reflect.ValueOf(&result).Elem()))
	return v.Interface().(T)
}

func plainValue(v reflect.Value) reflect.Value {
	copied := reflect.New(v.Type()).Elem()
	switch v.Kind() {
	case reflect.Slice:
		for i := range v.Len() {
			copied.Set(reflect.Append(copied, plainValue(v.Index(i))))
		}
	case reflect.Struct:
		for i := range v.NumField() {
			copied.Field(i).Set(plainValue(v.Field(i)))
		}
	default:
		copied.Set(v)
	}
	return copied
}

// equal asks whether two results are the same, where empty and nil lists are.
func equal[T any](a, b T) bool {
	return reflect.DeepEqual(plain(a), plain(b))
}

// want tells where a result is another one than wanted.
func want[T any](t *testing.T, name string, got, wanted T, bad, wantedBad api.Errno) {
	t.Helper()
	if bad != wantedBad {
		t.Errorf("%s: error %d, want %d", name, bad, wantedBad)
	} else if !equal(got, wanted) {
		t.Errorf("%s = %.600v, want %.600v", name, got, wanted)
	}
}

func second[T any](_ T, bad api.Errno) api.Errno {
	return bad
}

// must gives a result of which the test knows that it has no error.
func must[T any](result T, bad api.Errno) T {
	if bad != api.OK {
		panic(bad)
	}
	return result
}

// after gives a base after operations that may be done.
func after(l []api.Block, ops ...tree.Op) []api.Block {
	l, _, bad := tree.All(l, ops)
	return must(l, bad)
}

// dice gives numbers from 0 to below n, always the same ones in a row.
type dice uint32

func (d *dice) next(n int) int {
	*d = *d*1664525 + 1013904223
	return int(uint32(*d)>>8) % n
}

// one gives one of some things.
func one[T any](d *dice, things ...T) T {
	return things[d.next(len(things))]
}

// base gives a right base of at most most blocks. Ids have gaps, and are not in the base's order.
func (d *dice) base(most int) []api.Block {
	l := []api.Block{{}}
	id := 0
	for range d.next(most) {
		id += 1 + d.next(3)
		l = append(l, api.Block{Id: id, Text: one(d, "", "a", "bc", "[[d]]", "- e"), Props: d.props()})
	}
	placed := []int{0} // where in l they are; a later one more often gets the next kid, so that l becomes deep
	for _, i := range d.shuffled(len(l) - 1) {
		block, parent := &l[i+1], &l[placed[max(d.next(len(placed)), d.next(len(placed)))]]
		block.Parent = parent.Id
		parent.Kids = slices.Insert(parent.Kids, d.next(len(parent.Kids)+1), block.Id)
		placed = append(placed, i+1)
	}
	return l
}

func (d *dice) shuffled(count int) []int {
	var l []int
	for i := range count {
		l = slices.Insert(l, d.next(i+1), i)
	}
	return l
}

func (d *dice) props() []api.Prop {
	var l []api.Prop
	for _, name := range []string{"a", "b-1", "c"} {
		if d.next(3) == 0 {
			l = append(l, pr(name, one(d, num(1), str("x"), list(num(1), str("y")), list())))
		}
	}
	return l
}

// op gives an operation for a base, often one that can be done.
func (d *dice) op(l []api.Block) tree.Op {
	id := func() int {
		if d.next(8) == 0 {
			return one(d, -1, 0, 1, 500, api.MaxId, api.MaxId+1)
		}
		return l[d.next(len(l))].Id
	}
	switch 1 + d.next(6) {
	case tree.Insert:
		return insert(one(d, id(), tree.NextId(l), 1+d.next(90)), id(), d.next(4)-d.next(2), one(d, "", "new", "\x7f"))
	case tree.Remove:
		return remove(id())
	case tree.Move:
		return move(id(), id(), d.next(4)-d.next(2))
	case tree.Edit:
		from := d.next(4) - d.next(2)
		return edit(id(), from, from+d.next(3), one(d, "", "ed", "\n"))
	case tree.SetProp:
		return set(id(), one(d, "a", "b-1", "c", "new", "", "A"), one(d, api.Value{}, num(2), list(str("z")), list(list()), api.Value{Int: 1}))
	}
	wild := tree.Op{Kind: d.next(8) - 1, Id: id()}
	switch d.next(8) {
	case 0:
		wild.Parent = 1
	case 1:
		wild.At = 1
	case 2:
		wild.From = 1
	case 3:
		wild.To = 1
	case 4:
		wild.Text = "t"
	case 5:
		wild.Name = "a"
	case 6:
		wild.Value = one(d, num(0), api.Value{Int: 1}, api.Value{To: 1}, api.Value{Text: "v"}, api.Value{Items: []api.Value{{}}})
	}
	return wild
}
