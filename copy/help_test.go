package copy_test

import (
	"fmt"
	"iter"
	"reflect"
	"strings"
	"testing"

	"florilegium/api"
	"florilegium/copy"
	"florilegium/prop"
	"florilegium/tree"
)

// Values, stamps, spots and operations in short.

func num(n int) api.Value           { return api.Value{Kind: api.Number, Int: n} }
func str(s string) api.Value        { return api.Value{Kind: api.String, Text: s} }
func list(l ...api.Value) api.Value { return api.Value{Kind: api.List, Items: l} }

func at(time, number int) copy.Stamp { return copy.Stamp{Time: time, Copy: number} }
func spot(time, number, at int) copy.Spot {
	return copy.Spot{Stamp: copy.Stamp{Time: time, Copy: number}, At: at}
}

func inserted(s copy.Stamp, id, parent, left int, octets string) copy.Op {
	return copy.Op{Stamp: s, Kind: copy.Insert, Id: id, Parent: parent, Left: left, Octets: octets}
}
func moved(s copy.Stamp, id, parent, left int) copy.Op {
	return copy.Op{Stamp: s, Kind: copy.Move, Id: id, Parent: parent, Left: left}
}
func removed(s copy.Stamp, id int) copy.Op { return copy.Op{Stamp: s, Kind: copy.Remove, Id: id} }
func typed(s copy.Stamp, id int, after copy.Spot, octets string) copy.Op {
	return copy.Op{Stamp: s, Kind: copy.Type, Id: id, After: after, Octets: octets}
}
func erased(s copy.Stamp, id int, spots ...copy.Spot) copy.Op {
	return copy.Op{Stamp: s, Kind: copy.Erase, Id: id, Spots: spots}
}
func given(s copy.Stamp, id int, name string, v api.Value) copy.Op {
	return copy.Op{Stamp: s, Kind: copy.SetProp, Id: id, Name: name, Value: v}
}

func insert(id, parent, at int, text string) tree.Op {
	return tree.Op{Kind: tree.Insert, Id: id, Parent: parent, At: at, Text: text}
}
func remove(id int) tree.Op { return tree.Op{Kind: tree.Remove, Id: id} }
func move(id, parent, at int) tree.Op {
	return tree.Op{Kind: tree.Move, Id: id, Parent: parent, At: at}
}
func edit(id, from, to int, text string) tree.Op {
	return tree.Op{Kind: tree.Edit, Id: id, From: from, To: to, Text: text}
}
func set(id int, name string, v api.Value) tree.Op {
	return tree.Op{Kind: tree.SetProp, Id: id, Name: name, Value: v}
}

// read gives the operations of lines, all of which are right.
func read(lines ...string) []copy.Op {
	return must(copy.ReadOps(strings.Join(lines, "\n") + "\n"))
}

// one copy with a number that knows some operations.
func knowing(number int, l ...copy.Op) *copy.Copy {
	c := must(copy.New(number))
	must(c.Take(l))
	return c
}

// done does operations of which the test knows that they have no error, and gives what they are in the copy.
func done(c *copy.Copy, l ...tree.Op) []copy.Op {
	var all []copy.Op
	for _, o := range l {
		all = append(all, must(c.Do(o))...)
	}
	return all
}

// draw shows a base: of each block the id, the text, the properties, and what is below it.
func draw(base []api.Block) string {
	blocks := map[int]api.Block{}
	for _, b := range base {
		blocks[b.Id] = b
	}
	var below func(id int) string
	below = func(id int) string {
		var kids []string
		for _, kid := range blocks[id].Kids {
			b := blocks[kid]
			s := fmt.Sprint(kid, ":", b.Text)
			for _, p := range b.Props {
				s += fmt.Sprint(" ", p.Name, "=", must(prop.Text(p.Value)))
			}
			if len(b.Kids) > 0 {
				s += "(" + below(kid) + ")"
			}
			kids = append(kids, s)
		}
		return strings.Join(kids, ", ")
	}
	return below(0)
}

// textOf gives the text of a block.
func textOf(base []api.Block, id int) string {
	b, _ := tree.Get(base, id)
	return b.Text
}

// wantBase tells where a copy has another base than the drawn one, or other blocks that are gone.
func wantBase(t *testing.T, name string, c *copy.Copy, drawn string, gone ...int) {
	t.Helper()
	want(t, name+": base", draw(c.Base()), drawn, 0, 0)
	want(t, name+": gone", c.Gone(), gone, 0, 0)
	if bad := tree.Check(c.Base()); bad != api.OK {
		t.Errorf("%s: %d", name, bad)
	}
}

// plain gives what a result is with each empty list as nil, as new memory.
func plain[T any](result T) T {
	v := reflect.New(reflect.TypeFor[T]()).Elem()
	v.Set(plainValue(reflect.ValueOf(&result).Elem()))
	return v.Interface().(T)
}

func plainValue(v reflect.Value) reflect.Value {
	copied := reflect.New(v.Type()).Elem()
	switch v.Kind() {
	case reflect.Slice:
		for i := range v.Len() {
			copied.Set(reflect.Append(copied, plainValue(v.Index(i))))
		}
	case reflect.Struct:
		for i := range v.NumField() {
			copied.Field(i).Set(plainValue(v.Field(i)))
		}
	default:
		copied.Set(v)
	}
	return copied
}

// equal asks whether two results are the same, where empty and nil lists are.
func equal[T any](a, b T) bool {
	return reflect.DeepEqual(plain(a), plain(b))
}

// want tells where a result is another one than wanted.
func want[T any](t *testing.T, name string, got, wanted T, bad, wantedBad api.Errno) {
	t.Helper()
	if bad != wantedBad {
		t.Errorf("%.300s: error %d, want %d", name, bad, wantedBad)
	} else if !equal(got, wanted) {
		t.Errorf("%.300s = %.900s, want %.900s", name, fmt.Sprintf("%+v", got), fmt.Sprintf("%+v", wanted))
	}
}

// wantError tells where an error is another one than wanted.
func wantError(t *testing.T, name string, bad, wanted api.Errno) {
	t.Helper()
	want(t, name, 0, 0, bad, wanted)
}

// must gives a result of which the test knows that it has no error.
func must[T any](result T, bad api.Errno) T {
	if bad != api.OK {
		panic(bad)
	}
	return result
}

// second gives the error of two results, third that of three.
func second[T any](_ T, bad api.Errno) api.Errno        { return bad }
func third[T, U any](_ T, _ U, bad api.Errno) api.Errno { return bad }

// rounds counts up to a number, as long as a test has not failed.
func rounds(t *testing.T, count int) iter.Seq[int] {
	return func(yield func(i int) bool) {
		for i := range count {
			if t.Failed() || !yield(i) {
				return
			}
		}
	}
}

// changed gives an operation with a change.
func changed(o copy.Op, change func(o *copy.Op)) copy.Op {
	change(&o)
	return o
}

// rightOps gives an operation of each kind, with the fields that it can have.
func rightOps() []copy.Op {
	return []copy.Op{
		inserted(at(2, 1), 17, 3, 4, "a \"q\" \\"),
		moved(at(3, 1), 17, 3, 4),
		removed(at(4, 15), 17),
		typed(at(5, 0), 17, spot(2, 1, 2), "x \x80"),
		erased(at(6, 0), 17, spot(2, 1, 0), spot(2, 1, 2), spot(5, 0, 0)),
		given(at(7, 2), 17, "n", list(num(-3), str("\""))),
	}
}

// many gives so many operations of one copy, from a time on.
func many(from, count int) []copy.Op {
	var l []copy.Op
	for i := range count {
		l = append(l, removed(at(from+i, 0), 1))
	}
	return l
}
