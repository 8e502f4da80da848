package prop_test

import (
	"slices"
	"strings"
	"testing"

	"florilegium/api"
	"florilegium/prop"
)

// P2.8

func TestCheckName(t *testing.T) {
	full := strings.Repeat("a", api.MaxName)
	for _, s := range []string{"a", "z", "due", "a1", "a-", "a-b-9", "a--", full, full[1:] + "9"} {
		if got := prop.CheckName(s); got != api.OK {
			t.Errorf("%q: %d", s, got)
		}
	}
	for _, s := range []string{"", "A", "1", "-", "1a", "-a", "aB", "a b", " a", "a ", "a_b", "a:", "a.", "é", "aé", "a\x00", "a\n", full + "a", full + full} {
		if got := prop.CheckName(s); got != api.ErrName {
			t.Errorf("%q: %d", s, got)
		}
	}
	for c := range 256 {
		letter := 'a' <= c && c <= 'z'
		inner := letter || '0' <= c && c <= '9' || c == '-'
		s := string([]byte{byte(c)})
		if got := prop.CheckName(s) == api.OK; got != letter {
			t.Errorf("%q: %v", s, got)
		}
		if got := prop.CheckName("a"+s) == api.OK; got != inner {
			t.Errorf("%q: %v", "a"+s, got)
		}
	}
}

func TestCheckProps(t *testing.T) {
	for _, c := range []struct {
		l    []api.Prop
		want api.Errno
	}{
		{nil, api.OK}, {props(1), api.OK}, {props(api.MaxProps), api.OK}, {props(api.MaxProps + 1), api.ErrLarge},
		{make([]api.Prop, api.MaxProps+1), api.ErrLarge}, {make([]api.Prop, api.MaxProps), api.ErrName},
		{[]api.Prop{pr("a", num(1)), pr("b", list(num(1)))}, api.OK}, {[]api.Prop{pr("b", num(1)), pr("a", num(1))}, api.ErrOrder},
		{[]api.Prop{pr("a", num(1)), pr("a", num(1))}, api.ErrOrder}, {[]api.Prop{pr("a-b", num(1)), pr("a", num(1))}, api.ErrOrder},
		{[]api.Prop{pr("a", num(1)), pr("a-b", num(1)), pr("a1", num(1)), pr("aa", num(1))}, api.OK},
		{[]api.Prop{pr("A", num(1))}, api.ErrName}, {[]api.Prop{pr("", num(1))}, api.ErrName},
		{[]api.Prop{pr("a", api.Value{})}, api.ErrKind}, {[]api.Prop{pr("a", api.Value{Int: 1})}, api.ErrKind}, {[]api.Prop{pr("a", api.Value{Kind: 8})}, api.ErrKind},
		{[]api.Prop{pr("a", flag(2))}, api.ErrRange}, {[]api.Prop{pr("a", str("\n"))}, api.ErrByte}, {[]api.Prop{pr("a", link(""))}, api.ErrForm},
		{[]api.Prop{pr("a", span(2, 1))}, api.ErrOrder}, {[]api.Prop{pr("a", flag(2)), pr("B", num(1))}, api.ErrRange},
		{[]api.Prop{pr("b", num(1)), pr("A", flag(2))}, api.ErrName}, {[]api.Prop{pr("b", num(1)), pr("a", flag(2))}, api.ErrOrder},
		{[]api.Prop{pr("b", num(1)), pr("a", api.Value{})}, api.ErrOrder}, {[]api.Prop{pr("a", api.Value{}), pr("B", num(1))}, api.ErrKind},
	} {
		if got := prop.CheckProps(c.l); got != c.want {
			t.Errorf("CheckProps(%.99v) = %d, want %d", c.l, got, c.want)
		}
	}
}

func TestGet(t *testing.T) {
	l := []api.Prop{pr("b", num(1)), pr("a", list(num(1), num(2))), pr("b", num(2)), pr("", num(3)), pr("x y", list(list(num(4)))), pr("n", api.Value{})}
	for name, want := range map[string]api.Value{"b": num(1), "a": list(num(1), num(2)), "": num(3), "x y": list(list(num(4))), "n": {}} {
		if got, ok := prop.Get(l, name); !ok || !same(got, want) {
			t.Errorf("%q: %v, %v", name, got, ok)
		}
	}
	for _, name := range []string{"c", "B", "x"} {
		if got, ok := prop.Get(l, name); ok || !isZero(got) {
			t.Errorf("%q: %v, %v", name, got, ok)
		}
	}
	if got, ok := prop.Get(nil, ""); ok || !isZero(got) {
		t.Error(got, ok)
	}
	if got, ok := prop.Get(props(1000)[900:], "n"+string([]byte{'0' + 95, '0' + 7})); !ok || got.Int != 957 {
		t.Error(got, ok)
	}
}

func TestPut(t *testing.T) {
	l := []api.Prop{pr("b", num(1)), pr("d", nums(1, 2)), pr("f", str("x"))}
	for _, c := range []struct {
		l    []api.Prop
		name string
		v    api.Value
		want []api.Prop
	}{
		{nil, "a", num(1), []api.Prop{pr("a", num(1))}}, {nil, "a", api.Value{}, nil}, {l, "x", api.Value{}, l}, {l, "c", api.Value{}, l},
		{l, "a", num(9), []api.Prop{pr("a", num(9)), l[0], l[1], l[2]}}, {l, "c", list(), []api.Prop{l[0], pr("c", list()), l[1], l[2]}},
		{l, "z", flag(0), []api.Prop{l[0], l[1], l[2], pr("z", flag(0))}}, {l, "d", num(9), []api.Prop{l[0], pr("d", num(9)), l[2]}},
		{l, "d", nums(1, 2), l}, {l, "b", str(""), []api.Prop{pr("b", str("")), l[1], l[2]}}, {l, "b", api.Value{}, l[1:]}, {l, "d", api.Value{}, []api.Prop{l[0], l[2]}},
		{l, "f", api.Value{}, l[:2]}, {l, "b-1", num(2), []api.Prop{l[0], pr("b-1", num(2)), l[1], l[2]}},
		{props(20), "n19", num(19), props(20)}, {props(19), "n19", num(19), props(20)}, {props(20), "zz", api.Value{}, props(20)},
	} {
		if got, bad := prop.Put(c.l, c.name, c.v); !sameProps(got, c.want) || bad != api.OK {
			t.Errorf("Put(%v, %q, %v) = %v, %d", c.l, c.name, c.v, got, bad)
		}
	}
}

func TestPutErrors(t *testing.T) {
	wrong := []api.Prop{pr("a", flag(2))}
	for _, c := range []struct {
		l    []api.Prop
		name string
		v    api.Value
		want api.Errno
	}{
		{wrong, "A", str("\n"), api.ErrRange}, {wrong, "a", num(1), api.ErrRange}, {wrong, "a", api.Value{}, api.ErrRange}, {props(21), "A", num(1), api.ErrLarge},
		{nil, "A", str("\n"), api.ErrName}, {nil, "", num(1), api.ErrName}, {nil, "", api.Value{}, api.ErrName}, {nil, "a", str("\n"), api.ErrByte},
		{nil, "a", api.Value{Int: 1}, api.ErrForm}, {nil, "a", api.Value{Kind: 8}, api.ErrKind}, {props(20), "zz", num(1), api.ErrLarge}, {props(20), "zz", str("\n"), api.ErrByte},
		{[]api.Prop{pr("b", num(1)), pr("a", num(1))}, "a", num(1), api.ErrOrder},
	} {
		if got, bad := prop.Put(c.l, c.name, c.v); len(got) != 0 || bad != c.want {
			t.Errorf("Put(%.40v, %q, %v) = %v, %d, want %d", c.l, c.name, c.v, got, bad, c.want)
		}
	}
}

func TestDrop(t *testing.T) {
	l := []api.Prop{pr("b", num(1)), pr("d", nums(1, 2)), pr("f", str("x"))}
	for name, want := range map[string][]api.Prop{"b": l[1:], "d": {l[0], l[2]}, "f": l[:2]} {
		if got, bad := prop.Drop(l, name); !sameProps(got, want) || bad != api.OK {
			t.Errorf("%q: %v, %d", name, got, bad)
		}
	}
	if got, bad := prop.Drop(l[:1], "b"); len(got) != 0 || bad != api.OK {
		t.Error(got, bad)
	}
	for _, c := range []struct {
		l    []api.Prop
		name string
		want api.Errno
	}{
		{l, "c", api.ErrNone}, {l, "z", api.ErrNone}, {nil, "a", api.ErrNone}, {l, "B", api.ErrName}, {nil, "", api.ErrName}, {props(21), "", api.ErrLarge},
		{[]api.Prop{pr("a", flag(2))}, "", api.ErrRange}, {[]api.Prop{pr("a", flag(2))}, "a", api.ErrRange}, {[]api.Prop{pr("b", num(1)), pr("a", num(1))}, "a", api.ErrOrder},
	} {
		if got, bad := prop.Drop(c.l, c.name); len(got) != 0 || bad != c.want {
			t.Errorf("Drop(%.40v, %q) = %v, %d, want %d", c.l, c.name, got, bad, c.want)
		}
	}
}

// What Put puts is what Get gets, and all else stays.
func TestPutAndGet(t *testing.T) {
	var d dice
	names := []string{"a", "a-1", "b", "b0", "cc"}
	for range 5000 {
		l, v, name := d.list(names...), d.value(), names[d.next(len(names))]
		put, bad := prop.Put(l, name, v)
		if bad != api.OK || prop.CheckProps(put) != api.OK {
			t.Fatal(l, name, v, put, bad)
		}
		for _, other := range names {
			got, ok := prop.Get(put, other)
			want, has := prop.Get(l, other)
			if other == name {
				want, has = v, v.Kind != api.None
			}
			if ok != has || !same(got, want) {
				t.Fatal(l, name, v, put, other)
			}
		}
		dropped, bad := prop.Drop(l, name)
		if _, has := prop.Get(l, name); has != (bad == api.OK) {
			t.Fatal(l, name, bad)
		}
		if without, _ := prop.Put(l, name, api.Value{}); bad == api.OK && !sameProps(dropped, without) {
			t.Fatal(l, name, dropped, without)
		}
	}
}

// P2.9

func TestPropsText(t *testing.T) {
	l := []api.Prop{pr("b-1", num(5)), pr("due", day(8465)), pr("l", list(link("a"), str("::\""))), pr("s", str(":: x"))}
	s := "b-1:: 5\ndue:: 2024-03-06\nl:: [[[a]], \"::\\\"\"]\ns:: \":: x\"\n"
	if got, bad := prop.PropsText(l); got != s || bad != api.OK {
		t.Errorf("%q, %d", got, bad)
	}
	if got, line, bad := prop.ReadProps(s); !sameProps(got, l) || line != 0 || bad != api.OK {
		t.Error(got, line, bad)
	}
	if got, bad := prop.PropsText(nil); got != "" || bad != api.OK {
		t.Error(got, bad)
	}
	for _, wrong := range [][]api.Prop{props(21), {pr("A", num(1))}, {pr("b", num(1)), pr("a", num(1))}, {pr("a", api.Value{})}, {pr("a", str("\n"))}} {
		if got, bad := prop.PropsText(wrong); got != "" || bad == api.OK || bad != prop.CheckProps(wrong) {
			t.Errorf("%v: %q, %d", wrong, got, bad)
		}
	}
}

// PropsText writes long strings, too: MaxBody is for strings that are read.
func TestPropsTextOfLongLists(t *testing.T) {
	l := props(20)
	for i := range l {
		l[i].Value = list(repeated(str(strings.Repeat("\\", api.MaxString)), 20)...)
	}
	s, bad := prop.PropsText(l)
	if len(s) != 20*(len("n00:: []\n")+20*4002+19*2) || bad != api.OK {
		t.Error(len(s), bad)
	}
	if _, line, bad := prop.ReadProps(s); line != 0 || bad != api.ErrLarge {
		t.Error(line, bad)
	}
}

func TestReadProps(t *testing.T) {
	for _, c := range []struct {
		s    string
		line int
		want api.Errno
	}{
		{"", 0, api.OK}, {"a:: 1\n", 0, api.OK}, {"a:: 1\nb:: []\n", 0, api.OK}, {"a:: 1", 1, api.ErrSyntax}, {"a:: 1\nb:: 2", 2, api.ErrSyntax}, {"a:: 1\nb:: x\n", 2, api.ErrSyntax},
		{"\n", 1, api.ErrSyntax}, {"a:: 1\n\n", 2, api.ErrSyntax}, {"\na:: 1\n", 1, api.ErrSyntax}, {"a:: 1\n\nb:: 1\n", 2, api.ErrSyntax}, {"a::1\n", 1, api.ErrSyntax},
		{"a: 1\n", 1, api.ErrSyntax}, {"a 1\n", 1, api.ErrSyntax}, {":: 1\n", 1, api.ErrSyntax}, {"a b:: 1\n", 1, api.ErrSyntax}, {" a:: 1\n", 1, api.ErrSyntax}, {"a :: 1\n", 1, api.ErrSyntax},
		{"a::  1\n", 1, api.ErrSyntax}, {"a:: 1 \n", 1, api.ErrSyntax}, {"a:: \n", 1, api.ErrSyntax}, {"a::\n", 1, api.ErrSyntax}, {"a::: 1\n", 1, api.ErrSyntax}, {"a:::: 1\n", 1, api.ErrSyntax},
		{"a:: 1\r\n", 1, api.ErrSyntax}, {"a:: \"x\ny\"\n", 1, api.ErrSyntax}, {"a:: [1,2]\n", 1, api.ErrSyntax}, {"A:: x\nb:: 1\n", 1, api.ErrSyntax}, {"A:: 2023-02-29\nb:: x\n", 2, api.ErrSyntax},
		{"x", 1, api.ErrSyntax}, {"b:: 1\na:: 1\na:: 1", 3, api.ErrSyntax}, {"a:: x\nb:: 1", 1, api.ErrSyntax}, {"::\n", 1, api.ErrSyntax}, {"\x00", 1, api.ErrSyntax},
		{"A:: 1\n", 0, api.ErrName}, {"a:b:: 1\n", 0, api.ErrName}, {":a:: 1\n", 0, api.ErrName}, {"a\t:: 1\n", 0, api.ErrName}, {"é:: 1\n", 0, api.ErrName}, {"\x00:: 1\n", 0, api.ErrName},
		{"b:: 1\na:: 1\n", 0, api.ErrOrder}, {"a:: 1\na:: 1\n", 0, api.ErrOrder}, {"a:: -\n", 0, api.ErrKind}, {"a:: [-]\n", 0, api.ErrKind}, {"a:: [[]]\n", 0, api.ErrForm},
		{"a:: 9999999999\n", 0, api.ErrRange}, {"A:: 9999999999\n", 0, api.ErrName}, {"A:: 2023-02-29\n", 0, api.ErrRange}, {"A:: 1\nb:: 2001-01-01..2023-02-29\n", 0, api.ErrRange},
		{"A:: 1\nb:: [1, 2023-02-29]\n", 0, api.ErrRange}, {"A:: [2001-01-02..2001-01-01]\n", 0, api.ErrName}, {"a:: 2001-01-02..2001-01-01\n", 0, api.ErrOrder},
		{"a:: \"\x01\"\n", 0, api.ErrByte}, {"a:: -\nA:: 1\n", 0, api.ErrKind}, {"a:: \"::\"\n", 0, api.OK}, {"a:: [[:: b]]\n", 0, api.OK},
		{strings.Repeat("A:: 1\n", 21), 0, api.ErrLarge}, {strings.Repeat("A:: 2023-02-29\n", 21), 0, api.ErrRange}, {strings.Repeat("A:: 1\n", 21) + "b", 22, api.ErrSyntax},
		{strings.Repeat("a:: 1\n", api.MaxBody/6) + "a:: ", 66667, api.ErrSyntax}, {strings.Repeat("\n", api.MaxBody), 1, api.ErrSyntax},
		{strings.Repeat("\n", api.MaxBody+1), 0, api.ErrLarge},
	} {
		got, line, bad := prop.ReadProps(c.s)
		if line != c.line || bad != c.want || bad != api.OK && len(got) != 0 {
			t.Errorf("ReadProps(%.40q) = %.40v, %d, %d, want %d, %d", c.s, got, line, bad, c.line, c.want)
		}
	}
}

func TestReadPropsReadsWhatPropsTextWrites(t *testing.T) {
	var d dice
	for range 10000 {
		l := d.list("a", "b-2", "c3", "long-name-of-20-byte")
		s, bad := prop.PropsText(l)
		got, line, badToo := prop.ReadProps(s)
		if !sameProps(got, l) || line != 0 || bad != api.OK || badToo != api.OK {
			t.Fatalf("%v: %q, %d: %v, %d", l, s, bad, got, badToo)
		}
	}
}

// Z10: what ReadProps does not refuse PropsText writes.
func TestReadPropsReadsNothingElse(t *testing.T) {
	var d dice
	found := 0
	for range 300000 {
		s := d.word(6, "a:: ", "b:: ", "::", ":", " ", "\n", "1", "1\n", "\"x\"\n", "[]", "-", "2001-01-01\n")
		l, line, bad := prop.ReadProps(s)
		if (line != 0) != (bad == api.ErrSyntax) {
			t.Fatalf("%q: %d, %d", s, line, bad)
		}
		if bad != api.OK {
			continue
		}
		found += len(l)
		if got, bad := prop.PropsText(l); got != s || bad != api.OK {
			t.Fatalf("%q: %v: %q, %d", s, l, got, bad)
		}
	}
	if found < 100 {
		t.Error(found)
	}
}

// P2.10

func TestCheckTypes(t *testing.T) {
	long := strings.Repeat("x", api.MaxString)
	choices := func(count int) []string {
		var l []string
		for i := range count {
			l = append(l, strings.Repeat("c", i))
		}
		return l
	}
	var many []prop.Type
	for i := range prop.MaxTypes {
		many = append(many, prop.Type{Name: "n" + strings.Repeat("1", i%10) + string([]byte{byte('a' + i/10)}), Kind: api.Flag})
	}
	str := func(choices ...string) prop.Type { return prop.Type{Name: "a", Kind: api.String, Choices: choices} }
	num := func(least, most int) prop.Type {
		return prop.Type{Name: "a", Kind: api.Number, Least: least, Most: most}
	}
	for _, c := range []struct {
		l    []prop.Type
		want api.Errno
	}{
		{nil, api.OK}, {many, api.OK}, {append(slices.Clone(many), prop.Type{Name: "z", Kind: 1}), api.ErrLarge}, {make([]prop.Type, 41), api.ErrLarge},
		{[]prop.Type{{Name: "b", Kind: 7}, {Name: "a", Kind: 1, Need: true}}, api.OK}, {[]prop.Type{{Name: "", Kind: 1}}, api.ErrName}, {[]prop.Type{{Name: "A", Kind: 9}}, api.ErrName},
		{[]prop.Type{{Name: "a", Kind: 1}, {Name: "b", Kind: 1}, {Name: "a", Kind: 9}}, api.ErrTwice}, {[]prop.Type{{Name: "a", Kind: 0}}, api.ErrKind},
		{[]prop.Type{{Name: "a", Kind: 8}}, api.ErrKind}, {[]prop.Type{{Name: "a", Kind: -1, Choices: choices(21)}}, api.ErrKind},
		{[]prop.Type{{Name: "a", Kind: 0}, {Name: "A", Kind: 1}}, api.ErrKind}, {[]prop.Type{{Name: "a", Kind: 1}, {Name: "A", Kind: 0}}, api.ErrName},
		{[]prop.Type{str()}, api.OK}, {[]prop.Type{str("")}, api.OK}, {[]prop.Type{str("b", "a", "\n")}, api.OK}, {[]prop.Type{str(choices(20)...)}, api.OK},
		{[]prop.Type{str(choices(21)...)}, api.ErrLarge}, {[]prop.Type{str(make([]string, 21)...)}, api.ErrLarge}, {[]prop.Type{str(make([]string, 20)...)}, api.ErrTwice},
		{[]prop.Type{str("a", "b", "a")}, api.ErrTwice}, {[]prop.Type{str("a", "a", long+"x")}, api.ErrTwice}, {[]prop.Type{str(long)}, api.OK}, {[]prop.Type{str(long+"x", "a", "a")}, api.ErrLarge},
		{[]prop.Type{num(0, 0)}, api.OK}, {[]prop.Type{num(-5, -5)}, api.OK}, {[]prop.Type{num(0, 1)}, api.OK}, {[]prop.Type{num(1, 0)}, api.ErrOrder}, {[]prop.Type{num(0, -1)}, api.ErrOrder},
		{[]prop.Type{{Name: "a", Kind: api.Number, Choices: []string{"a"}, Least: 1}}, api.ErrForm}, {[]prop.Type{{Name: "a", Kind: api.Number, Choices: []string{}}}, api.OK},
		{[]prop.Type{{Name: "a", Kind: api.String, Choices: choices(21), Most: 1}}, api.ErrForm}, {[]prop.Type{{Name: "a", Kind: api.String, Least: -1}}, api.ErrForm},
		{[]prop.Type{num(1, 0), {Name: "A"}}, api.ErrOrder}, {[]prop.Type{num(-1<<63, 1<<63-1)}, api.OK}, {[]prop.Type{num(1<<63-1, -1<<63)}, api.ErrOrder},
	} {
		if got := prop.CheckTypes(c.l); got != c.want {
			t.Errorf("CheckTypes(%.80v) = %d, want %d", c.l, got, c.want)
		}
	}
	for kind := api.Flag; kind <= api.List; kind++ {
		for _, c := range []struct {
			t    prop.Type
			uses bool
		}{
			{prop.Type{Choices: []string{"a"}}, kind == api.String}, {prop.Type{Least: -1}, kind == api.Number}, {prop.Type{Most: 1}, kind == api.Number}, {prop.Type{Need: true}, true},
		} {
			c.t.Name, c.t.Kind = "a", kind
			if got := prop.CheckTypes([]prop.Type{c.t}); got != api.OK && c.uses || got != api.ErrForm && !c.uses {
				t.Error(c.t, got)
			}
		}
	}
}

func TestFaults(t *testing.T) {
	l := []api.Prop{pr("d", day(5)), pr("l", nums(7)), pr("n", num(5)), pr("s", str("x")), pr("z", str(""))}
	for _, c := range []struct {
		t    prop.Type
		want api.Errno
	}{
		{prop.Type{Name: "a", Kind: api.Flag}, api.OK}, {prop.Type{Name: "a", Kind: api.Flag, Need: true}, api.ErrNone}, {prop.Type{Name: "a", Kind: api.Number, Least: 1, Most: 2}, api.OK},
		{prop.Type{Name: "d", Kind: api.Date, Need: true}, api.OK}, {prop.Type{Name: "d", Kind: api.Span}, api.ErrKind}, {prop.Type{Name: "l", Kind: api.List}, api.OK},
		{prop.Type{Name: "l", Kind: api.Number, Least: 8, Most: 9}, api.ErrKind}, {prop.Type{Name: "n", Kind: api.Number}, api.OK}, {prop.Type{Name: "n", Kind: api.String, Choices: []string{"x"}}, api.ErrKind},
		{prop.Type{Name: "n", Kind: api.Number, Least: 5, Most: 5}, api.OK}, {prop.Type{Name: "n", Kind: api.Number, Least: 6, Most: 9}, api.ErrRange},
		{prop.Type{Name: "n", Kind: api.Number, Least: 0, Most: 4}, api.ErrRange}, {prop.Type{Name: "n", Kind: api.Number, Least: -9, Most: 0}, api.ErrRange},
		{prop.Type{Name: "n", Kind: api.Number, Least: -9, Most: 5}, api.OK}, {prop.Type{Name: "s", Kind: api.String}, api.OK}, {prop.Type{Name: "s", Kind: api.String, Choices: []string{"a", "x"}}, api.OK},
		{prop.Type{Name: "s", Kind: api.String, Choices: []string{"a", "X", ""}}, api.ErrName}, {prop.Type{Name: "z", Kind: api.String, Choices: []string{""}}, api.OK},
		{prop.Type{Name: "z", Kind: api.String, Choices: []string{"a"}}, api.ErrName}, {prop.Type{Name: "z", Kind: api.String}, api.OK},
	} {
		var want []prop.Fault
		if c.want != api.OK {
			want = []prop.Fault{{Name: c.t.Name, Error: c.want}}
		}
		if got, bad := prop.Faults([]prop.Type{c.t}, l); !slices.Equal(got, want) || bad != api.OK {
			t.Errorf("%v: %v, %d", c.t, got, bad)
		}
	}
	types := []prop.Type{{Name: "x", Kind: 1, Need: true}, {Name: "n", Kind: 1}, {Name: "d", Kind: api.Date}, {Name: "a", Kind: 1, Need: true}}
	got, bad := prop.Faults(types, l)
	if !slices.Equal(got, []prop.Fault{{Name: "x", Error: api.ErrNone}, {Name: "n", Error: api.ErrKind}, {Name: "a", Error: api.ErrNone}}) || bad != api.OK {
		t.Error(got, bad)
	}
	if got, bad := prop.Faults(nil, l); len(got) != 0 || bad != api.OK {
		t.Error(got, bad)
	}
	for _, c := range []struct {
		types []prop.Type
		l     []api.Prop
		want  api.Errno
	}{
		{[]prop.Type{{Name: "a"}}, props(21), api.ErrKind}, {types, props(21), api.ErrLarge}, {types, []api.Prop{pr("a", str("\n"))}, api.ErrByte}, {nil, []api.Prop{pr("A", num(1))}, api.ErrName},
	} {
		if got, bad := prop.Faults(c.types, c.l); len(got) != 0 || bad != c.want {
			t.Error(c.types, got, bad)
		}
	}
}
