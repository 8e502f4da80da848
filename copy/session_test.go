package copy_test

import (
	"fmt"
	"slices"
	"strings"
	"testing"

	"florilegium/api"
	"florilegium/copy"
	"florilegium/tree"
)

// A member is a copy, and what it should know, in the order in which it came.
type member struct {
	c     *copy.Copy
	known []copy.Op
}

// check holds a copy against the model.
func (m *member) check(t *testing.T, name string) {
	t.Helper()
	ordered := slices.Clone(m.known)
	slices.SortFunc(ordered, func(a, b copy.Op) int {
		return slices.Compare([]int{a.Stamp.Time, a.Stamp.Copy}, []int{b.Stamp.Time, b.Stamp.Copy})
	})
	want(t, name+": Ops", m.c.Ops(), ordered, 0, 0)
	made := modelOf(m.known)
	base, gone := made.base()
	want(t, name+": Base", m.c.Base(), base, 0, 0)
	want(t, name+": Gone", m.c.Gone(), gone, 0, 0)
	wantError(t, name, tree.Check(m.c.Base()), api.OK)
	want(t, name+": Time", m.c.Time(), timeOf(m.known), 0, 0)
	for _, b := range base[1:] {
		got, bad := m.c.Spots(b.Id)
		want(t, name+": Spots", got, made.nodes[b.Id].spots(), bad, api.OK)
	}
	knows, most := make(copy.Knows, 16), 0
	for _, o := range m.known {
		knows[o.Stamp.Copy] = max(knows[o.Stamp.Copy], o.Stamp.Time)
		if o.Kind == copy.Insert {
			most = max(most, o.Id)
		}
	}
	want(t, name+": Knows", m.c.Knows(), knows, 0, 0)
	fresh := most + 1
	for fresh%16 != m.c.Number() {
		fresh++
	}
	want(t, name+": Fresh", m.c.Fresh(), fresh, 0, 0)
}

func (m *member) do(t *testing.T, d *dice) {
	o := d.treeOp(m.c.Base(), m.c.Number())
	if d.next(8) == 0 {
		o = d.spoiltTreeOp(o)
	}
	wanted, wantedBad := modelDo(m.known, m.c.Number(), o)
	got, bad := m.c.Do(o)
	want(t, fmt.Sprintf("Do of %+v", o), got, wanted, bad, wantedBad)
	m.known = append(m.known, got...)
}

func (m *member) restore(t *testing.T, d *dice) {
	base, gone := modelOf(m.known).base()
	id := one(d, append(slices.Clone(gone), gone...)...)
	if d.next(9) == 0 {
		id = one(d, 0, base[d.next(len(base))].Id, 1+d.next(50))
	}
	parent := base[d.next(len(base))]
	if d.next(9) == 0 {
		parent.Id = one(d, 99, -1, id)
	}
	where := d.next(len(parent.Kids)+3) - 1
	wanted, wantedBad := copy.Op{Stamp: at(timeOf(m.known)+1, m.c.Number()), Kind: copy.Move, Id: id, Parent: parent.Id}, api.OK
	if _, found := tree.Get(base, parent.Id); !found || !slices.Contains(gone, id) {
		wanted, wantedBad = copy.Op{}, api.ErrNone
	} else if where < 0 || where > len(parent.Kids) {
		wanted, wantedBad = copy.Op{}, api.ErrRange
	} else if where > 0 {
		wanted.Left = parent.Kids[where-1]
	}
	got, bad := m.c.Restore(id, parent.Id, where)
	if want(t, fmt.Sprint("Restore of ", id, parent, where), got, wanted, bad, wantedBad); bad == api.OK {
		m.known = append(m.known, got)
	}
}

// take takes a part of what another one knows, in any order, some of it twice.
func (m *member) take(t *testing.T, d *dice, other *member) {
	l := d.shuffled(other.known)
	switch d.next(4) {
	case 0:
		l = other.known
	case 1:
		l = must(other.c.Since(m.c.Knows()))
	case 2:
		l = append(d.some(l), d.some(l)...)
	case 3:
		l = l[:min(len(l), d.next(4))]
	}
	missing := map[copy.Stamp]copy.Op{}
	for _, o := range l {
		if !slices.ContainsFunc(m.known, func(known copy.Op) bool { return known.Stamp == o.Stamp }) {
			missing[o.Stamp] = o
		}
	}
	got, bad := m.c.Take(l)
	want(t, "Take", got, len(missing), bad, api.OK)
	for _, o := range missing {
		m.known = append(m.known, o)
	}
}

func TestSessionsAgainstModel(t *testing.T) {
	var d dice
	for i := range rounds(t, 300) {
		first := &member{c: must(copy.New(0))}
		members := []*member{first}
		for number := 1; number < 1+d.next(4); number++ {
			members = append(members, &member{c: must(copy.New(number))})
		}
		for k := range rounds(t, 40) {
			m := members[d.next(len(members))]
			switch d.next(9) {
			case 0, 1:
				m.take(t, &d, members[d.next(len(members))])
			case 2:
				if len(m.c.Gone()) > 0 {
					m.restore(t, &d)
				}
			case 3:
				if len(members) < 6 && d.next(3) == 0 {
					m = &member{must(m.c.Fork(len(members))), slices.Clone(m.known)}
					members = append(members, m)
				}
			default:
				m.do(t, &d)
			}
			m.check(t, fmt.Sprint("session ", i, " step ", k))
		}
		for _, m := range append(slices.Clone(members), members...) {
			for _, other := range members {
				must(m.c.Take(d.shuffled(other.c.Ops())))
			}
		}
		for _, m := range members {
			want(t, fmt.Sprint("session ", i), m.c.Base(), first.c.Base(), 0, 0)
			want(t, fmt.Sprint("session ", i), m.c.Gone(), first.c.Gone(), 0, 0)
		}
	}
}

// What follows: what a copy does alone is what tree does.
func TestAloneAgainstTree(t *testing.T) {
	var d dice
	for i := range rounds(t, 100) {
		number := d.next(copy.MaxCopies)
		c, base := must(copy.New(number)), tree.Empty()
		for range rounds(t, 60) {
			o := d.treeOp(base, number)
			next, bad := tree.Apply(base, o)
			_, got := c.Do(o)
			if bad == api.OK && got != api.OK {
				if o.Kind != tree.Insert || got != api.ErrForm && got != api.ErrTwice {
					t.Fatal(o, got)
				}
				continue
			}
			wantError(t, fmt.Sprint(o), got, bad)
			if bad == api.OK {
				base = next
			}
			want(t, fmt.Sprint("base ", i), c.Base(), base, 0, 0)
		}
	}
}

// What follows: of runs that were typed apart at one position, each one stays together.
func TestRunsStayTogether(t *testing.T) {
	var d dice
	for i := range rounds(t, 300) {
		first := must(copy.New(1))
		done(first, insert(1, 0, 0, "0123456789"))
		where := d.next(11)
		members := []*copy.Copy{first, must(first.Fork(2)), must(first.Fork(9))}
		for k, c := range members {
			run := strings.Repeat(string(rune('a'+k)), 6)
			for at := 0; at < len(run); {
				to := min(len(run), at+1+d.next(3))
				done(c, edit(1, where+at, where+at, run[at:to]))
				at = to
			}
		}
		for _, c := range members {
			for _, other := range members {
				must(c.Take(d.shuffled(other.Ops())))
			}
		}
		text := textOf(first.Base(), 1)
		for k, c := range members {
			if run := strings.Repeat(string(rune('a'+k)), 6); !strings.Contains(text, run) || textOf(c.Base(), 1) != text || len(text) != 28 {
				t.Error(i, text)
			}
		}
		want(t, "around", text[:where]+text[where+18:], "0123456789", 0, 0)
	}
}

// The chapter's example.
func TestExample(t *testing.T) {
	a, b := must(copy.New(1)), must(copy.New(2))
	must(b.Take(done(a, insert(1, 0, 0, "ab"))))
	done(a, edit(1, 1, 1, "x"))
	done(b, edit(1, 1, 1, "yz"))
	lines := must(copy.OpsText(append(a.Ops(), b.Ops()[1])))
	want(t, "operations", lines, "1 1 insert 1 0 0 \"ab\"\n2 1 type 1 1 1 0 \"x\"\n2 2 type 1 1 1 0 \"yz\"\n", 0, 0)
	must(a.Take(b.Ops()))
	must(b.Take(a.Ops()))
	wantBase(t, "a", a, "1:ayzxb")
	wantBase(t, "b", b, "1:ayzxb")
	done(a, remove(1))
	wantBase(t, "removed", a, "", 1)
	done(b, move(1, 0, 0))
	must(a.Take(must(b.Since(a.Knows()))))
	must(b.Take(must(a.Since(b.Knows()))))
	wantBase(t, "a", a, "1:ayzxb")
	wantBase(t, "b", b, "1:ayzxb")
}

// Two moves that would be a ring together: the later one has no effect.
func TestRing(t *testing.T) {
	a := must(copy.New(1))
	done(a, insert(1, 0, 0, "p"), insert(17, 0, 1, "q"))
	b := must(a.Fork(2))
	done(a, move(1, 17, 0))
	done(b, move(17, 1, 0))
	must(a.Take(b.Ops()))
	must(b.Take(a.Ops()))
	wantBase(t, "a", a, "17:q(1:p)")
	wantBase(t, "b", b, "17:q(1:p)")
}
