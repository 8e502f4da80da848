package prop_test

import (
	"math"
	"slices"
	"testing"

	"florilegium/api"
	"florilegium/prop"
)

// P2.11

func TestFold(t *testing.T) {
	none := api.Value{}
	mixed := []api.Value{num(5), none, str("a"), num(-8), none, num(5), nums(1), nums(1), nums(2), day(5), flag(1)}
	for _, c := range []struct {
		l                                  []api.Value
		count, different, sum, least, most api.Value
		mean                               api.Value
	}{
		{nil, num(0), num(0), num(0), none, none, none},
		{[]api.Value{none, none}, num(0), num(0), num(0), none, none, none},
		{mixed, num(9), num(7), num(2), flag(1), nums(2), num(0)},
		{[]api.Value{str("b"), none, str("a")}, num(2), num(2), num(0), str("a"), str("b"), none},
		{numbers(-3, -4), num(2), num(2), num(-7), num(-4), num(-3), num(-4)},
		{numbers(3, 4), num(2), num(2), num(7), num(3), num(4), num(3)},
		{numbers(-1, 0, 0), num(3), num(2), num(-1), num(-1), num(0), num(-1)},
		{numbers(-1, 1), num(2), num(2), num(0), num(-1), num(1), num(0)},
		{numbers(-6, -3), num(2), num(2), num(-9), num(-6), num(-3), num(-5)},
		{numbers(-6, -3, -3), num(3), num(2), num(-12), num(-6), num(-3), num(-4)},
		{[]api.Value{num(7), str("x"), flag(1), day(9)}, num(4), num(4), num(7), flag(1), day(9), num(7)},
		{[]api.Value{list()}, num(1), num(1), num(0), list(), list(), none},
		{numbers(api.MaxNumber), num(1), num(1), num(api.MaxNumber), num(api.MaxNumber), num(api.MaxNumber), num(api.MaxNumber)},
		{numbers(api.MaxNumber, 1, -1), num(3), num(3), num(api.MaxNumber), num(-1), num(api.MaxNumber), num(333333333)},
		{numbers(-api.MaxNumber, 1, -1), num(3), num(3), num(-api.MaxNumber), num(-api.MaxNumber), num(1), num(-333333334)},
	} {
		for how, want := range map[int]api.Value{prop.Count: c.count, prop.Different: c.different, prop.Sum: c.sum, prop.Least: c.least, prop.Most: c.most, prop.Mean: c.mean} {
			if got, bad := prop.Fold(how, c.l); !same(got, want) || bad != api.OK {
				t.Errorf("Fold(%d, %v) = %v, %d, want %v", how, c.l, got, bad, want)
			}
		}
	}
}

func TestFoldErrors(t *testing.T) {
	many := repeated(num(api.MaxNumber), prop.MaxValues)
	for _, c := range []struct {
		how  int
		l    []api.Value
		want api.Errno
	}{
		{0, nil, api.ErrKind}, {7, nil, api.ErrKind}, {-1, make([]api.Value, 5001), api.ErrKind}, {math.MaxInt, []api.Value{flag(2)}, api.ErrKind}, {math.MinInt, nil, api.ErrKind},
		{prop.Count, make([]api.Value, 5001), api.ErrLarge}, {prop.Mean, repeated(flag(2), 5001), api.ErrLarge}, {prop.Count, []api.Value{num(1), flag(2), str("\n")}, api.ErrRange},
		{prop.Least, []api.Value{str("\n"), flag(2)}, api.ErrByte}, {prop.Sum, []api.Value{{Int: 1}}, api.ErrForm}, {prop.Most, []api.Value{list(list())}, api.ErrKind},
		{prop.Sum, many, api.ErrRange}, {prop.Sum, numbers(api.MaxNumber, 1), api.ErrRange}, {prop.Sum, numbers(-api.MaxNumber, -1), api.ErrRange},
		{prop.Sum, append(numbers(api.MaxNumber, 1), str("\n")), api.ErrByte},
	} {
		if got, bad := prop.Fold(c.how, c.l); !isZero(got) || bad != c.want {
			t.Errorf("Fold(%d, %.40v) = %v, %d, want %d", c.how, c.l, got, bad, c.want)
		}
	}
	for how, want := range map[int]int{prop.Count: 5000, prop.Different: 1, prop.Least: api.MaxNumber, prop.Most: api.MaxNumber, prop.Mean: api.MaxNumber} {
		if got, bad := prop.Fold(how, many); !same(got, num(want)) || bad != api.OK {
			t.Error(how, got, bad)
		}
	}
	if got, bad := prop.Fold(prop.Mean, repeated(num(-api.MaxNumber), prop.MaxValues)); !same(got, num(-api.MaxNumber)) || bad != api.OK {
		t.Error(got, bad)
	}
	if got, bad := prop.Fold(prop.Sum, append(repeated(num(api.MaxNumber), 2500), repeated(num(-api.MaxNumber), 2500)...)); !same(got, num(0)) || bad != api.OK {
		t.Error(got, bad)
	}
}

func TestFoldByModel(t *testing.T) {
	var d dice
	for range 3000 {
		var l, rest []api.Value
		different := map[string]bool{}
		for range d.next(12) {
			v := d.value()
			l = append(l, v)
			if v.Kind != api.None {
				s, _ := prop.Text(v)
				different[s] = true
				rest = append(rest, v)
			}
		}
		if got, bad := prop.Fold(prop.Different, l); !same(got, num(len(different))) || bad != api.OK {
			t.Fatal(l, got, bad)
		}
		if len(rest) == 0 {
			continue
		}
		slices.SortFunc(rest, prop.Compare)
		if got, bad := prop.Fold(prop.Least, l); !same(got, rest[0]) || bad != api.OK {
			t.Fatal(l, got, bad)
		}
		if got, bad := prop.Fold(prop.Most, l); !same(got, rest[len(rest)-1]) || bad != api.OK {
			t.Fatal(l, got, bad)
		}
	}
}

// Z12: the Mean is rounded down.
func TestMeanIsRoundedDown(t *testing.T) {
	var d dice
	for range 5000 {
		var l []int
		sum := 0
		for range 1 + d.next(9) {
			n := d.next(200) - 100
			l = append(l, n)
			sum += n
		}
		got, bad := prop.Fold(prop.Mean, numbers(l...))
		if want := math.Floor(float64(sum) / float64(len(l))); float64(got.Int) != want || bad != api.OK {
			t.Fatal(l, got, bad)
		}
	}
}
