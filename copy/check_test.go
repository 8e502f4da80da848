package copy_test

import (
	"fmt"
	"math"
	"strings"
	"testing"

	"florilegium/api"
	"florilegium/copy"
)

// P8.1: Before, CheckOp

func TestBefore(t *testing.T) {
	rising := []copy.Stamp{at(math.MinInt, 3), at(-1, 0), at(0, math.MinInt), {}, at(0, math.MaxInt), at(1, 0), at(1, 1), at(1, 15), at(2, 0), at(10, 0), at(math.MaxInt, -1)}
	for i, a := range rising {
		for k, b := range rising {
			if got := copy.Before(a, b); got != (i < k) {
				t.Error(a, b, got)
			}
		}
	}
}

// spotsFrom gives so many spots of one operation.
func spotsFrom(from, count int) []copy.Spot {
	var l []copy.Spot
	for i := range count {
		l = append(l, spot(1, 0, from+i))
	}
	return l
}

func TestRightOps(t *testing.T) {
	full := strings.Repeat("x", api.MaxString)
	for _, o := range append(rightOps(),
		inserted(at(1, 0), 16, 0, 0, ""), inserted(at(copy.MaxTime, 15), 15, api.MaxId, api.MaxId, full), inserted(at(1, 1), 1, 0, 2, " ~\x80\xff"), inserted(at(1, 0), api.MaxId, 0, 0, ""),
		moved(at(1, 9), 1, 0, 0), moved(at(1, 9), api.MaxId, 1, 1), moved(at(1, 9), 1, api.MaxId, api.MaxId), moved(at(1, 9), 2, 3, 3),
		removed(at(copy.MaxTime, 15), 1), removed(at(1, 0), api.MaxId),
		typed(at(1, 0), 1, copy.Spot{}, "x"), typed(at(1, 0), 1, copy.Spot{}, full[:copy.MaxRun]), typed(at(1, 1), 1, spot(1, 0, 0), " ~"), typed(at(2, 0), 1, spot(1, 15, api.MaxString), "\xff"),
		typed(at(copy.MaxTime, 1), 1, spot(copy.MaxTime, 0, 0), "x"),
		erased(at(2, 0), 1, spot(1, 15, api.MaxString)), erased(at(2, 1), 1, spot(1, 0, 0), spot(1, 0, 1), spot(1, 1, 0), spot(2, 0, 0)), erased(at(2, 0), 1, spotsFrom(0, copy.MaxRun)...),
		given(at(1, 0), 1, "n", api.Value{}), given(at(1, 0), api.MaxId, strings.Repeat("n", api.MaxName), str(full)), given(at(1, 0), 1, "n", list()),
		copy.Op{Stamp: at(1, 0), Kind: copy.Remove, Id: 1, Spots: []copy.Spot{}, Value: api.Value{Items: []api.Value{}}},
	) {
		wantError(t, fmt.Sprintf("%.200v", o), copy.CheckOp(o), api.OK)
	}
}

// fault makes something wrong in an operation.
type fault struct {
	make func(o *copy.Op)
	bad  api.Errno
}

// commonFaults gives what can be wrong in all kinds, from the first error to the last one.
func commonFaults() []fault {
	return []fault{
		{func(o *copy.Op) { o.Stamp.Time = 0 }, api.ErrRange}, {func(o *copy.Op) { o.Stamp.Time = -1 }, api.ErrRange}, {func(o *copy.Op) { o.Stamp.Time = copy.MaxTime + 1 }, api.ErrRange},
		{func(o *copy.Op) { o.Stamp.Copy = -1 }, api.ErrRange}, {func(o *copy.Op) { o.Stamp.Copy = copy.MaxCopies }, api.ErrRange},
		{func(o *copy.Op) { o.Kind = 0 }, api.ErrKind}, {func(o *copy.Op) { o.Kind = -1 }, api.ErrKind}, {func(o *copy.Op) { o.Kind = 7 }, api.ErrKind},
	}
}

// unusedFaults gives the fields that a kind of operation does not use.
func unusedFaults(kind int) []fault {
	var all []fault
	add := func(make func(o *copy.Op), users ...int) {
		for _, user := range users {
			if kind == user {
				return
			}
		}
		all = append(all, fault{make, api.ErrForm})
	}
	add(func(o *copy.Op) { o.Parent = 1 }, copy.Insert, copy.Move)
	add(func(o *copy.Op) { o.Parent = -1 }, copy.Insert, copy.Move)
	add(func(o *copy.Op) { o.Left = 1 }, copy.Insert, copy.Move)
	add(func(o *copy.Op) { o.After.At = 1 }, copy.Type)
	add(func(o *copy.Op) { o.After.Stamp.Time = 1 }, copy.Type)
	add(func(o *copy.Op) { o.After.Stamp.Copy = 1 }, copy.Type)
	add(func(o *copy.Op) { o.Octets = "x" }, copy.Insert, copy.Type)
	add(func(o *copy.Op) { o.Spots = make([]copy.Spot, 1) }, copy.Erase)
	add(func(o *copy.Op) { o.Name = "n" }, copy.SetProp)
	add(func(o *copy.Op) { o.Value = num(0) }, copy.SetProp)
	add(func(o *copy.Op) { o.Value.Int = 1 }, copy.SetProp)
	add(func(o *copy.Op) { o.Value.To = 1 }, copy.SetProp)
	add(func(o *copy.Op) { o.Value.Text = "v" }, copy.SetProp)
	add(func(o *copy.Op) { o.Value.Items = make([]api.Value, 1) }, copy.SetProp)
	return all
}

// kindFaults gives what comes after these errors.
func kindFaults(kind int) []fault {
	all := []fault{{func(o *copy.Op) { o.Id = 0 }, api.ErrRange}, {func(o *copy.Op) { o.Id = -15 }, api.ErrRange}, {func(o *copy.Op) { o.Id = api.MaxId + 1 }, api.ErrRange}}
	place := []fault{
		{func(o *copy.Op) { o.Parent = -1 }, api.ErrRange}, {func(o *copy.Op) { o.Parent = api.MaxId + 1 }, api.ErrRange},
		{func(o *copy.Op) { o.Left = -1 }, api.ErrRange}, {func(o *copy.Op) { o.Left = api.MaxId + 1 }, api.ErrRange},
		{func(o *copy.Op) { o.Parent = o.Id }, api.ErrLoop}, {func(o *copy.Op) { o.Left = o.Id }, api.ErrLoop},
	}
	switch kind {
	case copy.Insert:
		all = append(all, fault{func(o *copy.Op) { o.Id++ }, api.ErrForm}, fault{func(o *copy.Op) { o.Id-- }, api.ErrForm})
		all = append(all, place...)
		all = append(all, fault{func(o *copy.Op) { o.Octets = strings.Repeat("\n", api.MaxString+1) }, api.ErrLarge},
			fault{func(o *copy.Op) { o.Octets = "a\x1f" }, api.ErrByte}, fault{func(o *copy.Op) { o.Octets = "\x7f" }, api.ErrByte})
	case copy.Move:
		all = append(all, place...)
	case copy.Type:
		for _, octets := range []string{"", strings.Repeat("x", copy.MaxRun+1), strings.Repeat("\n", copy.MaxRun+1), strings.Repeat("\n", api.MaxString+1)} {
			all = append(all, fault{func(o *copy.Op) { o.Octets = octets }, api.ErrLarge})
		}
		all = append(all, fault{func(o *copy.Op) { o.Octets = "\x1fa" }, api.ErrByte}, fault{func(o *copy.Op) { o.Octets = "a\x7f" }, api.ErrByte})
		for _, s := range wrongSpots() {
			all = append(all, fault{func(o *copy.Op) { o.After = s }, api.ErrStamp})
		}
	case copy.Erase:
		for _, s := range append(wrongSpots(), copy.Spot{}) {
			all = append(all, fault{func(o *copy.Op) { o.Spots = append(o.Spots, s) }, api.ErrStamp})
		}
		all = append(all, fault{func(o *copy.Op) { o.Spots = nil }, api.ErrLarge}, fault{func(o *copy.Op) { o.Spots = spotsFrom(0, copy.MaxRun+1) }, api.ErrLarge},
			fault{func(o *copy.Op) { o.Spots = make([]copy.Spot, 0, 3) }, api.ErrLarge})
		for _, l := range [][]copy.Spot{{spot(1, 1, 1), spot(1, 1, 1)}, {spot(1, 1, 1), spot(1, 1, 0)}, {spot(1, 2, 1), spot(1, 1, 5)}, {spot(2, 0, 0), spot(1, 1, 1)}, {spot(1, 0, 0), spot(1, 0, 1), spot(1, 0, 1)}} {
			all = append(all, fault{func(o *copy.Op) { o.Spots = l }, api.ErrOrder})
		}
	case copy.SetProp:
		for _, name := range []string{"", "A", "1n", strings.Repeat("n", api.MaxName+1)} {
			all = append(all, fault{func(o *copy.Op) { o.Name = name }, api.ErrName})
		}
		for v, bad := range map[int]api.Errno{api.MaxNumber + 1: api.ErrRange, -api.MaxNumber - 1: api.ErrRange} {
			all = append(all, fault{func(o *copy.Op) { o.Value = num(v) }, bad})
		}
		all = append(all, fault{func(o *copy.Op) { o.Value = list(list()) }, api.ErrKind}, fault{func(o *copy.Op) { o.Value = str("\n") }, api.ErrByte},
			fault{func(o *copy.Op) { o.Value = api.Value{Int: 1} }, api.ErrForm})
	}
	return all
}

// wrongSpots gives spots that are wrong in operations with the stamps of rightOps.
func wrongSpots() []copy.Spot {
	return []copy.Spot{
		spot(1, 0, -1), spot(1, 0, api.MaxString+1), spot(0, 0, 1), spot(0, 1, 0), spot(1, -1, 0), spot(1, 16, 0), spot(-1, 0, 0),
		spot(5, 0, 0), spot(6, 0, 0), spot(5, 1, 0), spot(7, 0, 0), spot(copy.MaxTime+1, 0, 0),
	}
}

func TestWrongOps(t *testing.T) {
	for _, right := range rightOps() {
		if right.Kind == copy.Erase { // so that wrongSpots are wrong in it, too
			right = erased(at(5, 0), 17, spot(2, 1, 0))
		}
		all := append(append(commonFaults(), unusedFaults(right.Kind)...), kindFaults(right.Kind)...)
		for i, f := range all {
			wantError(t, fmt.Sprint(right.Kind, " fault ", i), copy.CheckOp(changed(right, f.make)), f.bad)
		}
	}
}

// Z4: of two errors the one comes that is listed first.
func TestOrderOfErrors(t *testing.T) {
	for kind, firsts := range map[int][]fault{
		copy.Insert: {
			{func(o *copy.Op) { o.Stamp.Time = 0 }, api.ErrRange}, {func(o *copy.Op) { o.Name = "n" }, api.ErrForm}, {func(o *copy.Op) { o.Id = -14 }, api.ErrRange}, {func(o *copy.Op) { o.Id++ }, api.ErrForm},
			{func(o *copy.Op) { o.Left = -1 }, api.ErrRange}, {func(o *copy.Op) { o.Parent = o.Id }, api.ErrLoop}, {func(o *copy.Op) { o.Octets = "\n" }, api.ErrByte},
		},
		copy.Move: {
			{func(o *copy.Op) { o.Stamp.Copy = 16 }, api.ErrRange}, {func(o *copy.Op) { o.Octets = "n" }, api.ErrForm}, {func(o *copy.Op) { o.Id = 0 }, api.ErrRange},
			{func(o *copy.Op) { o.Parent = -1 }, api.ErrRange}, {func(o *copy.Op) { o.Left = o.Id }, api.ErrLoop},
		},
		copy.Type: {
			{func(o *copy.Op) { o.Stamp.Time = 0 }, api.ErrRange}, {func(o *copy.Op) { o.Parent = 1 }, api.ErrForm}, {func(o *copy.Op) { o.Id = 0 }, api.ErrRange},
			{func(o *copy.Op) { o.Octets = "\n" }, api.ErrByte}, {func(o *copy.Op) { o.After.At = -1 }, api.ErrStamp},
		},
		copy.SetProp: {
			{func(o *copy.Op) { o.Stamp.Time = 0 }, api.ErrRange}, {func(o *copy.Op) { o.Spots = make([]copy.Spot, 1) }, api.ErrForm}, {func(o *copy.Op) { o.Id = api.MaxId + 1 }, api.ErrRange},
			{func(o *copy.Op) { o.Name = "" }, api.ErrName}, {func(o *copy.Op) { o.Value = str("\n") }, api.ErrByte},
		},
	} {
		right := rightOps()[kind-copy.Insert]
		for i, first := range firsts {
			for _, later := range firsts[i+1:] {
				o := changed(changed(right, first.make), later.make)
				wantError(t, fmt.Sprintf("%+v", o), copy.CheckOp(o), first.bad)
			}
		}
	}
	stampless := changed(removed(at(0, 0), 0), func(o *copy.Op) { o.Kind = 9 })
	wantError(t, "stamp before kind", copy.CheckOp(stampless), api.ErrRange)
	wantError(t, "kind before fields", copy.CheckOp(copy.Op{Stamp: at(1, 0), Kind: 7, Id: -1, Name: "n"}), api.ErrKind)
	long := append(spotsFrom(0, copy.MaxRun), spot(1, 0, 0))
	wantError(t, "size before order", copy.CheckOp(erased(at(2, 0), 1, long...)), api.ErrLarge)
	wantError(t, "spots before size", copy.CheckOp(erased(at(2, 0), 1, append(long, copy.Spot{})...)), api.ErrStamp)
	wantError(t, "spots before order", copy.CheckOp(erased(at(2, 0), 1, spot(1, 0, 1), spot(1, 0, 0), spot(3, 0, 0))), api.ErrStamp)
	wantError(t, "size before bytes", copy.CheckOp(typed(at(2, 0), 1, spot(3, 0, 0), strings.Repeat("\n", 501))), api.ErrLarge)
}
