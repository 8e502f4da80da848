package prop

import (
	"slices"

	"florilegium/api"
)

// Fold makes one value of many.
func Fold(how int, l []api.Value) (api.Value, api.Errno) {
	if how < Count || how > Mean {
		return api.Value{}, api.ErrKind
	}
	if len(l) > MaxValues {
		return api.Value{}, api.ErrLarge
	}
	for _, v := range l {
		if bad := CheckValue(v); bad != api.OK {
			return api.Value{}, bad
		}
	}
	return fold(how, valuesIn(l))
}

// valuesIn gives the values that are not None.
func valuesIn(l []api.Value) []api.Value {
	var values []api.Value
	for _, v := range l {
		if v.Kind != api.None {
			values = append(values, v)
		}
	}
	return values
}

// fold is Fold of right values. It may sort them.
func fold(how int, values []api.Value) (api.Value, api.Errno) {
	switch how {
	case Count:
		return numberOf(len(values)), api.OK
	case Different:
		return numberOf(countDifferent(values)), api.OK
	case Sum, Mean:
		return foldNumbers(how, values)
	}
	if len(values) == 0 {
		return api.Value{}, api.OK
	}
	if how == Least {
		return copyOf(slices.MinFunc(values, Compare)), api.OK
	}
	return copyOf(slices.MaxFunc(values, Compare)), api.OK
}

func numberOf(n int) api.Value {
	return api.Value{Kind: api.Number, Int: n}
}

func countDifferent(values []api.Value) int {
	slices.SortFunc(values, Compare)
	same := func(a, b api.Value) bool { return Compare(a, b) == 0 }
	return len(slices.CompactFunc(values, same))
}

// foldNumbers gives the Sum or the Mean. The sum has 64 bits, because an int can have fewer.
func foldNumbers(how int, values []api.Value) (api.Value, api.Errno) {
	var sum, count int64
	for _, v := range values {
		if v.Kind == api.Number {
			sum += int64(v.Int)
			count++
		}
	}
	if how == Mean {
		if count == 0 {
			return api.Value{}, api.OK
		}
		return numberOf(int(quotientDown(sum, count))), api.OK
	}
	if sum < -api.MaxNumber || sum > api.MaxNumber {
		return api.Value{}, api.ErrRange
	}
	return numberOf(int(sum)), api.OK
}

// quotientDown divides by a number above 0, and rounds down.
func quotientDown(n, by int64) int64 {
	quotient := n / by
	if n%by < 0 {
		quotient--
	}
	return quotient
}
