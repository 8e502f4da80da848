package copy

import (
	"cmp"

	"florilegium/api"
)

// Before asks whether a stamp is before another one.
func Before(a, b Stamp) bool {
	return compareStamps(a, b) < 0
}

func compareStamps(a, b Stamp) int {
	return cmp.Or(cmp.Compare(a.Time, b.Time), cmp.Compare(a.Copy, b.Copy))
}

func compareSpots(a, b Spot) int {
	return cmp.Or(compareStamps(a.Stamp, b.Stamp), cmp.Compare(a.At, b.At))
}

func compareOps(a, b Op) int {
	return compareStamps(a.Stamp, b.Stamp)
}

func (s Stamp) isRight() bool {
	return isFrom(s.Time, 1, MaxTime) && isCopy(s.Copy)
}

// isRightIn asks whether a spot can be that of an octet that was there before an operation.
func (s Spot) isRightIn(o Op) bool {
	return s.Stamp.isRight() && Before(s.Stamp, o.Stamp) && isFrom(s.At, 0, api.MaxString)
}

// isCopy asks whether a copy can have a number.
func isCopy(number int) bool {
	return isFrom(number, 0, MaxCopies-1)
}

// isFrom asks whether a number is from one to another one.
func isFrom(n, least, most int) bool {
	return least <= n && n <= most
}
