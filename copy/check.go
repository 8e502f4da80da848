package copy

import (
	"slices"

	"florilegium/api"
	"florilegium/prop"
	"florilegium/text"
)

// CheckOp says whether an operation is right.
func CheckOp(o Op) api.Errno {
	if !o.Stamp.isRight() {
		return api.ErrRange
	}
	if !isFrom(o.Kind, Insert, SetProp) {
		return api.ErrKind
	}
	if hasUnused(o) {
		return api.ErrForm
	}
	if !isFrom(o.Id, 1, api.MaxId) {
		return api.ErrRange
	}
	switch o.Kind {
	case Insert:
		return checkInsert(o)
	case Move:
		return checkPlace(o)
	case Type:
		return checkType(o)
	case Erase:
		return checkErase(o)
	case SetProp:
		return checkSetProp(o)
	}
	return api.OK
}

// hasUnused asks whether a field that the kind does not use is not zero.
func hasUnused(o Op) bool {
	switch o.Kind {
	case Insert:
		o.Parent, o.Left, o.Octets = 0, 0, ""
	case Move:
		o.Parent, o.Left = 0, 0
	case Type:
		o.After, o.Octets = Spot{}, ""
	case Erase:
		o.Spots = nil
	case SetProp:
		o.Name, o.Value = "", api.Value{}
	}
	v := o.Value
	return o.Parent != 0 || o.Left != 0 || o.After != (Spot{}) || o.Octets != "" || len(o.Spots) > 0 || o.Name != "" ||
		v.Kind != api.None || v.Int != 0 || v.To != 0 || v.Text != "" || len(v.Items) > 0
}

func checkInsert(o Op) api.Errno {
	if o.Id%MaxCopies != o.Stamp.Copy {
		return api.ErrForm
	}
	if bad := checkPlace(o); bad != api.OK {
		return bad
	}
	return text.Check(o.Octets)
}

func checkPlace(o Op) api.Errno {
	if !isFrom(o.Parent, 0, api.MaxId) || !isFrom(o.Left, 0, api.MaxId) {
		return api.ErrRange
	}
	if o.Parent == o.Id || o.Left == o.Id {
		return api.ErrLoop
	}
	return api.OK
}

func checkType(o Op) api.Errno {
	if !isFrom(len(o.Octets), 1, MaxRun) {
		return api.ErrLarge
	}
	if bad := text.Check(o.Octets); bad != api.OK {
		return bad
	}
	if o.After != (Spot{}) && !o.After.isRightIn(o) {
		return api.ErrStamp
	}
	return api.OK
}

func checkErase(o Op) api.Errno {
	if slices.ContainsFunc(o.Spots, func(s Spot) bool { return !s.isRightIn(o) }) {
		return api.ErrStamp
	}
	if !isFrom(len(o.Spots), 1, MaxRun) {
		return api.ErrLarge
	}
	for i := 1; i < len(o.Spots); i++ {
		if compareSpots(o.Spots[i-1], o.Spots[i]) >= 0 {
			return api.ErrOrder
		}
	}
	return api.OK
}

func checkSetProp(o Op) api.Errno {
	if bad := prop.CheckName(o.Name); bad != api.OK {
		return bad
	}
	return prop.CheckValue(o.Value)
}

// checkOps says whether operations are right, and not too many.
func checkOps(l []Op) api.Errno {
	if len(l) > MaxOps {
		return api.ErrLarge
	}
	for _, o := range l {
		if bad := CheckOp(o); bad != api.OK {
			return bad
		}
	}
	return api.OK
}
