package tree

import (
	"slices"

	"florilegium/api"
	"florilegium/prop"
	"florilegium/text"
)

// check says whether an operation may be done.
func (all blocks) check(o Op) api.Errno {
	if o.Kind < Insert || o.Kind > SetProp {
		return api.ErrKind
	}
	if hasUnused(o) {
		return api.ErrForm
	}
	if o.Kind == Insert {
		return all.checkInsert(o)
	}
	if all[o.Id] == nil || o.Id == 0 {
		return api.ErrNone
	}
	switch o.Kind {
	case Remove:
		if len(all[o.Id].Kids) > 0 {
			return api.ErrState
		}
		return api.OK
	case Move:
		return all.checkMove(o)
	case Edit:
		return text.CheckEdit(all[o.Id].Text, editOf(o))
	default: // SetProp
		return all.checkSetProp(o)
	}
}

// hasUnused asks whether a field that the kind does not use is not zero.
func hasUnused(o Op) bool {
	switch o.Kind {
	case Insert:
		o.Parent, o.At, o.Text = 0, 0, ""
	case Move:
		o.Parent, o.At = 0, 0
	case Edit:
		o.From, o.To, o.Text = 0, 0, ""
	case SetProp:
		o.Name, o.Value = "", api.Value{}
	}
	v := o.Value
	return o.Parent != 0 || o.At != 0 || o.From != 0 || o.To != 0 || o.Text != "" || o.Name != "" ||
		!sameFields(v, api.Value{}) || len(v.Items) > 0
}

// editOf gives the edit of chapter 1 that an Edit is.
func editOf(o Op) text.Edit {
	return text.Edit{From: o.From, To: o.To, With: o.Text}
}

func (all blocks) checkInsert(o Op) api.Errno {
	if !isId(o.Id) {
		return api.ErrRange
	}
	if all[o.Id] != nil {
		return api.ErrTwice
	}
	parent := all[o.Parent]
	if parent == nil {
		return api.ErrNone
	}
	if o.At < 0 || o.At > len(parent.Kids) {
		return api.ErrRange
	}
	if bad := text.Check(o.Text); bad != api.OK {
		return bad
	}
	if len(all) >= api.MaxBlocks || len(parent.Kids) >= MaxKids {
		return api.ErrFull
	}
	if len(all.path(o.Parent)) >= api.MaxDeep {
		return api.ErrDeep
	}
	return api.OK
}

func (all blocks) checkMove(o Op) api.Errno {
	parent := all[o.Parent]
	if parent == nil {
		return api.ErrNone
	}
	above := all.path(o.Parent)
	if slices.Contains(above, o.Id) {
		return api.ErrLoop
	}
	others := len(parent.Kids)
	if all[o.Id].Parent == o.Parent {
		others--
	}
	if o.At < 0 || o.At > others {
		return api.ErrRange
	}
	if others >= MaxKids {
		return api.ErrFull
	}
	if len(above)+all.height(o.Id) > api.MaxDeep {
		return api.ErrDeep
	}
	return api.OK
}

func (all blocks) checkSetProp(o Op) api.Errno {
	if bad := prop.CheckName(o.Name); bad != api.OK {
		return bad
	}
	if bad := prop.CheckValue(o.Value); bad != api.OK {
		return bad
	}
	props := all[o.Id].Props
	_, has := prop.Get(props, o.Name)
	if o.Value.Kind != api.None && !has && len(props) >= api.MaxProps {
		return api.ErrFull
	}
	return api.OK
}
