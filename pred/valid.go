package pred

import (
	"slices"

	"fenland/api"
	"fenland/schema"
	"fenland/value"
)

// Valid tells whether p is well-formed and fits the schema s, which need not be valid.
func Valid(s api.Schema, p api.Pred) bool {
	if !isWellFormed(p) {
		return false
	}
	for _, q := range all(p) {
		if isAboutField(q) && !fits(s, q) {
			return false
		}
	}
	return true
}

// isWellFormed tells whether p has an encoding.
func isWellFormed(p api.Pred) bool {
	for level, q := range all(p) {
		if level > api.MaxDepth || !isConcise(q) || !isLimited(q) {
			return false
		}
	}
	return true
}

// isConcise tells whether p has an operator, and nothing in the fields that are not fields of this operator.
func isConcise(p api.Pred) bool {
	switch p.Op {
	case api.True:
	case api.Between:
		p.ID, p.Lo, p.Hi = 0, 0, 0
	case api.In:
		p.ID, p.Set = 0, nil
	case api.Prefix:
		p.ID, p.Text = 0, ""
	case api.IsNull:
		p.ID = 0
	case api.And, api.Or, api.Not:
		p.Kids = nil
	default:
		return false
	}
	return p.ID == 0 && p.Lo == 0 && p.Hi == 0 && len(p.Set) == 0 && p.Text == "" && len(p.Kids) == 0
}

// isLimited tells whether p has as many Kids and elements, and its texts as many bytes, as they may have.
func isLimited(p api.Pred) bool {
	tooLong := func(v api.Value) bool { return len(v.S) > api.MaxText }
	return len(p.Kids) <= api.MaxKids && (p.Op != api.Not || len(p.Kids) == 1) &&
		len(p.Set) <= api.MaxKids && !slices.ContainsFunc(p.Set, tooLong) && len(p.Text) <= api.MaxText
}

// fits tells whether p is about a field of s that has values, and of a type for which the operator is made.
func fits(s api.Schema, p api.Pred) bool {
	f, ok := schema.Field(s, p.ID)
	// Null is a value of every type that has values.
	if !ok || !value.Valid(api.Value{Null: true}, f.Type) {
		return false
	}
	switch p.Op {
	case api.Between:
		return f.Type != api.Text
	case api.In:
		return isSet(p.Set, f.Type)
	case api.Prefix:
		return f.Type == api.Text
	}
	return true
}

// isSet tells whether l consists of different values of the type t, none of them null, in increasing order.
func isSet(l []api.Value, t int) bool {
	for i, v := range l {
		if v.Null || !value.Valid(v, t) || i > 0 && value.Compare(l[i-1], v) >= 0 {
			return false
		}
	}
	return len(l) > 0
}
