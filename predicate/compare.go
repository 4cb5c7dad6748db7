package predicate

import (
	"partsync/api"
	"partsync/value"
)

// order is how one value compares with another one: less, equal or greater if it is below, at or above 0.
type order int

func (o order) isEqual() bool          { return o == 0 }
func (o order) isNotEqual() bool       { return o != 0 }
func (o order) isLess() bool           { return o < 0 }
func (o order) isLessOrEqual() bool    { return o <= 0 }
func (o order) isGreater() bool        { return o > 0 }
func (o order) isGreaterOrEqual() bool { return o >= 0 }

// comparison returns which orders satisfy the comparison cmp, nil if it is none of the six.
func comparison(cmp int) func(order) bool {
	comparisons := []func(order) bool{
		api.CmpEq: order.isEqual,
		api.CmpNe: order.isNotEqual,
		api.CmpLt: order.isLess,
		api.CmpLe: order.isLessOrEqual,
		api.CmpGt: order.isGreater,
		api.CmpGe: order.isGreaterOrEqual,
	}
	satisfies, _ := at(comparisons, cmp)
	return satisfies
}

// compare reports whether two real values of one kind satisfy the comparison cmp. No others do.
func compare(left api.Value, cmp int, right api.Value) bool {
	satisfies := comparison(cmp)
	if satisfies == nil || left.Kind != right.Kind || !value.Real(left) || !value.Real(right) {
		return false
	}
	return satisfies(order(value.Compare(left, right)))
}

// denoted returns the value that the operand denotes; if it denotes nothing, the zero value, which is not real either.
func denoted(o api.Operand, row api.Row, params []api.Value) api.Value {
	switch o.Kind {
	case api.OperandColumn:
		v, _ := at(row, o.Index)
		return v
	case api.OperandParam:
		v, _ := at(params, o.Index)
		return v
	case api.OperandValue:
		return o.Value
	}
	return api.Value{}
}

// bind returns the operand, or the parameter that it denotes.
func bind(o api.Operand, params []api.Value) api.Operand {
	if o.Kind == api.OperandParam {
		if v, ok := at(params, o.Index); ok {
			return api.Operand{Kind: api.OperandValue, Value: v}
		}
	}
	return o
}

// at returns the item at the index; the zero value and false if there is none.
func at[T any](items []T, index int) (T, bool) {
	if index < 0 || index >= len(items) {
		var none T
		return none, false
	}
	return items[index], true
}
