package bounds

import (
	"partsync/api"
	"partsync/interval"
	"partsync/predicate"
	"partsync/region"
)

// orders says how the left operand of a comparison may stand to the right one.
type orders struct {
	less, equal, greater bool
}

// satisfying has the orders that satisfy each comparison.
var satisfying = [...]orders{
	api.CmpEq: {equal: true},
	api.CmpNe: {less: true, greater: true},
	api.CmpLt: {less: true},
	api.CmpLe: {less: true, equal: true},
	api.CmpGt: {greater: true},
	api.CmpGe: {equal: true, greater: true},
}

// swapped returns how the right operand may stand to the left one.
func (o orders) swapped() orders {
	return orders{less: o.greater, equal: o.equal, greater: o.less}
}

// comparison returns the regions of a valid comparison: each is its box or empty.
func comparison(columns []int, p api.Predicate) (regions, api.Errno) {
	sets, full := cells(columns, p), filled(p)
	return each(func(side int) (api.Region, api.Errno) {
		if full[side] {
			return region.Box(sets)
		}
		return region.Empty(len(columns))
	})
}

// filled reports for each side whether its region is the comparison's box.
func filled(p api.Predicate) [2]bool {
	left, right := isColumn(p.Left), isColumn(p.Right)
	some := true
	switch {
	case !left && !right:
		some = predicate.Holds(p, nil, nil)
	case p.Left == p.Right:
		some = satisfying[p.Cmp].equal
	case left && right:
		// Which pairs of cells satisfy the comparison is beyond what boxes can tell.
		return [...]bool{inner: false, outer: true}
	}
	return [...]bool{inner: some, outer: some}
}

// cells returns the sets of the comparison's box.
func cells(columns []int, p api.Predicate) [][]api.Interval {
	sets := make([][]api.Interval, len(columns))
	for i := range sets {
		sets[i] = interval.All()
	}
	left, right, o := p.Left, p.Right, satisfying[p.Cmp]
	switch {
	case isColumn(left) && isColumn(right):
		sets[left.Index] = ofKind(columns[left.Index])
		sets[right.Index] = ofKind(columns[right.Index])
	case isColumn(left):
		sets[left.Index] = ordered(o, right.Value)
	case isColumn(right):
		sets[right.Index] = ordered(o.swapped(), left.Value)
	}
	return sets
}

func isColumn(o api.Operand) bool {
	return o.Kind == api.OperandColumn
}

// ofKind returns the values of a kind that there is.
func ofKind(kind int) []api.Interval {
	set, _ := interval.OfKind(kind)
	return set
}

// ordered returns the values of v's kind that may stand so to v. No step of it fails: v is valid, and the sets are short.
func ordered(o orders, v api.Value) []api.Interval {
	set := ofKind(v.Kind)
	same, _ := interval.One(v)
	upward, _ := interval.From(v)
	above, _ := interval.Minus(upward, same)
	if !o.less {
		set, _ = interval.Intersect(set, upward)
	}
	if !o.equal {
		set, _ = interval.Minus(set, same)
	}
	if !o.greater {
		set, _ = interval.Minus(set, above)
	}
	return set
}
