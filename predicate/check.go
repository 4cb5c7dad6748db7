package predicate

import (
	"slices"

	"partsync/api"
	"partsync/value"
)

// shape says which fields a valid node has.
type shape struct {
	compares     bool // Cmp, Left and Right
	fewest, most int  // how many Args
}

// shapes has the shape of each operator's nodes. No node has MaxNodes Args once the nodes are counted.
var shapes = [...]shape{
	api.PredTrue:    {},
	api.PredFalse:   {},
	api.PredCompare: {compares: true},
	api.PredAnd:     {most: api.MaxNodes},
	api.PredOr:      {most: api.MaxNodes},
	api.PredNot:     {fewest: 1, most: 1},
}

// columnKinds reports whether all kinds are kinds of columns.
func columnKinds(kinds []int) bool {
	return !slices.ContainsFunc(kinds, func(kind int) bool {
		return kind != api.KindBool && kind != api.KindInt && kind != api.KindText
	})
}

// spare returns how many of the room's nodes are left beside those of p, a number below 0 if there is not room enough, or if p is deeper than the levels. It looks at no more nodes than there is room for, so it ends also if p contains itself.
func spare(p api.Predicate, room, levels int) int {
	if levels == 0 {
		return -1
	}
	room--
	for i := 0; i < len(p.Args) && room >= 0; i++ {
		room = spare(p.Args[i], room, levels-1)
	}
	return room
}

// valid reports whether all nodes of p, which is not too large, are valid.
func valid(p api.Predicate, columns, params []int) bool {
	return validNode(p, columns, params) && !slices.ContainsFunc(p.Args, func(arg api.Predicate) bool {
		return !valid(arg, columns, params)
	})
}

func validNode(p api.Predicate, columns, params []int) bool {
	if p.Op < api.PredTrue || p.Op > api.PredNot {
		return false
	}
	s := shapes[p.Op]
	if len(p.Args) < s.fewest || len(p.Args) > s.most {
		return false
	}
	if s.compares {
		return validComparison(p, columns, params)
	}
	return p.Cmp == 0 && p.Left == api.Operand{} && p.Right == api.Operand{}
}

func validComparison(p api.Predicate, columns, params []int) bool {
	left, right := kindOf(p.Left, columns, params), kindOf(p.Right, columns, params)
	return comparison(p.Cmp) != nil && left != noKind && left == right
}

// noKind is the kind of an operand that is not valid.
const noKind = 0

// kindOf returns the kind of the values that a valid operand denotes.
func kindOf(o api.Operand, columns, params []int) int {
	switch o.Kind {
	case api.OperandColumn:
		return kindAt(columns, o)
	case api.OperandParam:
		return kindAt(params, o)
	case api.OperandValue:
		if o.Index == 0 && value.Real(o.Value) {
			return o.Value.Kind
		}
	}
	return noKind
}

// kindAt returns the kind at the index of an operand that has no value of its own.
func kindAt(kinds []int, o api.Operand) int {
	kind, ok := at(kinds, o.Index)
	if !ok || o.Value != (api.Value{}) {
		return noKind
	}
	return kind
}
