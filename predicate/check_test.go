package predicate_test

import (
	"math"
	"slices"
	"strconv"
	"strings"
	"testing"

	"partsync/api"
	"partsync/predicate"
)

// P5.1

const (
	kindBool = api.KindBool
	kindInt  = api.KindInt
	kindText = api.KindText
)

// The kinds over which the predicates below are checked.
func columnKinds() []int { return []int{kindBool, kindInt, kindText, kindInt} }
func paramKinds() []int  { return []int{kindText, kindInt, kindBool} }

func validPredicates() map[string]api.Predicate {
	return map[string]api.Predicate{
		"true":                     always(),
		"false":                    never(),
		"all of none":              and(),
		"all of none, not nil":     {Op: api.PredAnd, Args: []api.Predicate{}},
		"one of none":              or(),
		"true, Args not nil":       {Op: api.PredTrue, Args: []api.Predicate{}},
		"a comparison, not nil":    {Op: api.PredCompare, Cmp: api.CmpEq, Left: column(1), Right: column(1), Args: []api.Predicate{}},
		"not":                      not(never()),
		"all of one":               and(always()),
		"one of three":             or(always(), not(or()), and(never(), always())),
		"column and bool":          compare(column(0), api.CmpEq, constant(no)),
		"column and int":           compare(column(1), api.CmpNe, constant(num(math.MinInt64))),
		"column and text":          compare(column(2), api.CmpLt, constant(txt(strings.Repeat("a", api.MaxText)))),
		"int and column":           compare(constant(num(0)), api.CmpLe, column(3)),
		"column and itself":        compare(column(2), api.CmpGt, column(2)),
		"two columns":              compare(column(3), api.CmpGe, column(1)),
		"column and parameter":     compare(column(2), api.CmpEq, param(0)),
		"parameter and column":     compare(param(1), api.CmpGe, column(3)),
		"parameter and bool":       compare(param(2), api.CmpLt, constant(yes)),
		"parameter and itself":     compare(param(1), api.CmpEq, param(1)),
		"two texts":                compare(constant(txt("")), api.CmpLe, constant(txt("b"))),
		"comparisons below others": or(not(compare(column(0), api.CmpEq, param(2))), and(compare(column(1), api.CmpLt, column(3)))),
	}
}

func TestCheckOfValidPredicates(t *testing.T) {
	for name, p := range validPredicates() {
		if e := predicate.Check(columnKinds(), paramKinds(), p); e != api.OK {
			t.Errorf("%s: Check = %d", name, e)
		}
	}
	for cmp := api.CmpEq; cmp <= api.CmpGe; cmp++ {
		if e := predicate.Check(columnKinds(), nil, compare(column(1), cmp, constant(num(1)))); e != api.OK {
			t.Errorf("Check of the comparison %d = %d", cmp, e)
		}
	}
}

func invalidPredicates() map[string]api.Predicate {
	good := compare(column(1), api.CmpLt, param(1))
	bad := map[string]api.Predicate{
		"no node":                          {},
		"not of none":                      not(),
		"not of two":                       not(always(), never()),
		"true with Args":                   tree(api.PredTrue, always()),
		"false with Args":                  tree(api.PredFalse, never()),
		"a comparison with Args":           {Op: api.PredCompare, Cmp: good.Cmp, Left: good.Left, Right: good.Right, Args: []api.Predicate{always()}},
		"a comparison without operands":    compare(api.Operand{}, api.CmpEq, api.Operand{}),
		"a comparison without left":        compare(api.Operand{}, api.CmpEq, column(1)),
		"a comparison without right":       compare(column(1), api.CmpEq, api.Operand{}),
		"operands of kinds that are none":  compare(api.Operand{Kind: 4, Value: num(1)}, api.CmpEq, constant(num(1))),
		"operands of a negative kind":      compare(constant(num(1)), api.CmpEq, api.Operand{Kind: -1, Value: num(1)}),
		"columns of two kinds":             compare(column(0), api.CmpEq, column(1)),
		"column and parameter of no kind":  compare(column(0), api.CmpEq, param(0)),
		"column and value of other kinds":  compare(column(1), api.CmpEq, constant(txt("1"))),
		"values of two kinds":              compare(constant(yes), api.CmpEq, constant(num(1))),
		"a column with a Value":            compare(api.Operand{Kind: api.OperandColumn, Index: 1, Value: num(1)}, api.CmpEq, constant(num(1))),
		"a parameter with a Value":         compare(constant(num(1)), api.CmpEq, api.Operand{Kind: api.OperandParam, Index: 1, Value: num(1)}),
		"a column with a Value of no kind": compare(api.Operand{Kind: api.OperandColumn, Index: 1, Value: api.Value{Int: 1}}, api.CmpEq, constant(num(1))),
		"a value with an Index":            compare(api.Operand{Kind: api.OperandValue, Index: 1, Value: num(1)}, api.CmpEq, constant(num(1))),
		"a value with a negative Index":    compare(constant(num(1)), api.CmpEq, api.Operand{Kind: api.OperandValue, Index: -1, Value: num(1)}),
	}
	for _, op := range noOperators() {
		bad["an operator that is none "+strconv.Itoa(op)] = tree(op)
		bad["an operator that is none with Args "+strconv.Itoa(op)] = tree(op, always())
		bad["an operator that is none that compares "+strconv.Itoa(op)] = api.Predicate{Op: op, Cmp: good.Cmp, Left: good.Left, Right: good.Right}
	}
	for _, cmp := range []int{math.MinInt, -1, 0, 7, 8, math.MaxInt} {
		bad["a comparison that is none "+strconv.Itoa(cmp)] = compare(column(1), cmp, column(1))
	}
	for _, i := range outside(len(columnKinds())) {
		bad["a column that is none "+strconv.Itoa(i)] = compare(column(i), api.CmpEq, column(i))
	}
	for _, i := range outside(len(paramKinds())) {
		bad["a parameter that is none "+strconv.Itoa(i)] = compare(param(i), api.CmpEq, param(i))
	}
	for i, v := range notReal() {
		bad["a value that is not real "+strconv.Itoa(i)] = compare(constant(v), api.CmpEq, constant(v))
	}
	for name, p := range map[string]api.Predicate{"true": always(), "false": never(), "all": and(always()), "one": or(), "not": not(always())} {
		withCmp, withLeft, withRight, withIndex := p, p, p, p
		withCmp.Cmp, withLeft.Left, withRight.Right, withIndex.Left.Index = api.CmpEq, column(1), constant(num(1)), 1
		bad[name+" with a Cmp"], bad[name+" with a Left"], bad[name+" with a Right"], bad[name+" with an Index"] = withCmp, withLeft, withRight, withIndex
	}
	return bad
}

func TestCheckOfInvalidPredicates(t *testing.T) {
	for name, p := range invalidPredicates() {
		for place, q := range map[string]api.Predicate{
			"alone":             p,
			"first of two":      and(p, always()),
			"last of two":       or(always(), p),
			"below":             not(and(or(never(), p))),
			"below true":        tree(api.PredTrue, p),
			"on the last level": tower(api.MaxDepth-2, api.PredAnd, p),
		} {
			if e := predicate.Check(columnKinds(), paramKinds(), q); e != api.ErrPredicate {
				t.Errorf("%s, %s: Check = %d", name, place, e)
			}
		}
	}
}

func TestCheckOfKinds(t *testing.T) {
	for _, kind := range append(outside(6), 0, api.KindMissing, api.KindHidden) {
		for name, kinds := range map[string][]int{"alone": {kind}, "first": {kind, kindInt}, "last": {kindBool, kindText, kind}} {
			// The other errors would apply as well.
			for _, p := range []api.Predicate{always(), {}, or(copies(always(), api.MaxNodes)...)} {
				if e := predicate.Check(kinds, nil, p); e != api.ErrArg {
					t.Errorf("Check with the kind %d of a column, %s = %d", kind, name, e)
				}
				if e := predicate.Check([]int{kindInt}, kinds, p); e != api.ErrArg {
					t.Errorf("Check with the kind %d of a parameter, %s = %d", kind, name, e)
				}
			}
		}
	}
	// There is no limit on the kinds.
	many := slices.Repeat([]int{kindInt}, 1000)
	if e := predicate.Check(many, many, compare(column(999), api.CmpEq, param(999))); e != api.OK {
		t.Errorf("Check with many columns and parameters = %d", e)
	}
}

func TestCheckOfLimits(t *testing.T) {
	wide := func(n int) api.Predicate { return and(copies(always(), n-1)...) }
	bushy := func(n int) api.Predicate { return or(append(copies(not(never()), 10), copies(always(), n-21)...)...) }
	below := func(op int) func(n int) api.Predicate {
		return func(n int) api.Predicate { return tree(op, or(copies(always(), n-2)...)) }
	}
	deep := func(op int) func(n int) api.Predicate {
		return func(n int) api.Predicate { return tower(n-1, op, always()) }
	}
	for name, c := range map[string]struct {
		of   func(n int) api.Predicate
		most int
		e    api.Errno // of what is not too large
	}{
		"wide":                   {wide, api.MaxNodes, api.OK},
		"wide or":                {func(n int) api.Predicate { return or(copies(never(), n-1)...) }, api.MaxNodes, api.OK},
		"bushy":                  {bushy, api.MaxNodes, api.OK},
		"wide below not":         {below(api.PredNot), api.MaxNodes, api.OK},
		"wide below true":        {below(api.PredTrue), api.MaxNodes, api.ErrPredicate},
		"wide below compare":     {below(api.PredCompare), api.MaxNodes, api.ErrPredicate},
		"wide below no operator": {below(0), api.MaxNodes, api.ErrPredicate},
		"deep":                   {deep(api.PredNot), api.MaxDepth, api.OK},
		"deep below true":        {deep(api.PredTrue), api.MaxDepth, api.ErrPredicate},
		"deep below compare":     {deep(api.PredCompare), api.MaxDepth, api.ErrPredicate},
		"deep below no operator": {deep(9), api.MaxDepth, api.ErrPredicate},
		"deep, last of two":      {func(n int) api.Predicate { return and(never(), deep(api.PredOr)(n-1)) }, api.MaxDepth, api.OK},
		"wide and not valid":     {func(n int) api.Predicate { return and(append(copies(always(), n-2), api.Predicate{})...) }, api.MaxNodes, api.ErrPredicate},
		"deep and not valid":     {func(n int) api.Predicate { return tower(n-1, api.PredNot, api.Predicate{}) }, api.MaxDepth, api.ErrPredicate},
	} {
		if e := predicate.Check(nil, nil, c.of(c.most)); e != c.e {
			t.Errorf("%s: Check at the limit = %d, want %d", name, e, c.e)
		}
		if e := predicate.Check(nil, nil, c.of(c.most+1)); e != api.ErrLimit {
			t.Errorf("%s: Check above the limit = %d", name, e)
		}
	}
}

func TestCheckEndsSoon(t *testing.T) {
	itself := and(copies(always(), api.MaxNodes)...)
	for i := range itself.Args {
		itself.Args[i] = itself
	}
	doubled := always()
	for range 1 << 16 {
		doubled = or(doubled, doubled)
	}
	for name, p := range map[string]api.Predicate{
		"wide":            and(copies(api.Predicate{}, 1<<20)...),
		"deep":            tower(1<<16, api.PredNot, always()),
		"in a circle":     itself,
		"doubled":         doubled,
		"doubled further": and(copies(doubled, 1<<10)...),
	} {
		if e := predicate.Check(nil, nil, p); e != api.ErrLimit {
			t.Errorf("%s: Check = %d", name, e)
		}
	}
}
