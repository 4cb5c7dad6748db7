package predicate_test

import (
	"math"
	"reflect"
	"slices"
	"strings"
	"testing"

	"partsync/api"
	"partsync/predicate"
)

var (
	missing = api.Value{Kind: api.KindMissing}
	hidden  = api.Value{Kind: api.KindHidden}
	no      = api.Value{Kind: api.KindBool}
	yes     = api.Value{Kind: api.KindBool, Int: 1}
)

func num(n int64) api.Value          { return api.Value{Kind: api.KindInt, Int: n} }
func txt(s string) api.Value         { return api.Value{Kind: api.KindText, Text: s} }
func row(cells ...api.Value) api.Row { return cells }

func column(i int) api.Operand         { return api.Operand{Kind: api.OperandColumn, Index: i} }
func param(i int) api.Operand          { return api.Operand{Kind: api.OperandParam, Index: i} }
func constant(v api.Value) api.Operand { return api.Operand{Kind: api.OperandValue, Value: v} }

func compare(left api.Operand, cmp int, right api.Operand) api.Predicate {
	return api.Predicate{Op: api.PredCompare, Cmp: cmp, Left: left, Right: right}
}

// tree is a node of another operator.
func tree(op int, args ...api.Predicate) api.Predicate { return api.Predicate{Op: op, Args: args} }

func always() api.Predicate                         { return tree(api.PredTrue) }
func never() api.Predicate                          { return tree(api.PredFalse) }
func and(args ...api.Predicate) api.Predicate       { return tree(api.PredAnd, args...) }
func or(args ...api.Predicate) api.Predicate        { return tree(api.PredOr, args...) }
func not(args ...api.Predicate) api.Predicate       { return tree(api.PredNot, args...) }
func copies(p api.Predicate, n int) []api.Predicate { return slices.Repeat([]api.Predicate{p}, n) }

// tower returns p below n levels of nodes of an operator.
func tower(n, op int, p api.Predicate) api.Predicate {
	for range n {
		p = tree(op, p)
	}
	return p
}

// outside returns numbers that stand for none of the first n.
func outside(n int) []int { return []int{math.MinInt, -n, -1, n, n + 1, math.MaxInt} }

func operators() []int {
	return []int{api.PredTrue, api.PredFalse, api.PredCompare, api.PredAnd, api.PredOr, api.PredNot}
}

// noOperators returns numbers that are no operators.
func noOperators() []int { return []int{math.MinInt, -1, 0, 7, math.MaxInt} }

// realValues returns values of each kind in ascending order.
func realValues() [][]api.Value {
	return [][]api.Value{
		{no, yes},
		{num(math.MinInt64), num(-1), num(0), num(1), num(math.MaxInt64)},
		{txt(""), txt("\x00"), txt("a"), txt("a\x00"), txt("b"), txt("\xff"), txt(strings.Repeat("\xff", api.MaxText))},
	}
}

// notReal returns values with which no comparison holds.
func notReal() []api.Value {
	return []api.Value{
		missing, hidden, {}, {Kind: -1}, {Kind: 6}, {Kind: 6, Int: 1, Text: "a"},
		{Kind: api.KindMissing, Int: 1}, {Kind: api.KindHidden, Text: "a"},
		{Kind: api.KindBool, Int: 2}, {Kind: api.KindBool, Text: "a"}, {Kind: api.KindInt, Text: "a"}, {Kind: api.KindText, Int: 1},
		txt(strings.Repeat("a", api.MaxText+1)),
	}
}

// satisfied spells the six comparisons out for a value that stands at i, and one that stands at j in the same order.
func satisfied(i, cmp, j int) bool {
	switch cmp {
	case api.CmpEq:
		return i == j
	case api.CmpNe:
		return i != j
	case api.CmpLt:
		return i < j
	case api.CmpLe:
		return i <= j
	case api.CmpGt:
		return i > j
	case api.CmpGe:
		return i >= j
	}
	return false
}

// P5.2

// forms returns how two values can be compared: each as a column, a parameter or a value.
func forms(left api.Value, cmp int, right api.Value) []api.Predicate {
	var l []api.Predicate
	for _, a := range []api.Operand{column(1), param(0), constant(left)} {
		for _, b := range []api.Operand{column(2), param(1), constant(right)} {
			l = append(l, compare(a, cmp, b))
		}
	}
	return l
}

// checkForms checks whether the values compare so, and that the negation is the opposite.
func checkForms(t *testing.T, left api.Value, cmp int, right api.Value, want bool) {
	t.Helper()
	for _, p := range forms(left, cmp, right) {
		cells, params := row(txt("other"), left, right, txt("other")), []api.Value{left, right, txt("other")}
		if got := predicate.Holds(p, cells, params); got != want {
			t.Errorf("Holds(%v %d %v) as %v = %v", left, cmp, right, p, got)
		}
		if got := predicate.Holds(not(p), cells, params); got == want {
			t.Errorf("Holds(not %v %d %v) as %v = %v", left, cmp, right, p, got)
		}
	}
}

func TestComparisonsWithinAKind(t *testing.T) {
	for _, values := range realValues() {
		for i, a := range values {
			for j, b := range values {
				for _, cmp := range []int{math.MinInt, -1, 0, api.CmpEq, api.CmpNe, api.CmpLt, api.CmpLe, api.CmpGt, api.CmpGe, 7, math.MaxInt} {
					checkForms(t, a, cmp, b, satisfied(i, cmp, j))
				}
			}
		}
	}
}

func TestComparisonsOfOtherValues(t *testing.T) {
	var pairs [][2]api.Value
	for _, bad := range notReal() {
		pairs = append(pairs, [2]api.Value{bad, bad})
		for _, v := range []api.Value{yes, num(5), txt("a"), missing, hidden} {
			pairs = append(pairs, [2]api.Value{bad, v}, [2]api.Value{v, bad})
		}
	}
	for i, values := range realValues() {
		for j, others := range realValues() {
			if i != j {
				pairs = append(pairs, [2]api.Value{values[0], others[0]}, [2]api.Value{values[1], others[1]})
			}
		}
	}
	for _, pair := range pairs {
		for cmp := api.CmpEq; cmp <= api.CmpGe; cmp++ {
			checkForms(t, pair[0], cmp, pair[1], false)
		}
	}
}

func TestComparisonsOfNothing(t *testing.T) {
	cells, params := row(num(5), num(5)), []api.Value{num(5)}
	var nothing []api.Operand
	for _, i := range outside(len(cells)) {
		nothing = append(nothing, column(i))
	}
	for _, i := range outside(len(params)) {
		nothing = append(nothing, param(i))
	}
	for _, kind := range []int{math.MinInt, -1, 0, 4, math.MaxInt} {
		nothing = append(nothing, api.Operand{Kind: kind, Value: num(5)})
	}
	for _, o := range nothing {
		for cmp := api.CmpEq; cmp <= api.CmpGe; cmp++ {
			for _, p := range []api.Predicate{compare(o, cmp, constant(num(5))), compare(column(0), cmp, o), compare(o, cmp, o)} {
				if predicate.Holds(p, cells, params) || !predicate.Holds(not(p), cells, params) {
					t.Errorf("%v or not its negation holds", p)
				}
			}
		}
	}
	for _, p := range []api.Predicate{compare(column(0), api.CmpEq, column(0)), compare(param(0), api.CmpEq, param(0))} {
		if predicate.Holds(p, nil, nil) || predicate.Holds(p, row(), []api.Value{}) {
			t.Errorf("%v holds without cells and parameters", p)
		}
	}
}

func TestTreesOfNodes(t *testing.T) {
	T, F := always(), never()
	other := compare(column(1), api.CmpEq, column(1)) // does not hold
	for i, c := range []struct {
		p    api.Predicate
		want bool
	}{
		{T, true}, {F, false}, {and(), true}, {or(), false}, {not(), false}, {not(T), false}, {not(F), true},
		{tree(api.PredAnd, []api.Predicate{}...), true}, {tree(api.PredNot, []api.Predicate{}...), false},
		{and(T), true}, {and(F), false}, {and(T, T), true}, {and(T, F), false}, {and(F, T), false}, {and(F, F), false}, {and(T, T, F), false}, {and(T, F, T), false}, {and(T, T, T), true},
		{or(T), true}, {or(F), false}, {or(T, T), true}, {or(T, F), true}, {or(F, T), true}, {or(F, F), false}, {or(F, F, T), true}, {or(F, T, F), true}, {or(F, F, F), false},
		{not(T, F), false}, {not(F, T), true}, {not(F, F), true}, {not(T, T), false}, {not(F, not()), true},
		{tree(api.PredTrue, F), true}, {tree(api.PredFalse, T), false},
		{api.Predicate{Op: api.PredTrue, Cmp: 9, Left: column(7)}, true}, {api.Predicate{Op: api.PredFalse, Cmp: api.CmpEq, Left: column(0), Right: column(0)}, false},
		{api.Predicate{Op: api.PredAnd, Cmp: api.CmpEq, Left: column(7), Right: column(7), Args: []api.Predicate{T}}, true},
		{api.Predicate{Op: api.PredCompare, Cmp: api.CmpEq, Left: column(0), Right: column(0), Args: []api.Predicate{F}}, true},
		{api.Predicate{Op: api.PredCompare, Cmp: api.CmpNe, Left: column(0), Right: column(0), Args: []api.Predicate{T}}, false},
		{not(not(T)), true}, {not(not(F)), false}, {not(and()), false}, {not(or()), true}, {not(not()), true}, {and(or(F, T), not(F), or(other, and())), true}, {or(and(T, F), not(T), other), false}, {and(not(other), not(or(other, F))), true},
	} {
		if got := predicate.Holds(c.p, row(num(1)), nil); got != c.want {
			t.Errorf("%d: Holds(%v) = %v", i, c.p, got)
		}
	}
	for _, op := range noOperators() {
		for _, p := range []api.Predicate{tree(op), tree(op, T), {Op: op, Cmp: api.CmpEq, Left: column(0), Right: column(0)}} {
			if predicate.Holds(p, row(num(1)), nil) || !predicate.Holds(not(p), row(num(1)), nil) {
				t.Errorf("%v or not its negation holds", p)
			}
		}
	}
}

func TestExampleOfTheChapter(t *testing.T) {
	less, notLess := compare(column(0), api.CmpLt, constant(num(5))), compare(column(0), api.CmpGe, constant(num(5)))
	if !predicate.Holds(less, row(num(3)), nil) || predicate.Holds(notLess, row(num(3)), nil) {
		t.Error("3 is not less than 5")
	}
	for _, p := range []api.Predicate{less, notLess} {
		if predicate.Holds(p, row(hidden), nil) || !predicate.Holds(not(p), row(hidden), nil) {
			t.Errorf("%v or not its negation holds for a Hidden cell", p)
		}
	}
}

func TestLargeTrees(t *testing.T) {
	leaf := compare(param(0), api.CmpEq, column(3))
	deep := tower(1<<16-1, api.PredNot, leaf)
	wide := and(copies(leaf, 1<<16)...)
	cells, params := row(no, no, no, num(1)), []api.Value{num(1)}
	if predicate.Holds(deep, cells, params) || !predicate.Holds(deep, row(), params) || !predicate.Holds(wide, cells, params) {
		t.Error("Holds of a large predicate is wrong")
	}
	for _, p := range []api.Predicate{deep, wide} {
		bound := predicate.Bind(p, params)
		if predicate.Equal(bound, p) || !predicate.Equal(bound, predicate.Bind(p, params)) || !slices.Equal(predicate.Columns(bound), []int{3}) {
			t.Error("Bind, Equal or Columns of a large predicate is wrong")
		}
	}
}

// P5.3

func TestBindOfOperands(t *testing.T) {
	params := []api.Value{num(7), hidden, {}, {Kind: 9, Int: 1, Text: "x"}}
	for _, c := range []struct{ o, want api.Operand }{
		{param(0), constant(num(7))},
		{param(1), constant(hidden)},
		{param(2), constant(api.Value{})},
		{param(3), constant(params[3])},
		{api.Operand{Kind: api.OperandParam, Index: 0, Value: txt("a")}, constant(num(7))},
		{param(4), param(4)},
		{param(-1), param(-1)},
		{param(math.MaxInt), param(math.MaxInt)},
		{param(math.MinInt), param(math.MinInt)},
		{api.Operand{Kind: api.OperandParam, Index: 4, Value: txt("a")}, api.Operand{Kind: api.OperandParam, Index: 4, Value: txt("a")}},
		{column(0), column(0)},
		{column(2), column(2)},
		{api.Operand{Kind: api.OperandColumn, Index: 1, Value: num(1)}, api.Operand{Kind: api.OperandColumn, Index: 1, Value: num(1)}},
		{constant(num(3)), constant(num(3))},
		{api.Operand{Kind: api.OperandValue, Index: 1, Value: num(1)}, api.Operand{Kind: api.OperandValue, Index: 1, Value: num(1)}},
		{api.Operand{}, api.Operand{}},
		{api.Operand{Kind: 4, Index: 1, Value: num(1)}, api.Operand{Kind: 4, Index: 1, Value: num(1)}},
		{api.Operand{Kind: -1}, api.Operand{Kind: -1}},
	} {
		// Whatever the node, its place and the other operand.
		for _, op := range append(operators(), noOperators()...) {
			of := func(left, right api.Operand) api.Predicate {
				node := api.Predicate{Op: op, Cmp: 8, Left: left, Right: right}
				below := node
				below.Args = []api.Predicate{tree(api.PredTrue, node), node}
				return below
			}
			for _, pair := range [][2]api.Predicate{{of(c.o, column(5)), of(c.want, column(5))}, {of(column(5), c.o), of(column(5), c.want)}, {of(c.o, c.o), of(c.want, c.want)}} {
				if got := predicate.Bind(pair[0], params); !reflect.DeepEqual(got, pair[1]) {
					t.Errorf("Bind(%v) = %v, want %v", pair[0], got, pair[1])
				}
			}
		}
	}
}

func TestBindOfTrees(t *testing.T) {
	p := or(compare(param(1), api.CmpEq, column(2)), not(compare(column(0), api.CmpLt, param(2))), and(), always(), and(compare(param(0), api.CmpGt, param(1))))
	want := or(compare(constant(txt("x")), api.CmpEq, column(2)), not(compare(column(0), api.CmpLt, param(2))), and(), always(), and(compare(constant(num(1)), api.CmpGt, constant(txt("x")))))
	if got := predicate.Bind(p, []api.Value{num(1), txt("x")}); !reflect.DeepEqual(got, want) {
		t.Errorf("Bind = %v, want %v", got, want)
	}
	for _, params := range [][]api.Value{nil, {}} {
		if got := predicate.Bind(p, params); !reflect.DeepEqual(got, p) {
			t.Errorf("Bind without parameters = %v", got)
		}
	}
	if got := predicate.Bind(and([]api.Predicate{}...), nil); len(got.Args) != 0 || got.Op != api.PredAnd {
		t.Errorf("Bind of a node without Args = %v", got)
	}
}

// P5.4

func TestColumns(t *testing.T) {
	five := constant(num(5))
	wrong := func(op int) api.Predicate {
		return api.Predicate{Op: op, Cmp: api.CmpEq, Left: column(8), Right: column(9)}
	}
	for i, c := range []struct {
		p    api.Predicate
		want []int
	}{
		{always(), nil}, {api.Predicate{}, nil}, {compare(five, api.CmpEq, five), nil}, {compare(param(1), api.CmpEq, param(2)), nil},
		{compare(column(3), api.CmpEq, five), []int{3}}, {compare(param(1), api.CmpEq, column(0)), []int{0}},
		{compare(column(4), api.CmpEq, column(2)), []int{2, 4}}, {compare(column(2), api.CmpEq, column(2)), []int{2}},
		{compare(column(-1), api.CmpEq, column(math.MinInt)), nil}, {compare(column(-1), api.CmpEq, column(1)), []int{1}},
		{compare(column(math.MaxInt), api.CmpEq, column(0)), []int{0, math.MaxInt}},
		{compare(column(1), 9, column(2)), []int{1, 2}}, {compare(column(1), 0, api.Operand{}), []int{1}},
		{compare(api.Operand{Kind: api.OperandColumn, Index: 6, Value: num(1)}, api.CmpEq, api.Operand{Kind: 4, Index: 7}), []int{6}},
		{compare(api.Operand{Kind: api.OperandValue, Index: 6, Value: num(1)}, api.CmpEq, api.Operand{Index: 7}), nil},
		{wrong(api.PredTrue), nil}, {wrong(api.PredFalse), nil}, {wrong(api.PredAnd), nil}, {wrong(api.PredOr), nil}, {wrong(api.PredNot), nil}, {wrong(0), nil}, {wrong(7), nil}, {wrong(api.PredCompare), []int{8, 9}},
		{or(compare(column(5), api.CmpEq, five), not(and(compare(five, api.CmpEq, column(10)), compare(column(1), api.CmpLt, column(5)))), compare(column(1), api.CmpEq, five)), []int{1, 5, 10}},
		{not(always(), compare(column(2), api.CmpEq, five)), []int{2}},
		{tree(api.PredTrue, compare(column(2), api.CmpEq, five)), []int{2}}, {tree(api.PredFalse, not(compare(column(2), api.CmpEq, five))), []int{2}},
		{tree(0, compare(column(2), api.CmpEq, five)), []int{2}}, {tree(-1, tree(9, compare(column(2), api.CmpEq, five))), []int{2}},
		{api.Predicate{Op: api.PredCompare, Left: column(3), Args: []api.Predicate{compare(column(1), api.CmpEq, column(4))}}, []int{1, 3, 4}},
	} {
		if got := predicate.Columns(c.p); !slices.Equal(got, c.want) {
			t.Errorf("%d: Columns(%v) = %v, want %v", i, c.p, got, c.want)
		}
	}
}

// P5.5

// differentPredicates returns predicates of which no two are the same.
func differentPredicates() []api.Predicate {
	base := api.Predicate{Op: api.PredCompare, Cmp: api.CmpLt, Left: column(1), Right: constant(num(1))}
	l := []api.Predicate{
		{}, base, always(), never(), and(), or(), not(), {Op: 9}, {Op: -1},
		and(always()), and(never()), or(always()), and(always(), always()), and(always(), never()), and(never(), always()),
		and(and()), and(and(and())), and(and(), and()), and(or(), and()), and(and(always()), always()), and(always(), and(always())),
		and(base, base), and(base), not(not(base)), not(base), {Op: base.Op, Cmp: base.Cmp, Left: base.Right, Right: base.Left},
	}
	for _, change := range []func(p *api.Predicate){
		func(p *api.Predicate) { p.Cmp = api.CmpLe },
		func(p *api.Predicate) { p.Cmp = 0 },
		func(p *api.Predicate) { p.Left.Kind = api.OperandParam },
		func(p *api.Predicate) { p.Left.Index = 2 },
		func(p *api.Predicate) { p.Left.Value = num(1) },
		func(p *api.Predicate) { p.Left = api.Operand{} },
		func(p *api.Predicate) { p.Right.Kind = 4 },
		func(p *api.Predicate) { p.Right.Index = 1 },
		func(p *api.Predicate) { p.Right.Value.Kind = api.KindBool },
		func(p *api.Predicate) { p.Right.Value.Int = 2 },
		func(p *api.Predicate) { p.Right.Value.Text = "a" },
		func(p *api.Predicate) { p.Args = []api.Predicate{{}} },
		func(p *api.Predicate) { p.Op = api.PredTrue },
	} {
		other := base
		change(&other)
		l = append(l, other, or(base, other), or(other, base), not(and(never(), other)))
	}
	return l
}

func TestEqual(t *testing.T) {
	again := differentPredicates()
	for i, a := range differentPredicates() {
		for j, b := range again {
			if got := predicate.Equal(a, b); got != (i == j) {
				t.Errorf("Equal(%v, %v) = %v", a, b, got)
			}
		}
	}
	empty := and([]api.Predicate{}...)
	empty.Args = []api.Predicate{}
	if !predicate.Equal(and(), empty) || !predicate.Equal(not(empty), not(and())) || predicate.Equal(empty, and(api.Predicate{})) {
		t.Error("Equal tells no Args from empty Args, or these from one")
	}
}
