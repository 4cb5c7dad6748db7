package predicate_test

import (
	"reflect"
	"slices"
	"testing"

	"partsync/api"
	"partsync/predicate"
)

// P5.6

// checkedPredicates returns predicates of all forms for which Check returns OK.
func checkedPredicates(t *testing.T) []api.Predicate {
	var comparisons, l []api.Predicate
	operands := []api.Operand{constant(yes), constant(num(1)), constant(txt("a"))}
	for i := range columnKinds() {
		operands = append(operands, column(i))
	}
	for i := range paramKinds() {
		operands = append(operands, param(i))
	}
	for i, left := range operands {
		for j, right := range operands {
			p := compare(left, 1+(i+j)%api.CmpGe, right)
			if predicate.Check(columnKinds(), paramKinds(), p) == api.OK {
				comparisons = append(comparisons, p)
			}
		}
	}
	for i, p := range comparisons {
		q := comparisons[(i+7)%len(comparisons)]
		l = append(l, p, not(p), and(p, q), or(p, not(q)), or(and(p, not(q)), and(not(p), q)))
	}
	for _, p := range validPredicates() {
		l = append(l, p)
	}
	for _, p := range l {
		if e := predicate.Check(columnKinds(), paramKinds(), p); e != api.OK {
			t.Fatalf("Check(%v) = %d", p, e)
		}
	}
	return l
}

// cellsOf returns cells for a column: some of its kind, and others.
func cellsOf(i int) []api.Value {
	return [][]api.Value{
		{yes, no, missing, num(1)},
		{num(1), num(0), hidden, txt("a")},
		{txt("a"), txt("b"), missing, {}},
		{num(0), num(2), hidden, yes},
	}[i]
}

// someRows returns rows of as many cells as there are columns, each cell with each of two neighbours.
func someRows() []api.Row {
	var l []api.Row
	for n := range 32 {
		r := row()
		for i := range columnKinds() {
			cells := cellsOf(i)
			r = append(r, cells[(n>>i+n/16*i)%len(cells)])
		}
		l = append(l, r)
	}
	return l
}

func someParams() [][]api.Value {
	return [][]api.Value{{txt("a"), num(1), yes}, {txt(""), num(0), no}, {hidden, missing, {}}, {num(1), txt("a"), num(1)}}
}

func TestHoldsDependsOnItsColumns(t *testing.T) {
	held := 0
	for _, p := range checkedPredicates(t) {
		columns := predicate.Columns(p)
		for _, r := range someRows() {
			want := predicate.Holds(p, r, someParams()[0])
			if want {
				held++
			}
			for i := range r {
				if slices.Contains(columns, i) {
					continue
				}
				for _, v := range cellsOf(i) {
					other := slices.Clone(r)
					other[i] = v
					if predicate.Holds(p, append(other, v), someParams()[0]) != want {
						t.Errorf("Holds(%v) depends on column %d, but Columns = %v", p, i, columns)
					}
				}
			}
			last := append([]int{-1}, columns...)[len(columns)]
			if predicate.Holds(p, r[:last+1], someParams()[0]) != want {
				t.Errorf("Holds(%v) depends on the columns behind %d, but Columns = %v", p, last, columns)
			}
		}
	}
	if held == 0 {
		t.Error("no predicate holds for any row")
	}
}

func TestHoldsOfBind(t *testing.T) {
	for _, p := range checkedPredicates(t) {
		for _, params := range someParams() {
			bound := predicate.Bind(p, params)
			for _, r := range someRows() {
				want := predicate.Holds(p, r, params)
				for _, others := range append(someParams(), nil, []api.Value{num(9)}) {
					if predicate.Holds(bound, r, others) != want {
						t.Errorf("Bind(%v, %v) does not hold for %v and %v as it should", p, params, r, others)
					}
				}
			}
		}
	}
}

// P5.7

func TestFieldsOfNoConcern(t *testing.T) {
	cells, params := row(num(1), num(5)), []api.Value{num(2), num(5)}
	for _, o := range []api.Operand{
		{Kind: api.OperandColumn, Index: 1, Value: num(7)},
		{Kind: api.OperandColumn, Index: 1, Value: hidden},
		{Kind: api.OperandParam, Index: 1, Value: num(7)},
		{Kind: api.OperandParam, Index: 1, Value: api.Value{Text: "a"}},
		{Kind: api.OperandValue, Index: 1, Value: num(5)},
		{Kind: api.OperandValue, Index: -1, Value: num(5)},
		{Kind: api.OperandValue, Index: 9, Value: num(5)},
	} {
		for _, p := range []api.Predicate{compare(o, api.CmpEq, constant(num(5))), compare(constant(num(5)), api.CmpEq, o)} {
			if !predicate.Holds(p, cells, params) || !predicate.Holds(predicate.Bind(p, params), cells, nil) {
				t.Errorf("%v does not denote 5", o)
			}
		}
	}
}

// R2 and R4

// roomy returns a copy of the first n args; the others lie in the unused capacity behind them.
func roomy(args []api.Predicate, n int) []api.Predicate {
	return slices.Clip(slices.Clone(args))[:n]
}

// whole returns the args and the unused capacity behind them.
func whole(args []api.Predicate) []api.Predicate { return args[:cap(args)] }

func someArgs() []api.Predicate {
	return []api.Predicate{compare(param(0), api.CmpEq, column(1)), not(compare(column(2), api.CmpLt, param(1))), compare(param(1), api.CmpGt, param(0)), never()}
}

func TestArgumentsStayAsTheyAre(t *testing.T) {
	for n := range len(someArgs()) + 1 {
		args := roomy(someArgs(), n)
		columns, params := []int{kindInt, kindInt, kindInt, 9}, []int{kindInt, kindInt, 9}
		cells, values := row(num(1), num(2), num(3), num(4)), []api.Value{num(1), num(2), num(3)}
		p := or(args...)
		predicate.Check(columns[:3], params[:2], p)
		predicate.Holds(p, cells[:3], values[:2])
		predicate.Bind(p, values[:2])
		predicate.Columns(p)
		predicate.Equal(p, p)
		if !reflect.DeepEqual(whole(args), someArgs()) {
			t.Errorf("the first %d args have become %v", n, whole(args))
		}
		if !slices.Equal(columns, []int{kindInt, kindInt, kindInt, 9}) || !slices.Equal(params, []int{kindInt, kindInt, 9}) {
			t.Errorf("the kinds have become %v, %v", columns, params)
		}
		if !slices.Equal(cells, row(num(1), num(2), num(3), num(4))) || !slices.Equal(values, []api.Value{num(1), num(2), num(3)}) {
			t.Errorf("the cells and parameters have become %v, %v", cells, values)
		}
	}
}

// spoil overwrites all the memory of the args.
func spoil(args []api.Predicate) {
	for i, arg := range whole(args) {
		spoil(arg.Args)
		whole(args)[i] = api.Predicate{Op: 99}
	}
}

func TestBindSharesNoMemory(t *testing.T) {
	args := someArgs()
	// The same memory stands in several places.
	p := and(or(args...), or(args[:2]...), and(or(args...)))
	want := predicate.Bind(and(or(someArgs()...), or(someArgs()[:2]...), and(or(someArgs()...))), []api.Value{num(1)})
	first, second := predicate.Bind(p, []api.Value{num(1)}), predicate.Bind(p, []api.Value{num(1)})
	spoil(first.Args)
	if !reflect.DeepEqual(args, someArgs()) {
		t.Errorf("writing to the result changed the argument to %v", args)
	}
	if !predicate.Equal(second, want) {
		t.Errorf("writing to a result changed another one to %v", second)
	}
	for i := range second.Args {
		third := predicate.Bind(p, []api.Value{num(1)})
		spoil(third.Args[i].Args)
		for j := range third.Args {
			if i != j && !predicate.Equal(third.Args[j], want.Args[j]) {
				t.Errorf("writing to part %d of the result changed part %d", i, j)
			}
		}
	}
}

func TestColumnsSharesNoMemory(t *testing.T) {
	p := and(compare(column(1), api.CmpEq, column(2)), compare(column(2), api.CmpEq, column(0)))
	first, second := predicate.Columns(p), predicate.Columns(p)
	for i := range first {
		first[i] = 9
	}
	if third := predicate.Columns(p); !slices.Equal(second, []int{0, 1, 2}) || !slices.Equal(third, second) {
		t.Errorf("Columns returns the same memory twice: %v, %v", second, third)
	}
}

func TestEmptyListsAreNil(t *testing.T) {
	p := compare(constant(num(1)), api.CmpEq, constant(num(1)))
	if predicate.Check(nil, nil, p) != api.OK || predicate.Check([]int{}, []int{}, p) != api.OK {
		t.Error("Check tells nil lists from empty ones")
	}
	if !predicate.Holds(p, nil, nil) || !predicate.Holds(p, row(), []api.Value{}) {
		t.Error("Holds tells nil lists from empty ones")
	}
}
