package bounds_test

import (
	"math"
	"slices"
	"strconv"
	"strings"
	"testing"

	"partsync/api"
	"partsync/bounds"
	"partsync/interval"
	"partsync/predicate"
	"partsync/region"
)

// list is short for a set in the tables below.
type list = []api.Interval

const (
	kindBool = api.KindBool
	kindInt  = api.KindInt
	kindText = api.KindText
)

var (
	missing  = api.Value{Kind: api.KindMissing}
	hidden   = api.Value{Kind: api.KindHidden}
	no       = api.Value{Kind: kindBool}
	yes      = api.Value{Kind: kindBool, Int: 1}
	least    = num(math.MinInt64)
	greatest = txt(strings.Repeat("\xff", api.MaxText))
)

func num(n int64) api.Value  { return api.Value{Kind: kindInt, Int: n} }
func txt(s string) api.Value { return api.Value{Kind: kindText, Text: s} }

func between(from, to api.Value) list { return list{{From: from, To: to}} }
func from(v api.Value) list           { return list{{From: v, Open: true}} }
func allInts() list                   { return between(least, txt("")) }

func column(i int) api.Operand         { return api.Operand{Kind: api.OperandColumn, Index: i} }
func param(i int) api.Operand          { return api.Operand{Kind: api.OperandParam, Index: i} }
func constant(v api.Value) api.Operand { return api.Operand{Kind: api.OperandValue, Value: v} }

func compare(left api.Operand, cmp int, right api.Operand) api.Predicate {
	return api.Predicate{Op: api.PredCompare, Cmp: cmp, Left: left, Right: right}
}

// is compares a column with an int.
func is(i int, n int64) api.Predicate { return compare(column(i), api.CmpEq, constant(num(n))) }

// match compares two columns.
func match(i, j int) api.Predicate { return compare(column(i), api.CmpEq, column(j)) }

// tree is a node of another operator.
func tree(op int, args ...api.Predicate) api.Predicate { return api.Predicate{Op: op, Args: args} }

func always() api.Predicate                   { return tree(api.PredTrue) }
func never() api.Predicate                    { return tree(api.PredFalse) }
func and(args ...api.Predicate) api.Predicate { return tree(api.PredAnd, args...) }
func or(args ...api.Predicate) api.Predicate  { return tree(api.PredOr, args...) }
func not(args ...api.Predicate) api.Predicate { return tree(api.PredNot, args...) }

// numbered returns the predicates for the numbers below n.
func numbered(n int, nth func(i int) api.Predicate) []api.Predicate {
	var l []api.Predicate
	for i := range n {
		l = append(l, nth(i))
	}
	return l
}

func comparisons() []int {
	return []int{api.CmpEq, api.CmpNe, api.CmpLt, api.CmpLe, api.CmpGt, api.CmpGe}
}

func ints(n int) []int { return slices.Repeat([]int{kindInt}, n) }

func everything(width int) api.Region {
	r, _ := region.All(width)
	return r
}

func nothing(width int) api.Region { return api.Region{Width: width} }

// strip returns the box of the rows of the width whose cell at the column is in the set.
func strip(t *testing.T, width, column int, set list) api.Region {
	t.Helper()
	sets := slices.Repeat([]list{interval.All()}, width)
	sets[column] = set
	return box(t, sets...)
}

func box(t *testing.T, sets ...list) api.Region {
	t.Helper()
	r, e := region.Box(sets)
	if e != api.OK {
		t.Fatalf("Box(%v) = %d", sets, e)
	}
	return r
}

// expect compares the regions of p with those that it should have.
func expect(t *testing.T, columns []int, p api.Predicate, inner, outer api.Region) {
	t.Helper()
	in, out, e := bounds.Regions(columns, p)
	if e != api.OK || !region.Equal(in, inner) || !region.Equal(out, outer) {
		t.Errorf("Regions(%v, %v) = %v, %v, %d, want %v, %v", columns, p, in, out, e, inner, outer)
	}
}

// fail reports whether Regions returns the error alone.
func fail(columns []int, p api.Predicate, want api.Errno) bool {
	in, out, e := bounds.Regions(columns, p)
	return e == want && isZero(in) && isZero(out)
}

// exceeds reports whether Regions returns ErrLimit alone, because of a region.
func exceeds(width int, p api.Predicate) bool {
	return predicate.Check(ints(width), nil, p) == api.OK && fail(ints(width), p, api.ErrLimit)
}

func isZero(r api.Region) bool { return r.Width == 0 && !r.Full && len(r.Parts) == 0 }

// P6.1

// endless returns a predicate that contains itself.
func endless() api.Predicate {
	p := and(always())
	p.Args[0] = p
	return p
}

func tooLarge() map[string]api.Predicate {
	deep := always()
	for range api.MaxDepth {
		deep = not(deep)
	}
	return map[string]api.Predicate{
		"25 nodes":              or(slices.Repeat([]api.Predicate{always()}, api.MaxNodes)...),
		"25 nodes, not valid":   or(slices.Repeat([]api.Predicate{{}}, api.MaxNodes)...),
		"9 levels":              deep,
		"a node without an end": endless(),
	}
}

func TestTooManyColumns(t *testing.T) {
	for _, n := range []int{api.MaxWidth + 1, api.MaxWidth + 2, 1000} {
		for name, p := range map[string]api.Predicate{"valid": always(), "not valid": {}, "with a parameter": compare(param(0), api.CmpEq, param(0))} {
			if !fail(ints(n), p, api.ErrLimit) {
				t.Errorf("%d columns, %s: not ErrLimit alone", n, name)
			}
			if !fail(slices.Repeat([]int{9}, n), p, api.ErrLimit) {
				t.Errorf("%d columns that are none, %s: not ErrLimit alone", n, name)
			}
		}
	}
}

func TestColumnsOfNoKind(t *testing.T) {
	for _, kind := range []int{math.MinInt, -1, 0, api.KindMissing, api.KindHidden, 6, math.MaxInt} {
		for name, columns := range map[string][]int{"alone": {kind}, "first": {kind, kindInt}, "last of twelve": append(ints(11), kind)} {
			for _, p := range []api.Predicate{always(), {}, endless()} {
				if !fail(columns, p, api.ErrArg) {
					t.Errorf("a column of kind %d, %s: not ErrArg alone", kind, name)
				}
			}
		}
	}
}

func TestPredicatesThatAreTooLarge(t *testing.T) {
	for name, p := range tooLarge() {
		if !fail([]int{kindInt}, p, api.ErrLimit) {
			t.Errorf("%s: not ErrLimit alone", name)
		}
	}
	most := or(slices.Repeat([]api.Predicate{is(0, 1)}, api.MaxNodes-1)...)
	expect(t, []int{kindInt}, most, box(t, between(num(1), num(2))), box(t, between(num(1), num(2))))
	deepest := is(0, 1)
	for range api.MaxDepth - 1 {
		deepest = and(deepest)
	}
	expect(t, []int{kindInt}, deepest, box(t, between(num(1), num(2))), box(t, between(num(1), num(2))))
}

func TestPredicatesThatAreNotValid(t *testing.T) {
	for name, p := range map[string]api.Predicate{
		"no node":                 {},
		"no such operator":        tree(7),
		"no such comparison":      compare(column(0), 7, column(0)),
		"no comparison":           compare(column(0), 0, column(0)),
		"a negative comparison":   compare(column(0), -1, constant(num(1))),
		"a parameter":             compare(column(0), api.CmpEq, param(0)),
		"two parameters":          compare(param(0), api.CmpEq, param(0)),
		"no such column":          is(12, 1),
		"a negative column":       match(-1, -1),
		"another kind":            compare(column(0), api.CmpEq, constant(txt("1"))),
		"a Hidden value":          compare(column(0), api.CmpEq, constant(hidden)),
		"two Missing values":      compare(constant(missing), api.CmpEq, constant(missing)),
		"a value that is none":    compare(column(0), api.CmpEq, constant(api.Value{Kind: kindInt, Text: "1"})),
		"no operands":             compare(api.Operand{}, api.CmpEq, api.Operand{}),
		"a comparison with Args":  {Op: api.PredCompare, Cmp: api.CmpEq, Left: column(0), Right: column(0), Args: []api.Predicate{always()}},
		"true with Args":          tree(api.PredTrue, never()),
		"false with Args":         tree(api.PredFalse, always()),
		"all, with a comparison":  {Op: api.PredAnd, Cmp: api.CmpEq},
		"not of none":             not(),
		"not of two":              not(always(), always()),
		"a node that is not used": and(never(), compare(column(0), api.CmpEq, param(0))),
	} {
		for place, q := range map[string]api.Predicate{
			"alone": p, "below": not(p), "last": or(always(), p),
			// The regions are not determined before the predicate is known to be valid.
			"behind a large region": or(append(pairs(), p)...),
		} {
			if !fail(ints(12), q, api.ErrPredicate) {
				t.Errorf("%s, %s: not ErrPredicate alone", name, place)
			}
		}
	}
}

func TestWidths(t *testing.T) {
	for n := range api.MaxWidth + 1 {
		expect(t, ints(n), always(), everything(n), everything(n))
		expect(t, ints(n), never(), nothing(n), nothing(n))
		expect(t, ints(n), not(always()), nothing(n), nothing(n))
		expect(t, ints(n), or(never(), not(and())), nothing(n), nothing(n))
		for i := range n {
			want := strip(t, n, i, between(num(1), num(2)))
			expect(t, ints(n), is(i, 1), want, want)
		}
	}
	expect(t, nil, always(), everything(0), everything(0))
	expect(t, nil, and(not(never()), compare(constant(yes), api.CmpGt, constant(no))), everything(0), everything(0))
	expect(t, []int{}, compare(constant(yes), api.CmpLt, constant(no)), nothing(0), nothing(0))
}

// pairs returns conjunctions of comparisons of two columns each. All six together need too many parts.
func pairs() []api.Predicate {
	return numbered(6, func(i int) api.Predicate { return and(is(i, int64(i)), is(i+6, int64(i))) })
}

// moved returns p with each column moved up by one.
func moved(p api.Predicate) api.Predicate {
	for _, o := range []*api.Operand{&p.Left, &p.Right} {
		if o.Kind == api.OperandColumn {
			o.Index++
		}
	}
	p.Args = slices.Clone(p.Args)
	for i, arg := range p.Args {
		p.Args[i] = moved(arg)
	}
	return p
}

// A region of MaxParts parts is not too large; a column more before it makes one part more.
func TestTheLimitOfParts(t *testing.T) {
	for name, c := range map[string]struct {
		width int
		p     api.Predicate
	}{
		"Not": {10, not(and(numbered(10, func(i int) api.Predicate { return is(i, 1) })...))},
		"Or": {11, or(append(
			numbered(4, func(i int) api.Predicate { return and(is(0, int64(i)), is(10, int64(i))) }),
			and(is(0, 4), is(2, 1), is(10, 4)), and(is(0, 4), is(2, 2), is(10, 5)),
		)...)},
		"And": {11, and(append(
			numbered(3, func(i int) api.Predicate { return not(and(is(0, int64(i)), is(10, int64(i)))) }),
			not(and(is(0, 3), or(and(is(2, 1), is(10, 3)), and(not(is(2, 1)), is(10, 4))))),
		)...)},
	} {
		in, out, e := bounds.Regions(ints(c.width), c.p)
		if e != api.OK || !region.Equal(in, out) || region.Size(in) != api.MaxParts {
			t.Errorf("%s: Regions = size %d, size %d, %d", name, region.Size(in), region.Size(out), e)
		}
		if !exceeds(c.width+1, moved(c.p)) {
			t.Errorf("%s: one part more is not ErrLimit alone, or not because of a region", name)
		}
	}
}

func TestRegionsThatAreTooLarge(t *testing.T) {
	large := or(pairs()...)
	for name, p := range map[string]api.Predicate{
		"both regions of Or":          large,
		"both regions of And":         and(numbered(6, func(i int) api.Predicate { return or(is(i, 1), is(i+6, 1)) })...),
		"both regions of Not":         not(and(numbered(12, func(i int) api.Predicate { return is(i, 1) })...)),
		"the outer region of Or":      or(numbered(6, func(i int) api.Predicate { return match(i, i+6) })...),
		"the inner region of And":     and(numbered(6, func(i int) api.Predicate { return not(match(i, i+6)) })...),
		"the inner region of Not":     not(and(numbered(6, func(i int) api.Predicate { return match(i, i+6) })...)),
		"a sum on the way to All":     or(append(pairs(), always())...),
		"a sum on the way to Empty":   and(append(numbered(6, func(i int) api.Predicate { return or(is(i, 1), is(i+6, 1)) }), never())...),
		"an argument behind false":    and(never(), large),
		"an argument behind true":     or(always(), large),
		"an argument before false":    and(large, never()),
		"an argument that is negated": not(large),
		"an argument further down":    or(and(always(), not(not(large)))),
	} {
		if !exceeds(12, p) {
			t.Errorf("%s: not ErrLimit alone, or not because of a region", name)
		}
	}
}

// The same arguments, in an order in which no sum on the way is too large.
func TestArgumentsAreAddedOneAfterAnother(t *testing.T) {
	expect(t, ints(12), or(append([]api.Predicate{always()}, pairs()...)...), everything(12), everything(12))
	halves := numbered(6, func(i int) api.Predicate { return or(is(i, 1), is(i+6, 1)) })
	expect(t, ints(12), and(append([]api.Predicate{never()}, halves...)...), nothing(12), nothing(12))
}

// P6.2

// around returns the values of v's kind that are less than v, equal to it, and greater.
func around() []struct {
	v                    api.Value
	less, equal, greater list
} {
	end := greatest.Text[:api.MaxText-1]
	return []struct {
		v                    api.Value
		less, equal, greater list
	}{
		{no, nil, between(no, yes), between(yes, least)},
		{yes, between(no, yes), between(yes, least), nil},
		{least, nil, between(least, num(math.MinInt64+1)), between(num(math.MinInt64+1), txt(""))},
		{num(-1), between(least, num(-1)), between(num(-1), num(0)), between(num(0), txt(""))},
		{num(5), between(least, num(5)), between(num(5), num(6)), between(num(6), txt(""))},
		{num(math.MaxInt64), between(least, num(math.MaxInt64)), between(num(math.MaxInt64), txt("")), nil},
		{txt(""), nil, between(txt(""), txt("\x00")), from(txt("\x00"))},
		{txt("a"), between(txt(""), txt("a")), between(txt("a"), txt("a\x00")), from(txt("a\x00"))},
		{txt("a" + end), between(txt(""), txt("a"+end)), between(txt("a"+end), txt("b")), from(txt("b"))},
		{greatest, between(txt(""), greatest), from(greatest), nil},
	}
}

// chosen returns the union of those of the sets that the comparison asks for.
func chosen(cmp int, less, equal, greater list) list {
	var set list
	for _, part := range map[int][]list{
		api.CmpEq: {equal}, api.CmpNe: {less, greater}, api.CmpLt: {less}, api.CmpLe: {less, equal}, api.CmpGt: {greater}, api.CmpGe: {equal, greater},
	}[cmp] {
		set, _ = interval.Union(set, part)
	}
	return set
}

func TestColumnAndValue(t *testing.T) {
	for _, c := range around() {
		for _, cmp := range comparisons() {
			for width := 1; width <= 4; width++ {
				for i := range width {
					columns := slices.Repeat([]int{c.v.Kind}, width)
					right := strip(t, width, i, chosen(cmp, c.less, c.equal, c.greater))
					expect(t, columns, compare(column(i), cmp, constant(c.v)), right, right)
					// With the value on the left side, the greater cells are those to which it is less.
					left := strip(t, width, i, chosen(cmp, c.greater, c.equal, c.less))
					expect(t, columns, compare(constant(c.v), cmp, column(i)), left, left)
				}
			}
		}
	}
}

func TestColumnAndValueAmongOtherKinds(t *testing.T) {
	columns := []int{kindText, kindInt, kindBool, kindInt}
	for _, c := range around() {
		i := slices.Index(columns, c.v.Kind)
		want := strip(t, 4, i, chosen(api.CmpGe, c.less, c.equal, c.greater))
		expect(t, columns, compare(column(i), api.CmpGe, constant(c.v)), want, want)
	}
}

func TestTwoValues(t *testing.T) {
	columns := []int{kindBool, kindText}
	values := around()
	for i, a := range values {
		for j, b := range values {
			if a.v.Kind != b.v.Kind {
				continue
			}
			for _, cmp := range comparisons() {
				// The values of one kind stand in ascending order.
				holds := map[int]bool{
					api.CmpEq: i == j, api.CmpNe: i != j, api.CmpLt: i < j, api.CmpLe: i <= j, api.CmpGt: i > j, api.CmpGe: i >= j,
				}[cmp]
				want := nothing(2)
				if holds {
					want = everything(2)
				}
				expect(t, columns, compare(constant(a.v), cmp, constant(b.v)), want, want)
			}
		}
	}
}

func ofKind(kind int) list {
	return map[int]list{kindBool: between(no, least), kindInt: allInts(), kindText: from(txt(""))}[kind]
}

func TestColumnAndItself(t *testing.T) {
	columns := []int{kindBool, kindInt, kindText, kindInt}
	for i, kind := range columns {
		cells := strip(t, 4, i, ofKind(kind))
		for cmp, want := range map[int]api.Region{
			api.CmpEq: cells, api.CmpLe: cells, api.CmpGe: cells,
			api.CmpNe: nothing(4), api.CmpLt: nothing(4), api.CmpGt: nothing(4),
		} {
			expect(t, columns, compare(column(i), cmp, column(i)), want, want)
		}
	}
}

func TestTwoDifferentColumns(t *testing.T) {
	columns := []int{kindInt, kindText, kindBool, kindInt, kindText, kindBool, kindInt}
	for i, kind := range columns {
		for j := range columns {
			if i == j || columns[j] != kind {
				continue
			}
			for _, cmp := range comparisons() {
				sets := slices.Repeat([]list{interval.All()}, len(columns))
				sets[i], sets[j] = ofKind(kind), ofKind(kind)
				expect(t, columns, compare(column(i), cmp, column(j)), nothing(7), box(t, sets...))
			}
		}
	}
}

func TestNodesWithArguments(t *testing.T) {
	columns := []int{kindInt, kindInt}
	both, cells := match(0, 1), box(t, allInts(), allInts())
	others, _ := region.Complement(cells)
	low, high := compare(column(0), api.CmpLt, constant(num(5))), compare(column(1), api.CmpGt, constant(num(2)))
	below := strip(t, 2, 0, between(least, num(5)))
	corner, e := region.Union(below, strip(t, 2, 1, between(num(3), txt(""))))
	if e != api.OK {
		t.Fatal(e)
	}
	lowCells := box(t, between(least, num(5)), allInts())
	notLow, _ := region.Complement(below)
	lowOrOther, _ := region.Union(below, others)
	for name, c := range map[string]struct {
		p            api.Predicate
		inner, outer api.Region
	}{
		"all of none":            {and(), everything(2), everything(2)},
		"one of none":            {or(), nothing(2), nothing(2)},
		"all of one":             {and(low), below, below},
		"one of one":             {or(low), below, below},
		"all of two":             {and(low, high), box(t, between(least, num(5)), between(num(3), txt(""))), box(t, between(least, num(5)), between(num(3), txt("")))},
		"one of two":             {or(low, high), corner, corner},
		"all of three":           {and(low, always(), never()), nothing(2), nothing(2)},
		"one of three":           {or(low, never(), always()), everything(2), everything(2)},
		"not":                    {not(low), notLow, notLow},
		"not not":                {not(not(low)), below, below},
		"the chapter's example":  {and(low, both), nothing(2), lowCells},
		"columns, and another":   {and(both, low), nothing(2), lowCells},
		"columns, or another":    {or(both, low), below, union(t, cells, below)},
		"not of columns":         {not(both), others, everything(2)},
		"not not of columns":     {not(not(both)), nothing(2), cells},
		"not of both":            {not(and(low, both)), complement(t, lowCells), everything(2)},
		"another, or not both":   {or(low, not(both)), lowOrOther, everything(2)},
		"columns twice":          {or(both, not(both)), others, everything(2)},
		"columns against them":   {and(both, not(both)), nothing(2), cells},
		"columns and themselves": {and(match(0, 0), compare(column(1), api.CmpLe, column(1))), cells, cells},
	} {
		t.Run(name, func(t *testing.T) { expect(t, columns, c.p, c.inner, c.outer) })
	}
}

func union(t *testing.T, a, b api.Region) api.Region {
	t.Helper()
	r, e := region.Union(a, b)
	if e != api.OK {
		t.Fatalf("Union = %d", e)
	}
	return r
}

func complement(t *testing.T, a api.Region) api.Region {
	t.Helper()
	r, e := region.Complement(a)
	if e != api.OK {
		t.Fatalf("Complement = %d", e)
	}
	return r
}

// Many arguments, each of which changes the regions.
func TestManyArguments(t *testing.T) {
	for n := range api.MaxNodes {
		var set list
		for i := range int64(n) {
			set = append(set, between(num(2*i), num(2*i+1))...)
		}
		some := strip(t, 2, 1, set)
		others := strip(t, 2, 1, minus(allInts(), set))
		if n == 0 {
			others = everything(2)
		}
		t.Run(strconv.Itoa(n), func(t *testing.T) {
			expect(t, ints(2), or(numbered(n, func(i int) api.Predicate { return is(1, int64(2*i)) })...), some, some)
			expect(t, ints(2), and(numbered(n, func(i int) api.Predicate { return compare(column(1), api.CmpNe, constant(num(int64(2*i)))) })...), others, others)
		})
	}
}

func minus(a, b list) list {
	l, _ := interval.Minus(a, b)
	return l
}
