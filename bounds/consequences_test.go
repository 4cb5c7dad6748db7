package bounds_test

import (
	"math/rand"
	"slices"
	"testing"

	"partsync/api"
	"partsync/bounds"
	"partsync/predicate"
	"partsync/region"
	"partsync/value"
)

// P6.2 and P6.3

func kindsOfThree() []int { return []int{kindInt, kindBool, kindInt} }

// cells returns values of all kinds, those next to the constants of the predicates among them.
func cells() []api.Value {
	return []api.Value{missing, hidden, no, yes, num(-1), num(0), num(1), num(2), num(3), txt("a")}
}

// rows returns all rows of three of the cells.
func rows() []api.Row {
	var l []api.Row
	for _, a := range cells() {
		for _, b := range cells() {
			for _, c := range cells() {
				l = append(l, api.Row{a, b, c})
			}
		}
	}
	return l
}

// typed reports whether each cell of the row is Missing, Hidden or of its column's kind.
func typed(row api.Row, columns []int) bool {
	for i, cell := range row {
		if cell.Kind != api.KindMissing && cell.Kind != api.KindHidden && cell.Kind != columns[i] {
			return false
		}
	}
	return true
}

// within tells by the definition whether the row is in the outer region of p, or (outer is false) in the inner one.
func within(p api.Predicate, row api.Row, columns []int, outer bool) bool {
	inArg := func(arg api.Predicate) bool { return within(arg, row, columns, outer) }
	switch p.Op {
	case api.PredTrue:
		return true
	case api.PredAnd:
		return !slices.ContainsFunc(p.Args, func(arg api.Predicate) bool { return !inArg(arg) })
	case api.PredOr:
		return slices.ContainsFunc(p.Args, inArg)
	case api.PredNot:
		return !within(p.Args[0], row, columns, !outer)
	case api.PredCompare:
		return comparedWithin(p, row, columns, outer)
	}
	return false
}

func comparedWithin(p api.Predicate, row api.Row, columns []int, outer bool) bool {
	left, right := p.Left, p.Right
	if left.Kind == api.OperandColumn && right.Kind == api.OperandColumn && left.Index != right.Index {
		return outer && row[left.Index].Kind == columns[left.Index] && row[right.Index].Kind == columns[right.Index]
	}
	a, b := side(left, row), side(right, row)
	for _, o := range []api.Operand{left, right} {
		if o.Kind == api.OperandColumn && row[o.Index].Kind != columns[o.Index] {
			return false
		}
	}
	order := value.Compare(a, b)
	return map[int]bool{
		api.CmpEq: order == 0, api.CmpNe: order != 0, api.CmpLt: order < 0, api.CmpLe: order <= 0, api.CmpGt: order > 0, api.CmpGe: order >= 0,
	}[p.Cmp]
}

// side returns the value of an operand that is a column or a value.
func side(o api.Operand, row api.Row) api.Value {
	if o.Kind == api.OperandColumn {
		return row[o.Index]
	}
	return o.Value
}

// maker makes predicates over three columns, always the same ones.
type maker struct {
	*rand.Rand
	twoColumns bool // whether they compare different columns
}

func (m maker) predicate(levels int) api.Predicate {
	if levels > 0 && m.Intn(4) > 0 {
		op := []int{api.PredAnd, api.PredOr, api.PredNot}[m.Intn(3)]
		if op == api.PredNot {
			return not(m.predicate(levels - 1))
		}
		return tree(op, numbered(1+m.Intn(2), func(int) api.Predicate { return m.predicate(levels - 1) })...)
	}
	if m.Intn(12) == 0 {
		return tree([]int{api.PredTrue, api.PredFalse}[m.Intn(2)])
	}
	return m.comparison()
}

func (m maker) comparison() api.Predicate {
	cmp := comparisons()[m.Intn(6)]
	if m.twoColumns && m.Intn(2) == 0 {
		i := 2 * m.Intn(2)
		return compare(column(i), cmp, column(2-i))
	}
	i := m.Intn(3)
	v := num(int64(m.Intn(3)))
	if kindsOfThree()[i] == kindBool {
		v = []api.Value{no, yes}[m.Intn(2)]
	}
	operands := []api.Operand{column(i), constant(v)}
	return compare(operands[m.Intn(2)], cmp, operands[m.Intn(2)])
}

// made returns predicates with and without comparisons of two different columns.
func made(n int, twoColumns bool) []api.Predicate {
	m := maker{rand.New(rand.NewSource(6)), twoColumns}
	return numbered(n, func(int) api.Predicate { return m.predicate(3) })
}

func TestRegionsOfManyPredicates(t *testing.T) {
	columns := kindsOfThree()
	seen := map[string]int{}
	for _, twoColumns := range []bool{false, true} {
		for _, p := range made(120, twoColumns) {
			in, out, e := bounds.Regions(columns, p)
			if e != api.OK || !region.Valid(in) || !region.Valid(out) || in.Width != 3 || out.Width != 3 {
				t.Fatalf("Regions(%v) = %v, %v, %d", p, in, out, e)
			}
			if !twoColumns && !region.Equal(in, out) {
				t.Errorf("%v compares no two columns, but its regions are %v, %v", p, in, out)
			}
			for _, row := range rows() {
				inside, outside := region.Has(in, row), !region.Has(out, row)
				if inside != within(p, row, columns, false) || outside == within(p, row, columns, true) {
					t.Fatalf("the row %v of %v: in the inner region %v, in the outer one %v", row, p, inside, !outside)
				}
				if !typed(row, columns) {
					continue
				}
				holds := predicate.Holds(p, row, nil)
				if inside && !holds || outside && holds {
					t.Fatalf("%v holds for %v: %v; in the inner region %v, in the outer one %v", p, row, holds, inside, !outside)
				}
				switch {
				case inside:
					seen["inside"]++
				case outside:
					seen["outside"]++
				case holds:
					seen["between, holds"]++
				default:
					seen["between, does not hold"]++
				}
			}
		}
	}
	for _, what := range []string{"inside", "outside", "between, holds", "between, does not hold"} {
		if seen[what] < 1000 {
			t.Errorf("only %d rows are %s", seen[what], what)
		}
	}
}

// Rows that are not typed may satisfy a predicate outside of its outer region, and rows of another width are in none.
func TestRowsThatAreNotTyped(t *testing.T) {
	in, out, e := bounds.Regions([]int{kindInt}, not(is(0, 1)))
	if e != api.OK || !region.Has(in, api.Row{txt("a")}) || region.Has(out, api.Row{}) || region.Has(out, api.Row{num(2), num(2)}) {
		t.Errorf("Regions = %v, %v, %d", in, out, e)
	}
	in, out, e = bounds.Regions([]int{kindInt, kindInt}, match(0, 1))
	words := api.Row{txt("a"), txt("a")}
	if e != api.OK || !predicate.Holds(match(0, 1), words, nil) || region.Has(in, words) || region.Has(out, words) {
		t.Errorf("Regions = %v, %v, %d", in, out, e)
	}
}

// R2, R4 and R5

// memory is the places of intervals and parts that were met.
type memory struct {
	intervals map[*api.Interval]bool
	parts     map[*api.Part]bool
}

// meets reports whether a place of r, used or not, was met before, be it in r itself.
func (m memory) meets(r api.Region) bool {
	met := false
	parts := r.Parts[:cap(r.Parts)]
	for i := range parts {
		met = met || m.parts[&parts[i]]
		m.parts[&parts[i]] = true
		values := parts[i].Values[:cap(parts[i].Values)]
		for j := range values {
			met = met || m.intervals[&values[j]]
			m.intervals[&values[j]] = true
		}
		met = m.meets(parts[i].Rest) || met
	}
	return met
}

func TestResultsShareNoMemory(t *testing.T) {
	low := compare(column(0), api.CmpLt, constant(num(5)))
	for name, p := range map[string]api.Predicate{
		"true":                 always(),
		"false":                never(),
		"a column and a value": low,
		"two values":           compare(constant(num(1)), api.CmpEq, constant(num(1))),
		"a column and itself":  match(2, 2),
		"two columns":          match(0, 2),
		"all of one":           and(low),
		"one of one":           or(low),
		"one of two":           or(low, and(is(1, 2), is(2, 3))),
		"all of two":           and(low, or(is(1, 2), is(2, 3))),
		"not":                  not(low),
		"not not":              not(not(match(0, 2))),
	} {
		m := memory{map[*api.Interval]bool{}, map[*api.Part]bool{}}
		for range 2 {
			in, out, e := bounds.Regions(ints(3), p)
			if e != api.OK {
				t.Fatalf("%s: Regions = %d", name, e)
			}
			if m.meets(in) || m.meets(out) {
				t.Errorf("%s: %v, %v with memory of a result", name, in, out)
			}
		}
	}
}

func TestArgumentsStayAsTheyAre(t *testing.T) {
	args := []api.Predicate{is(0, 1), not(match(0, 1)), is(1, 7)}
	columns := []int{kindInt, kindInt, 9}
	p := and(args[:2]...)
	first, last, _ := bounds.Regions(columns[:2], p)
	want := []api.Predicate{is(0, 1), not(match(0, 1)), is(1, 7)}
	if !slices.EqualFunc(args, want, predicate.Equal) || !slices.Equal(columns, []int{kindInt, kindInt, 9}) {
		t.Errorf("the arguments have become %v, %v", columns, args)
	}
	args[0], columns[0] = is(1, 3), kindText
	in, out, e := bounds.Regions([]int{kindInt, kindInt}, and(want[:2]...))
	if e != api.OK || !region.Equal(in, first) || !region.Equal(out, last) {
		t.Errorf("the regions have become %v, %v, %d", in, out, e)
	}
}

func TestEmptyListsAreNil(t *testing.T) {
	for _, p := range []api.Predicate{
		{Op: api.PredTrue, Args: []api.Predicate{}}, {Op: api.PredAnd, Args: []api.Predicate{}}, and(),
		{Op: api.PredCompare, Cmp: api.CmpEq, Left: constant(yes), Right: constant(yes), Args: []api.Predicate{}},
	} {
		expect(t, []int{}, p, everything(0), everything(0))
		expect(t, nil, p, everything(0), everything(0))
	}
}
