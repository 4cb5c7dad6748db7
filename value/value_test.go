package value_test

import (
	"math"
	"slices"
	"strings"
	"testing"

	"partsync/api"
	"partsync/value"
)

var (
	missing = api.Value{Kind: api.KindMissing}
	hidden  = api.Value{Kind: api.KindHidden}
	no      = api.Value{Kind: api.KindBool}
	yes     = api.Value{Kind: api.KindBool, Int: 1}
)

func num(n int64) api.Value          { return api.Value{Kind: api.KindInt, Int: n} }
func txt(s string) api.Value         { return api.Value{Kind: api.KindText, Text: s} }
func row(cells ...api.Value) api.Row { return cells }

// full returns a text of MaxText bytes that begins with start and goes on with bytes fill.
func full(start, fill string) string {
	return start + strings.Repeat(fill, api.MaxText-len(start))
}

// ascending returns valid values in their order, among them the ends of each kind and the texts around a full one.
func ascending() []api.Value {
	return []api.Value{
		missing, hidden, no, yes,
		num(math.MinInt64), num(math.MinInt64 + 1), num(-1), num(0), num(1), num(math.MaxInt64 - 1), num(math.MaxInt64),
		txt(""), txt("\x00"), txt("\x00\x00"), txt(full("", "\x00")), txt(full("", "\x00")[1:] + "\x01"),
		txt("Z"), txt("a"), txt("a\x00"), txt("a\x00\x00"), txt("a\x01"), txt("aa"), txt(full("a", "\xff")), txt("b"),
		txt("\x7f"), txt("\x80"), txt(full("\x80", "\xff")), txt("\x81"), txt("é"), txt(full("", "\xff")[1:]), txt(full("", "\xff")),
	}
}

// invalid returns values that are not valid, each for another reason.
func invalid() []api.Value {
	return []api.Value{
		{}, {Kind: -1}, {Kind: 6}, {Kind: math.MinInt}, {Kind: math.MaxInt},
		{Kind: 0, Int: 1}, {Kind: 0, Text: "a"}, {Kind: 6, Text: "a"},
		{Kind: api.KindMissing, Int: 1}, {Kind: api.KindMissing, Int: -1}, {Kind: api.KindMissing, Text: "a"},
		{Kind: api.KindHidden, Int: 1}, {Kind: api.KindHidden, Text: "\x00"},
		{Kind: api.KindBool, Int: 2}, {Kind: api.KindBool, Int: -1}, {Kind: api.KindBool, Text: "a"}, {Kind: api.KindBool, Int: 1, Text: "a"},
		{Kind: api.KindInt, Text: "a"}, {Kind: api.KindInt, Int: 1, Text: "\x00"},
		{Kind: api.KindText, Int: 1}, {Kind: api.KindText, Int: -1, Text: "a"},
		txt(full("", "a") + "a"), txt(full("", "\xff") + "\xff"), txt(strings.Repeat("é", api.MaxText/2) + "é"),
	}
}

// P1.1

func TestValidAndRealOfValidValues(t *testing.T) {
	for _, v := range ascending() {
		if !value.Valid(v) {
			t.Errorf("Valid(%v) = false", v)
		}
		real := v.Kind == api.KindBool || v.Kind == api.KindInt || v.Kind == api.KindText
		if value.Real(v) != real {
			t.Errorf("Real(%v) = %v", v, !real)
		}
	}
}

func TestValidAndRealOfInvalidValues(t *testing.T) {
	for _, v := range invalid() {
		if value.Valid(v) || value.Real(v) {
			t.Errorf("%v: Valid %v, Real %v, want false", v, value.Valid(v), value.Real(v))
		}
	}
}

// P1.2

func sign(less, greater bool) int {
	switch {
	case less:
		return -1
	case greater:
		return 1
	}
	return 0
}

// compareBySpelling is the order as the chapter spells it.
func compareBySpelling(a, b api.Value) int {
	if a.Kind != b.Kind {
		return sign(a.Kind < b.Kind, a.Kind > b.Kind)
	}
	if a.Int != b.Int {
		return sign(a.Int < b.Int, a.Int > b.Int)
	}
	return sign(a.Text < b.Text, a.Text > b.Text)
}

func TestCompareOfAllValues(t *testing.T) {
	values := append(ascending(), invalid()...)
	for _, a := range values {
		for _, b := range values {
			if got, want := value.Compare(a, b), compareBySpelling(a, b); got != want {
				t.Errorf("Compare(%v, %v) = %d, want %d", a, b, got, want)
			}
		}
	}
}

func TestCompareInOrder(t *testing.T) {
	values := ascending()
	for i, a := range values {
		for j, b := range values {
			if got, want := value.Compare(a, b), sign(i < j, i > j); got != want {
				t.Errorf("Compare(%v, %v) = %d, want %d", a, b, got, want)
			}
		}
	}
}

// TestCompareFieldByField lets later fields disagree with the one that decides, as only values that are not valid do.
func TestCompareFieldByField(t *testing.T) {
	for _, c := range [][2]api.Value{
		{{Kind: -1, Int: 9, Text: "z"}, {Kind: 0, Int: 8, Text: "y"}},
		{{Kind: 1, Int: 9, Text: "z"}, {Kind: 2, Int: -9}},
		{{Kind: 3, Int: math.MinInt64, Text: "z"}, {Kind: 3, Int: math.MaxInt64, Text: "a"}},
		{{Kind: 5, Int: 1, Text: "z"}, {Kind: 5, Int: 2, Text: "a"}},
		{{Kind: 7, Int: 1, Text: "a"}, {Kind: 7, Int: 1, Text: "b"}},
	} {
		if value.Compare(c[0], c[1]) != -1 || value.Compare(c[1], c[0]) != 1 {
			t.Errorf("%v is not less than %v", c[0], c[1])
		}
	}
}

// P1.3

func TestNext(t *testing.T) {
	for _, c := range []struct{ v, want api.Value }{
		{missing, hidden}, {hidden, no}, {no, yes}, {yes, num(math.MinInt64)},
		{num(math.MinInt64), num(math.MinInt64 + 1)}, {num(-1), num(0)}, {num(0), num(1)}, {num(5), num(6)},
		{num(math.MaxInt64 - 1), num(math.MaxInt64)}, {num(math.MaxInt64), txt("")},
		{txt(""), txt("\x00")}, {txt("a"), txt("a\x00")}, {txt("\xff"), txt("\xff\x00")},
		{txt(full("a", "b")[1:]), txt(full("a", "b")[1:] + "\x00")},
		{txt(full("", "\xff")[1:]), txt(full("", "\xff")[1:] + "\x00")},
		{txt(full("", "\x00")), txt(full("", "\x00")[1:] + "\x01")},
		{txt(full("", "a")), txt(full("", "a")[1:] + "b")},
		{txt(full("a", "\xff")), txt("b")},
		{txt(full("a\x00", "\xff")), txt("a\x01")},
		{txt(full("a\xffb", "\xff")), txt("a\xffc")},
		{txt(full("\xfe", "\xff")), txt("\xff")},
		{txt(full("", "\xff")[1:] + "\xfe"), txt(full("", "\xff"))},
		{txt(full("\x80\x80", "\xff")), txt("\x80\x81")},
		{txt(full("", "\x7f")), txt(full("", "\x7f")[1:] + "\x80")},
	} {
		if got, ok := value.Next(c.v); got != c.want || !ok {
			t.Errorf("Next(%v) = %v, %v, want %v", c.v, got, ok, c.want)
		}
	}
}

func TestNextOfNothing(t *testing.T) {
	for _, v := range append(invalid(), txt(full("", "\xff"))) {
		if got, ok := value.Next(v); got != (api.Value{}) || ok {
			t.Errorf("Next(%v) = %v, %v, want none", v, got, ok)
		}
	}
}

// P1.4

func TestFirst(t *testing.T) {
	firsts := []api.Value{missing, hidden, no, num(math.MinInt64), txt("")}
	for i, want := range firsts {
		if got, ok := value.First(i + 1); got != want || !ok {
			t.Errorf("First(%d) = %v, %v, want %v", i+1, got, ok, want)
		}
	}
	for _, kind := range []int{math.MinInt, -1, 0, 6, 7, math.MaxInt} {
		if got, ok := value.First(kind); got != (api.Value{}) || ok {
			t.Errorf("First(%d) = %v, %v, want none", kind, got, ok)
		}
	}
}

// P1.5

// ascendingRows returns rows in their order; cells need not be valid.
func ascendingRows() []api.Row {
	return []api.Row{
		row(),
		row(api.Value{Kind: -1}), row(api.Value{}),
		row(missing), row(missing, txt("z")), row(hidden),
		row(num(1)), row(num(1), api.Value{}), row(num(1), missing), row(num(1), num(0)), row(num(1), num(0), missing), row(num(1), num(2)),
		row(num(2)), row(num(2), num(-5)), row(num(10)),
		row(txt("")), row(txt(""), txt("a")), row(txt("a")), row(txt("a"), num(1)), row(txt("a\x00")),
		row(api.Value{Kind: 6}),
	}
}

func TestCompareRows(t *testing.T) {
	rows := ascendingRows()
	for i, a := range rows {
		for j, b := range rows {
			if got, want := value.CompareRows(a, b), sign(i < j, i > j); got != want {
				t.Errorf("CompareRows(%v, %v) = %d, want %d", a, b, got, want)
			}
		}
	}
	if value.CompareRows(nil, row()) != 0 || value.CompareRows(nil, nil) != 0 || value.CompareRows(nil, row(missing)) != -1 || value.CompareRows(row(missing), nil) != 1 {
		t.Error("CompareRows: a nil row is not the row without cells")
	}
}

// P1.6

func sameRows(a, b []api.Row) bool {
	return slices.EqualFunc(a, b, func(x, y api.Row) bool { return slices.Equal(x, y) })
}

func cloneRows(rows []api.Row) []api.Row {
	c := make([]api.Row, len(rows))
	for i, r := range rows {
		c[i] = slices.Clone(r)
	}
	return c
}

func TestSet(t *testing.T) {
	bad := row(api.Value{Kind: 9}, api.Value{})
	for _, c := range []struct{ rows, want []api.Row }{
		{nil, nil},
		{[]api.Row{}, nil},
		{[]api.Row{nil}, []api.Row{row()}},
		{[]api.Row{row(), nil, row()}, []api.Row{row()}},
		{[]api.Row{row(num(2)), row(num(1)), row(num(2))}, []api.Row{row(num(1)), row(num(2))}},
		{[]api.Row{row(num(1), hidden), row(num(1)), row(num(1), missing)}, []api.Row{row(num(1)), row(num(1), missing), row(num(1), hidden)}},
		{[]api.Row{bad, row(txt("b")), bad, row(txt("a"))}, []api.Row{row(txt("a")), row(txt("b")), bad}},
	} {
		if got := value.Set(c.rows); !sameRows(got, c.want) {
			t.Errorf("Set(%v) = %v, want %v", c.rows, got, c.want)
		}
	}
}

func TestSetLeavesItsArgumentAlone(t *testing.T) {
	memory := []api.Row{row(num(3)), row(num(1)), row(num(3)), row(num(2)), row(num(0)), row(num(9))}
	before := cloneRows(memory)
	value.Set(memory[:4])
	if !sameRows(memory, before) {
		t.Errorf("Set changed its argument or what lies behind it to %v", memory)
	}
}

func TestSetSharesNoMemory(t *testing.T) {
	cells := row(num(3), num(4), num(1), num(2))
	in := []api.Row{cells[0:1], cells[2:3], cells[0:1], cells[0:2]}
	got := value.Set(in)
	want := []api.Row{row(num(1)), row(num(3)), row(num(3), num(4))}
	if !sameRows(got, want) {
		t.Fatalf("Set = %v, want %v", got, want)
	}
	for i := range got {
		got[i][0] = num(int64(100 + i))
		got[i] = append(got[i], hidden)
	}
	if !slices.Equal(cells, row(num(3), num(4), num(1), num(2))) {
		t.Errorf("writing to the result changed the argument to %v", cells)
	}
	if !sameRows(got, []api.Row{row(num(100), hidden), row(num(101), hidden), row(num(102), num(4), hidden)}) {
		t.Errorf("writing to a row of the result changed another one: %v", got)
	}
}

func TestHas(t *testing.T) {
	bad := row(api.Value{Kind: 9, Int: 1, Text: "x"})
	rows := []api.Row{row(num(3), hidden), row(num(1)), bad, row(num(3), hidden), row(num(2), txt("a"))}
	before := cloneRows(rows)
	for _, r := range rows {
		if !value.Has(rows, slices.Clone(r)) {
			t.Errorf("Has(%v) = false", r)
		}
	}
	for _, r := range []api.Row{nil, row(), row(num(3)), row(num(3), missing), row(num(3), hidden, hidden), row(num(2), txt("b")), row(txt("a")), row(api.Value{Kind: 9, Int: 1})} {
		if value.Has(rows, r) {
			t.Errorf("Has(%v) = true", r)
		}
	}
	if !sameRows(rows, before) {
		t.Errorf("Has changed its argument to %v", rows)
	}
}

func TestHasTheRowWithoutCells(t *testing.T) {
	if value.Has(nil, nil) || value.Has(nil, row()) || value.Has([]api.Row{row(missing)}, nil) {
		t.Error("Has finds the row without cells where it is not")
	}
	if !value.Has([]api.Row{row(num(1)), row()}, nil) || !value.Has([]api.Row{nil}, row()) {
		t.Error("Has does not find the row without cells")
	}
}

// P1.7

// checkTotal reports where compare is not a total order on the items.
func checkTotal[T any](t *testing.T, items []T, compare func(a, b T) int, equal func(a, b T) bool) {
	t.Helper()
	for _, a := range items {
		for _, b := range items {
			if compare(a, b) != -compare(b, a) || (compare(a, b) == 0) != equal(a, b) {
				t.Errorf("the order of %v and %v depends on which stands first", a, b)
			}
			for _, c := range items {
				if compare(a, b) <= 0 && compare(b, c) <= 0 && compare(a, c) > 0 {
					t.Errorf("%v, %v, %v are not in a transitive order", a, b, c)
				}
			}
		}
	}
}

func TestOrdersAreTotal(t *testing.T) {
	values := append(ascending(), invalid()...)
	checkTotal(t, values, value.Compare, func(a, b api.Value) bool { return a == b })
	rows := ascendingRows()
	for _, v := range values {
		rows = append(rows, row(v, num(1)))
	}
	checkTotal(t, rows, value.CompareRows, func(a, b api.Row) bool { return slices.Equal(a, b) })
}

func TestNothingLiesBeforeNext(t *testing.T) {
	values := ascending()
	for _, v := range ascending() {
		if next, ok := value.Next(v); ok {
			values = append(values, next)
		}
	}
	for _, v := range values {
		next, ok := value.Next(v)
		if !ok {
			if v != txt(full("", "\xff")) {
				t.Errorf("Next(%v) reports that there is none", v)
			}
			continue
		}
		if !value.Valid(next) || value.Compare(v, next) != -1 {
			t.Errorf("Next(%v) = %v is not a greater valid value", v, next)
		}
		for _, w := range values {
			if value.Compare(v, w) < 0 && value.Compare(w, next) < 0 {
				t.Errorf("%v lies between %v and its next value %v", w, v, next)
			}
		}
	}
}

func TestSetDependsOnNoOrder(t *testing.T) {
	want := ascendingRows()
	for turn := range want {
		turned := append(cloneRows(want[turn:]), want[:turn]...)
		slices.Reverse(turned)
		doubled := append(turned, turned[:turn]...)
		if got := value.Set(doubled); !sameRows(got, want) {
			t.Errorf("Set of the rows from row %d on, backwards and some twice, is %v", turn, got)
		}
	}
	if got := value.Set(want); !sameRows(got, want) {
		t.Errorf("Set of a relation is %v", got)
	}
}
