package schema_test

import (
	"math"
	"reflect"
	"slices"
	"strings"
	"testing"

	"partsync/api"
	"partsync/schema"
	"partsync/value"
)

const (
	kindBool = api.KindBool
	kindInt  = api.KindInt
	kindText = api.KindText
)

var (
	missing = api.Value{Kind: api.KindMissing}
	hidden  = api.Value{Kind: api.KindHidden}
	no      = api.Value{Kind: kindBool}
	yes     = api.Value{Kind: kindBool, Int: 1}
)

func num(n int64) api.Value          { return api.Value{Kind: kindInt, Int: n} }
func txt(s string) api.Value         { return api.Value{Kind: kindText, Text: s} }
func row(cells ...api.Value) api.Row { return cells }

// columns returns columns of the kinds, named a, b, c ..
func columns(kinds ...int) []api.Column {
	var l []api.Column
	for i, kind := range kinds {
		l = append(l, api.Column{Name: string(rune('a' + i)), Kind: kind})
	}
	return l
}

// refers is a reference of the columns to the table.
func refers(table int, columns ...int) api.Reference {
	return api.Reference{Columns: columns, Table: table}
}

// shop is a valid schema: each table refers to an earlier one, and items to itself as well.
func shop() api.Schema {
	return api.Schema{Version: 3, Tables: []api.Table{
		{Name: "places", Key: 2, Columns: columns(kindText, kindInt)},
		{Name: "items", Key: 1, Columns: columns(kindInt, kindText, kindInt, kindBool, kindInt),
			References: []api.Reference{refers(0, 1, 2), refers(1, 4), refers(1, 0)},
			Checks:     []api.Predicate{atLeast(0, num(1)), atLeast(1, txt("a"))}},
		{Name: "sales", Key: 3, Columns: columns(kindInt, kindBool, kindText),
			References: []api.Reference{refers(1, 0), refers(0, 2, 0)},
			Checks:     []api.Predicate{atLeast(1, no)}},
	}}
}

// atLeast compares a column with a value.
func atLeast(column int, v api.Value) api.Predicate {
	return api.Predicate{Op: api.PredCompare, Cmp: api.CmpGe,
		Left:  api.Operand{Kind: api.OperandColumn, Index: column},
		Right: api.Operand{Kind: api.OperandValue, Value: v}}
}

func always() api.Predicate { return api.Predicate{Op: api.PredTrue} }

func and(args ...api.Predicate) api.Predicate { return api.Predicate{Op: api.PredAnd, Args: args} }

// endless returns a predicate that contains itself.
func endless() api.Predicate {
	p := and(always())
	p.Args[0] = p
	return p
}

// spoilt returns the shop's schema after a change of it.
func spoilt(change func(s *api.Schema)) api.Schema {
	s := shop()
	change(&s)
	return s
}

// bare returns a schema of one table.
func bare(t api.Table) api.Schema { return api.Schema{Tables: []api.Table{t}} }

// numbered returns n tables with names and a column of their own.
func numbered(n int) []api.Table {
	var l []api.Table
	for i := range n {
		l = append(l, api.Table{Name: "t" + string(rune('0'+i)), Key: 1, Columns: columns(kindInt)})
	}
	return l
}

func extremes() []int { return []int{math.MinInt, -1000, -2, -1, 1000, math.MaxInt} }

// P7.1

func TestCheckOfValidSchemas(t *testing.T) {
	eight := columns(slices.Repeat([]int{kindInt, kindText}, 4)...)
	for name, s := range map[string]api.Schema{
		"no tables":          {},
		"no tables, not nil": {Tables: []api.Table{}},
		"the shop":           shop(),
		"version 0":          spoilt(func(s *api.Schema) { s.Version = 0 }),
		"version 1000":       spoilt(func(s *api.Schema) { s.Version = api.MaxVersion }),
		"eight tables":       {Tables: numbered(api.MaxTables)},
		"eight columns":      bare(api.Table{Name: "a", Key: 8, Columns: eight}),
		"a key of some":      bare(api.Table{Name: "a", Key: 7, Columns: eight}),
		"four references": bare(api.Table{Name: "a", Key: 1, Columns: eight,
			References: []api.Reference{refers(0, 0), refers(0, 2), refers(0, 4), refers(0, 6)}}),
		"four checks": bare(api.Table{Name: "a", Key: 1, Columns: eight,
			Checks: []api.Predicate{always(), atLeast(7, txt("")), and(), atLeast(0, num(0))}}),
		"parts that are empty, not nil": bare(api.Table{Name: "a", Key: 1, Columns: eight, References: []api.Reference{}, Checks: []api.Predicate{}}),
		"a name of a table and columns": {Tables: []api.Table{{Name: "a", Key: 1, Columns: eight}, {Name: "b", Key: 1, Columns: eight}}},
		"a column twice in a reference": bare(api.Table{Name: "a", Key: 2, Columns: columns(kindInt, kindInt, kindInt), References: []api.Reference{refers(0, 2, 2)}}),
		"the same reference twice":      bare(api.Table{Name: "a", Key: 1, Columns: eight, References: []api.Reference{refers(0, 2), refers(0, 2)}}),
		"a reference to a later table":  {Tables: []api.Table{{Name: "a", Key: 1, Columns: eight, References: []api.Reference{refers(1, 1)}}, {Name: "b", Key: 1, Columns: columns(kindText)}}},
		"a reference of all columns":    bare(api.Table{Name: "a", Key: 8, Columns: eight, References: []api.Reference{refers(0, 6, 7, 4, 5, 2, 3, 0, 1)}}),
	} {
		if e := schema.Check(s); e != api.OK {
			t.Errorf("%s: Check = %d", name, e)
		}
	}
}

func TestSizes(t *testing.T) {
	for name, change := range map[string]func(s *api.Schema){
		"nine tables":             func(s *api.Schema) { s.Tables = numbered(api.MaxTables + 1) },
		"a thousand tables":       func(s *api.Schema) { s.Tables = make([]api.Table, 1000) },
		"nine columns":            func(s *api.Schema) { s.Tables[2].Columns = columns(ints(api.MaxColumns + 1)...) },
		"five references":         func(s *api.Schema) { s.Tables[1].References = slices.Repeat([]api.Reference{refers(1, 0)}, 5) },
		"five checks":             func(s *api.Schema) { s.Tables[0].Checks = slices.Repeat([]api.Predicate{always()}, 5) },
		"nine columns of nothing": func(s *api.Schema) { s.Tables[0].Columns = make([]api.Column, 9) },
	} {
		if e := schema.Check(spoilt(change)); e != api.ErrLimit {
			t.Errorf("%s: Check = %d", name, e)
		}
		// Nothing else that is wrong, also before it, comes first.
		others := notValid()
		for other, c := range conditions() {
			others["a check: "+other] = c.put
		}
		for other, spoil := range others {
			s := spoilt(spoil)
			change(&s)
			if e := schema.Check(s); e != api.ErrLimit {
				t.Errorf("%s, %s: Check = %d", name, other, e)
			}
		}
	}
}

func ints(n int) []int { return slices.Repeat([]int{kindInt}, n) }

// notValid changes the shop's schema so that it is not valid.
func notValid() map[string]func(s *api.Schema) {
	return map[string]func(s *api.Schema){
		"version -1":                     func(s *api.Schema) { s.Version = -1 },
		"version 1001":                   func(s *api.Schema) { s.Version = api.MaxVersion + 1 },
		"no column":                      func(s *api.Schema) { s.Tables[2].Columns = nil },
		"no column and no key":           func(s *api.Schema) { s.Tables[2] = api.Table{Name: "sales"} },
		"no column and a key":            func(s *api.Schema) { s.Tables[2] = api.Table{Name: "sales", Key: 1} },
		"no table":                       func(s *api.Schema) { s.Tables[2] = api.Table{} },
		"two tables of one name":         func(s *api.Schema) { s.Tables[2].Name = "places" },
		"two columns of one name":        func(s *api.Schema) { s.Tables[0].Columns[1].Name = "a" },
		"two columns, not side by side":  func(s *api.Schema) { s.Tables[1].Columns[4].Name = "a" },
		"key 0":                          func(s *api.Schema) { s.Tables[2].Key = 0 },
		"a key longer by one":            func(s *api.Schema) { s.Tables[2].Key = 4 },
		"fewer columns than the key has": func(s *api.Schema) { s.Tables[1].References[0] = refers(0, 1) },
		"more columns than the key has":  func(s *api.Schema) { s.Tables[1].References[0] = refers(0, 1, 2, 2) },
		"no columns in a reference":      func(s *api.Schema) { s.Tables[1].References[0] = refers(0) },
		"many columns in a reference":    func(s *api.Schema) { s.Tables[1].References[0].Columns = make([]int, 1000) },
		"a reference to table 3":         func(s *api.Schema) { s.Tables[1].References[0].Table = 3 },
		"a reference of column 5":        func(s *api.Schema) { s.Tables[1].References[1] = refers(1, 5) },
		"a first column of another kind": func(s *api.Schema) { s.Tables[1].References[0] = refers(0, 0, 2) },
		"a last column of another kind":  func(s *api.Schema) { s.Tables[1].References[0] = refers(0, 1, 3) },
		"columns in another order":       func(s *api.Schema) { s.Tables[1].References[0] = refers(0, 2, 1) },
		"the last of three references":   func(s *api.Schema) { s.Tables[1].References[2] = refers(1, 1) },
		// The kinds at the same places of the table itself, or of its own key, are not those that count.
		"the kinds of its own key": func(s *api.Schema) { s.Tables[2].References[1] = refers(0, 0, 1) },
	}
}

func TestSchemasThatAreNotValid(t *testing.T) {
	for name, change := range notValid() {
		if e := schema.Check(spoilt(change)); e != api.ErrSchema {
			t.Errorf("%s: Check = %d", name, e)
		}
	}
}

func TestNumbersThatAreFarOff(t *testing.T) {
	for _, n := range extremes() {
		for name, change := range map[string]func(s *api.Schema){
			"Key":                   func(s *api.Schema) { s.Tables[2].Key = n },
			"Key referred to":       func(s *api.Schema) { s.Tables[0].Key = n },
			"Kind":                  func(s *api.Schema) { s.Tables[1].Columns[3].Kind = n },
			"Kind referred to":      func(s *api.Schema) { s.Tables[0].Columns[0].Kind = n },
			"both Kinds":            func(s *api.Schema) { s.Tables[0].Columns[0].Kind, s.Tables[1].Columns[1].Kind = n, n },
			"reference's Table":     func(s *api.Schema) { s.Tables[2].References[0].Table = n },
			"reference's Columns":   func(s *api.Schema) { s.Tables[2].References[0].Columns[0] = n },
			"last of two Columns":   func(s *api.Schema) { s.Tables[2].References[1].Columns[1] = n },
			"no columns and no key": func(s *api.Schema) { s.Tables[2].References[0] = refers(n) },
		} {
			if e := schema.Check(spoilt(change)); e != api.ErrSchema {
				t.Errorf("%s %d: Check = %d", name, n, e)
			}
		}
		version := spoilt(func(s *api.Schema) { s.Version = n })
		if e := schema.Check(version); n != api.MaxVersion && e != api.ErrSchema {
			t.Errorf("Version %d: Check = %d", n, e)
		}
	}
}

// A key that is too long is not made valid by a reference of as many columns.
func TestReferencesToKeysThatAreTooLong(t *testing.T) {
	s := bare(api.Table{Name: "a", Key: 3, Columns: columns(kindInt, kindInt), References: []api.Reference{refers(0, 0, 1)}})
	if e := schema.Check(s); e != api.ErrSchema {
		t.Errorf("as many columns as the table has: Check = %d", e)
	}
	s.Tables[0].References[0] = refers(0, 0, 1, 1)
	if e := schema.Check(s); e != api.ErrSchema {
		t.Errorf("as many columns as Key says: Check = %d", e)
	}
}

func TestKindsOfColumns(t *testing.T) {
	for kind := -2; kind <= 8; kind++ {
		want := api.ErrSchema
		if kind == kindBool || kind == kindInt || kind == kindText {
			want = api.OK
		}
		for place := range 3 {
			kinds := []int{kindBool, kindText, kindInt}
			kinds[place] = kind
			for key := 1; key <= 3; key++ {
				if e := schema.Check(bare(api.Table{Name: "a", Key: key, Columns: columns(kinds...)})); e != want {
					t.Errorf("kinds %v, key %d: Check = %d", kinds, key, e)
				}
			}
		}
	}
}

// expectName checks whether the string is a name, of a table and of a column.
func expectName(t *testing.T, name string, valid bool) {
	t.Helper()
	want := api.ErrSchema
	if valid {
		want = api.OK
	}
	if e := schema.Check(bare(api.Table{Name: name, Key: 1, Columns: columns(kindInt)})); e != want {
		t.Errorf("a table %q: Check = %d", name, e)
	}
	if e := schema.Check(bare(api.Table{Name: "t", Key: 1, Columns: append(columns(kindInt), api.Column{Name: name, Kind: kindInt})})); e != want && name != "a" {
		t.Errorf("a column %q: Check = %d", name, e)
	}
}

func TestNames(t *testing.T) {
	for b := range 256 {
		letter := b >= 'a' && b <= 'z'
		later := letter || b >= '0' && b <= '9' || b == '_'
		expectName(t, string([]byte{byte(b)}), letter)
		expectName(t, string([]byte{byte(b), 'x'}), letter)
		expectName(t, string([]byte{'x', byte(b)}), later)
		expectName(t, string([]byte{'x', byte(b), 'x'}), later)
		expectName(t, strings.Repeat("x", api.MaxName-1)+string([]byte{byte(b)}), later)
	}
	for n := range 40 {
		expectName(t, strings.Repeat("z", n), n >= 1 && n <= api.MaxName)
	}
	for _, name := range []string{"é", "aé", "ａ", "a\u0430", "a\u200b", "x\U0001F600", "x\xff\xfe", "\xc3\xa1", "x\u0661"} {
		expectName(t, name, false)
	}
	// 32 characters, but more bytes; and as many bytes as a name may have.
	expectName(t, strings.Repeat("é", api.MaxName), false)
	expectName(t, strings.Repeat("é", api.MaxName/2), false)
	expectName(t, strings.Repeat("x", 100000), false)
	expectName(t, "tasks_2_done_", true)
}

// condition puts a predicate in the place of one of the shop's checks.
type condition struct {
	place func(s *api.Schema) *api.Predicate
	p     api.Predicate
	want  api.Errno
}

func (c condition) put(s *api.Schema) { *c.place(s) = c.p }

// conditions have the error of predicate.Check that is wanted.
func conditions() map[string]condition {
	first := func(s *api.Schema) *api.Predicate { return &s.Tables[1].Checks[0] }
	last := func(s *api.Schema) *api.Predicate { return &s.Tables[2].Checks[0] }
	return map[string]condition{
		"no predicate":               {first, api.Predicate{}, api.ErrPredicate},
		"no predicate, last":         {last, api.Predicate{}, api.ErrPredicate},
		"no such column":             {first, atLeast(5, num(1)), api.ErrPredicate},
		"a column of a longer table": {last, atLeast(3, no), api.ErrPredicate},
		"another kind":               {last, atLeast(1, num(0)), api.ErrPredicate},
		"a parameter": {first, api.Predicate{Op: api.PredCompare, Cmp: api.CmpEq,
			Left: api.Operand{Kind: api.OperandParam}, Right: api.Operand{Kind: api.OperandParam}}, api.ErrPredicate},
		"25 nodes":              {last, and(slices.Repeat([]api.Predicate{always()}, api.MaxNodes)...), api.ErrLimit},
		"25 nodes, not valid":   {last, and(make([]api.Predicate, api.MaxNodes)...), api.ErrLimit},
		"a node without an end": {first, endless(), api.ErrLimit},
	}
}

func TestConditions(t *testing.T) {
	for name, c := range conditions() {
		s := spoilt(c.put)
		if e := schema.Check(s); e != c.want {
			t.Errorf("%s: Check = %d, want %d", name, e, c.want)
		}
		for other, spoil := range notValid() {
			s := spoilt(c.put)
			spoil(&s)
			if e := schema.Check(s); e != api.ErrSchema {
				t.Errorf("%s, %s: Check = %d", name, other, e)
			}
		}
	}
	valid := shop()
	valid.Tables[1].Checks[0] = and(slices.Repeat([]api.Predicate{atLeast(4, num(2))}, api.MaxNodes-1)...)
	if e := schema.Check(valid); e != api.OK {
		t.Errorf("24 nodes: Check = %d", e)
	}
}

func TestTheFirstConditionThatHasAnError(t *testing.T) {
	large, wrong := and(make([]api.Predicate, api.MaxNodes)...), atLeast(7, num(1))
	for name, c := range map[string]struct {
		earlier, later []api.Predicate
		want           api.Errno
	}{
		"in one table, large first":   {[]api.Predicate{always(), large, wrong}, nil, api.ErrLimit},
		"in one table, wrong first":   {[]api.Predicate{always(), wrong, large}, nil, api.ErrPredicate},
		"in two tables, large first":  {[]api.Predicate{always(), large}, []api.Predicate{wrong}, api.ErrLimit},
		"in two tables, wrong first":  {[]api.Predicate{always(), wrong}, []api.Predicate{large}, api.ErrPredicate},
		"at the end of four":          {[]api.Predicate{always(), always(), always(), wrong}, []api.Predicate{large}, api.ErrPredicate},
		"in the later table, 4th one": {nil, []api.Predicate{always(), always(), always(), large}, api.ErrLimit},
	} {
		s := spoilt(func(s *api.Schema) { s.Tables[0].Checks, s.Tables[2].Checks = c.earlier, c.later })
		if e := schema.Check(s); e != c.want {
			t.Errorf("%s: Check = %d, want %d", name, e, c.want)
		}
	}
}

// P7.2

func TestFind(t *testing.T) {
	s := shop()
	for i, table := range s.Tables {
		if got := schema.Find(s, table.Name); got != i {
			t.Errorf("Find(%q) = %d", table.Name, got)
		}
	}
	for _, name := range []string{"", "place", "placess", "Places", "places ", "a", "\x00"} {
		if got := schema.Find(s, name); got != -1 {
			t.Errorf("Find(%q) = %d", name, got)
		}
	}
	if got := schema.Find(api.Schema{}, ""); got != -1 {
		t.Errorf("Find in no tables = %d", got)
	}
}

func TestFindInSchemasThatAreNotValid(t *testing.T) {
	s := api.Schema{Version: -1, Tables: []api.Table{{Name: "B"}, {Name: "b"}, {}, {Name: "b", Key: 1}, {Name: "\xff"}}}
	for name, want := range map[string]int{"B": 0, "b": 1, "": 2, "\xff": 4, "\ufffd": -1} {
		if got := schema.Find(s, name); got != want {
			t.Errorf("Find(%q) = %d", name, got)
		}
	}
	many := api.Schema{Tables: make([]api.Table, 1000)}
	many.Tables[999].Name = "last"
	if got := schema.Find(many, "last"); got != 999 {
		t.Errorf("Find in many tables = %d", got)
	}
}

func TestKinds(t *testing.T) {
	s := shop()
	for table, want := range []struct{ kinds, key []int }{
		{[]int{kindText, kindInt}, []int{kindText, kindInt}},
		{[]int{kindInt, kindText, kindInt, kindBool, kindInt}, []int{kindInt}},
		{[]int{kindInt, kindBool, kindText}, []int{kindInt, kindBool, kindText}},
	} {
		if got := schema.Kinds(s, table); !slices.Equal(got, want.kinds) {
			t.Errorf("Kinds(%d) = %v", table, got)
		}
		if got := schema.KeyKinds(s, table); !slices.Equal(got, want.key) {
			t.Errorf("KeyKinds(%d) = %v", table, got)
		}
	}
}

func TestNoSuchTable(t *testing.T) {
	for _, s := range []api.Schema{{}, shop(), {Tables: numbered(3)}} {
		for _, table := range append(extremes(), -1, len(s.Tables)) {
			if got := schema.Kinds(s, table); len(got) != 0 {
				t.Errorf("Kinds(%d) = %v", table, got)
			}
			if got := schema.KeyKinds(s, table); len(got) != 0 {
				t.Errorf("KeyKinds(%d) = %v", table, got)
			}
			if got := schema.Key(s, table, row(num(1), num(2))); len(got) != 0 {
				t.Errorf("Key(%d) = %v", table, got)
			}
		}
	}
}

// odd returns a schema with kinds that are none, and any key.
func odd(key int) api.Schema {
	return api.Schema{Tables: []api.Table{{}, {Key: key, Columns: columns(9, kindInt, -1)}}}
}

func TestKeysOfAllLengths(t *testing.T) {
	kinds, cells := []int{9, kindInt, -1}, row(hidden, num(1), api.Value{Kind: 7, Text: "a"}, txt("b"), missing)
	for _, key := range append(extremes(), 0, 1, 2, 3, 4, 5, 6) {
		s := odd(key)
		if got := schema.Kinds(s, 1); !slices.Equal(got, kinds) {
			t.Errorf("key %d: Kinds = %v", key, got)
		}
		if got := schema.KeyKinds(s, 1); !slices.Equal(got, kinds[:max(0, min(key, 3))]) {
			t.Errorf("key %d: KeyKinds = %v", key, got)
		}
		// The key is one of the row, also where the table has fewer columns.
		for n := range len(cells) + 1 {
			if got := schema.Key(s, 1, cells[:n]); !slices.Equal(got, cells[:max(0, min(key, n))]) {
				t.Errorf("key %d: Key of %d cells = %v", key, n, got)
			}
		}
	}
	s := odd(2)
	if got := schema.Kinds(s, 0); len(got) != 0 {
		t.Errorf("Kinds of a table without columns = %v", got)
	}
	if got := schema.Key(s, 1, nil); len(got) != 0 {
		t.Errorf("Key of no row = %v", got)
	}
	many := bare(api.Table{Key: 999, Columns: make([]api.Column, 1000)})
	if n := len(schema.KeyKinds(many, 0)); n != 999 {
		t.Errorf("KeyKinds of many columns has %d kinds", n)
	}
}

// P7.3

func modes() []int { return []int{api.ModeServer, api.ModeAllowed, api.ModeLocal} }

// expectFits checks in which modes the row fits: in those from the given one on, or in none if it is 0.
func expectFits(t *testing.T, s api.Schema, table int, r api.Row, from int) {
	t.Helper()
	for _, mode := range append(extremes(), 0, 4, 5, 1, 2, 3) {
		want := from != 0 && slices.Contains(modes(), mode) && mode >= from
		if got := schema.Fits(s, table, r, mode); got != want {
			t.Errorf("Fits(%d, %v) in mode %d = %v", table, r, mode, got)
		}
	}
}

const (
	server  = api.ModeServer
	allowed = api.ModeAllowed
	local   = api.ModeLocal
	nowhere = 0
)

func TestFits(t *testing.T) {
	ground := api.Schema{Tables: []api.Table{{Name: "t", Key: 1, Columns: []api.Column{{Name: "id", Kind: kindInt}, {Name: "owner", Kind: kindText}}}}}
	expectFits(t, ground, 0, row(num(1), txt("a")), server)
	expectFits(t, ground, 0, row(num(1), hidden), allowed)
	expectFits(t, ground, 0, row(hidden, txt("a")), nowhere)
	expectFits(t, ground, 0, row(num(1), missing), local)
	expectFits(t, ground, 0, row(missing, txt("a")), nowhere)

	s := shop()
	expectFits(t, s, 1, row(num(1), txt(""), num(math.MinInt64), no, num(0)), server)
	expectFits(t, s, 1, row(num(1), txt(strings.Repeat("\xff", api.MaxText)), num(0), yes, num(0)), server)
	expectFits(t, s, 1, row(num(1), hidden, hidden, hidden, hidden), allowed)
	expectFits(t, s, 1, row(num(1), txt("a"), num(1), yes, hidden), allowed)
	expectFits(t, s, 1, row(num(1), missing, missing, missing, missing), local)
	expectFits(t, s, 1, row(num(1), hidden, num(1), missing, num(1)), local)
	expectFits(t, s, 2, row(num(1), no, txt("a")), server)
	expectFits(t, s, 2, row(num(1), no, hidden), nowhere)
	expectFits(t, s, 2, row(num(1), no, missing), nowhere)
	expectFits(t, s, 2, row(num(1), hidden, txt("a")), nowhere)
}

func TestRowsOfAnotherLength(t *testing.T) {
	s, cells := shop(), row(num(1), txt("a"), num(1), yes, num(1), num(1), hidden)
	for n := range len(cells) + 1 {
		for table, columns := range []int{2, 5, 3} {
			if n != columns {
				expectFits(t, s, table, cells[:n], nowhere)
			}
		}
	}
	expectFits(t, s, 1, row(num(1), txt("a"), num(1), yes, num(1)), server)
	expectFits(t, s, 1, row(num(1), hidden, hidden, hidden), nowhere)
	expectFits(t, s, 1, row(num(1), hidden, hidden, hidden, hidden, missing), nowhere)
	expectFits(t, s, 1, nil, nowhere)
}

func TestFitsInNoSuchTable(t *testing.T) {
	for _, table := range append(extremes(), 3) {
		expectFits(t, shop(), table, row(num(1)), nowhere)
		expectFits(t, shop(), table, nil, nowhere)
	}
	expectFits(t, api.Schema{}, 0, nil, nowhere)
}

// oddValues are not valid, whatever a column's kind and the mode are.
func oddValues() []api.Value {
	return []api.Value{
		{}, {Kind: -1}, {Kind: 6}, {Kind: 9, Int: 1},
		{Kind: kindBool, Int: 2}, {Kind: kindBool, Int: -1}, {Kind: kindBool, Text: "a"},
		{Kind: kindInt, Text: "1"}, {Kind: kindText, Int: 1}, txt(strings.Repeat("a", api.MaxText+1)),
		{Kind: api.KindHidden, Int: 1}, {Kind: api.KindHidden, Text: "a"},
		{Kind: api.KindMissing, Int: 1}, {Kind: api.KindMissing, Text: "a"},
	}
}

func TestEveryKindOfCellAtEveryPlace(t *testing.T) {
	cells := []api.Value{missing, hidden, no, yes, num(0), num(1), txt(""), txt("a")}
	for _, kind := range []int{kindBool, kindInt, kindText} {
		s := bare(api.Table{Name: "t", Key: 2, Columns: columns(kind, kind, kind, kind)})
		v, _ := value.First(kind)
		for place := range 4 {
			r := row(v, v, v, v)
			for _, cell := range cells {
				r[place] = cell
				expectFits(t, s, 0, r, leastMode(kind, cell, place >= 2))
			}
			for _, cell := range oddValues() {
				r[place] = cell
				expectFits(t, s, 0, r, nowhere)
			}
		}
	}
}

// leastMode returns the first mode in which the cell fits a column of the kind.
func leastMode(kind int, cell api.Value, outside bool) int {
	switch {
	case cell.Kind == kind:
		return server
	case cell == hidden && outside:
		return allowed
	case cell == missing && outside:
		return local
	}
	return nowhere
}

// A valid value fits a column of its kind; that its table refers to a row with another value, or that a check does not hold, is for chapter 9.
func TestFitsDoesNotAskForMore(t *testing.T) {
	expectFits(t, shop(), 1, row(num(-5), txt(""), num(7), yes, num(8)), server)
}

// P7.4

// cellsOfAllKinds returns one cell of each kind.
func cellsOfAllKinds() []api.Value { return []api.Value{missing, hidden, yes, num(3), txt("b")} }

func TestRowsThatFitAreAllowedLater(t *testing.T) {
	rows := []api.Row{nil}
	for range 3 {
		var longer []api.Row
		for _, r := range rows {
			for _, cell := range append(cellsOfAllKinds(), api.Value{Kind: 6}, api.Value{Kind: api.KindHidden, Int: 1}) {
				longer = append(longer, append(slices.Clone(r), cell))
			}
		}
		rows = longer
	}
	for key := -1; key <= 4; key++ {
		s := bare(api.Table{Key: key, Columns: columns(kindInt, kindText, api.KindHidden)})
		for _, r := range rows {
			for _, mode := range []int{server, allowed} {
				if schema.Fits(s, 0, r, mode) && !schema.Fits(s, 0, r, mode+1) {
					t.Fatalf("key %d: %v fits in mode %d, but not in the next one", key, r, mode)
				}
			}
		}
	}
}

func TestReferencesHaveTheKindsOfKeys(t *testing.T) {
	accepted := 0
	for a := range 5 {
		for b := range 5 {
			for table := -1; table <= 2; table++ {
				s := shop()
				s.Tables[1].References[0] = refers(table, a, b)
				if schema.Check(s) == api.OK {
					accepted++
					kinds := schema.Kinds(s, 1)
					if !slices.Equal([]int{kinds[a], kinds[b]}, schema.KeyKinds(s, table)) {
						t.Errorf("columns %d and %d do not have the kinds of the key of table %d", a, b, table)
					}
				}
			}
		}
	}
	if accepted != 3 { // column 1 and one of 0, 2, 4
		t.Errorf("%d references were accepted", accepted)
	}
}

// P7.5

func TestColumnsOfKindHiddenAndMissing(t *testing.T) {
	s := bare(api.Table{Key: 2, Columns: columns(api.KindHidden, api.KindMissing, api.KindHidden, api.KindMissing)})
	expectFits(t, s, 0, row(hidden, missing, hidden, missing), server)
	expectFits(t, s, 0, row(hidden, missing, hidden, hidden), allowed)
	expectFits(t, s, 0, row(hidden, missing, missing, missing), local)
	expectFits(t, s, 0, row(missing, missing, hidden, missing), nowhere)
	expectFits(t, s, 0, row(hidden, hidden, hidden, missing), nowhere)
	for place := range 4 {
		for _, cell := range append(oddValues(), num(1), txt("a"), yes) {
			r := row(hidden, missing, hidden, missing)
			r[place] = cell
			expectFits(t, s, 0, r, nowhere)
		}
	}
}

func TestFitsInSchemasThatAreNotValid(t *testing.T) {
	for _, key := range []int{math.MinInt, -1, 0} { // every column stands outside such a key
		s := bare(api.Table{Key: key, Columns: columns(kindInt, 9)})
		expectFits(t, s, 0, row(hidden, hidden), allowed)
		expectFits(t, s, 0, row(missing, hidden), local)
		expectFits(t, s, 0, row(num(1), api.Value{Kind: 9}), nowhere)
	}
	for _, key := range []int{2, 3, math.MaxInt} { // and none outside these
		s := bare(api.Table{Key: key, Columns: columns(kindInt, kindInt)})
		expectFits(t, s, 0, row(num(1), num(2)), server)
		expectFits(t, s, 0, row(num(1), hidden), nowhere)
		expectFits(t, s, 0, row(num(1), missing), nowhere)
	}
	expectFits(t, bare(api.Table{}), 0, nil, server)
	expectFits(t, bare(api.Table{}), 0, row(hidden), nowhere)
	many := bare(api.Table{Columns: columns(ints(20)...)})
	expectFits(t, many, 0, slices.Repeat(row(hidden), 20), allowed)
}

// R2

func TestArgumentsStayAsTheyAre(t *testing.T) {
	s, cells := roomy(shop()), append(make(api.Row, 0, 8), num(1), txt("a"), num(2), yes, num(3))
	schema.Check(s)
	schema.Find(s, "sales")
	for table := range s.Tables {
		schema.Kinds(s, table)
		schema.KeyKinds(s, table)
		schema.Key(s, table, cells[:2])
		schema.Fits(s, table, cells, local)
	}
	if !reflect.DeepEqual(s, roomy(shop())) || !reflect.DeepEqual(filled(s), filled(roomy(shop()))) {
		t.Error("the schema has changed")
	}
	if !slices.Equal(cells[:8], append(row(num(1), txt("a"), num(2), yes, num(3)), make(api.Row, 3)...)) {
		t.Error("the row has changed")
	}
}

// roomy gives the slices of the schema unused capacity.
func roomy(s api.Schema) api.Schema {
	s.Tables = grown(s.Tables)
	for i := range s.Tables {
		t := &s.Tables[i]
		t.Columns, t.References, t.Checks = grown(t.Columns), grown(t.References), grown(t.Checks)
	}
	return s
}

func grown[T any](items []T) []T { return append(make([]T, 0, len(items)+3), items...) }

// filled shows the unused capacity as well.
func filled(s api.Schema) api.Schema {
	s.Tables = slices.Clone(s.Tables[:cap(s.Tables)])
	for i := range s.Tables {
		t := &s.Tables[i]
		t.Columns, t.References, t.Checks = t.Columns[:cap(t.Columns)], t.References[:cap(t.References)], t.Checks[:cap(t.Checks)]
	}
	return s
}

func TestResultsAreNewMemory(t *testing.T) {
	s, cells := shop(), row(txt("a"), num(1))
	key := schema.Key(s, 0, cells)
	key[0], key[1] = no, no
	_ = append(key[:1], yes)
	if !slices.Equal(cells, row(txt("a"), num(1))) {
		t.Error("Key shares memory with the row")
	}
	for name, kinds := range map[string]func(s api.Schema, table int) []int{"Kinds": schema.Kinds, "KeyKinds": schema.KeyKinds} {
		earlier := kinds(s, 0)
		earlier[0], earlier[1] = 0, 0
		if got := kinds(s, 0); !slices.Equal(got, []int{kindText, kindInt}) {
			t.Errorf("%s keeps memory of an earlier result", name)
		}
	}
	if !reflect.DeepEqual(s, shop()) {
		t.Error("a result shares memory with the schema")
	}
	later := schema.Key(s, 0, cells)
	cells[0] = no
	if later[0] != txt("a") {
		t.Error("Key shares memory with the row")
	}
}
