package integrity_test

import (
	"fmt"
	"math"
	"slices"
	"testing"

	"partsync/api"
	"partsync/integrity"
	"partsync/predicate"
	"partsync/schema"
	"partsync/table"
)

const (
	projects = iota
	tasks
	people
	flags
	switches
)

var (
	missing = api.Value{Kind: api.KindMissing}
	hidden  = api.Value{Kind: api.KindHidden}
	no      = api.Value{Kind: api.KindBool}
	yes     = api.Value{Kind: api.KindBool, Int: 1}
)

func num(n int64) api.Value              { return api.Value{Kind: api.KindInt, Int: n} }
func txt(s string) api.Value             { return api.Value{Kind: api.KindText, Text: s} }
func row(cells ...api.Value) api.Row     { return cells }
func list(rows ...api.Row) []api.Row     { return rows }
func state(lists ...[]api.Row) api.State { return api.State{Tables: lists} }

type violation = api.Violation

func reference(table, index int, key ...api.Value) violation {
	return violation{Kind: api.ViolatesReference, Table: table, Key: key, Index: index}
}

func check(table, index int, key ...api.Value) violation {
	return violation{Kind: api.ViolatesCheck, Table: table, Key: key, Index: index}
}

func column(i int) api.Operand         { return api.Operand{Kind: api.OperandColumn, Index: i} }
func constant(v api.Value) api.Operand { return api.Operand{Kind: api.OperandValue, Value: v} }

func compare(left api.Operand, cmp int, right api.Operand) api.Predicate {
	return api.Predicate{Op: api.PredCompare, Cmp: cmp, Left: left, Right: right}
}

func tree(op int, args ...api.Predicate) api.Predicate { return api.Predicate{Op: op, Args: args} }

// columns returns columns of the kinds, named a, b, c ..
func columns(kinds ...int) []api.Column {
	var l []api.Column
	for i, kind := range kinds {
		l = append(l, api.Column{Name: string(rune('a' + i)), Kind: kind})
	}
	return l
}

// office is a schema whose references lead to an earlier table, a later one and their own, also with their columns in another order. Its tables are projects (number, name), tasks (number, project, room of the owner, name of the owner), people (name, room; name and room of the boss), flags (on, project; both of them the key) and switches (on).
func office() api.Schema {
	b, n, t := api.KindBool, api.KindInt, api.KindText
	return api.Schema{Version: 2, Tables: []api.Table{
		{Name: "projects", Key: 1, Columns: columns(n, t),
			Checks: []api.Predicate{compare(column(1), api.CmpNe, constant(txt("")))}},
		{Name: "tasks", Key: 1, Columns: columns(n, n, n, t),
			References: []api.Reference{{Columns: []int{1}, Table: projects}, {Columns: []int{3, 2}, Table: people}},
			Checks:     []api.Predicate{compare(column(0), api.CmpGe, constant(num(0))), compare(column(1), api.CmpLt, column(0))}},
		{Name: "people", Key: 2, Columns: columns(t, n, t, n),
			References: []api.Reference{{Columns: []int{2, 3}, Table: people}}},
		{Name: "flags", Key: 2, Columns: columns(b, n),
			References: []api.Reference{{Columns: []int{0}, Table: switches}, {Columns: []int{1}, Table: projects}}},
		{Name: "switches", Key: 1, Columns: columns(b)},
	}}
}

// tidy is a state of the office without violations.
func tidy() api.State {
	return state(
		list(row(num(-1), txt("x")), row(num(1), txt("a")), row(num(2), txt("b"))),
		list(row(num(2), num(1), num(7), txt("ann")), row(num(3), num(2), num(8), txt("ann")), row(num(4), num(1), num(7), txt("bob"))),
		list(row(txt("ann"), num(7), txt("bob"), num(7)), row(txt("ann"), num(8), txt("ann"), num(7)), row(txt("bob"), num(7), txt("bob"), num(7))),
		list(row(no, num(1)), row(yes, num(-1)), row(yes, num(1))),
		list(row(no), row(yes)))
}

type badSchema struct {
	s    api.Schema
	want api.Errno
}

// badSchemas are like the office's schema, with an error each.
func badSchemas() []badSchema {
	large, wrong, stray, condition, parameter := office(), office(), office(), office(), office()
	large.Tables[flags].References = slices.Repeat(large.Tables[flags].References, 3)
	wrong.Version = -1
	stray.Tables[flags].References[0].Table = 5
	condition.Tables[projects].Checks[0].Cmp = 0
	parameter.Tables[projects].Checks[0].Right = api.Operand{Kind: api.OperandParam}
	return []badSchema{{large, api.ErrLimit}, {wrong, api.ErrSchema}, {stray, api.ErrSchema}, {condition, api.ErrPredicate}, {parameter, api.ErrPredicate}}
}

func sameRow(a, b api.Row) bool { return slices.Equal(a, b) }
func sameViolation(a, b violation) bool {
	return a.Kind == b.Kind && a.Table == b.Table && a.Index == b.Index && sameRow(a.Key, b.Key)
}
func sameViolations(a, b []violation) bool { return slices.EqualFunc(a, b, sameViolation) }

func expectViolations(t *testing.T, name string, s api.Schema, st api.State, want ...violation) {
	t.Helper()
	if got, e := integrity.Violations(s, st); !sameViolations(got, want) || e != api.OK {
		t.Errorf("%s: Violations = %v, %d, want %v", name, got, e, want)
	}
}

// violationsByRule is P9.1 for a valid state, word by word; a loop in the order of the promise needs no sorting.
func violationsByRule(s api.Schema, st api.State) []violation {
	var found []violation
	for i, rows := range st.Tables {
		for _, r := range rows {
			for j, ref := range s.Tables[i].References {
				if !presentByRule(s, st, ref.Table, targetByRule(ref, r)) {
					found = append(found, reference(i, j, schema.Key(s, i, r)...))
				}
			}
			for j, c := range s.Tables[i].Checks {
				if !predicate.Holds(c, r, nil) {
					found = append(found, check(i, j, schema.Key(s, i, r)...))
				}
			}
		}
	}
	return found
}

func targetByRule(ref api.Reference, r api.Row) api.Row {
	var cells api.Row
	for _, c := range ref.Columns {
		cells = append(cells, r[c])
	}
	return cells
}

func presentByRule(s api.Schema, st api.State, in int, key api.Row) bool {
	return slices.ContainsFunc(st.Tables[in], func(r api.Row) bool { return sameRow(schema.Key(s, in, r), key) })
}

// P9.1

func TestNoViolations(t *testing.T) {
	expectViolations(t, "tidy", office(), tidy())
	expectViolations(t, "no rows", office(), state(nil, nil, nil, nil, nil))
	expectViolations(t, "no tables", api.Schema{}, api.State{})
	bare := office()
	for i := range bare.Tables {
		bare.Tables[i].References, bare.Tables[i].Checks = nil, nil
	}
	st := tidy()
	st.Tables[projects], st.Tables[switches] = nil, nil
	expectViolations(t, "no references and no checks", bare, st)
}

func TestReferencesToRowsThatAreNotThere(t *testing.T) {
	for name, c := range map[string]struct {
		in   int
		rows []api.Row
		want []violation
	}{
		"a project":         {projects, list(row(num(-1), txt("x")), row(num(1), txt("a"))), []violation{reference(tasks, 0, num(3))}},
		"another project":   {projects, list(row(num(-1), txt("x")), row(num(2), txt("a"))), []violation{reference(tasks, 0, num(2)), reference(tasks, 0, num(4)), reference(flags, 1, no, num(1)), reference(flags, 1, yes, num(1))}},
		"the first project": {projects, tidy().Tables[projects][1:], []violation{reference(flags, 1, yes, num(-1))}},
		"all projects":      {projects, nil, []violation{reference(tasks, 0, num(2)), reference(tasks, 0, num(3)), reference(tasks, 0, num(4)), reference(flags, 1, no, num(1)), reference(flags, 1, yes, num(-1)), reference(flags, 1, yes, num(1))}},
		"a switch":          {switches, list(row(yes)), []violation{reference(flags, 0, no, num(1))}},
		"another switch":    {switches, list(row(no)), []violation{reference(flags, 0, yes, num(-1)), reference(flags, 0, yes, num(1))}},
		"a boss":            {people, tidy().Tables[people][:2], []violation{reference(tasks, 1, num(4)), reference(people, 0, txt("ann"), num(7))}},
		"a boss of others":  {people, tidy().Tables[people][1:], []violation{reference(tasks, 1, num(2)), reference(people, 0, txt("ann"), num(8))}},
		"nobody's boss":     {people, list(tidy().Tables[people][0], tidy().Tables[people][2]), []violation{reference(tasks, 1, num(3))}},
		"another room": {people, list(row(txt("ann"), num(7), txt("bob"), num(8)), row(txt("ann"), num(8), txt("bob"), num(7)), row(txt("bob"), num(7), txt("ann"), num(8))),
			[]violation{reference(people, 0, txt("ann"), num(7))}},
		"a task without a project": {tasks, list(row(num(9), num(0), num(7), txt("ann"))), []violation{reference(tasks, 0, num(9))}},
		"a task without an owner":  {tasks, list(row(num(9), num(1), num(8), txt("bob"))), []violation{reference(tasks, 1, num(9))}},
		"a task without both":      {tasks, list(row(num(9), num(3), num(7), txt("an"))), []violation{reference(tasks, 0, num(9)), reference(tasks, 1, num(9))}},
		"a flag without both":      {flags, list(row(no, num(5)), row(yes, num(1))), []violation{reference(flags, 1, no, num(5))}},
	} {
		st := tidy()
		st.Tables[c.in] = c.rows
		expectViolations(t, name, office(), st, c.want...)
		if want := violationsByRule(office(), st); !sameViolations(c.want, want) {
			t.Errorf("%s: %v by rule", name, want)
		}
	}
}

func TestReferencesOfEachIndex(t *testing.T) {
	n := api.KindInt
	s := api.Schema{Tables: []api.Table{
		{Name: "u", Key: 1, Columns: columns(n, n, n, n, n), References: []api.Reference{{Columns: []int{1}, Table: 1}, {Columns: []int{2}, Table: 1}, {Columns: []int{3}, Table: 1}, {Columns: []int{4}, Table: 1}}},
		{Name: "v", Key: 1, Columns: columns(n)},
		{Name: "w", Key: 2, Columns: columns(n, n, n), References: []api.Reference{{Columns: []int{2, 2}, Table: 2}, {Columns: []int{1, 0}, Table: 2}, {Columns: []int{1, 0}, Table: 2}}},
	}}
	for bits := range 16 {
		r, want := row(num(0)), []violation(nil)
		for i := range 4 {
			if bits>>i&1 == 0 {
				r = append(r, num(8))
				continue
			}
			r = append(r, num(9))
			want = append(want, reference(0, i, num(0)))
		}
		expectViolations(t, fmt.Sprint(r), s, state(list(r), list(row(num(8))), nil), want...)
	}
	expectViolations(t, "a column twice", s, state(nil, nil, list(row(num(1), num(1), num(1)))))
	expectViolations(t, "exchanged columns", s, state(nil, nil, list(row(num(1), num(1), num(1)), row(num(1), num(2), num(2)))),
		reference(2, 0, num(1), num(2)), reference(2, 1, num(1), num(2)), reference(2, 2, num(1), num(2)))
	expectViolations(t, "both orders", s, state(nil, nil, list(row(num(1), num(2), num(2)), row(num(2), num(1), num(2)), row(num(2), num(2), num(0)))),
		reference(2, 0, num(2), num(2)))
}

// edges are valid values of the kind, the least and the greatest ones among them.
func edges(kind int) []api.Value {
	switch kind {
	case api.KindBool:
		return []api.Value{no, yes}
	case api.KindInt:
		return []api.Value{num(math.MinInt64), num(-1), num(0), num(1), num(math.MaxInt64)}
	}
	return []api.Value{txt(""), txt("\x00"), txt("a"), txt("a\x00"), txt("ab"), txt("b"), txt("\xff")}
}

func TestReferencesOfEachKind(t *testing.T) {
	for _, kind := range []int{api.KindBool, api.KindInt, api.KindText} {
		s := api.Schema{Tables: []api.Table{
			{Name: "u", Key: 1, Columns: columns(kind)},
			{Name: "v", Key: 1, Columns: columns(api.KindInt, kind), References: []api.Reference{{Columns: []int{1}, Table: 0}}},
		}}
		for bits := range 1 << len(edges(kind)) {
			var keys, rows []api.Row
			var want []violation
			for i, v := range edges(kind) {
				rows = append(rows, row(num(int64(i)), v))
				if bits>>i&1 == 1 {
					keys = append(keys, row(v))
				} else {
					want = append(want, reference(1, 0, num(int64(i))))
				}
			}
			expectViolations(t, fmt.Sprint("kind ", kind), s, state(keys, rows), want...)
		}
	}
}

func TestChecks(t *testing.T) {
	limited := compare(column(1), api.CmpLe, constant(num(5)))
	for i, c := range []struct {
		check api.Predicate
		holds func(a, b int64) bool
	}{
		{tree(api.PredTrue), func(a, b int64) bool { return true }},
		{tree(api.PredFalse), func(a, b int64) bool { return false }},
		{tree(api.PredAnd), func(a, b int64) bool { return true }},
		{tree(api.PredOr), func(a, b int64) bool { return false }},
		{limited, func(a, b int64) bool { return b <= 5 }},
		{tree(api.PredNot, limited), func(a, b int64) bool { return b > 5 }},
		{compare(column(0), api.CmpNe, column(1)), func(a, b int64) bool { return a != b }},
		{tree(api.PredOr, limited, compare(column(0), api.CmpEq, column(1))), func(a, b int64) bool { return b <= 5 || a == b }},
		{compare(constant(num(1)), api.CmpGt, constant(num(2))), func(a, b int64) bool { return false }},
	} {
		s := api.Schema{Tables: []api.Table{{Name: "t", Key: 1, Columns: columns(api.KindInt, api.KindInt)}}}
		other := tree(api.PredTrue)
		for _, l := range []struct {
			checks []api.Predicate
			at     []int
		}{{[]api.Predicate{c.check}, []int{0}}, {[]api.Predicate{other, c.check, other, c.check}, []int{1, 3}}} {
			s.Tables[0].Checks = l.checks
			var rows []api.Row
			var want []violation
			for a := range int64(10) {
				b := (a + 4) * 3 % 10
				rows = append(rows, row(num(a), num(b)))
				for _, j := range l.at {
					if !c.holds(a, b) {
						want = append(want, check(0, j, num(a)))
					}
				}
			}
			expectViolations(t, fmt.Sprint("check ", i), s, state(rows), want...)
		}
	}
}

func TestTheOrderOfViolations(t *testing.T) {
	never := tree(api.PredFalse)
	b, n, tx := api.KindBool, api.KindInt, api.KindText
	lost := api.Reference{Columns: []int{1}, Table: 2}
	s := api.Schema{Tables: []api.Table{
		{Name: "u", Key: 2, Columns: columns(tx, n), References: []api.Reference{lost, lost, lost, lost}, Checks: []api.Predicate{never, never, never, never}},
		{Name: "v", Key: 1, Columns: columns(b, n), References: []api.Reference{lost, lost}, Checks: []api.Predicate{tree(api.PredTrue), never}},
		{Name: "w", Key: 1, Columns: columns(n), Checks: []api.Predicate{never}},
	}}
	st := state(
		list(row(txt(""), num(9)), row(txt("a"), num(-2)), row(txt("a"), num(1)), row(txt("a"), num(10)), row(txt("aa"), num(-5)), row(txt("b"), num(-9)), row(txt("\xff"), num(0))),
		list(row(no, num(7)), row(yes, num(1))),
		list(row(num(-9)), row(num(1))))
	var want []violation
	for _, r := range st.Tables[0] {
		for i := range 4 {
			if r[1] != num(-9) && r[1] != num(1) {
				want = append(want, reference(0, i, r...))
			}
		}
		want = append(want, check(0, 0, r...), check(0, 1, r...), check(0, 2, r...), check(0, 3, r...))
	}
	want = append(want, reference(1, 0, no), reference(1, 1, no), check(1, 1, no), check(1, 1, yes), check(2, 0, num(-9)), check(2, 0, num(1)))
	expectViolations(t, "all fields", s, st, want...)
}

func TestErrorsOfViolations(t *testing.T) {
	large := slices.Repeat(list(row(num(1), txt("a"))), api.MaxRows+1)
	states := []struct {
		st   api.State
		want api.Errno
	}{
		{tidy(), api.OK},
		{api.State{}, api.ErrState},
		{state(tidy().Tables[:4]...), api.ErrState},
		{state(append(tidy().Tables, nil)...), api.ErrState},
		{state(list(row(num(1), hidden)), nil, nil, nil, nil), api.ErrState},
		{state(list(row(num(1), missing)), nil, nil, nil, nil), api.ErrState},
		{state(list(row(num(1), num(1))), nil, nil, nil, nil), api.ErrState},
		{state(list(row(num(1))), nil, nil, nil, nil), api.ErrState},
		{state(list(row(num(2), txt("")), row(num(1), txt(""))), nil, nil, nil, nil), api.ErrState},
		{state(large[:2], nil, nil, nil, nil), api.ErrState},
		{state(nil, nil, nil, list(row(yes, hidden)), nil), api.ErrState},
		{state(large, nil, nil, nil, nil), api.ErrLimit},
		{state(large), api.ErrLimit},
	}
	for i, c := range states {
		if e := table.Check(office(), api.ModeServer, c.st); e != c.want {
			t.Errorf("state %d: Check = %d, want %d", i, e, c.want)
		}
		if got, e := integrity.Violations(office(), c.st); len(got) != 0 || e != c.want {
			t.Errorf("state %d: Violations = %v, %d, want %d", i, got, e, c.want)
		}
		for j, b := range badSchemas() {
			if got, e := integrity.Violations(b.s, c.st); len(got) != 0 || e != b.want {
				t.Errorf("schema %d, state %d: Violations = %v, %d, want %d", j, i, got, e, b.want)
			}
		}
	}
}

// full is a schema of the largest size with all its references and checks violated by the 512 rows of its state.
func full() (api.Schema, api.State) {
	var s api.Schema
	var st api.State
	for i := range api.MaxTables {
		t := api.Table{Name: fmt.Sprint("t", i), Key: api.MaxColumns - 1, Columns: columns(slices.Repeat([]int{api.KindInt}, api.MaxColumns)...)}
		for j := range api.MaxReferences {
			t.References = append(t.References, api.Reference{Columns: []int{7, 6, 5, 4, 3, 2, 1}, Table: (i + j) % api.MaxTables})
			t.Checks = append(t.Checks, compare(column(7), api.CmpEq, column(j)))
		}
		s.Tables = append(s.Tables, t)
		var rows []api.Row
		for j := range api.MaxRows / api.MaxTables {
			r := row(slices.Repeat([]api.Value{num(int64(j))}, api.MaxColumns)...)
			r[7] = num(-1)
			rows = append(rows, r)
		}
		st.Tables = append(st.Tables, rows)
	}
	return s, st
}

func TestManyViolations(t *testing.T) {
	s, st := full()
	want := violationsByRule(s, st)
	if len(want) != 8*api.MaxRows {
		t.Errorf("%d violations by rule", len(want))
	}
	expectViolations(t, "full", s, st, want...)
}
