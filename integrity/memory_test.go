package integrity_test

import (
	"fmt"
	"reflect"
	"testing"

	"partsync/api"
	"partsync/integrity"
)

// R2: what the functions are given stays as it is, and what they return is new memory.

var spare = row(api.Value{Kind: 99, Text: "spare"})

// roomy gives a list unused capacity, filled with items that nobody may change.
func roomy[T any](items []T, filler T) []T {
	l := append(append(make([]T, 0, len(items)+3), items...), filler, filler, filler)
	return l[:len(items)]
}

func roomyRow(r api.Row) api.Row {
	if len(r) == 0 {
		return nil
	}
	return roomy(r, spare[0])
}

func roomySchema(s api.Schema) api.Schema {
	for i, t := range s.Tables {
		for j, r := range t.References {
			t.References[j].Columns = roomy(r.Columns, 99)
		}
		s.Tables[i].References = roomy(t.References, api.Reference{Table: 99})
		s.Tables[i].Checks = roomy(t.Checks, api.Predicate{Op: 99})
	}
	return s
}

func roomyState(st api.State) api.State {
	var lists [][]api.Row
	for _, rows := range st.Tables {
		var l []api.Row
		for _, r := range rows {
			l = append(l, roomyRow(r))
		}
		lists = append(lists, roomy(l, spare))
	}
	return api.State{Tables: roomy(lists, list(spare))}
}

func roomyChanges(changes []change) []change {
	var l []change
	for _, c := range changes {
		l = append(l, change{Table: c.Table, Old: roomyRow(c.Old), New: roomyRow(c.New)})
	}
	return roomy(l, change{Table: 99, New: spare})
}

// whole shows everything in x as a text, unused capacity included.
func whole(x any) string {
	var text []byte
	walk(reflect.ValueOf(x), func(item reflect.Value) bool {
		text = fmt.Appendf(text, "%v;", item)
		return true
	})
	return string(text)
}

// walk visits the items of all slices in v and, after them, those of their unused capacity, until visit returns false.
func walk(v reflect.Value, visit func(item reflect.Value) bool) bool {
	switch v.Kind() {
	case reflect.Struct:
		for i := range v.NumField() {
			if !walk(v.Field(i), visit) {
				return false
			}
		}
	case reflect.Slice:
		all := v.Slice3(0, v.Cap(), v.Cap())
		for i := range all.Len() {
			if !visit(all.Index(i)) || i < v.Len() && !walk(all.Index(i), visit) {
				return false
			}
		}
	}
	return true
}

// memory knows the addresses of all items that it was shown, those of unused capacity included.
type memory map[any]string

// see adds everything in x, and tells the test if some of it was seen before.
func (m memory) see(t *testing.T, name string, x any) {
	t.Helper()
	walk(reflect.ValueOf(x), func(item reflect.Value) bool {
		at := item.Addr().Interface()
		if other, ok := m[at]; ok {
			t.Errorf("%s shares memory with %s", name, other)
			return false
		}
		m[at] = name
		return true
	})
}

// busy are changes that fit the untidy state and leave many violations.
func busy() []change {
	st := untidy()
	return []change{
		remove(projects, st.Tables[projects][1]...), replace(tasks, st.Tables[tasks][0], st.Tables[tasks][0]), insert(flags, yes, num(-9)),
		remove(people, st.Tables[people][0]...), remove(switches, yes), insert(projects, num(9), txt("")), insert(projects, num(-9), txt("")),
	}
}

func TestArgumentsStayAsTheyAre(t *testing.T) {
	for name, l := range map[string][]change{"busy": busy(), "none": nil, "an error at the end": append(busy(), change{})} {
		s, st, changes := roomySchema(office()), roomyState(untidy()), roomyChanges(l)
		before := whole(s) + whole(st) + whole(changes)
		integrity.Violations(s, st)
		integrity.Recheck(s, st, changes)
		if after := whole(s) + whole(st) + whole(changes); before != after {
			t.Errorf("%s: arguments have changed: %s, then %s", name, before, after)
		}
	}
}

func TestResultsAreNewMemory(t *testing.T) {
	s, st, changes, seen := roomySchema(office()), roomyState(untidy()), roomyChanges(busy()), memory{}
	seen.see(t, "the schema", s.Tables)
	seen.see(t, "the state", st)
	seen.see(t, "the changes", changes)
	for turn := range 2 {
		all, e := integrity.Violations(s, st)
		seen.see(t, fmt.Sprint("result ", turn, " of Violations"), all)
		some, f := integrity.Recheck(s, st, changes)
		seen.see(t, fmt.Sprint("result ", turn, " of Recheck"), some)
		if e != api.OK || f != api.OK || len(all) != 7 || len(some) < 10 {
			t.Errorf("turn %d: %d, %v, %d, %v", turn, e, all, f, some)
		}
	}
}

func TestRowsThatShareMemory(t *testing.T) {
	s, seen := office(), memory{}
	r := row(txt("ann"), num(1), txt("bob"), num(2))
	project := row(num(3), txt(""))
	st := state(list(project), nil, list(r), list(row(no, num(3))), nil)
	changes := []change{replace(projects, project, project), replace(people, r, r), insert(flags, yes, num(4)), insert(tasks, num(-1), num(2), num(3), txt(""))}
	seen.see(t, "the state", st)
	all, e := integrity.Violations(s, st)
	seen.see(t, "Violations", all)
	some, f := integrity.Recheck(s, st, changes)
	seen.see(t, "Recheck", some)
	if e != api.OK || f != api.OK || len(all) != 3 || len(some) != 8 {
		t.Errorf("%d, %v, %d, %v", e, all, f, some)
	}
}

func TestLaterChangesOfArguments(t *testing.T) {
	s, st, changes := office(), untidy(), busy()
	want, _ := integrity.Violations(office(), untidy())
	wantSome, _ := integrity.Recheck(office(), untidy(), busy())
	all, _ := integrity.Violations(s, st)
	some, _ := integrity.Recheck(s, st, changes)
	for _, rows := range st.Tables {
		for _, r := range rows {
			r[0] = hidden
		}
	}
	for _, c := range changes {
		if len(c.New) > 0 {
			c.New[0] = hidden
		}
	}
	if !sameViolations(all, want) || !sameViolations(some, wantSome) {
		t.Errorf("results have changed: %v, %v", all, some)
	}
}
