package table_test

import (
	"fmt"
	"reflect"
	"slices"
	"testing"

	"partsync/api"
	"partsync/table"
)

// R2: what the functions are given stays as it is, and what they return is new memory.

var spare = row(api.Value{Kind: 99, Text: "spare"})

// roomy gives a list unused capacity, filled with items that nobody may change.
func roomy[T any](items []T, filler T) []T {
	l := append(append(make([]T, 0, len(items)+3), items...), filler, filler, filler)
	return l[:len(items)]
}

func roomyRow(r api.Row) api.Row {
	if len(r) == 0 {
		return nil
	}
	return roomy(r, spare[0])
}

func roomyState(st api.State) api.State {
	var lists [][]api.Row
	for _, rows := range st.Tables {
		var l []api.Row
		for _, r := range rows {
			l = append(l, roomyRow(r))
		}
		lists = append(lists, roomy(l, spare))
	}
	return api.State{Tables: roomy(lists, list(spare))}
}

func roomyChanges(changes []change) []change {
	var l []change
	for _, c := range changes {
		l = append(l, change{Table: c.Table, Old: roomyRow(c.Old), New: roomyRow(c.New)})
	}
	return roomy(l, change{Table: 99, New: spare})
}

// wholeRow, wholeState and wholeChanges show the unused capacity as well.
func wholeRow(r api.Row) api.Row { return r[:cap(r)] }

func wholeRows(rows []api.Row) []api.Row {
	var l []api.Row
	for _, r := range rows[:cap(rows)] {
		l = append(l, wholeRow(r))
	}
	return l
}

func wholeState(st api.State) [][]api.Row {
	var lists [][]api.Row
	for _, rows := range st.Tables[:cap(st.Tables)] {
		lists = append(lists, wholeRows(rows))
	}
	return lists
}

func wholeChanges(changes []change) []change {
	var l []change
	for _, c := range changes[:cap(changes)] {
		l = append(l, change{Table: c.Table, Old: wholeRow(c.Old), New: wholeRow(c.New)})
	}
	return l
}

// memory knows the addresses of all items that it was shown, those of unused capacity included.
type memory map[any]string

// see adds everything in x, and tells the test if some of it was seen before.
func (m memory) see(t *testing.T, name string, x any) {
	t.Helper()
	m.seeValue(t, name, reflect.ValueOf(x))
}

func (m memory) seeValue(t *testing.T, name string, v reflect.Value) {
	t.Helper()
	switch v.Kind() {
	case reflect.Struct:
		for i := range v.NumField() {
			m.seeValue(t, name, v.Field(i))
		}
	case reflect.Slice:
		whole := v.Slice3(0, v.Cap(), v.Cap())
		for i := range whole.Len() {
			at := whole.Index(i).Addr().Interface()
			if other, ok := m[at]; ok {
				t.Errorf("%s shares memory with %s", name, other)
				return
			}
			m[at] = name
			if i < v.Len() {
				m.seeValue(t, name, v.Index(i))
			}
		}
	}
}

// busy are changes of every kind that fit the filled state, at both ends and in the middle of its lists.
func busy() []change {
	return []change{
		insert(0, num(-9), txt("n")), remove(0, num(2), txt("a")), insert(0, num(4), txt("n")), replace(0, row(num(0), txt("")), row(num(0), txt("n"))),
		insert(1, num(1), txt("aa"), num(1), no), remove(1, num(1), txt("a"), num(9), no), remove(1, num(2), txt("a"), num(7), no),
		remove(2, yes, txt("a")), remove(2, no, txt("b")), insert(2, yes, txt("c")),
	}
}

func TestArgumentsStayAsTheyAre(t *testing.T) {
	for name, l := range map[string][]change{
		"busy": busy(), "none": nil,
		"last": {remove(0, num(2), txt("a"))}, "last and another": {remove(0, num(2), txt("a")), insert(0, num(3), txt(""))},
		"first": {remove(0, num(-3), txt("z"))}, "a row": {replace(0, row(num(0), txt("")), row(num(0), txt("n")))},
		"a conflict at the end": append(busy(), insert(2, yes, txt("c"))), "an error at the end": append(busy(), change{}),
		"there and back": append(busy(), table.Invert(busy())...),
	} {
		s, st, other, changes := desk(), roomyState(filled()), roomyState(state(filled().Tables[0][1:], nil, nil)), roomyChanges(l)
		before := fmt.Sprint(s, wholeState(st), wholeState(other), wholeChanges(changes))
		table.Check(s, server, st)
		table.Empty(s)
		table.Get(s, st, 1, st.Tables[1][1][:2])
		table.Count(st)
		table.Within(s, other, st)
		table.Within(s, st, other)
		table.Difference(s, server, st, other)
		table.Apply(s, server, st, changes)
		table.Invert(changes)
		table.Net(s, server, changes)
		if after := fmt.Sprint(s, wholeState(st), wholeState(other), wholeChanges(changes)); before != after {
			t.Errorf("%s: arguments have changed: %s, then %s", name, before, after)
		}
	}
}

func TestUnsortedListsStayAsTheyAre(t *testing.T) {
	s, rows := desk(), numbered(0, 50)
	slices.Reverse(rows)
	st := roomyState(state(rows))
	if !table.Within(s, st, st) || !sameRows(st.Tables[0], rows) {
		t.Errorf("the rows are now %v", st.Tables[0])
	}
}

func TestResultsAreNewMemory(t *testing.T) {
	s, st, changes, seen := desk(), roomyState(filled()), roomyChanges(busy()), memory{}
	seen.see(t, "the schema", s)
	seen.see(t, "the state", st)
	seen.see(t, "the changes", changes)
	for turn := range 2 {
		name := func(of string) string { return fmt.Sprint("result ", turn, " of ", of) }
		empty, _ := table.Empty(s)
		seen.see(t, name("Empty"), empty)
		for i, rows := range st.Tables {
			for _, r := range rows {
				got, _ := table.Get(s, st, i, r[:s.Tables[i].Key])
				seen.see(t, name("Get"), got)
			}
		}
		same, _ := table.Apply(s, server, st, nil)
		seen.see(t, name("Apply of nothing"), same)
		after, e := table.Apply(s, server, st, changes)
		seen.see(t, name("Apply"), after)
		for i := range changes {
			some, _ := table.Apply(s, server, st, changes[:i])
			seen.see(t, name("Apply of some"), some)
		}
		diff, _ := table.Difference(s, server, st, after)
		seen.see(t, name("Difference"), diff)
		seen.see(t, name("Invert"), table.Invert(changes))
		net, _ := table.Net(s, server, changes)
		seen.see(t, name("Net"), net)
		if e != api.OK || len(diff) != len(net) || len(net) == 0 {
			t.Errorf("turn %d: %d, %v, %v", turn, e, diff, net)
		}
	}
}

func TestChangesThatShareMemory(t *testing.T) {
	s := bare(1, api.KindInt, api.KindText)
	s.Tables = append(s.Tables, api.Table{Name: "u", Key: 1, Columns: s.Tables[0].Columns})
	r := row(num(1), txt("a"))
	shared := list(r, row(num(2), txt("b")))
	changes := []change{insert(0, r...), insert(1, r...), replace(0, r, r)}
	st, seen := state(nil, shared[1:]), memory{}
	seen.see(t, "the state", st)
	seen.see(t, "a row", r)
	after, e := table.Apply(s, server, st, changes)
	seen.see(t, "Apply", after)
	net, f := table.Net(s, server, changes)
	seen.see(t, "Net", net)
	seen.see(t, "Invert", table.Invert(changes))
	diff, g := table.Difference(s, server, state(shared, shared), state(nil, nil))
	seen.see(t, "Difference", diff)
	one, _ := table.Apply(s, server, state(shared, shared), nil)
	seen.see(t, "Apply of nothing", one)
	if e != api.OK || f != api.OK || g != api.OK || len(net) != 2 || len(diff) != 4 || table.Count(after) != 3 || table.Count(one) != 4 {
		t.Errorf("%v, %v, %v, %v", after, net, diff, one)
	}
}

func TestLaterChangesOfArguments(t *testing.T) {
	s, st, changes := desk(), filled(), busy()
	want, _ := table.Apply(s, server, filled(), busy())
	after, _ := table.Apply(s, server, st, changes)
	net, _ := table.Net(s, server, changes)
	inverse := table.Invert(changes)
	got, _ := table.Get(s, st, 0, row(num(2)))
	st.Tables[0][2][1], st.Tables[1][1][2] = yes, yes
	changes[0].New[1], changes[3].New[0], changes[7].Old[0] = yes, yes, txt("x")
	st.Tables[2] = nil
	wantNet, _ := table.Net(s, server, busy())
	if !sameState(after, want) || !sameChanges(net, wantNet) || !sameChanges(inverse, table.Invert(busy())) || !sameRow(got, row(num(2), txt("a"))) {
		t.Errorf("results have changed: %v, %v, %v, %v", after, net, inverse, got)
	}
}
