package table_test

import (
	"fmt"
	"math"
	"math/rand"
	"slices"
	"strings"
	"testing"

	"partsync/api"
	"partsync/schema"
	"partsync/table"
)

const (
	server  = api.ModeServer
	allowed = api.ModeAllowed
	local   = api.ModeLocal
)

var (
	missing = api.Value{Kind: api.KindMissing}
	hidden  = api.Value{Kind: api.KindHidden}
	no      = api.Value{Kind: api.KindBool}
	yes     = api.Value{Kind: api.KindBool, Int: 1}
)

func num(n int64) api.Value                   { return api.Value{Kind: api.KindInt, Int: n} }
func txt(s string) api.Value                  { return api.Value{Kind: api.KindText, Text: s} }
func row(cells ...api.Value) api.Row          { return cells }
func list(rows ...api.Row) []api.Row          { return rows }
func state(lists ...[]api.Row) api.State      { return api.State{Tables: lists} }
func modes() []int                            { return []int{server, allowed, local} }
func extremes() []int                         { return []int{math.MinInt, -1000, -1, 1000, math.MaxInt} }
func insert(t int, r ...api.Value) change     { return change{Table: t, New: r} }
func remove(t int, r ...api.Value) change     { return change{Table: t, Old: r} }
func replace(t int, before, r api.Row) change { return change{Table: t, Old: before, New: r} }

type change = api.Change

// columns returns columns of the kinds, named a, b, c ..
func columns(kinds ...int) []api.Column {
	var l []api.Column
	for i, kind := range kinds {
		l = append(l, api.Column{Name: string(rune('a' + i)), Kind: kind})
	}
	return l
}

// desk is a schema of notes (a number, a text), marks (a number and a text; a number, a bool) and labels (a bool and a text, both of them the key).
func desk() api.Schema {
	return api.Schema{Version: 4, Tables: []api.Table{
		{Name: "notes", Key: 1, Columns: columns(api.KindInt, api.KindText)},
		{Name: "marks", Key: 2, Columns: columns(api.KindInt, api.KindText, api.KindInt, api.KindBool),
			References: []api.Reference{{Columns: []int{0}, Table: 0}}},
		{Name: "labels", Key: 2, Columns: columns(api.KindBool, api.KindText)},
	}}
}

// filled is a valid state of the desk, which need not keep the references.
func filled() api.State {
	return state(
		list(row(num(-3), txt("z")), row(num(0), txt("")), row(num(2), txt("a"))),
		list(row(num(1), txt("a"), num(9), no), row(num(1), txt("b"), num(8), yes), row(num(2), txt("a"), num(7), no)),
		list(row(no, txt("b")), row(yes, txt("a"))))
}

// bare returns a schema of one table with this key and columns.
func bare(key int, kinds ...int) api.Schema {
	return api.Schema{Tables: []api.Table{{Name: "t", Key: key, Columns: columns(kinds...)}}}
}

// numbered returns n notes with the numbers from the first on.
func numbered(first, n int) []api.Row {
	var l []api.Row
	for i := range n {
		l = append(l, row(num(int64(first+i)), txt("n")))
	}
	return l
}

type badSchema struct {
	s    api.Schema
	want api.Errno
}

// badSchemas are like the desk's schema, with an error each.
func badSchemas() []badSchema {
	large, wrong, condition := desk(), desk(), desk()
	large.Tables[2].Columns = columns(slices.Repeat([]int{api.KindBool}, api.MaxColumns+1)...)
	wrong.Version = -1
	condition.Tables[1].Checks = []api.Predicate{{Op: 9}}
	return []badSchema{{large, api.ErrLimit}, {wrong, api.ErrSchema}, {condition, api.ErrPredicate}}
}

func sameRow(a, b api.Row) bool      { return slices.Equal(a, b) }
func sameRows(a, b []api.Row) bool   { return slices.EqualFunc(a, b, sameRow) }
func sameState(a, b api.State) bool  { return slices.EqualFunc(a.Tables, b.Tables, sameRows) }
func sameChanges(a, b []change) bool { return slices.EqualFunc(a, b, sameChange) }
func sameChange(a, b api.Change) bool {
	return a.Table == b.Table && sameRow(a.Old, b.Old) && sameRow(a.New, b.New)
}

func expectCheck(t *testing.T, name string, s api.Schema, mode int, st api.State, want api.Errno) {
	t.Helper()
	if e := table.Check(s, mode, st); e != want {
		t.Errorf("%s: Check in mode %d = %d, want %d", name, mode, e, want)
	}
}

// expectModes checks that the state is valid in the modes from the given one on, and in none if that is 4.
func expectModes(t *testing.T, name string, s api.Schema, st api.State, from int) {
	t.Helper()
	for _, mode := range modes() {
		want := api.OK
		if mode < from {
			want = api.ErrState
		}
		expectCheck(t, name, s, mode, st, want)
	}
}

// P8.1

func TestCheckOfValidStates(t *testing.T) {
	for name, st := range map[string]api.State{
		"three lists":             filled(),
		"lists of nothing":        state(nil, nil, nil),
		"lists of nothing, made":  state(list(), []api.Row{}, make([]api.Row, 0, 4)),
		"rows of the last table":  state(nil, nil, list(row(no, txt("")))),
		"512 notes":               state(numbered(-100, api.MaxRows), nil, nil),
		"512 rows of two tables":  state(numbered(0, api.MaxRows-1), nil, list(row(no, txt("")))),
		"cells outside the key":   state(list(row(num(1), txt("b")), row(num(2), txt("a"))), nil, nil),
		"rows without references": state(nil, list(row(num(77), txt(""), num(0), no)), nil),
	} {
		expectModes(t, name, desk(), st, server)
	}
	expectModes(t, "no tables", api.Schema{}, api.State{}, server)
	expectModes(t, "no tables, made", api.Schema{Tables: []api.Table{}}, state([][]api.Row{}...), server)
}

func TestTheOrderOfCheckErrors(t *testing.T) {
	schemas := append([]badSchema{{desk(), api.OK}}, badSchemas()...)
	states := []struct {
		st   api.State
		want api.Errno
	}{
		{filled(), api.OK},
		{state(nil, list(row(num(1))), nil), api.ErrState},
		{state(nil, nil), api.ErrState},
		{state(numbered(0, api.MaxRows+1), nil, nil), api.ErrLimit},
		{state(numbered(0, api.MaxRows), nil, list(row(no, txt("")))), api.ErrLimit},
		{state(make([]api.Row, api.MaxRows+1), nil, nil), api.ErrLimit},
		{state(nil, nil, nil, make([]api.Row, api.MaxRows+1)), api.ErrLimit},
		{state(make([]api.Row, 300), make([]api.Row, 213)), api.ErrLimit},
		{state(make([]api.Row, 300), make([]api.Row, 212)), api.ErrState},
	}
	for _, s := range schemas {
		for i, c := range states {
			for _, mode := range append(extremes(), 0, 1, 2, 3, 4) {
				want := c.want
				if mode < server || mode > local {
					want = api.ErrArg
				}
				if s.want != api.OK {
					want = s.want
				}
				expectCheck(t, fmt.Sprint("state ", i), s.s, mode, c.st, want)
			}
		}
	}
}

func TestNumberOfLists(t *testing.T) {
	rows := filled().Tables
	for n := range 3 {
		expectModes(t, fmt.Sprint(n, " lists"), desk(), state(rows[:n]...), 4)
	}
	expectModes(t, "no list", desk(), api.State{}, 4)
	expectModes(t, "four lists", desk(), state(append(rows, nil)...), 4)
	expectModes(t, "four lists with rows", desk(), state(append(rows, rows[0])...), 4)
	expectModes(t, "a list for no table", api.Schema{}, state(nil), 4)
}

func TestRowsFitTheMode(t *testing.T) {
	for name, c := range map[string]struct {
		r    api.Row
		from int
	}{
		"real":                    {row(num(1), txt("b"), num(1), yes), server},
		"a hidden cell":           {row(num(1), txt("b"), hidden, yes), allowed},
		"hidden cells":            {row(num(1), txt("b"), hidden, hidden), allowed},
		"a missing cell":          {row(num(1), txt("b"), num(1), missing), local},
		"a hidden, a missing one": {row(num(1), txt("b"), missing, hidden), local},
		"a hidden key":            {row(num(1), hidden, num(1), yes), 4},
		"a missing key":           {row(missing, txt("b"), num(1), yes), 4},
		"a wrong kind":            {row(num(1), txt("b"), txt("1"), yes), 4},
		"not a valid value":       {row(num(1), txt("b"), num(1), api.Value{Kind: api.KindBool, Int: 2}), 4},
		"a Hidden with a number":  {row(num(1), txt("b"), api.Value{Kind: api.KindHidden, Int: 1}, yes), 4},
		"three cells":             {row(num(1), txt("b"), num(1)), 4},
		"five cells":              {row(num(1), txt("b"), num(1), yes, yes), 4},
		"no cells":                {nil, 4},
	} {
		for _, cut := range [][2]int{{1, 3}, {0, 3}, {0, 2}, {1, 2}} { // the row stands first, in the middle, last, alone
			st := filled()
			rows := list(row(num(1), txt("a"), num(9), no), c.r, row(num(2), txt("a"), num(7), no))
			st.Tables[1] = rows[cut[0]:cut[1]]
			expectModes(t, name, desk(), st, c.from)
		}
	}
	st := filled()
	st.Tables[2][1] = row(yes, hidden)
	expectModes(t, "a row of another table", desk(), st, 4)
}

func TestKeysAscend(t *testing.T) {
	// Of all ways to choose three rows, exactly those that stand in this order are a list.
	rows := list(
		row(num(math.MinInt64), txt("b"), num(9), no), row(num(-1), txt(""), num(3), no), row(num(-1), txt("B"), num(3), no),
		row(num(-1), txt("a"), num(2), no), row(num(-1), txt("a\x00"), num(2), no), row(num(-1), txt("\xff"), num(1), no),
		row(num(0), txt(""), num(0), no), row(num(math.MaxInt64), txt(""), num(-5), no))
	for i := range rows {
		for j := range rows {
			for k := range rows {
				from := 4
				if i < j && j < k {
					from = server
				}
				expectModes(t, fmt.Sprint(i, j, k), desk(), state(nil, list(rows[i], rows[j], rows[k]), nil), from)
			}
		}
	}
	for name, st := range map[string]api.State{
		"the rows ascend, the keys do not": state(list(row(num(1), txt("a")), row(num(1), txt("b"))), nil, nil),
		"the first two":                    state(list(row(num(2), txt("")), row(num(1), txt("")), row(num(3), txt(""))), nil, nil),
		"the last two":                     state(list(row(num(1), txt("")), row(num(3), txt("")), row(num(2), txt(""))), nil, nil),
		"in the last table":                state(nil, nil, list(row(yes, txt("a")), row(no, txt("b")))),
		"a row twice":                      state(nil, nil, list(row(yes, txt("a")), row(yes, txt("a")))),
		"one key of 512":                   state(append(numbered(0, 511), row(num(510), txt("z"))), nil, nil),
	} {
		expectModes(t, name, desk(), st, 4)
	}
	expectModes(t, "hidden cells, the same key", desk(), state(list(row(num(1), missing), row(num(1), hidden)), nil, nil), 4)
	expectModes(t, "a longer key", desk(), state(nil, nil, list(row(no, txt("a")), row(no, txt("b")))), server)
}

func TestEmpty(t *testing.T) {
	for _, s := range []api.Schema{{}, desk(), bare(1, api.KindInt)} {
		st, e := table.Empty(s)
		if e != api.OK || len(st.Tables) != len(s.Tables) || table.Count(st) != 0 {
			t.Errorf("Empty = %v, %d", st, e)
		}
		expectModes(t, "the empty state", s, st, server)
	}
	for _, c := range badSchemas() {
		if st, e := table.Empty(c.s); e != c.want || st.Tables != nil {
			t.Errorf("Empty = %v, %d, want %d", st, e, c.want)
		}
	}
}

// P8.2

func expectGet(t *testing.T, s api.Schema, st api.State, in int, key, want api.Row, found bool) {
	t.Helper()
	if got, ok := table.Get(s, st, in, key); !sameRow(got, want) || ok != found {
		t.Errorf("Get(%d, %v) = %v, %v", in, key, got, ok)
	}
}

func TestGetOfValidStates(t *testing.T) {
	s, st := desk(), filled()
	for i, rows := range st.Tables {
		for _, r := range rows {
			expectGet(t, s, st, i, schema.Key(s, i, r), r, true)
		}
	}
	for in, keys := range [][]api.Row{
		{nil, row(num(1)), row(num(-4)), row(num(3)), row(txt("a")), row(num(2), txt("a")), row(missing)},
		{nil, row(num(1)), row(num(1), txt("c")), row(num(2), txt("b")), row(num(1), txt("a"), num(9)), row(num(1), txt("a"), num(9), no), row(txt("a"), num(1))},
		{nil, row(no), row(yes, txt("b")), row(num(0), txt("b")), row(no, txt("a"))},
	} {
		for _, key := range keys {
			expectGet(t, s, st, in, key, nil, false)
		}
	}
}

func TestGetWithoutTableOrList(t *testing.T) {
	s, st := desk(), filled()
	st.Tables = append(st.Tables, st.Tables[0])
	for _, in := range append(extremes(), 3, 4) {
		for _, key := range []api.Row{nil, {}, row(num(2)), row(num(0))} {
			expectGet(t, s, st, in, key, nil, false)
			expectGet(t, api.Schema{}, st, in, key, nil, false)
			expectGet(t, s, api.State{}, in, key, nil, false)
		}
	}
	expectGet(t, s, state(st.Tables[:2]...), 2, row(no, txt("b")), nil, false)
	expectGet(t, s, state(nil, nil, nil), 0, row(num(2)), nil, false)
	expectGet(t, api.Schema{}, filled(), 0, row(num(2)), nil, false)
}

func TestGetOfStatesThatAreNotValid(t *testing.T) {
	odd := api.Value{Kind: 7, Int: 2, Text: "x"}
	st := state(list(row(num(5), txt("a")), row(num(1), txt("b")), row(num(5), txt("c")), row(odd), nil, row(num(1), txt("d"), yes), row(hidden, odd), row(num(0))))
	s := bare(1, api.KindInt, api.KindText)
	expectGet(t, s, st, 0, row(num(5)), row(num(5), txt("a")), true)
	expectGet(t, s, st, 0, row(num(1)), row(num(1), txt("b")), true)
	expectGet(t, s, st, 0, row(odd), row(odd), true)
	expectGet(t, s, st, 0, nil, nil, true)
	expectGet(t, s, st, 0, row(hidden), row(hidden, odd), true)
	expectGet(t, s, st, 0, row(num(0)), row(num(0)), true)
	expectGet(t, s, st, 0, row(api.Value{Kind: 7, Int: 2}), nil, false)

	two := bare(2, api.KindInt, api.KindText) // a row with fewer cells than the key is its own key
	expectGet(t, two, st, 0, row(num(5)), nil, false)
	expectGet(t, two, st, 0, row(num(0)), row(num(0)), true)
	expectGet(t, two, st, 0, row(num(5), txt("c")), row(num(5), txt("c")), true)
	expectGet(t, two, st, 0, row(num(1), txt("d")), row(num(1), txt("d"), yes), true)
}

func TestGetInSchemasThatAreNotValid(t *testing.T) {
	st := state(list(row(num(5), txt("a")), row(num(1), txt("b"), yes), nil))
	for _, key := range []int{math.MinInt, -1, 0} { // P8.8
		s := bare(key, api.KindInt)
		expectGet(t, s, st, 0, nil, row(num(5), txt("a")), true)
		expectGet(t, s, st, 0, api.Row{}, row(num(5), txt("a")), true)
		expectGet(t, s, st, 0, row(num(5)), nil, false)
		expectGet(t, s, state(nil), 0, nil, nil, false)
	}
	for _, key := range []int{3, 1000, math.MaxInt} {
		s := bare(key)
		expectGet(t, s, st, 0, row(num(5)), nil, false)
		expectGet(t, s, st, 0, row(num(5), txt("a")), row(num(5), txt("a")), true)
		expectGet(t, s, st, 0, row(num(1), txt("b"), yes), row(num(1), txt("b"), yes), true)
		expectGet(t, s, st, 0, nil, nil, true)
	}
}

func TestCount(t *testing.T) {
	for want, st := range map[int]api.State{
		0:    {},
		8:    filled(),
		2:    state(nil, list(nil, nil), nil, nil),
		3:    state(list(row(num(1))), nil, nil, nil, nil, nil, nil, nil, nil, nil, list(nil, row(yes))),
		1500: state(numbered(0, 500), numbered(0, 500), numbered(0, 500)),
	} {
		if n := table.Count(st); n != want {
			t.Errorf("Count = %d, want %d", n, want)
		}
	}
	if n := table.Count(state(nil, list(), nil)); n != 0 {
		t.Errorf("Count of lists of nothing = %d", n)
	}
}

// P8.6

func TestWithinOfOneRow(t *testing.T) {
	s := desk()
	full := row(num(1), txt("a"), num(9), hidden)
	for name, c := range map[string]struct {
		part api.Row
		want bool
	}{
		"the row":                     {full, true},
		"a missing cell":              {row(num(1), txt("a"), missing, hidden), true},
		"missing cells":               {row(num(1), txt("a"), missing, missing), true},
		"a Missing with a number":     {row(num(1), txt("a"), num(9), api.Value{Kind: api.KindMissing, Int: 3}), true},
		"a Missing with a text":       {row(num(1), txt("a"), api.Value{Kind: api.KindMissing, Text: "x"}, hidden), true},
		"another number":              {row(num(1), txt("a"), num(8), hidden), false},
		"a hidden cell":               {row(num(1), txt("a"), hidden, hidden), false},
		"a cell that is hidden":       {row(num(1), txt("a"), num(9), yes), false},
		"a Hidden with a number":      {row(num(1), txt("a"), num(9), api.Value{Kind: api.KindHidden, Int: 1}), false},
		"another key":                 {row(num(1), txt("b"), num(9), hidden), false},
		"a missing key":               {row(num(1), missing, num(9), hidden), false},
		"fewer cells":                 {row(num(1), txt("a"), num(9)), false},
		"the key alone":               {row(num(1), txt("a")), false},
		"a part of the key":           {row(num(1)), false},
		"more cells":                  {row(num(1), txt("a"), num(9), hidden, missing), false},
		"no cells":                    {nil, false},
		"the same number, of no kind": {row(num(1), txt("a"), api.Value{Int: 9}, hidden), false},
	} {
		rows := list(row(num(1), txt("A"), num(9), hidden), full, row(num(2), txt("a"), num(9), hidden))
		if got := table.Within(s, state(nil, list(c.part)), state(nil, rows)); got != c.want {
			t.Errorf("%s: Within = %v", name, got)
		}
		if got := table.Within(s, state(nil, list(rows[2], c.part, rows[0])), state(nil, rows)); got != c.want {
			t.Errorf("%s, among others: Within = %v", name, got)
		}
	}
	if table.Within(s, state(nil, list(row(num(1), txt("a"), num(9), hidden))), state(nil, list(row(num(1), txt("a"), missing, hidden)))) {
		t.Error("a cell that is not there")
	}
}

func TestWithinOfLists(t *testing.T) {
	s, st := desk(), filled()
	none, odd := state(nil, nil, nil), state(nil, nil, nil, nil, list())
	for name, c := range map[string]struct {
		a, b api.State
		want bool
	}{
		"itself":                          {st, st, true},
		"nothing":                         {none, st, true},
		"no list":                         {api.State{}, st, true},
		"no list, in none":                {api.State{}, api.State{}, true},
		"empty lists without a table":     {odd, api.State{}, true},
		"some of the rows":                {state(st.Tables[0][1:2], nil, st.Tables[2][:1]), st, true},
		"one list":                        {state(st.Tables[0]), st, true},
		"one row too many":                {st, state(st.Tables[0], st.Tables[1], st.Tables[2][:1]), false},
		"rows in nothing":                 {st, none, false},
		"rows in no list":                 {st, api.State{}, false},
		"the last list is not there":      {st, state(st.Tables[:2]...), false},
		"an empty list that is not there": {state(st.Tables[0], st.Tables[1], nil), state(st.Tables[:2]...), true},
		"the row of another table":        {state(nil, nil, st.Tables[0]), state(st.Tables[0], nil, nil), false},
		"a list without a table":          {state(nil, nil, nil, list(row(num(1)))), state(nil, nil, nil, list(row(num(1)))), false},
		"a list of no cells":              {state(nil, nil, nil, list(nil)), state(nil, nil, nil, list(nil)), false},
		"a list of b without a table":     {st, state(append(slices.Clone(st.Tables), list(row(num(1))))...), true},
	} {
		if got := table.Within(s, c.a, c.b); got != c.want {
			t.Errorf("%s: Within = %v", name, got)
		}
	}
	if table.Within(api.Schema{}, st, st) || !table.Within(api.Schema{}, none, st) {
		t.Error("Within without tables")
	}
}

func TestWithinLooksAtTheFirstRowWithAKey(t *testing.T) {
	s := bare(1, api.KindInt, api.KindText)
	first, second := row(num(1), txt("a")), row(num(1), txt("b"))
	for _, between := range []int{0, 1, 40} { // so many rows that sorting them is not a matter of a few steps
		rows := list(first)
		for i := range between {
			rows = append(rows, row(num(int64(1-i%3)), txt("c")), row(num(int64(50-i)), txt("d")))
		}
		rows = append(rows, second)
		if !table.Within(s, state(list(first)), state(rows)) || table.Within(s, state(list(second)), state(rows)) {
			t.Errorf("%d rows between", between)
		}
	}
	for _, key := range []int{-1, 0} { // all rows have the same key: P8.8
		b := state(list(second, first))
		if s := bare(key, api.KindInt); !table.Within(s, state(list(second)), b) || table.Within(s, state(list(first)), b) {
			t.Errorf("key %d", key)
		}
	}
}

// withinByGet is P8.6, word by word.
func withinByGet(s api.Schema, a, b api.State) bool {
	for i, rows := range a.Tables {
		if len(rows) > 0 && i >= len(s.Tables) {
			return false
		}
		for _, r := range rows {
			other, ok := table.Get(s, b, i, schema.Key(s, i, r))
			if !ok || len(other) != len(r) {
				return false
			}
			for j, cell := range r {
				if cell.Kind != api.KindMissing && cell != other[j] {
					return false
				}
			}
		}
	}
	return true
}

func TestWithinOfMadeStates(t *testing.T) {
	made, within := rand.New(rand.NewSource(8)), 0
	cells := []api.Value{missing, num(1), num(2), hidden, {Kind: api.KindMissing, Int: 5}, {Kind: 9}}
	rows := func(most int) []api.Row {
		var l []api.Row
		for range made.Intn(most + 1) {
			r := row()
			for range []int{0, 1, 2, 2, 2, 2, 3}[made.Intn(7)] {
				r = append(r, cells[min(made.Intn(8), made.Intn(6))])
			}
			l = append(l, r)
		}
		return l
	}
	for range 60000 {
		s := bare(made.Intn(5)-1, api.KindInt, api.KindInt)
		s.Tables = append(s.Tables, s.Tables[0])[:1+made.Intn(2)]
		a, b := state(rows(2), rows(1)), state(rows(12), rows(12))
		want := withinByGet(s, a, b)
		if got := table.Within(s, a, b); got != want {
			t.Fatalf("key %d: Within(%v, %v) = %v", s.Tables[0].Key, a, b, got)
		}
		if want && table.Count(a) > 0 {
			within++
		}
	}
	if within < 2000 {
		t.Errorf("only %d states were within another", within)
	}
}

// P8.7

func TestWithinIsReflexiveAndTransitive(t *testing.T) {
	s, cells := bare(1, api.KindInt, api.KindInt), []api.Value{num(1), num(2), hidden, missing}
	lists := [][]api.Row{nil}
	for key := range 2 {
		for _, l := range slices.Clone(lists) {
			for _, cell := range cells {
				lists = append(lists, append(slices.Clip(l), row(num(int64(key)), cell)))
			}
		}
	}
	for _, a := range lists {
		if !table.Within(s, state(a), state(a)) {
			t.Errorf("%v is not within itself", a)
		}
		for _, b := range lists {
			for _, c := range lists {
				if table.Within(s, state(a), state(b)) && table.Within(s, state(b), state(c)) && !table.Within(s, state(a), state(c)) {
					t.Errorf("%v is within %v, that is within %v, but not the first within the last", a, b, c)
				}
			}
		}
	}
}

// R1

func TestManyRowsAndLists(t *testing.T) {
	many := state(numbered(0, 1<<17), nil)
	slices.Reverse(many.Tables[0])
	s := bare(1, api.KindInt, api.KindText)
	if !table.Within(s, many, many) || table.Count(many) != 1<<17 {
		t.Error("many rows")
	}
	expectGet(t, s, many, 0, row(num(5)), row(num(5), txt("n")), true)
	expectCheck(t, "many rows", s, server, many, api.ErrLimit)
	expectCheck(t, "many lists", s, server, api.State{Tables: make([][]api.Row, 1<<20)}, api.ErrState)
	long := state(list(row(slices.Repeat([]api.Value{txt(strings.Repeat("x", 1000))}, 1000)...)))
	expectCheck(t, "a long row", s, server, long, api.ErrState)
	if !table.Within(s, long, long) {
		t.Error("a long row")
	}
}
