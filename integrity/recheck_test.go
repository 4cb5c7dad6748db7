package integrity_test

import (
	"math/rand"
	"slices"
	"testing"

	"partsync/api"
	"partsync/integrity"
	"partsync/schema"
	"partsync/table"
)

type change = api.Change

func insert(t int, r ...api.Value) change     { return change{Table: t, New: r} }
func remove(t int, r ...api.Value) change     { return change{Table: t, Old: r} }
func replace(t int, before, r api.Row) change { return change{Table: t, Old: before, New: r} }

func expectRecheck(t *testing.T, name string, s api.Schema, st api.State, changes []change, want ...violation) {
	t.Helper()
	if got, e := integrity.Recheck(s, st, changes); !sameViolations(got, want) || e != api.OK {
		t.Errorf("%s: Recheck = %v, %d, want %v", name, got, e, want)
	}
}

// recheckByRule is P9.2 for changes that fit the state, word by word.
func recheckByRule(s api.Schema, after api.State, changes []change) []violation {
	var found []violation
	for _, v := range violationsByRule(s, after) {
		if slices.ContainsFunc(changes, func(c change) bool { return causedByRule(s, after, c, v) }) {
			found = append(found, v)
		}
	}
	return found
}

// causedByRule reports whether the change may have caused the violation.
func causedByRule(s api.Schema, after api.State, c change, v violation) bool {
	if len(c.New) > 0 && c.Table == v.Table && sameRow(schema.Key(s, c.Table, c.New), v.Key) {
		return true
	}
	if len(c.Old) == 0 || v.Kind != api.ViolatesReference {
		return false
	}
	ref := s.Tables[v.Table].References[v.Index]
	r, _ := table.Get(s, after, v.Table, v.Key)
	key := schema.Key(s, c.Table, c.Old)
	return c.Table == ref.Table && sameRow(targetByRule(ref, r), key) && !presentByRule(s, after, c.Table, key)
}

// expectRules checks Recheck against P9.2 and P9.3, and returns the number of violations; -1 if the changes do not fit the state.
func expectRules(t *testing.T, s api.Schema, st api.State, changes []change) int {
	t.Helper()
	after, e := table.Apply(s, api.ModeServer, st, changes)
	got, f := integrity.Recheck(s, st, changes)
	if e != api.OK {
		if f != e || len(got) != 0 {
			t.Errorf("Recheck(%v, %v) = %v, %d, want %d", st, changes, got, f, e)
		}
		return -1
	}
	if want := recheckByRule(s, after, changes); !sameViolations(got, want) || f != api.OK {
		t.Errorf("Recheck(%v, %v) = %v, %d, want %v", st, changes, got, f, want)
	}
	before, e := integrity.Violations(s, st)
	all, f := integrity.Violations(s, after)
	if e != api.OK || f != api.OK || !sameViolations(before, violationsByRule(s, st)) || !sameViolations(all, violationsByRule(s, after)) {
		t.Errorf("Violations(%v) = %v, %d; Violations(%v) = %v, %d", st, before, e, after, all, f)
	}
	if len(before) == 0 && !sameViolations(got, all) {
		t.Errorf("Recheck(%v, %v) = %v, but all violations are %v", st, changes, got, all)
	}
	among := func(v violation) bool {
		return slices.ContainsFunc(all, func(w violation) bool { return sameViolation(v, w) })
	}
	if slices.ContainsFunc(got, func(v violation) bool { return !among(v) }) {
		t.Errorf("Recheck(%v, %v) = %v, but all violations are only %v", st, changes, got, all)
	}
	return len(got)
}

// P9.2

// untidy is the tidy state with a flag of no switch and no project, and a task without owner and project that fails both checks.
func untidy() api.State {
	st := tidy()
	st.Tables[flags] = append(list(row(no, num(-7))), st.Tables[flags]...)
	st.Tables[tasks] = append(list(row(num(-4), num(5), num(1), txt("zoe"))), st.Tables[tasks]...)
	st.Tables[switches] = list(row(yes))
	return st
}

func TestRecheckOfATidyState(t *testing.T) {
	a, b := row(num(1), txt("a")), row(num(2), txt("b"))
	ann7, bob := tidy().Tables[people][0], tidy().Tables[people][2]
	for name, c := range map[string]struct {
		changes []change
		want    []violation
	}{
		"nothing":                         {},
		"a deletion":                      {[]change{remove(projects, b...)}, []violation{reference(tasks, 0, num(3))}},
		"a deletion of what many name":    {[]change{remove(projects, a...)}, []violation{reference(tasks, 0, num(2)), reference(tasks, 0, num(4)), reference(flags, 1, no, num(1)), reference(flags, 1, yes, num(1))}},
		"a deletion of what none names":   {[]change{insert(projects, num(9), txt("z")), remove(projects, num(9), txt("z"))}, nil},
		"a replacement":                   {[]change{replace(projects, a, row(num(1), txt("c")))}, nil},
		"a replacement, then a deletion":  {[]change{replace(projects, b, row(num(2), txt("c"))), remove(projects, num(2), txt("c"))}, []violation{reference(tasks, 0, num(3))}},
		"out and in":                      {[]change{remove(projects, a...), insert(projects, a...)}, nil},
		"out and another in":              {[]change{remove(projects, a...), insert(projects, num(1), txt("c"))}, nil},
		"out, in, out":                    {[]change{remove(projects, b...), insert(projects, b...), remove(projects, b...)}, []violation{reference(tasks, 0, num(3))}},
		"out, and what names it":          {[]change{remove(projects, b...), remove(tasks, tidy().Tables[tasks][1]...)}, nil},
		"what names it, and out":          {[]change{remove(tasks, tidy().Tables[tasks][1]...), remove(projects, b...)}, nil},
		"out, what names it names others": {[]change{remove(projects, b...), replace(tasks, tidy().Tables[tasks][1], row(num(3), num(1), num(7), txt("bob")))}, nil},
		"out, and a new one that names":   {[]change{remove(projects, b...), insert(tasks, num(5), num(2), num(7), txt("bob"))}, []violation{reference(tasks, 0, num(3)), reference(tasks, 0, num(5))}},
		"an insertion":                    {[]change{insert(projects, num(7), txt("g"))}, nil},
		"an insertion that fails a check": {[]change{insert(projects, num(7), txt(""))}, []violation{check(projects, 0, num(7))}},
		"a replacement that fails":        {[]change{replace(projects, a, row(num(1), txt("")))}, []violation{check(projects, 0, num(1))}},
		"fails, and is mended":            {[]change{replace(projects, a, row(num(1), txt(""))), replace(projects, row(num(1), txt("")), a)}, nil},
		"fails, and is gone":              {[]change{insert(projects, num(7), txt("")), remove(projects, num(7), txt(""))}, nil},
		"fails all":                       {[]change{insert(tasks, num(-7), num(5), num(7), txt("zoe"))}, []violation{reference(tasks, 0, num(-7)), reference(tasks, 1, num(-7)), check(tasks, 0, num(-7)), check(tasks, 1, num(-7))}},
		"names a row that comes later":    {[]change{insert(flags, no, num(8)), insert(projects, num(8), txt("h"))}, nil},
		"names itself":                    {[]change{insert(people, txt("cy"), num(1), txt("cy"), num(1))}, nil},
		"names nobody":                    {[]change{insert(people, txt("cy"), num(1), txt("cy"), num(2))}, []violation{reference(people, 0, txt("cy"), num(1))}},
		"named and naming":                {[]change{remove(people, ann7...)}, []violation{reference(tasks, 1, num(2)), reference(people, 0, txt("ann"), num(8))}},
		"a boss of itself":                {[]change{remove(people, bob...)}, []violation{reference(tasks, 1, num(4)), reference(people, 0, txt("ann"), num(7))}},
		"a boss of a boss is replaced":    {[]change{replace(people, bob, row(txt("bob"), num(7), txt("bob"), num(8)))}, []violation{reference(people, 0, txt("bob"), num(7))}},
		"a later table":                   {[]change{remove(switches, no)}, []violation{reference(flags, 0, no, num(1))}},
		"a replacement without effect":    {[]change{replace(flags, row(no, num(1)), row(no, num(1)))}, nil},
		"three tables, not in their order": {[]change{remove(switches, yes), insert(flags, no, num(0)), insert(projects, num(5), txt("")), remove(projects, b...), insert(projects, num(-5), txt(""))},
			[]violation{check(projects, 0, num(-5)), check(projects, 0, num(5)), reference(tasks, 0, num(3)), reference(flags, 1, no, num(0)), reference(flags, 0, yes, num(-1)), reference(flags, 0, yes, num(1))}},
	} {
		expectRecheck(t, name, office(), tidy(), c.changes, c.want...)
		if n := expectRules(t, office(), tidy(), c.changes); n != len(c.want) {
			t.Errorf("%s: %d violations", name, n)
		}
	}
}

func TestRecheckOfAStateWithViolations(t *testing.T) {
	task, flag := untidy().Tables[tasks][0], row(no, num(-7))
	ofTask := []violation{reference(tasks, 0, num(-4)), reference(tasks, 1, num(-4)), check(tasks, 0, num(-4)), check(tasks, 1, num(-4))}
	ofFlag := []violation{reference(flags, 0, flag...), reference(flags, 1, flag...)}
	five := row(num(5), txt("v"))
	for name, c := range map[string]struct {
		changes []change
		want    []violation
	}{
		"nothing":                              {},
		"other rows":                           {[]change{insert(projects, num(9), txt("z")), insert(tasks, num(9), num(1), num(7), txt("bob")), remove(flags, yes, num(-1))}, nil},
		"another row that fails":               {[]change{insert(projects, num(9), txt(""))}, []violation{check(projects, 0, num(9))}},
		"a replacement without effect":         {[]change{replace(tasks, task, task)}, ofTask},
		"out and in":                           {[]change{remove(flags, flag...), insert(flags, flag...)}, ofFlag},
		"both":                                 {[]change{replace(flags, flag, flag), replace(tasks, task, task)}, append(slices.Clone(ofTask), ofFlag...)},
		"out":                                  {[]change{remove(tasks, task...)}, nil},
		"mended in part":                       {[]change{replace(tasks, task, row(num(-4), num(1), num(1), txt("zoe")))}, ofTask[1:]},
		"mended from the other side":           {[]change{insert(projects, five...)}, nil},
		"so, and written":                      {[]change{insert(projects, five...), replace(tasks, task, task)}, ofTask[1:]},
		"what it names is in and out":          {[]change{insert(projects, five...), remove(projects, five...)}, ofTask[:1]},
		"what it names is in, out and in":      {[]change{insert(projects, five...), remove(projects, five...), insert(projects, five...)}, nil},
		"a switch in and out":                  {[]change{insert(switches, no), remove(switches, no)}, []violation{reference(flags, 0, no, num(-7)), reference(flags, 0, no, num(1))}},
		"the same key of another table":        {[]change{insert(tasks, num(5), num(1), num(7), txt("bob")), remove(tasks, num(5), num(1), num(7), txt("bob"))}, nil},
		"the same key in another table":        {[]change{insert(projects, num(-4), txt("d")), replace(projects, row(num(-4), txt("d")), row(num(-4), txt("e")))}, nil},
		"the project of the flag, in and out":  {[]change{insert(projects, num(-7), txt("d")), remove(projects, num(-7), txt("d"))}, ofFlag[1:]},
		"the owner, in and out":                {[]change{insert(people, txt("zoe"), num(1), txt("bob"), num(7)), remove(people, txt("zoe"), num(1), txt("bob"), num(7))}, ofTask[1:2]},
		"the owner's name, in and out":         {[]change{insert(people, txt("zoe"), num(2), txt("bob"), num(7)), remove(people, txt("zoe"), num(2), txt("bob"), num(7))}, nil},
		"a new row with its part of the key":   {[]change{insert(flags, no, num(2))}, []violation{reference(flags, 0, no, num(2))}},
		"the last cell of another row's key":   {[]change{insert(flags, yes, num(-7)), remove(flags, yes, num(-7))}, nil},
		"a deleted row has no violations left": {[]change{replace(flags, flag, flag), remove(flags, flag...)}, nil},
	} {
		expectRecheck(t, name, office(), untidy(), c.changes, c.want...)
		if n := expectRules(t, office(), untidy(), c.changes); n != len(c.want) {
			t.Errorf("%s: %d violations", name, n)
		}
	}
	want := append(slices.Clone(ofTask), reference(flags, 0, flag...), reference(flags, 1, flag...), reference(flags, 0, no, num(1)))
	expectViolations(t, "untidy", office(), untidy(), want...)
}

func TestTheExampleOfTheChapter(t *testing.T) {
	s := api.Schema{Tables: []api.Table{
		{Name: "projects", Key: 1, Columns: columns(api.KindInt)},
		{Name: "tasks", Key: 1, Columns: columns(api.KindInt, api.KindInt), References: []api.Reference{{Columns: []int{1}, Table: 0}}},
	}}
	st := state(list(row(num(1))), list(row(num(7), num(1))))
	expectRecheck(t, "the example", s, st, []change{remove(0, num(1))}, reference(1, 0, num(7)))
	expectRecheck(t, "both out", s, st, []change{remove(0, num(1)), remove(1, num(7), num(1))})
}

func TestErrorsOfRecheck(t *testing.T) {
	good := insert(projects, num(9), txt("z"))
	large := make([]api.Row, api.MaxRows+1)
	var fill []api.Row
	for i := range api.MaxRows {
		fill = append(fill, row(num(int64(i)), txt("n")))
	}
	filled := state(fill, nil, nil, nil, nil)
	for i, c := range []struct {
		st      api.State
		changes []change
		want    api.Errno
	}{
		{tidy(), []change{good}, api.OK},
		{api.State{}, nil, api.ErrState},
		{api.State{}, []change{{}}, api.ErrState},
		{state(list(row(num(1), hidden)), nil, nil, nil, nil), []change{remove(projects, num(1), hidden)}, api.ErrState},
		{state(large), []change{{}}, api.ErrLimit},
		{tidy(), []change{{}}, api.ErrRow},
		{tidy(), []change{{Table: projects, Old: row(), New: row()}}, api.ErrRow},
		{tidy(), []change{good, insert(5, num(1), txt("a"))}, api.ErrRow},
		{tidy(), []change{good, insert(-1, num(1), txt("a"))}, api.ErrRow},
		{tidy(), []change{insert(projects, num(9), hidden)}, api.ErrRow},
		{tidy(), []change{insert(projects, num(9), missing)}, api.ErrRow},
		{tidy(), []change{insert(projects, num(9))}, api.ErrRow},
		{tidy(), []change{replace(projects, row(num(1), txt("a")), row(num(9), txt("a")))}, api.ErrRow},
		{tidy(), []change{good, good}, api.ErrConflict},
		{tidy(), []change{good, good, {}}, api.ErrConflict},
		{tidy(), []change{good, {}, good}, api.ErrRow},
		{tidy(), []change{remove(projects, num(1), txt("b"))}, api.ErrConflict},
		{tidy(), []change{remove(projects, num(9), txt("z"))}, api.ErrConflict},
		{tidy(), []change{insert(projects, num(1), txt(""))}, api.ErrConflict},
		{filled, nil, api.OK},
		{filled, []change{insert(projects, num(-1), txt("z"))}, api.ErrLimit},
		{filled, []change{insert(projects, num(-1), txt("z")), remove(projects, num(-1), txt("z"))}, api.ErrLimit},
		{filled, []change{remove(projects, num(5), txt("n")), insert(projects, num(-1), txt("z"))}, api.OK},
	} {
		if _, e := table.Apply(office(), api.ModeServer, c.st, c.changes); e != c.want {
			t.Errorf("%d: Apply has the error %d, want %d", i, e, c.want)
		}
		if got, e := integrity.Recheck(office(), c.st, c.changes); len(got) != 0 || e != c.want {
			t.Errorf("%d: Recheck = %v, %d, want %d", i, got, e, c.want)
		}
		for j, b := range badSchemas() {
			if got, e := integrity.Recheck(b.s, c.st, c.changes); len(got) != 0 || e != b.want {
				t.Errorf("schema %d, %d: Recheck = %v, %d, want %d", j, i, got, e, b.want)
			}
		}
	}
}

func TestRecheckOfManyRows(t *testing.T) {
	s, st := full()
	var changes, first []change
	for i, rows := range st.Tables {
		for _, r := range rows {
			changes = append(changes, replace(i, r, r))
		}
		first = append(first, changes[len(changes)-1])
	}
	expectRecheck(t, "all rows", s, st, changes, violationsByRule(s, st)...)
	expectRecheck(t, "all rows, many times", s, st, slices.Repeat(changes, 5), violationsByRule(s, st)...)
	expectRecheck(t, "one of each table", s, st, first, recheckByRule(s, st, first)...)
	expectRecheck(t, "none", s, st, nil)
	for i := range st.Tables { // a row of 3 in four of the tables names this one, which is there only for a moment, in place of another
		r := row(append(row(num(-1)), slices.Repeat([]api.Value{num(3)}, 7)...)...)
		moment := []change{remove(7, st.Tables[7][63]...), insert(i, r...), remove(i, r...)}
		if n := expectRules(t, s, st, moment); n != 4 {
			t.Errorf("table %d: %d violations", i, n)
		}
	}
}

// P9.3

// ring is a small schema of nodes (id, next node) and links (from, to; both of them the key), and returns all states of it.
func ring() (api.Schema, []api.State) {
	s := api.Schema{Tables: []api.Table{
		{Name: "nodes", Key: 1, Columns: columns(api.KindBool, api.KindBool),
			References: []api.Reference{{Columns: []int{1}, Table: 0}}},
		{Name: "links", Key: 2, Columns: columns(api.KindBool, api.KindBool),
			References: []api.Reference{{Columns: []int{1}, Table: 0}, {Columns: []int{1, 0}, Table: 1}},
			Checks:     []api.Predicate{compare(column(0), api.CmpGe, column(1))}},
	}}
	var states []api.State
	for _, first := range [][]api.Row{nil, list(row(no, no)), list(row(no, yes))} {
		for _, second := range [][]api.Row{nil, list(row(yes, no)), list(row(yes, yes))} {
			for bits := range 16 {
				var links []api.Row
				for i, r := range ringLinks() {
					if bits>>i&1 == 1 {
						links = append(links, r)
					}
				}
				states = append(states, state(slices.Concat(first, second), links))
			}
		}
	}
	return s, states
}

func ringLinks() []api.Row { return list(row(no, no), row(no, yes), row(yes, no), row(yes, yes)) }

func ringChanges() []change {
	changes := []change{{}}
	for _, id := range []api.Value{no, yes} {
		for _, before := range []api.Row{nil, row(id, no), row(id, yes)} {
			for _, after := range []api.Row{nil, row(id, no), row(id, yes)} {
				if before != nil || after != nil {
					changes = append(changes, replace(0, before, after))
				}
			}
		}
	}
	for _, r := range ringLinks() {
		changes = append(changes, insert(1, r...), remove(1, r...), replace(1, r, r))
	}
	return changes
}

func TestAllShortChangesOfARing(t *testing.T) {
	s, states := ring()
	counts := map[int]int{}
	for _, st := range states {
		counts[expectRules(t, s, st, nil)]++
		for _, c := range ringChanges() {
			counts[expectRules(t, s, st, []change{c})]++
			for _, d := range ringChanges() {
				counts[expectRules(t, s, st, []change{c, d})]++
			}
		}
	}
	for n := -1; n < 5; n++ {
		if counts[n] < 100 {
			t.Errorf("only %d of the changes had %d violations", counts[n], n)
		}
	}
}

// madeChange returns a change of the office that most often fits the state.
func madeChange(made *rand.Rand, st api.State) change {
	in := made.Intn(len(st.Tables))
	small := func() api.Value { return num(int64(made.Intn(6) - 1)) }
	name := func() api.Value { return txt([]string{"ann", "bob", "bo", ""}[made.Intn(4)]) }
	fresh := list(row(small(), name()), row(small(), small(), small(), name()), row(name(), small(), name(), small()),
		row([]api.Value{no, yes}[made.Intn(2)], small()), row([]api.Value{no, yes}[made.Intn(2)]))[in]
	if len(st.Tables[in]) == 0 || made.Intn(5) < 2 {
		return insert(in, fresh...)
	}
	r := st.Tables[in][made.Intn(len(st.Tables[in]))]
	if made.Intn(2) == 0 {
		return remove(in, r...)
	}
	return replace(in, r, append(schema.Key(office(), in, r), fresh[office().Tables[in].Key:]...))
}

func TestMadeChangesOfTheOffice(t *testing.T) {
	made, counts := rand.New(rand.NewSource(90)), map[int]int{}
	s := office()
	for range 400 {
		start := tidy()
		for range made.Intn(4) { // a state that may have violations
			if after, e := table.Apply(s, api.ModeServer, start, []change{madeChange(made, start)}); e == api.OK {
				start = after
			}
		}
		st := start
		var changes []change
		for range 1 + made.Intn(30) {
			c := madeChange(made, st)
			after, e := table.Apply(s, api.ModeServer, st, []change{c})
			if e == api.OK {
				st = after
			} else if made.Intn(50) > 0 {
				continue
			}
			changes = append(changes, c)
		}
		counts[min(expectRules(t, s, start, changes), 10)]++
	}
	if counts[-1] < 10 || counts[0] < 10 || counts[10] < 10 || counts[4] < 10 {
		t.Errorf("the changes had these numbers of violations: %v", counts)
	}
}
