package table_test

import (
	"fmt"
	"math/rand"
	"slices"
	"testing"

	"partsync/api"
	"partsync/schema"
	"partsync/table"
	"partsync/value"
)

func expectApply(t *testing.T, name string, s api.Schema, mode int, st api.State, changes []change, want api.State, e api.Errno) {
	t.Helper()
	if got, err := table.Apply(s, mode, st, changes); !sameState(got, want) || err != e {
		t.Errorf("%s: Apply in mode %d = %v, %d, want %v, %d", name, mode, got, err, want, e)
	}
}

// expectRefused checks that Apply returns this error, and no state.
func expectRefused(t *testing.T, name string, st api.State, e api.Errno, changes ...change) {
	t.Helper()
	expectApply(t, name, desk(), server, st, changes, api.State{}, e)
}

func expectNet(t *testing.T, name string, s api.Schema, mode int, changes, want []change, e api.Errno) {
	t.Helper()
	if got, err := table.Net(s, mode, changes); !sameChanges(got, want) || err != e {
		t.Errorf("%s: Net in mode %d = %v, %d, want %v, %d", name, mode, got, err, want, e)
	}
}

// notValid are changes that are not valid for the desk at the server.
func notValid() map[string]change {
	return map[string]change{
		"nothing":                     {},
		"nothing, made":               {Table: 1, Old: row(), New: row()},
		"no such table":               insert(3, num(1)),
		"a table below 0":             remove(-1, num(1), txt("a")),
		"nothing, of no table":        {Table: 3},
		"a short row":                 insert(0, num(5)),
		"a long row":                  insert(0, num(5), txt("a"), txt("b")),
		"a short old row":             remove(0, num(2)),
		"a wrong kind":                insert(0, num(5), num(6)),
		"a hidden cell":               insert(0, num(5), hidden),
		"a missing cell":              insert(0, num(5), missing),
		"a hidden old cell":           remove(0, num(2), hidden),
		"a hidden key":                insert(0, hidden, txt("a")),
		"no valid value":              insert(0, num(5), api.Value{Kind: api.KindText, Int: 1}),
		"two keys":                    replace(0, row(num(2), txt("a")), row(num(3), txt("a"))),
		"two keys, the same 1st cell": replace(1, row(num(1), txt("a"), num(9), no), row(num(1), txt("c"), num(9), no)),
		"two keys that are rows":      replace(2, row(no, txt("b")), row(yes, txt("b"))),
		"a new row that does not fit": replace(0, row(num(2), txt("a")), row(num(2))),
		"an old row that does not":    replace(0, row(num(2), num(1)), row(num(2), txt("a"))),
		"rows of another table":       replace(2, row(num(2), txt("a")), row(num(2), txt("b"))),
	}
}

// conflicts are valid changes that do not fit the filled state.
func conflicts() map[string]change {
	return map[string]change{
		"an insertion of the row":         insert(0, num(2), txt("a")),
		"an insertion of the key":         insert(0, num(2), txt("b")),
		"of the first key":                insert(0, num(-3), txt("b")),
		"of a longer key":                 insert(1, num(1), txt("b"), num(0), no),
		"of a row that is a key":          insert(2, yes, txt("a")),
		"a deletion of another row":       remove(0, num(2), txt("b")),
		"a deletion of none":              remove(0, num(3), txt("a")),
		"a deletion before the first row": remove(0, num(-4), txt("z")),
		"a deletion between two rows":     remove(0, num(1), txt("")),
		"a deletion in another table":     remove(1, num(2), txt("b"), num(7), no),
		"a replacement of another row":    replace(0, row(num(2), txt("b")), row(num(2), txt("c"))),
		"a replacement by the row":        replace(0, row(num(2), txt("b")), row(num(2), txt("a"))),
		"a replacement of none":           replace(0, row(num(9), txt("b")), row(num(9), txt("c"))),
		"of none by the same":             replace(0, row(num(9), txt("b")), row(num(9), txt("b"))),
		"of another one by the same":      replace(0, row(num(2), txt("b")), row(num(2), txt("b"))),
	}
}

// P8.3

func TestApplyOneChange(t *testing.T) {
	for name, c := range map[string]struct {
		c    change
		want [][]api.Row
	}{
		"an insertion first":       {insert(0, num(-9), txt("n")), [][]api.Row{slices.Insert(filled().Tables[0], 0, row(num(-9), txt("n")))}},
		"an insertion between":     {insert(0, num(1), txt("n")), [][]api.Row{slices.Insert(filled().Tables[0], 2, row(num(1), txt("n")))}},
		"an insertion last":        {insert(0, num(3), txt("n")), [][]api.Row{slices.Insert(filled().Tables[0], 3, row(num(3), txt("n")))}},
		"a deletion first":         {remove(0, num(-3), txt("z")), [][]api.Row{filled().Tables[0][1:]}},
		"a deletion between":       {remove(0, num(0), txt("")), [][]api.Row{slices.Delete(filled().Tables[0], 1, 2)}},
		"a deletion last":          {remove(0, num(2), txt("a")), [][]api.Row{filled().Tables[0][:2]}},
		"a replacement":            {replace(0, row(num(0), txt("")), row(num(0), txt("n"))), [][]api.Row{slices.Replace(filled().Tables[0], 1, 2, row(num(0), txt("n")))}},
		"a replacement by itself":  {replace(0, row(num(0), txt("")), row(num(0), txt(""))), nil},
		"with a key of two cells":  {insert(1, num(1), txt("aa"), num(0), no), [][]api.Row{nil, slices.Insert(filled().Tables[1], 1, row(num(1), txt("aa"), num(0), no))}},
		"with a key of the row":    {remove(2, no, txt("b")), [][]api.Row{nil, nil, filled().Tables[2][1:]}},
		"with a reference to none": {insert(1, num(77), txt("a"), num(0), no), [][]api.Row{nil, append(filled().Tables[1], row(num(77), txt("a"), num(0), no))}},
	} {
		want := filled()
		for i, rows := range c.want {
			if rows != nil {
				want.Tables[i] = rows
			}
		}
		for _, mode := range modes() {
			expectApply(t, name, desk(), mode, filled(), []change{c.c}, want, api.OK)
		}
	}
	for _, mode := range modes() {
		expectApply(t, "no change", desk(), mode, filled(), nil, filled(), api.OK)
		expectApply(t, "no table", api.Schema{}, mode, api.State{}, nil, api.State{}, api.OK)
	}
}

func TestApplyInTurn(t *testing.T) {
	a, b, c := row(num(2), txt("a")), row(num(2), txt("b")), row(num(2), txt("c"))
	changes := []change{replace(0, a, b), remove(0, b...), insert(0, c...), insert(0, num(7), txt("x")), replace(0, c, a), remove(0, num(0), txt("")), remove(0, num(7), txt("x")), insert(2, no, txt(""))}
	want := filled()
	want.Tables[0] = slices.Delete(want.Tables[0], 1, 2)
	want.Tables[2] = slices.Insert(want.Tables[2], 0, row(no, txt("")))
	expectApply(t, "in turn", desk(), server, filled(), changes, want, api.OK)
	expectRefused(t, "a row twice", filled(), api.ErrConflict, insert(0, b[0], txt("n")), insert(0, num(7), txt("x")))
	expectRefused(t, "inserted twice", filled(), api.ErrConflict, insert(0, num(7), txt("x")), insert(0, num(7), txt("x")))
	expectRefused(t, "deleted twice", filled(), api.ErrConflict, remove(0, a...), remove(0, a...))
	expectRefused(t, "as it was before", filled(), api.ErrConflict, replace(0, a, b), replace(0, a, c))
	expectRefused(t, "deleted, then replaced", filled(), api.ErrConflict, remove(0, a...), replace(0, a, b))
	every := state(nil, nil, nil)
	var all []change
	for i, rows := range filled().Tables {
		for _, r := range rows {
			all = append(all, remove(i, r...))
		}
	}
	expectApply(t, "every row", desk(), server, filled(), all, every, api.OK)
	expectApply(t, "back", desk(), server, every, table.Invert(all), filled(), api.OK)
}

func TestExampleOfTheChapter(t *testing.T) {
	s, st := bare(1, api.KindInt, api.KindText), state(list(row(num(1), txt("a"))))
	changes := []change{insert(0, num(2), txt("b")), remove(0, num(2), txt("b"))}
	expectApply(t, "without effect", s, server, st, changes, st, api.OK)
	expectNet(t, "without effect", s, server, changes, nil, api.OK)
	expectApply(t, "a key that is there", s, server, st, []change{insert(0, num(1), txt("c"))}, api.State{}, api.ErrConflict)
}

func TestChangesFitTheMode(t *testing.T) {
	for _, c := range []struct {
		cell api.Value
		from int
	}{{txt("n"), server}, {hidden, allowed}, {missing, local}, {yes, 4}, {api.Value{Kind: api.KindMissing, Int: 1}, 4}} {
		r, plain := row(num(5), c.cell), row(num(5), txt("p"))
		for _, mode := range modes() {
			e := api.OK
			if mode < c.from {
				e = api.ErrRow
			}
			for name, change := range map[string]change{"old": remove(0, r...), "new": insert(0, r...), "both": replace(0, r, r), "old, and another": replace(0, r, plain), "new, and another": replace(0, plain, r)} {
				var want []api.Change
				if e == api.OK && !sameRow(change.Old, change.New) {
					want = []api.Change{change}
				}
				expectNet(t, name, desk(), mode, []api.Change{change}, want, e)
				before, after := state(nil, nil, nil), state(nil, nil, nil)
				if len(change.Old) > 0 && e == api.OK {
					before.Tables[0] = list(change.Old)
				}
				if len(change.New) > 0 {
					after.Tables[0] = list(change.New)
				}
				if e != api.OK {
					after = api.State{}
				}
				expectApply(t, name, desk(), mode, before, []api.Change{change}, after, e)
			}
		}
	}
}

func TestErrorsOfApply(t *testing.T) {
	for name, c := range notValid() {
		expectRefused(t, name, filled(), api.ErrRow, c)
		for other, d := range conflicts() {
			expectRefused(t, name+", "+other, filled(), api.ErrRow, c, d)
			expectRefused(t, other+", "+name, filled(), api.ErrConflict, d, c)
			expectRefused(t, other+", "+name+", in turn", filled(), api.ErrConflict, insert(0, num(50), txt("")), d, insert(0, num(51), txt("")), c)
		}
	}
	for name, c := range conflicts() {
		expectRefused(t, name, filled(), api.ErrConflict, c)
		expectRefused(t, name+", last", filled(), api.ErrConflict, insert(0, num(50), txt("")), remove(1, num(1), txt("a"), num(9), no), c)
	}
}

func TestApplyNeedsAValidState(t *testing.T) {
	wrong := []change{{}}
	for _, changes := range [][]change{nil, wrong} {
		for _, c := range badSchemas() {
			expectApply(t, "schema", c.s, 9, state(), changes, api.State{}, c.want)
		}
		expectApply(t, "mode", desk(), 0, state(), changes, api.State{}, api.ErrArg)
		expectApply(t, "mode", desk(), 4, state(numbered(0, 513)), changes, api.State{}, api.ErrArg)
		expectApply(t, "rows", desk(), server, state(numbered(0, 513)), changes, api.State{}, api.ErrLimit)
		expectApply(t, "lists", desk(), server, state(nil, nil), changes, api.State{}, api.ErrState)
		masked := state(list(row(num(1), hidden)), nil, nil)
		expectApply(t, "masked", desk(), server, masked, changes, api.State{}, api.ErrState)
	}
	masked := state(list(row(num(1), hidden)), nil, nil)
	expectApply(t, "masked", desk(), allowed, masked, nil, masked, api.OK)
	expectApply(t, "masked", desk(), allowed, masked, []change{replace(0, row(num(1), hidden), row(num(1), txt("a")))}, state(list(row(num(1), txt("a"))), nil, nil), api.OK)
	expectApply(t, "masked", desk(), allowed, masked, []change{remove(0, num(1), txt("a"))}, api.State{}, api.ErrConflict)
}

// P8.3 and P8.8
func TestApplyToAFullState(t *testing.T) {
	full := state(numbered(1, 500), nil, nil)
	for _, r := range numbered(1, api.MaxRows-500) {
		full.Tables[2] = append(full.Tables[2], row(no, txt(fmt.Sprintf("%02d", r[0].Int))))
	}
	first, more, label := row(num(1), txt("n")), insert(0, num(0), txt("")), insert(2, yes, txt(""))
	expectRefused(t, "one more", full, api.ErrLimit, more)
	expectRefused(t, "one more, in another table", full, api.ErrLimit, label)
	expectRefused(t, "one more, one less", full, api.ErrLimit, more, remove(0, first...))
	expectRefused(t, "one more, itself less", full, api.ErrLimit, more, table.Invert([]change{more})[0])
	expectRefused(t, "one less, two more", full, api.ErrLimit, remove(0, first...), more, label)
	expectRefused(t, "one more, then not valid", full, api.ErrLimit, more, change{})
	expectRefused(t, "one more, then a conflict", full, api.ErrLimit, more, more)
	expectRefused(t, "not valid, then one more", full, api.ErrRow, change{}, more)
	expectRefused(t, "not valid itself", full, api.ErrRow, insert(0, num(0), num(0)))
	expectRefused(t, "a conflict, then one more", full, api.ErrConflict, remove(0, num(0), txt("")), more)
	expectRefused(t, "a conflict itself", full, api.ErrConflict, insert(0, num(1), txt("")))

	after := state(append(list(more.New), full.Tables[0][1:]...), full.Tables[1], full.Tables[2])
	expectApply(t, "one less, one more", desk(), server, full, []change{remove(0, first...), more}, after, api.OK)
	after = state(full.Tables[0][1:], full.Tables[1], append(slices.Clone(full.Tables[2]), label.New))
	expectApply(t, "one less, one more elsewhere", desk(), server, full, []change{remove(0, first...), label}, after, api.OK)
	after = state(append(list(row(num(1), txt("m"))), full.Tables[0][1:]...), full.Tables[1], full.Tables[2])
	expectApply(t, "a replacement", desk(), server, full, []change{replace(0, first, row(num(1), txt("m")))}, after, api.OK)
	var fill []change
	for i, rows := range full.Tables {
		for _, r := range rows {
			fill = append(fill, insert(i, r...))
		}
	}
	expectApply(t, "from nothing", desk(), server, state(nil, nil, nil), fill, full, api.OK)
}

// P8.4

func TestDifference(t *testing.T) {
	a, b := filled(), filled()
	b.Tables[0] = list(row(num(-5), txt("new")), row(num(-3), txt("other")), row(num(2), txt("a")), row(num(4), txt("new")))
	b.Tables[1] = nil
	b.Tables[2] = list(row(no, txt("c")), row(yes, txt("a")))
	want := []change{
		insert(0, num(-5), txt("new")), replace(0, row(num(-3), txt("z")), row(num(-3), txt("other"))), remove(0, num(0), txt("")), insert(0, num(4), txt("new")),
		remove(1, num(1), txt("a"), num(9), no), remove(1, num(1), txt("b"), num(8), yes), remove(1, num(2), txt("a"), num(7), no),
		remove(2, no, txt("b")), insert(2, no, txt("c")),
	}
	for _, mode := range modes() {
		if got, e := table.Difference(desk(), mode, a, b); !sameChanges(got, want) || e != api.OK {
			t.Errorf("Difference = %v, %d", got, e)
		}
		for _, st := range []api.State{a, b, state(nil, nil, nil), state(numbered(0, api.MaxRows), nil, nil)} {
			if got, e := table.Difference(desk(), mode, st, st); len(got) != 0 || e != api.OK {
				t.Errorf("Difference of a state from itself = %v, %d", got, e)
			}
		}
	}
	real, masked, lacking := state(list(row(num(1), txt("a"))), nil, nil), state(list(row(num(1), hidden)), nil, nil), state(list(row(num(1), missing)), nil, nil)
	for _, c := range [][2]api.State{{real, masked}, {masked, lacking}, {lacking, real}} {
		want := []change{replace(0, c[0].Tables[0][0], c[1].Tables[0][0])}
		if got, e := table.Difference(desk(), local, c[0], c[1]); !sameChanges(got, want) || e != api.OK {
			t.Errorf("Difference = %v, %d, want %v", got, e, want)
		}
	}
	full, other := state(numbered(0, api.MaxRows), nil, nil), state(numbered(1000, api.MaxRows), nil, nil)
	if got, e := table.Difference(desk(), server, other, full); len(got) != 2*api.MaxRows || e != api.OK || got[0].Old != nil || got[api.MaxRows].New != nil {
		t.Errorf("Difference of full states: %d changes, %d", len(got), e)
	}
}

func TestErrorsOfDifference(t *testing.T) {
	masked, large, short := state(list(row(num(1), hidden)), nil, nil), state(numbered(0, 513), nil, nil), state(nil, nil)
	for i, c := range []struct {
		s    api.Schema
		mode int
		a, b api.State
		want api.Errno
	}{
		{badSchemas()[0].s, 0, large, short, api.ErrLimit},
		{badSchemas()[1].s, 0, large, short, api.ErrSchema},
		{badSchemas()[2].s, 0, filled(), filled(), api.ErrPredicate},
		{desk(), 0, large, short, api.ErrArg},
		{desk(), 4, filled(), filled(), api.ErrArg},
		{desk(), server, large, short, api.ErrLimit},
		{desk(), server, short, large, api.ErrState},
		{desk(), server, masked, large, api.ErrState},
		{desk(), server, filled(), large, api.ErrLimit},
		{desk(), server, filled(), short, api.ErrState},
		{desk(), server, filled(), masked, api.ErrState},
		{desk(), server, masked, filled(), api.ErrState},
		{desk(), server, large, filled(), api.ErrLimit},
	} {
		if got, e := table.Difference(c.s, c.mode, c.a, c.b); len(got) != 0 || e != c.want {
			t.Errorf("%d: Difference = %v, %d, want %d", i, got, e, c.want)
		}
	}
}

// P8.5

func TestInvert(t *testing.T) {
	odd := change{Table: -7, Old: row(api.Value{Kind: 9}), New: row(num(1), num(2))}
	changes := []change{insert(0, num(1)), odd, {Table: 1000}, replace(2, row(yes), row(no, hidden)), remove(1, txt("a"))}
	want := []change{insert(1, txt("a")), replace(2, row(no, hidden), row(yes)), {Table: 1000}, {Table: -7, Old: odd.New, New: odd.Old}, remove(0, num(1))}
	if got := table.Invert(changes); !sameChanges(got, want) {
		t.Errorf("Invert = %v", got)
	}
	if got := table.Invert(want); !sameChanges(got, changes) {
		t.Errorf("Invert = %v", got)
	}
	if got := table.Invert(nil); len(got) != 0 {
		t.Errorf("Invert of nothing = %v", got)
	}
}

func TestNet(t *testing.T) {
	a, b, c := row(num(2), txt("a")), row(num(2), txt("b")), row(num(2), txt("c"))
	for name, l := range map[string]struct{ changes, want []change }{
		"nothing":                       {nil, nil},
		"one":                           {[]change{replace(0, a, b)}, []change{replace(0, a, b)}},
		"the same":                      {[]change{replace(0, a, a)}, nil},
		"in and out":                    {[]change{insert(0, a...), remove(0, a...)}, nil},
		"out and in":                    {[]change{remove(0, a...), insert(0, a...)}, nil},
		"there and back":                {[]change{replace(0, a, b), replace(0, b, c), replace(0, c, a)}, nil},
		"in and another":                {[]change{insert(0, a...), replace(0, a, b)}, []change{insert(0, b...)}},
		"another and out":               {[]change{replace(0, a, b), remove(0, b...)}, []change{remove(0, a...)}},
		"out and another in":            {[]change{remove(0, a...), insert(0, b...)}, []change{replace(0, a, b)}},
		"out, in, out, in":              {[]change{remove(0, a...), insert(0, b...), remove(0, b...), insert(0, c...)}, []change{replace(0, a, c)}},
		"in, out, in":                   {[]change{insert(0, a...), remove(0, a...), insert(0, c...)}, []change{insert(0, c...)}},
		"the same key in two tables":    {[]change{insert(1, num(2), txt("a"), num(1), no), insert(0, a...)}, []change{insert(0, a...), insert(1, num(2), txt("a"), num(1), no)}},
		"one of them without effect":    {[]change{insert(0, a...), insert(0, num(1), txt("x")), remove(0, a...)}, []change{insert(0, num(1), txt("x"))}},
		"by table and key":              {[]change{insert(2, yes, txt("b")), remove(2, yes, txt("a")), insert(2, no, txt("c")), insert(0, num(9), txt("")), replace(0, a, b), remove(0, num(-9), txt("z"))}, []change{remove(0, num(-9), txt("z")), replace(0, a, b), insert(0, num(9), txt("")), insert(2, no, txt("c")), remove(2, yes, txt("a")), insert(2, yes, txt("b"))}},
		"by the second cell of a key":   {[]change{insert(1, num(1), txt("\xff"), num(1), no), insert(1, num(1), txt("aa"), num(3), no), insert(1, num(1), txt("a"), num(2), yes), insert(1, num(0), txt("z"), num(2), yes)}, []change{insert(1, num(0), txt("z"), num(2), yes), insert(1, num(1), txt("a"), num(2), yes), insert(1, num(1), txt("aa"), num(3), no), insert(1, num(1), txt("\xff"), num(1), no)}},
		"keys that differ at the end":   {[]change{insert(1, num(2), txt("b"), num(1), no), remove(1, num(2), txt("a"), num(1), no)}, []change{remove(1, num(2), txt("a"), num(1), no), insert(1, num(2), txt("b"), num(1), no)}},
		"an old row, later a new one":   {[]change{remove(0, num(3), txt("")), remove(0, a...), insert(0, b...)}, []change{replace(0, a, b), remove(0, num(3), txt(""))}},
		"rows of which nothing is held": {[]change{remove(0, num(1000), txt("")), replace(0, c, a)}, []change{replace(0, c, a), remove(0, num(1000), txt(""))}},
	} {
		for _, mode := range modes() {
			expectNet(t, name, desk(), mode, l.changes, l.want, api.OK)
		}
	}
}

func TestErrorsOfNet(t *testing.T) {
	a, b, c := row(num(2), txt("a")), row(num(2), txt("b")), row(num(2), txt("c"))
	clashes := [][]change{
		{insert(0, a...), insert(0, a...)}, {insert(0, a...), insert(0, b...)}, {remove(0, a...), remove(0, a...)},
		{remove(0, a...), replace(0, a, b)}, {replace(0, a, b), replace(0, a, c)}, {replace(0, a, b), insert(0, c...)}, {replace(0, a, b), remove(0, a...)},
		{replace(0, a, b), replace(0, b, c), replace(0, b, a)}, {insert(0, a...), remove(0, a...), remove(0, a...)}, {replace(0, a, a), remove(0, b...)},
	}
	for i, l := range clashes {
		expectNet(t, fmt.Sprint(i), desk(), server, l, nil, api.ErrConflict)
		among := slices.Insert(slices.Clone(l), 1, insert(0, num(1), txt("")), insert(1, num(2), txt("a"), num(0), no))
		expectNet(t, fmt.Sprint(i, " among others"), desk(), server, among, nil, api.ErrConflict)
		expectNet(t, fmt.Sprint(i, " then not valid"), desk(), server, append(slices.Clone(l), change{}), nil, api.ErrConflict)
		last := len(l) - 1
		expectNet(t, fmt.Sprint(i, " before it not valid"), desk(), server, slices.Insert(slices.Clone(l), last, change{}), nil, api.ErrRow)
		for _, s := range badSchemas() {
			expectNet(t, "schema", s.s, 0, l, nil, s.want)
		}
		for _, mode := range append(extremes(), 0, 4) {
			expectNet(t, "mode", desk(), mode, append(l[:0:0], change{}), nil, api.ErrArg)
			expectNet(t, "mode", desk(), mode, l, nil, api.ErrArg)
			expectNet(t, "mode", desk(), mode, nil, nil, api.ErrArg)
		}
	}
	for name, c := range notValid() {
		expectNet(t, name, desk(), server, []change{c}, nil, api.ErrRow)
		expectNet(t, name, desk(), server, []change{insert(0, num(50), txt("")), c}, nil, api.ErrRow)
	}
	for name, c := range conflicts() { // Net knows no state, so each of them may stand alone
		want := []change{c}
		if sameRow(c.Old, c.New) {
			want = nil
		}
		expectNet(t, name, desk(), server, []change{c}, want, api.OK)
	}
}

func TestNetHasNoLimitOfRows(t *testing.T) {
	var changes, want []change
	for i := range 3000 {
		changes = append(changes, insert(0, num(int64(i*1009%3000)), txt("n")))
		want = append(want, insert(0, num(int64(i)), txt("n")))
	}
	expectNet(t, "3000 rows", desk(), server, changes, want, api.OK)
	expectNet(t, "3000 rows and back", desk(), server, append(changes, table.Invert(changes)...), nil, api.OK)
}

// P8.7 and P8.8

// applyByRule is P8.3 for a valid state, with rows in any order until the end.
func applyByRule(s api.Schema, mode int, st api.State, changes []change) (api.State, api.Errno) {
	lists := make([][]api.Row, len(st.Tables))
	for i, rows := range st.Tables {
		lists[i] = slices.Clone(rows)
	}
	for _, c := range changes {
		if !validByRule(s, mode, c) {
			return api.State{}, api.ErrRow
		}
		key := keyByRule(s, c)
		at := slices.IndexFunc(lists[c.Table], func(r api.Row) bool { return sameRow(schema.Key(s, c.Table, r), key) })
		if len(c.Old) > 0 && (at < 0 || !sameRow(lists[c.Table][at], c.Old)) || len(c.Old) == 0 && at >= 0 {
			return api.State{}, api.ErrConflict
		}
		if at >= 0 {
			lists[c.Table] = slices.Delete(lists[c.Table], at, at+1)
		}
		if len(c.New) > 0 {
			lists[c.Table] = append(lists[c.Table], c.New)
		}
		if table.Count(api.State{Tables: lists}) > api.MaxRows {
			return api.State{}, api.ErrLimit
		}
	}
	for i := range lists {
		lists[i] = value.Set(lists[i])
	}
	return api.State{Tables: lists}, api.OK
}

func validByRule(s api.Schema, mode int, c change) bool {
	if c.Table < 0 || c.Table >= len(s.Tables) || len(c.Old) == 0 && len(c.New) == 0 {
		return false
	}
	for _, r := range []api.Row{c.Old, c.New} {
		if len(r) > 0 && !schema.Fits(s, c.Table, r, mode) {
			return false
		}
	}
	return len(c.Old) == 0 || len(c.New) == 0 || sameRow(schema.Key(s, c.Table, c.Old), schema.Key(s, c.Table, c.New))
}

func keyByRule(s api.Schema, c change) api.Row {
	if len(c.Old) > 0 {
		return schema.Key(s, c.Table, c.Old)
	}
	return schema.Key(s, c.Table, c.New)
}

// netByRule is P8.5 for a valid schema and mode.
func netByRule(s api.Schema, mode int, changes []change) ([]change, api.Errno) {
	var net []change
	same := func(c change) func(change) bool {
		return func(d change) bool { return c.Table == d.Table && sameRow(keyByRule(s, c), keyByRule(s, d)) }
	}
	for i, c := range changes {
		if !validByRule(s, mode, c) {
			return nil, api.ErrRow
		}
		earlier := slices.IndexFunc(changes[:i], same(c))
		if earlier < 0 {
			later := slices.Clone(changes[i:])
			slices.Reverse(later)
			last := c
			for _, d := range later {
				if validByRule(s, mode, d) && same(c)(d) {
					last = d
					break
				}
			}
			net = append(net, change{Table: c.Table, Old: c.Old, New: last.New})
			continue
		}
		for j := i - 1; ; j-- {
			if same(c)(changes[j]) {
				if !sameRow(changes[j].New, c.Old) {
					return nil, api.ErrConflict
				}
				break
			}
		}
	}
	net = slices.DeleteFunc(net, func(c change) bool { return sameRow(c.Old, c.New) })
	slices.SortFunc(net, func(c, d change) int {
		return value.CompareRows(append(row(num(int64(c.Table))), keyByRule(s, c)...), append(row(num(int64(d.Table))), keyByRule(s, d)...))
	})
	return net, api.OK
}

// expectRules checks Apply and Net of the changes against the promises, and the consequences of these.
func expectRules(t *testing.T, s api.Schema, mode int, st api.State, changes []change) api.Errno {
	t.Helper()
	after, e := applyByRule(s, mode, st, changes)
	expectApply(t, fmt.Sprint(st, changes), s, mode, st, changes, after, e)
	net, f := netByRule(s, mode, changes)
	expectNet(t, fmt.Sprint(changes), s, mode, changes, net, f)
	if e != api.OK {
		return e
	}
	if f != api.OK {
		t.Errorf("Apply(%v, %v) is a state, but Net has the error %d", st, changes, f)
	}
	expectCheck(t, "after Apply", s, mode, after, api.OK)
	expectApply(t, "back", s, mode, after, table.Invert(changes), st, api.OK)
	expectApply(t, "Net", s, mode, st, net, after, api.OK)
	if got, e := table.Difference(s, mode, st, after); !sameChanges(got, net) || e != api.OK {
		t.Errorf("Difference(%v, %v) = %v, %d, want %v", st, after, got, e, net)
	}
	return api.OK
}

// pair is a schema of two tables, so small that all its states can be written down: those of the keys 1 and 2, and of a key that is the row.
func pair() (api.Schema, []api.State) {
	s := bare(1, api.KindInt, api.KindText)
	s.Tables = append(s.Tables, api.Table{Name: "u", Key: 1, Columns: columns(api.KindBool)})
	var states []api.State
	for _, first := range []api.Value{{}, txt("a"), hidden} {
		for _, second := range []api.Value{{}, txt("a"), hidden} {
			for _, third := range [][]api.Row{nil, list(row(yes))} {
				var l []api.Row
				for i, cell := range []api.Value{first, second} {
					if cell.Kind != 0 {
						l = append(l, row(num(int64(i+1)), cell))
					}
				}
				states = append(states, state(l, third))
			}
		}
	}
	return s, states
}

func TestAllDifferencesOfAPair(t *testing.T) {
	s, states := pair()
	for _, a := range states {
		for _, b := range states {
			diff, e := table.Difference(s, allowed, a, b)
			if e != api.OK {
				t.Fatalf("Difference = %d", e)
			}
			expectApply(t, "Difference", s, allowed, a, diff, b, api.OK)
			expectNet(t, "Difference", s, allowed, diff, diff, api.OK)
			back, _ := table.Difference(s, allowed, b, a)
			expectNet(t, "Difference, inverted", s, allowed, table.Invert(diff), back, api.OK)
		}
	}
}

func TestAllShortChangesOfAPair(t *testing.T) {
	s, states := pair()
	changes := []change{{}, insert(1, yes), remove(1, yes), replace(1, row(yes), row(yes)), insert(0, num(2), missing)}
	rows := []api.Row{nil, row(num(1), txt("a")), row(num(1), hidden), row(num(2), txt("a")), row(num(2), hidden)}
	for _, before := range rows {
		for _, after := range rows {
			changes = append(changes, replace(0, before, after))
		}
	}
	counts := map[api.Errno]int{}
	for _, st := range states {
		for _, c := range changes {
			counts[expectRules(t, s, allowed, st, []change{c})]++
			for _, d := range changes {
				counts[expectRules(t, s, allowed, st, []change{c, d})]++
			}
		}
	}
	for _, e := range []api.Errno{api.OK, api.ErrRow, api.ErrConflict} {
		if counts[e] < 500 {
			t.Errorf("only %d of the changes had the error %d", counts[e], e)
		}
	}
}

// madeChange returns a change that most often fits the state.
func madeChange(made *rand.Rand, s api.Schema, st api.State) change {
	in := made.Intn(len(st.Tables))
	rows := st.Tables[in]
	fresh := list(
		row(num(int64(made.Intn(90))), txt(string(rune('a'+made.Intn(3))))),
		row(num(int64(made.Intn(9))), txt(string(rune('a'+made.Intn(9)))), num(int64(made.Intn(3))), yes),
		row(no, txt(fmt.Sprint(made.Intn(90)))))[in]
	if len(rows) == 0 || made.Intn(5) < 2 {
		return insert(in, fresh...)
	}
	r := rows[made.Intn(len(rows))]
	if made.Intn(2) == 0 || in == 2 {
		return remove(in, r...)
	}
	return replace(in, r, append(schema.Key(s, in, r), fresh[s.Tables[in].Key:]...))
}

func TestLongChanges(t *testing.T) {
	made, s := rand.New(rand.NewSource(80)), desk()
	counts := map[api.Errno]int{}
	for range 400 {
		start := filled()
		for i := range made.Intn(60) {
			start.Tables[0] = append(start.Tables[0], row(num(int64(3+i+made.Intn(2)*i)), txt("n")))
		}
		start.Tables[0] = value.Set(start.Tables[0])
		start.Tables[0] = slices.CompactFunc(start.Tables[0], func(a, b api.Row) bool { return a[0] == b[0] })
		st := start
		var changes []change
		for range 1 + made.Intn(api.MaxChanges) {
			c := madeChange(made, s, st)
			after, e := applyByRule(s, server, st, []change{c})
			if e == api.OK {
				st = after
			} else if made.Intn(20) > 0 {
				continue
			}
			changes = append(changes, c)
		}
		counts[expectRules(t, s, server, start, changes)]++
	}
	if counts[api.OK] < 100 || counts[api.ErrConflict] < 20 {
		t.Errorf("the changes had these errors: %v", counts)
	}
}

func TestNetOfChangesThatPassTheLimit(t *testing.T) { // P8.8
	full := state(numbered(1, api.MaxRows), nil, nil)
	changes := []change{insert(0, num(0), txt("")), remove(0, full.Tables[0][0]...)}
	net := []change{changes[0], changes[1]}
	expectNet(t, "over the limit", desk(), server, changes, net, api.OK)
	expectApply(t, "over the limit", desk(), server, full, changes, api.State{}, api.ErrLimit)
	after := state(append(list(changes[0].New), full.Tables[0][1:]...), nil, nil)
	if got, e := table.Difference(desk(), server, full, after); !sameChanges(got, net) || e != api.OK {
		t.Errorf("Difference = %v, %d", got, e)
	}
	expectApply(t, "the difference goes over the limit", desk(), server, full, net, api.State{}, api.ErrLimit)
}
