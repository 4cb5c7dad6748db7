package table

import (
	"cmp"
	"slices"

	"partsync/api"
	"partsync/schema"
	"partsync/value"
)

// place names a row among those of all tables. The cells behind its key are zero, which no cell of a row that fits is.
type place struct {
	table int
	key   [api.MaxColumns]api.Value
}

// Apply returns the state after the changes, one after another.
func Apply(s api.Schema, mode int, st api.State, changes []api.Change) (api.State, api.Errno) {
	if e := Check(s, mode, st); e != api.OK {
		return api.State{}, e
	}
	lists, count := slices.Clone(st.Tables), Count(st)
	for _, c := range changes {
		if !valid(s, mode, c) {
			return api.State{}, api.ErrRow
		}
		before := lists[c.Table]
		after, ok := changed(before, c, byKey(s, c.Table))
		if !ok {
			return api.State{}, api.ErrConflict
		}
		count += len(after) - len(before)
		if count > api.MaxRows {
			return api.State{}, api.ErrLimit
		}
		lists[c.Table] = after
	}
	return api.State{Tables: copyLists(lists)}, api.OK
}

// Difference returns the changes that lead from a to b, in ascending order of the table and then of the key.
func Difference(s api.Schema, mode int, a, b api.State) ([]api.Change, api.Errno) {
	if e := Check(s, mode, a); e != api.OK {
		return nil, e
	}
	if e := Check(s, mode, b); e != api.OK {
		return nil, e
	}
	var changes []api.Change
	for i := range s.Tables {
		changes = append(changes, merge(i, a.Tables[i], b.Tables[i], byKey(s, i))...)
	}
	return changes, api.OK
}

// Invert returns the changes that lead back.
func Invert(changes []api.Change) []api.Change {
	inverse := make([]api.Change, 0, len(changes))
	for _, c := range slices.Backward(changes) {
		inverse = append(inverse, copyChange(c.Table, c.New, c.Old))
	}
	return inverse
}

// Net returns what the changes do together: at most one change of each row, in ascending order of the table and then of the key.
func Net(s api.Schema, mode int, changes []api.Change) ([]api.Change, api.Errno) {
	if e := checkFrame(s, mode); e != api.OK {
		return nil, e
	}
	var joined []api.Change
	indices := map[place]int{}
	for _, c := range changes {
		if !valid(s, mode, c) {
			return nil, api.ErrRow
		}
		p := placeOf(s, c)
		at, seen := indices[p]
		switch {
		case !seen:
			indices[p] = len(joined)
			joined = append(joined, c)
		case !slices.Equal(joined[at].New, c.Old):
			return nil, api.ErrConflict
		default:
			joined[at].New = c.New
		}
	}
	return ordered(s, joined), api.OK
}

// ordered returns the changes that change something, in ascending order of the table and then of the key.
func ordered(s api.Schema, changes []api.Change) []api.Change {
	var effective []api.Change
	for _, c := range changes {
		if !slices.Equal(c.Old, c.New) {
			effective = append(effective, copyChange(c.Table, c.Old, c.New))
		}
	}
	slices.SortFunc(effective, func(a, b api.Change) int {
		if a.Table != b.Table {
			return cmp.Compare(a.Table, b.Table)
		}
		return value.CompareRows(keyOf(s, a.Table, subject(a)), keyOf(s, b.Table, subject(b)))
	})
	return effective
}

// merge returns the changes that lead from the table's rows a to its rows b; both ascend.
func merge(table int, a, b []api.Row, compare func(a, b api.Row) int) []api.Change {
	var changes []api.Change
	for len(a) > 0 || len(b) > 0 {
		var before, after api.Row
		order := compareFirst(a, b, compare)
		if order <= 0 {
			before, a = a[0], a[1:]
		}
		if order >= 0 {
			after, b = b[0], b[1:]
		}
		if !slices.Equal(before, after) {
			changes = append(changes, copyChange(table, before, after))
		}
	}
	return changes
}

// compareFirst compares the first rows of two lists, not both of them empty; no row stands behind all others.
func compareFirst(a, b []api.Row, compare func(a, b api.Row) int) int {
	switch {
	case len(a) == 0:
		return 1
	case len(b) == 0:
		return -1
	}
	return compare(a[0], b[0])
}

// valid reports whether the change is valid for the schema, which has no error, and the mode.
func valid(s api.Schema, mode int, c api.Change) bool {
	before, after := len(c.Old) > 0, len(c.New) > 0
	return (before || after) &&
		(!before || schema.Fits(s, c.Table, c.Old, mode)) &&
		(!after || schema.Fits(s, c.Table, c.New, mode)) &&
		(!before || !after || byKey(s, c.Table)(c.Old, c.New) == 0)
}

// changed returns the rows after the change; false if the change conflicts with them. The list stays as it is, since its part before the change has no capacity to append to.
func changed(rows []api.Row, c api.Change, compare func(a, b api.Row) int) ([]api.Row, bool) {
	at, found := slices.BinarySearchFunc(rows, subject(c), compare)
	end := at
	var present api.Row
	if found {
		end, present = at+1, rows[at]
	}
	// A row that fits has cells, so Old is equal to no row at all only if it is empty.
	if !slices.Equal(present, c.Old) {
		return nil, false
	}
	after := rows[:at:at]
	if len(c.New) > 0 {
		after = append(after, c.New)
	}
	return append(after, rows[end:]...), true
}

// subject returns a row with the key that the valid change is about.
func subject(c api.Change) api.Row {
	if len(c.Old) > 0 {
		return c.Old
	}
	return c.New
}

func placeOf(s api.Schema, c api.Change) place {
	p := place{table: c.Table}
	copy(p.key[:], keyOf(s, c.Table, subject(c)))
	return p
}

// copyChange returns a change whose rows are copies of these.
func copyChange(table int, before, after api.Row) api.Change {
	return api.Change{Table: table, Old: copyRow(before), New: copyRow(after)}
}
