package integrity

import (
	"slices"

	"partsync/api"
	"partsync/schema"
	"partsync/value"
)

// keys contains keys of each table in ascending order, some of them perhaps more than once.
type keys [][]api.Row

// keysOf returns the keys of the rows of each table, which may stand in any order.
func keysOf(s api.Schema, lists [][]api.Row) keys {
	k := make(keys, len(lists))
	for i, rows := range lists {
		for _, row := range rows {
			k[i] = append(k[i], schema.Key(s, i, row))
		}
		slices.SortFunc(k[i], value.CompareRows)
	}
	return k
}

// has reports whether the key is one of the table's.
func (k keys) has(table int, key api.Row) bool {
	_, found := slices.BinarySearchFunc(k[table], key, value.CompareRows)
	return found
}

// changedRows returns, for each table, the rows that the changes delete or replace, and those that they write. The changes are valid.
func changedRows(s api.Schema, changes []api.Change) (before, written [][]api.Row) {
	before, written = make([][]api.Row, len(s.Tables)), make([][]api.Row, len(s.Tables))
	for _, c := range changes {
		if len(c.Old) > 0 {
			before[c.Table] = append(before[c.Table], c.Old)
		}
		if len(c.New) > 0 {
			written[c.Table] = append(written[c.Table], c.New)
		}
	}
	return before, written
}
