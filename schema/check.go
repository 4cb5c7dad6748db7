package schema

import (
	"slices"

	"partsync/api"
	"partsync/predicate"
	"partsync/value"
)

// Check returns the first error that the schema has.
func Check(s api.Schema) api.Errno {
	switch {
	case len(s.Tables) > api.MaxTables || slices.ContainsFunc(s.Tables, tooLarge):
		return api.ErrLimit
	case !valid(s):
		return api.ErrSchema
	}
	return checkConditions(s)
}

func tooLarge(t api.Table) bool {
	return len(t.Columns) > api.MaxColumns || len(t.References) > api.MaxReferences || len(t.Checks) > api.MaxChecks
}

// valid reports whether all of the schema but the tables' checks is as it has to be.
func valid(s api.Schema) bool {
	if s.Version < 0 || s.Version > api.MaxVersion || !validNames(s.Tables, tableName) {
		return false
	}
	for i, t := range s.Tables {
		if !validColumns(t) || !validReferences(s, i) {
			return false
		}
	}
	return true
}

func tableName(t api.Table) string   { return t.Name }
func columnName(c api.Column) string { return c.Name }

// validNames reports whether each item's name is a name, and none is that of an earlier item.
func validNames[T any](items []T, nameOf func(T) string) bool {
	seen := make(map[string]bool, len(items))
	for _, item := range items {
		name := nameOf(item)
		if !isName(name) || seen[name] {
			return false
		}
		seen[name] = true
	}
	return true
}

func isName(s string) bool {
	if len(s) < 1 || len(s) > api.MaxName {
		return false
	}
	for i, c := range s {
		letter := c >= 'a' && c <= 'z'
		later := i > 0 && (c >= '0' && c <= '9' || c == '_')
		if !letter && !later {
			return false
		}
	}
	return true
}

// validColumns reports whether the columns of the table and its key are valid. The key has a column, so the table has one too.
func validColumns(t api.Table) bool {
	return t.Key >= 1 && t.Key <= len(t.Columns) &&
		validNames(t.Columns, columnName) && !slices.ContainsFunc(t.Columns, holdsNothing)
}

// holdsNothing reports whether no value in the column would be real.
func holdsNothing(c api.Column) bool {
	v, _ := value.First(c.Kind)
	return !value.Real(v)
}

func validReferences(s api.Schema, table int) bool {
	kinds := Kinds(s, table)
	return !slices.ContainsFunc(s.Tables[table].References, func(r api.Reference) bool {
		return !validReference(s, kinds, r)
	})
}

// validReference reports whether the reference, from a table with columns of these kinds, is valid. It need not look at the other table's Key: where KeyKinds has not as many kinds, that table is not valid itself.
func validReference(s api.Schema, kinds []int, r api.Reference) bool {
	_, ok := find(s, r.Table)
	wanted := KeyKinds(s, r.Table)
	if !ok || len(r.Columns) != len(wanted) {
		return false
	}
	for i, c := range r.Columns {
		if c < 0 || c >= len(kinds) || kinds[c] != wanted[i] {
			return false
		}
	}
	return true
}

// checkConditions returns the error of the first of the tables' checks that has one.
func checkConditions(s api.Schema) api.Errno {
	for i, t := range s.Tables {
		kinds := Kinds(s, i)
		for _, check := range t.Checks {
			if e := predicate.Check(kinds, nil, check); e != api.OK {
				return e
			}
		}
	}
	return api.OK
}
