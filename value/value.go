// Package value is layer 1: it orders and enumerates the contents of cells (shared/doc/01-value.md).
package value

import (
	"cmp"
	"math"
	"slices"

	"partsync/api"
)

// Valid reports whether v is a value of one of the five kinds, with zero in the fields that its kind does not use.
func Valid(v api.Value) bool {
	switch v.Kind {
	case api.KindMissing, api.KindHidden:
		return v == api.Value{Kind: v.Kind}
	case api.KindBool:
		return v == boolean(0) || v == boolean(1)
	case api.KindInt:
		return v == integer(v.Int)
	case api.KindText:
		return v == text(v.Text) && len(v.Text) <= api.MaxText
	}
	return false
}

// Real reports whether v is valid and a bool, an int or a text.
func Real(v api.Value) bool {
	return Valid(v) && v.Kind >= api.KindBool
}

// Compare orders all values, valid or not, by Kind, then by Int, then by Text.
func Compare(a, b api.Value) int {
	if a == b {
		return 0
	}
	return cmp.Or(cmp.Compare(a.Kind, b.Kind), cmp.Compare(a.Int, b.Int), cmp.Compare(a.Text, b.Text))
}

// Next returns the least valid value above v; false if v is not valid or is the greatest value.
func Next(v api.Value) (api.Value, bool) {
	switch {
	case !Valid(v):
		return api.Value{}, false
	case v == boolean(0):
		return boolean(1), true
	case v.Kind == api.KindInt && v.Int < math.MaxInt64:
		return integer(v.Int + 1), true
	case v.Kind == api.KindText:
		return nextText(v.Text)
	}
	return First(v.Kind + 1)
}

// First returns the least valid value of the kind; false if there is no such kind.
func First(kind int) (api.Value, bool) {
	switch kind {
	case api.KindMissing, api.KindHidden, api.KindBool, api.KindText:
		return api.Value{Kind: kind}, true
	case api.KindInt:
		return integer(math.MinInt64), true
	}
	return api.Value{}, false
}

// CompareRows orders rows by their first cells that differ, and a row before its continuations.
func CompareRows(a, b api.Row) int {
	return slices.CompareFunc(a, b, Compare)
}

// Set returns the relation of the rows: each row once, in ascending order.
func Set(rows []api.Row) []api.Row {
	sorted := make([]api.Row, len(rows))
	copy(sorted, rows)
	slices.SortFunc(sorted, CompareRows)
	set := make([]api.Row, 0, len(sorted))
	for i, row := range sorted {
		if i == 0 || CompareRows(sorted[i-1], row) != 0 {
			set = append(set, copyRow(row))
		}
	}
	return set
}

// Has reports whether one of the rows, which may stand in any order, is equal to row.
func Has(rows []api.Row, row api.Row) bool {
	for _, r := range rows {
		if slices.Equal(r, row) {
			return true
		}
	}
	return false
}

func boolean(bit int64) api.Value {
	return api.Value{Kind: api.KindBool, Int: bit}
}

func integer(n int64) api.Value {
	return api.Value{Kind: api.KindInt, Int: n}
}

func text(s string) api.Value {
	return api.Value{Kind: api.KindText, Text: s}
}

// nextText returns the least text above s, which has at most MaxText bytes; false if s is the greatest one.
func nextText(s string) (api.Value, bool) {
	if len(s) < api.MaxText {
		return text(s + "\x00"), true
	}
	// A full text has no longer ones above it. Of the others, the least replaces the last byte that can grow.
	for last := len(s) - 1; last >= 0; last-- {
		if s[last] < math.MaxUint8 {
			return text(s[:last] + string([]byte{s[last] + 1})), true
		}
	}
	return api.Value{}, false
}

// copyRow copies a row into memory of its own; slices.Clone would keep the address of an empty row's array.
func copyRow(row api.Row) api.Row {
	c := make(api.Row, len(row))
	copy(c, row)
	return c
}
