package region

import (
	"slices"

	"partsync/api"
	"partsync/interval"
)

// Project returns the region of the cells at the columns of the rows of r.
func Project(r api.Region, columns []int) (api.Region, api.Errno) {
	if e := check(r, columns); e != api.OK {
		return api.Region{}, e
	}
	return project(r, columns)
}

// ForAll returns the region of the cells at the columns such that every row with these cells there is in r.
func ForAll(r api.Region, columns []int) (api.Region, api.Errno) {
	if e := check(r, columns); e != api.OK {
		return api.Region{}, e
	}
	others, e := complement(r)
	if e != api.OK {
		return api.Region{}, e
	}
	some, e := project(others, columns)
	if e != api.OK {
		return api.Region{}, e
	}
	return complement(some)
}

// Lift returns the region of the rows of the width whose cells at the columns are a row of r.
func Lift(r api.Region, columns []int, width int) (api.Region, api.Errno) {
	switch {
	case !Valid(r) || len(columns) != r.Width:
		return api.Region{}, api.ErrRegion
	case !validWidth(width) || !distinct(columns, width):
		return api.Region{}, api.ErrArg
	}
	return unite(r, width, func(sets [][]api.Interval) [][]api.Interval {
		lifted := make([][]api.Interval, width)
		for i := range lifted {
			lifted[i] = interval.All()
		}
		for i, column := range columns {
			lifted[column] = sets[i]
		}
		return lifted
	})
}

// check returns what is wrong with r, or with the columns of its rows.
func check(r api.Region, columns []int) api.Errno {
	switch {
	case !Valid(r):
		return api.ErrRegion
	case !distinct(columns, r.Width):
		return api.ErrArg
	}
	return api.OK
}

// distinct reports whether the columns are indices of a row of the width, none of them twice.
func distinct(columns []int, width int) bool {
	var seen [api.MaxWidth]bool
	for _, column := range columns {
		if column < 0 || column >= width || seen[column] {
			return false
		}
		seen[column] = true
	}
	return true
}

// project needs a canonical region and columns that are distinct.
func project(r api.Region, columns []int) (api.Region, api.Errno) {
	return unite(r, len(columns), func(sets [][]api.Interval) [][]api.Interval {
		chosen := make([][]api.Interval, len(columns))
		for i, column := range columns {
			chosen[i] = sets[column]
		}
		return chosen
	})
}

// unite returns the union, of this width, of what the boxes of r become. Each union on the way must have a canonical form, too.
func unite(r api.Region, width int, become func(sets [][]api.Interval) [][]api.Interval) (api.Region, api.Errno) {
	sum := api.Region{Width: width}
	for _, sets := range boxes(r) {
		next, e := limited(combine(sum, box(become(sets)), either.keeps))
		if e != api.OK {
			return api.Region{}, e
		}
		sum = next
	}
	return sum, api.OK
}

// boxes returns the sets of each of the boxes of r, which share memory with r.
func boxes(r api.Region) [][][]api.Interval {
	if r.Full {
		return [][][]api.Interval{nil}
	}
	var l [][][]api.Interval
	for _, part := range r.Parts {
		for _, rest := range boxes(part.Rest) {
			l = append(l, slices.Concat([][]api.Interval{part.Values}, rest))
		}
	}
	return l
}
