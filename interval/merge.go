package interval

import (
	"partsync/api"
	"partsync/value"
)

// combine merges two lists that have yet to be examined into one that is not too long.
func combine(a, b []api.Interval, chosen func(inA, inB bool) bool) ([]api.Interval, api.Errno) {
	if !Valid(a) || !Valid(b) {
		return nil, api.ErrInterval
	}
	l := merge(a, b, chosen)
	if len(l) > api.MaxIntervals {
		return nil, api.ErrLimit
	}
	return l, api.OK
}

// merge returns the intervals, however many, of the values that are chosen by which of the canonical lists a and b contains them. Values in neither must not be chosen.
func merge(a, b []api.Interval, chosen func(inA, inB bool) bool) []api.Interval {
	var edges []api.Value
	next := walk(edgesOf(a), edgesOf(b))
	for point, inA, inB, ok := next(); ok; point, inA, inB, ok = next() {
		// A point at which nothing changes is no edge of the result.
		if chosen(inA, inB) != inside(edges) {
			edges = append(edges, point)
		}
	}
	return intervals(edges)
}

// walk returns a function that goes to the next edge of either list, and tells which of the two sets contains the values from there on; false behind the last edge.
func walk(a, b []api.Value) func() (point api.Value, inA, inB, ok bool) {
	passedA, passedB := 0, 0
	return func() (point api.Value, inA, inB, ok bool) {
		restA, restB := a[passedA:], b[passedB:]
		if len(restA)+len(restB) == 0 {
			return api.Value{}, false, false, false
		}
		order := compareFirst(restA, restB)
		if order <= 0 {
			point = restA[0]
			passedA++
		}
		if order >= 0 {
			point = restB[0]
			passedB++
		}
		return point, inside(a[:passedA]), inside(b[:passedB]), true
	}
}

// compareFirst compares the first edges of two lists; the end of a list stands behind every edge.
func compareFirst(a, b []api.Value) int {
	switch {
	case len(a) == 0:
		return 1
	case len(b) == 0:
		return -1
	}
	return value.Compare(a[0], b[0])
}

// edgesOf returns where the intervals of a canonical list begin and end, in ascending order.
func edgesOf(l []api.Interval) []api.Value {
	edges := make([]api.Value, 0, 2*len(l))
	for _, part := range l {
		edges = append(edges, part.From)
		if !part.Open {
			edges = append(edges, part.To)
		}
	}
	return edges
}

// inside reports whether the values behind these edges are in an interval: every second edge ends one.
func inside(edges []api.Value) bool {
	return len(edges)%2 == 1
}

// intervals returns the intervals that begin and end at the edges.
func intervals(edges []api.Value) []api.Interval {
	var l []api.Interval
	for len(edges) > 1 {
		l = append(l, api.Interval{From: edges[0], To: edges[1]})
		edges = edges[2:]
	}
	if inside(edges) {
		l = append(l, api.Interval{From: edges[0], Open: true})
	}
	return l
}
