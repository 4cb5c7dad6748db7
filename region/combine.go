package region

import (
	"slices"

	"partsync/api"
	"partsync/value"
)

// operation is a Boolean operation on two regions: the set of those of the bits below whose rows it keeps. Rows in neither region are never kept.
type operation int

const (
	onlyA operation = 1 << iota
	onlyB
	both

	either  = onlyA | onlyB | both
	without = onlyA
)

func (o operation) keeps(inA, inB bool) bool {
	switch {
	case inA && inB:
		return o&both > 0
	case inA:
		return o&onlyA > 0
	case inB:
		return o&onlyB > 0
	}
	return false
}

// operate applies the operation to two regions that have yet to be examined.
func operate(a, b api.Region, o operation) (api.Region, api.Errno) {
	if !canonicalPair(a, b) {
		return api.Region{}, api.ErrRegion
	}
	return limited(combine(a, b, o.keeps))
}

// combine returns the rows that are kept, of two regions of one width, in new memory. It has the form of a canonical region, but may be too large: only the whole result can be judged, since parts that are too large on the way may become one.
func combine(a, b api.Region, keeps func(inA, inB bool) bool) api.Region {
	if a.Width == 0 {
		return api.Region{Full: keeps(a.Full, b.Full)}
	}
	out := builder{places: map[string]int{}}
	known := map[[2]int]int{}
	for _, s := range segments(a.Parts, b.Parts) {
		pair := [2]int{s.partA, s.partB}
		place, ok := known[pair]
		if !ok {
			place = out.place(combine(restOf(a, s.partA), restOf(b, s.partB), keeps))
			known[pair] = place
		}
		if place != none {
			out.add(place, s.values)
		}
	}
	return api.Region{Width: a.Width, Parts: out.parts}
}

// none stands for the index of a part where there is no part.
const none = -1

// restOf returns how the rows go on whose first cell is in the part.
func restOf(r api.Region, part int) api.Region {
	if part == none {
		return api.Region{Width: r.Width - 1}
	}
	return r.Parts[part].Rest
}

// builder collects the parts of a region, whose values come in ascending order.
type builder struct {
	parts  []api.Part
	places map[string]int // where the part with a rest is, by the rest's encoding
}

// place returns the index of the part with this rest, which may be a new one; none if the rest is empty.
func (b *builder) place(rest api.Region) int {
	if isEmpty(rest) {
		return none
	}
	code := encode(rest)
	place, ok := b.places[code]
	if !ok {
		place = len(b.parts)
		b.places[code] = place
		b.parts = append(b.parts, api.Part{Rest: rest})
	}
	return place
}

// add adds values, which are greater than all before, to the part at the place.
func (b *builder) add(place int, values api.Interval) {
	part := &b.parts[place]
	last := len(part.Values) - 1
	if last < 0 || part.Values[last].To != values.From {
		part.Values = append(part.Values, values)
		return
	}
	part.Values[last].To = values.To
	part.Values[last].Open = values.Open
}

// segment is an interval of values that lie in the same part of a, if in any, and in the same part of b.
type segment struct {
	values       api.Interval
	partA, partB int
}

// segments returns the segments, in ascending order, of all values from the first one that is in a part on.
func segments(a, b []api.Part) []segment {
	points := edges(a, b)
	findA, findB := finder(a), finder(b)
	l := make([]segment, len(points))
	for i, point := range points {
		l[i] = segment{values: api.Interval{From: point}, partA: findA(point), partB: findB(point)}
		if i+1 < len(points) {
			l[i].values.To = points[i+1]
		} else {
			l[i].values.Open = true
		}
	}
	return l
}

// edges returns where the intervals of the parts begin and end, in ascending order, each point once.
func edges(a, b []api.Part) []api.Value {
	var points []api.Value
	for _, part := range slices.Concat(a, b) {
		for _, values := range part.Values {
			points = append(points, values.From)
			if !values.Open {
				points = append(points, values.To)
			}
		}
	}
	slices.SortFunc(points, value.Compare)
	return slices.Compact(points)
}

// finder returns a function that returns the index of the part that contains v, none if there is no such part. It must be asked for ascending values.
func finder(parts []api.Part) func(v api.Value) int {
	ahead := spans(parts)
	return func(v api.Value) int {
		for len(ahead) > 0 && endsBefore(ahead[0].values, v) {
			ahead = ahead[1:]
		}
		if len(ahead) == 0 || value.Compare(v, ahead[0].values.From) < 0 {
			return none
		}
		return ahead[0].part
	}
}

// span is one of the intervals of a part.
type span struct {
	values api.Interval
	part   int
}

// spans returns the intervals of all parts, in ascending order of where they begin.
func spans(parts []api.Part) []span {
	var l []span
	for i, part := range parts {
		for _, values := range part.Values {
			l = append(l, span{values, i})
		}
	}
	slices.SortFunc(l, func(x, y span) int { return value.Compare(x.values.From, y.values.From) })
	return l
}

// endsBefore reports whether v is greater than all values of the interval that begins at v or before.
func endsBefore(values api.Interval, v api.Value) bool {
	return !values.Open && value.Compare(values.To, v) <= 0
}
