package region

import (
	"slices"

	"partsync/api"
	"partsync/codec"
	"partsync/interval"
	"partsync/value"
)

// spare returns how many of the room's parts are left beside those in the tree of r, a number below 0 if there is not room enough. It looks at no more parts than there is room for, so it ends also if parts share memory.
func spare(r api.Region, room int) int {
	room -= len(r.Parts)
	for i := 0; i < len(r.Parts) && room >= 0; i++ {
		room = spare(r.Parts[i].Rest, room)
	}
	return room
}

// limited returns r, which has the form of a canonical region, if it is not too large for one.
func limited(r api.Region) (api.Region, api.Errno) {
	if spare(r, api.MaxParts) < 0 || !shortSets(r) {
		return api.Region{}, api.ErrLimit
	}
	return r, api.OK
}

// shortSets reports whether no set in the tree has too many intervals.
func shortSets(r api.Region) bool {
	for _, part := range r.Parts {
		if len(part.Values) > api.MaxIntervals || !shortSets(part.Rest) {
			return false
		}
	}
	return true
}

// canonical reports whether r, whose size and width are not too large, has the form of a canonical region.
func canonical(r api.Region) bool {
	if r.Width == 0 {
		return len(r.Parts) == 0
	}
	for _, part := range r.Parts {
		if part.Rest.Width != r.Width-1 || !canonicalPart(part) {
			return false
		}
	}
	return !r.Full && ascending(r.Parts) && disjoint(r.Parts) && differentRests(r.Parts)
}

// canonicalPart reports whether part may stand in a canonical region, whatever stands around it.
func canonicalPart(part api.Part) bool {
	return len(part.Values) > 0 && interval.Valid(part.Values) && !isEmpty(part.Rest) && canonical(part.Rest)
}

// ascending reports whether the parts stand in the order of their least values.
func ascending(parts []api.Part) bool {
	return slices.IsSortedFunc(parts, func(x, y api.Part) int {
		return value.Compare(x.Values[0].From, y.Values[0].From)
	})
}

// disjoint reports whether no value is in two parts.
func disjoint(parts []api.Part) bool {
	l := spans(parts)
	for i := range l {
		if i > 0 && !endsBefore(l[i-1].values, l[i].values.From) {
			return false
		}
	}
	return true
}

// differentRests reports whether no two parts have the same rest; such parts would be one.
func differentRests(parts []api.Part) bool {
	seen := map[string]bool{}
	for _, part := range parts {
		seen[encode(part.Rest)] = true
	}
	return len(seen) == len(parts)
}

// encode returns the encoding of a region in the form of a canonical one. Different regions of one width have different encodings.
func encode(r api.Region) string {
	return string(appendRegion(nil, r))
}

func appendRegion(b []byte, r api.Region) []byte {
	if r.Width == 0 {
		return appendFull(b, r.Full)
	}
	b = appendCount(b, len(r.Parts))
	for _, part := range r.Parts {
		b = appendRegion(appendSet(b, part.Values), part.Rest)
	}
	return b
}

func appendFull(b []byte, full bool) []byte {
	if full {
		return append(b, 1)
	}
	return append(b, 0)
}

func appendSet(b []byte, set []api.Interval) []byte {
	b = appendCount(b, len(set))
	for _, values := range set {
		b = appendValue(b, values.From)
		if values.Open {
			b = append(b, open)
		} else {
			b = appendValue(b, values.To)
		}
	}
	return b
}

// open stands where an interval has no To. It is no kind, with which the encodings of values begin.
const open = 0

// The functions of package codec are given no bytes to append to, since they would copy these.

func appendCount(b []byte, n int) []byte {
	return append(b, codec.AppendUint(nil, uint64(n))...)
}

func appendValue(b []byte, v api.Value) []byte {
	code, _ := codec.AppendValue(nil, v)
	return append(b, code...)
}
