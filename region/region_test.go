package region_test

import (
	"fmt"
	"math"
	"slices"
	"strings"
	"testing"

	"partsync/api"
	"partsync/interval"
	"partsync/region"
	"partsync/value"
)

// list is short for a set of values in the tables below.
type list = []api.Interval

var (
	missing  = api.Value{Kind: api.KindMissing}
	hidden   = api.Value{Kind: api.KindHidden}
	no       = api.Value{Kind: api.KindBool}
	yes      = api.Value{Kind: api.KindBool, Int: 1}
	greatest = txt(strings.Repeat("\xff", api.MaxText))
)

func num(n int64) api.Value          { return api.Value{Kind: api.KindInt, Int: n} }
func txt(s string) api.Value         { return api.Value{Kind: api.KindText, Text: s} }
func row(cells ...api.Value) api.Row { return cells }

func between(from, to api.Value) api.Interval { return api.Interval{From: from, To: to} }
func from(v api.Value) api.Interval           { return api.Interval{From: v, Open: true} }

// ints is the set of the ints from the first number on and below the second one.
func ints(a, b int64) list { return list{between(num(a), num(b))} }

// comb returns n intervals of ints: the i-th one begins at step*i+start and contains width ints.
func comb(n int, step, start, width int64) list {
	var l list
	for i := range int64(n) {
		l = append(l, ints(step*i+start, step*i+start+width)...)
	}
	return l
}

// The regions of the tables are written out, with none of the functions that they test.

func full() api.Region { return api.Region{Full: true} }

func part(values list, rest api.Region) api.Part { return api.Part{Values: values, Rest: rest} }

func tree(width int, parts ...api.Part) api.Region { return api.Region{Width: width, Parts: parts} }

// box is the box of sets that are not empty.
func box(sets ...list) api.Region {
	if len(sets) == 0 {
		return full()
	}
	return tree(len(sets), part(sets[0], box(sets[1:]...)))
}

// repeat returns n times the set.
func repeat(set list, n int) []list { return slices.Repeat([]list{set}, n) }

func everything(width int) api.Region { return box(repeat(interval.All(), width)...) }

// stairs returns the region of width 2 of n boxes that share no cell: its size is 2n.
func stairs(n int) api.Region {
	r := tree(2)
	for i := range int64(n) {
		r.Parts = append(r.Parts, part(ints(2*i, 2*i+1), box(ints(2*i, 2*i+1))))
	}
	return r
}

func same(a, b api.Region) bool {
	return a.Width == b.Width && a.Full == b.Full && slices.EqualFunc(a.Parts, b.Parts, func(x, y api.Part) bool {
		return slices.Equal(x.Values, y.Values) && same(x.Rest, y.Rest)
	})
}

func isZero(r api.Region) bool { return same(r, api.Region{}) }

// canonicalRegions returns regions that are canonical, with their sizes.
func canonicalRegions() []struct {
	r    api.Region
	size int
} {
	deep := box(repeat(ints(1, 2), 12)...)
	return []struct {
		r    api.Region
		size int
	}{
		{api.Region{}, 0}, {full(), 0}, {api.Region{Parts: []api.Part{}}, 0}, {api.Region{Full: true, Parts: []api.Part{}}, 0},
		{tree(1), 0}, {tree(12), 0}, {api.Region{Width: 3, Parts: []api.Part{}}, 0},
		{box(ints(1, 2)), 1}, {box(interval.All()), 1}, {box(list{from(greatest)}), 1}, {box(comb(64, 2, 0, 1)), 1},
		{everything(2), 2}, {everything(12), 12}, {deep, 12},
		{tree(2, part(ints(1, 3), box(ints(5, 7))), part(ints(3, 5), box(ints(7, 9)))), 4},
		{tree(2, part(list{between(hidden, yes), from(txt("b"))}, box(ints(5, 7))), part(list{between(yes, num(4)), between(num(9), txt("a"))}, everything(1))), 4},
		{tree(2, part(list{between(num(1), num(2)), between(num(5), num(6))}, box(ints(5, 7))), part(list{between(num(2), num(3)), between(num(4), num(5))}, box(ints(1, 2)))), 4},
		{tree(3, part(ints(1, 2), stairs(2)), part(ints(4, 5), stairs(1)), part(ints(7, 8), everything(2))), 3 + 4 + 2 + 2},
		{stairs(32), 64}, {tree(3, part(ints(1, 2), stairs(31))), 63}, {tree(3, part(ints(1, 2), stairs(30)), part(ints(3, 4), stairs(1))), 64},
	}
}

// looped returns a region of this width whose parts contain each other: its own list of parts stands in each of them.
func looped(width int) api.Region {
	parts := make([]api.Part, 2)
	for i := range parts {
		parts[i] = part(ints(int64(2*i), int64(2*i+1)), api.Region{Width: width - 1, Parts: parts})
	}
	return api.Region{Width: width, Parts: parts}
}

// bushy returns a region of this width with n parts, whose rests are one tree in one place; walking through all of it takes n to the width steps.
func bushy(n, width int) api.Region {
	r := full()
	for w := 1; w <= width; w++ {
		next := tree(w)
		for i := range int64(n) {
			next.Parts = append(next.Parts, part(ints(2*i, 2*i+1), r))
		}
		r = next
	}
	return r
}

// notCanonical returns regions that are not canonical, each for another reason.
func notCanonical() map[string]api.Region {
	a, b, one := ints(1, 2), ints(3, 4), box(ints(5, 6))
	other := box(ints(7, 8))
	regions := map[string]api.Region{
		"width -1":                         {Width: -1},
		"width 13":                         {Width: 13},
		"width 13, with parts":             box(repeat(a, 13)...),
		"the least width":                  {Width: math.MinInt},
		"the greatest width":               {Width: math.MaxInt},
		"width 0 with a part":              tree(0, part(a, full())),
		"width 0 with a part of width -1":  tree(0, part(a, api.Region{Width: -1, Full: true})),
		"width 0, full, with a part":       {Full: true, Parts: box(a).Parts},
		"width 1, full":                    {Width: 1, Full: true},
		"width 1, full, with a part":       {Width: 1, Full: true, Parts: box(a).Parts},
		"width 1, full, with all values":   {Width: 1, Full: true, Parts: everything(1).Parts},
		"a full rest of width 1":           tree(2, part(a, api.Region{Width: 1, Full: true})),
		"a full rest with parts":           tree(2, part(a, api.Region{Width: 1, Full: true, Parts: one.Parts})),
		"a rest of the same width":         tree(1, part(a, one)),
		"a rest that is too narrow":        tree(2, part(a, full())),
		"a rest that is too wide":          tree(1, part(a, box(a, a))),
		"a rest of negative width":         tree(1, part(a, api.Region{Width: -1, Full: true})),
		"a later rest that is too narrow":  tree(2, part(a, one), part(b, full())),
		"no values":                        tree(1, part(nil, full())),
		"an empty list of values":          tree(1, part(list{}, full())),
		"no values in the second part":     tree(2, part(a, one), part(nil, other)),
		"no values below":                  tree(2, part(a, tree(1, part(nil, full())))),
		"an empty rest":                    tree(1, part(a, api.Region{})),
		"an empty rest of width 1":         tree(2, part(a, tree(1))),
		"a second part with an empty rest": tree(2, part(a, one), part(b, tree(1))),
		"an empty rest below":              tree(2, part(a, tree(1, part(a, api.Region{})))),
		"two parts, full":                  tree(1, part(a, full()), part(b, full())),
		"two parts that touch, full":       tree(1, part(ints(1, 2), full()), part(ints(2, 3), full())),
		"two parts with the same rest":     tree(2, part(a, one), part(b, box(ints(5, 6)))),
		"two of three with the same rest":  tree(2, part(a, one), part(b, other), part(ints(5, 6), one)),
		"the same rests below":             tree(3, part(a, tree(2, part(a, one), part(b, one)))),
		"the same value in two parts":      tree(2, part(a, one), part(a, other)),
		"parts that overlap":               tree(2, part(ints(1, 4), one), part(ints(3, 6), other)),
		"a part in another":                tree(2, part(ints(1, 9), one), part(ints(3, 5), other)),
		"a part in an open one":            tree(2, part(list{from(num(1))}, one), part(ints(3, 5), other)),
		"two open parts":                   tree(2, part(list{from(num(1))}, one), part(list{from(num(2))}, other)),
		"parts that overlap later":         tree(2, part(list{a[0], between(num(5), num(9))}, one), part(list{b[0], between(num(8), num(10))}, other)),
		"parts that overlap below":         tree(3, part(a, tree(2, part(ints(1, 4), one), part(ints(3, 6), other)))),
		"the first and third part overlap": tree(2, part(list{a[0], between(num(9), num(10))}, one), part(b, other), part(list{between(num(5), num(6)), from(num(9))}, everything(1))),
		"parts out of order":               tree(2, part(b, one), part(a, other)),
		"parts in the order of their ends": tree(2, part(list{b[0], between(num(5), num(6))}, one), part(list{a[0], between(num(8), num(9))}, other)),
		"the last parts out of order":      tree(2, part(a, one), part(ints(5, 6), other), part(b, everything(1))),
		"parts out of order below":         tree(3, part(a, tree(2, part(b, one), part(a, other)))),
		"33 parts with 33 rests":           stairs(33),
		"a size of 65":                     tree(3, part(a, stairs(32))),
		"a size of 66 in two rests":        tree(3, part(a, stairs(31)), part(b, stairs(1))),
		"65 intervals":                     box(comb(65, 2, 0, 1)),
		"65 intervals below":               box(a, comb(65, 2, 0, 1)),
		"parts that contain each other":    looped(12),
		"parts in a circle, too wide":      looped(1 << 40),
		"rests in one place":               bushy(2, 5),
		"many rests in one place":          bushy(64, 12),
		"more and more rests in one place": bushy(1000, 12),
	}
	for name, l := range map[string]list{
		"an empty interval":     ints(2, 2),
		"intervals that touch":  {between(num(1), num(2)), between(num(2), num(3))},
		"an invalid From":       {between(api.Value{}, num(2))},
		"a To that is too long": {between(num(2), txt(greatest.Text+"a"))},
		"open, with a To":       {{From: num(1), To: num(2), Open: true}},
		"intervals in disorder": {between(num(5), num(6)), between(num(1), num(2))},
	} {
		regions[name] = box(l)
		regions[name+", in the second part"] = tree(2, part(list{between(hidden, no)}, one), part(l, other))
		regions[name+", below"] = box(a, a, l)
	}
	return regions
}

// P4.1

func TestCanonicalRegions(t *testing.T) {
	for _, c := range canonicalRegions() {
		if !region.Valid(c.r) || region.Size(c.r) != c.size {
			t.Errorf("%v: Valid = %v, Size = %d, want %d", c.r, region.Valid(c.r), region.Size(c.r), c.size)
		}
	}
}

func TestOtherRegions(t *testing.T) {
	for name, r := range notCanonical() {
		if region.Valid(r) || region.Size(r) != 0 {
			t.Errorf("%s: Valid = %v, Size = %d", name, region.Valid(r), region.Size(r))
		}
		if region.Equal(r, r) || region.Equal(r, everything(2)) || region.Equal(everything(2), r) || region.Equal(r, api.Region{}) || region.Equal(full(), r) {
			t.Errorf("%s: is equal to something", name)
		}
	}
}

func TestEqual(t *testing.T) {
	regions := []api.Region{
		box(ints(1, 2)), box(ints(1, 3)), box(ints(0, 2)), box(list{from(num(1))}), box(list{between(num(1), txt("")), from(txt("a"))}), box(list{between(num(1), greatest)}),
		box(list{between(txt(""), txt("a"))}), box(list{between(txt(""), txt("a\x00"))}), box(list{from(txt("a"))}), box(comb(2, 2, 1, 1)), box(comb(3, 2, 1, 1)),
		box(ints(1, 2), ints(1, 2)), box(ints(1, 2), ints(1, 3)), tree(2, part(ints(1, 2), box(ints(1, 2))), part(ints(3, 4), box(ints(1, 3)))),
		tree(2, part(ints(1, 2), box(ints(1, 2))), part(ints(3, 4), box(ints(1, 4)))), tree(2, part(ints(1, 2), box(ints(1, 3))), part(ints(3, 4), box(ints(1, 2)))),
		full(), api.Region{}, tree(1), tree(2), tree(12), everything(1), everything(2), everything(12), stairs(31), stairs(32),
	}
	for i, a := range regions {
		for j, b := range regions {
			if got := region.Equal(a, b); got != (i == j) {
				t.Errorf("Equal(%v, %v) = %v", a, b, got)
			}
		}
	}
	for _, c := range canonicalRegions() {
		if !region.Equal(c.r, copied(c.r)) {
			t.Errorf("%v is not equal to its copy", c.r)
		}
	}
	if !region.Equal(tree(1), api.Region{Width: 1, Parts: []api.Part{}}) {
		t.Error("no parts are not equal to an empty list of parts")
	}
}

// P4.2

func TestEmptyAndAll(t *testing.T) {
	for width := range api.MaxWidth + 1 {
		if r, e := region.Empty(width); !same(r, api.Region{Width: width}) || e != api.OK {
			t.Errorf("Empty(%d) = %v, %d", width, r, e)
		}
		if r, e := region.All(width); !same(r, everything(width)) || e != api.OK {
			t.Errorf("All(%d) = %v, %d", width, r, e)
		}
	}
	for _, width := range []int{-1, 13, 14, math.MinInt, math.MaxInt} {
		if r, e := region.Empty(width); !isZero(r) || e != api.ErrArg {
			t.Errorf("Empty(%d) = %v, %d", width, r, e)
		}
		if r, e := region.All(width); !isZero(r) || e != api.ErrArg {
			t.Errorf("All(%d) = %v, %d", width, r, e)
		}
	}
}

func TestBox(t *testing.T) {
	for _, sets := range [][]list{
		nil, {}, {ints(1, 2)}, {interval.All(), ints(1, 2), {from(txt("a"))}}, {comb(64, 2, 0, 1), comb(64, 3, 0, 1)},
		repeat(comb(2, 2, 0, 1), 12), {{between(missing, hidden)}, {between(hidden, no), between(yes, greatest)}},
	} {
		if r, e := region.Box(sets); !same(r, box(sets...)) || e != api.OK {
			t.Errorf("Box(%v) = %v, %d", sets, r, e)
		}
	}
}

func TestBoxWithAnEmptySet(t *testing.T) {
	for width := 1; width <= api.MaxWidth; width++ {
		for at := range width {
			sets := repeat(ints(1, 2), width)
			for _, empty := range []list{nil, {}} {
				sets[at] = empty
				if r, e := region.Box(sets); !same(r, tree(width)) || e != api.OK {
					t.Errorf("Box(%v) = %v, %d", sets, r, e)
				}
			}
		}
	}
}

func TestBoxErrors(t *testing.T) {
	bad := ints(2, 2)
	for name, c := range map[string]struct {
		sets []list
		want api.Errno
	}{
		"13 sets":                       {repeat(ints(1, 2), 13), api.ErrArg},
		"13 empty sets":                 {repeat(nil, 13), api.ErrArg},
		"13 bad sets":                   {repeat(bad, 13), api.ErrArg},
		"1000 sets":                     {repeat(interval.All(), 1000), api.ErrArg},
		"a bad set":                     {[]list{bad}, api.ErrInterval},
		"a bad last set":                {[]list{ints(1, 2), interval.All(), bad}, api.ErrInterval},
		"a bad set behind an empty one": {[]list{nil, bad}, api.ErrInterval},
		"an empty set behind a bad one": {[]list{bad, nil}, api.ErrInterval},
		"65 intervals":                  {[]list{comb(65, 2, 0, 1)}, api.ErrInterval},
		"intervals that touch":          {[]list{{between(num(1), num(2)), between(num(2), num(3))}}, api.ErrInterval},
	} {
		if r, e := region.Box(c.sets); !isZero(r) || e != c.want {
			t.Errorf("%s: Box = %v, %d", name, r, e)
		}
	}
}

func TestOne(t *testing.T) {
	values := []api.Value{missing, hidden, no, yes, num(math.MinInt64), num(7), num(math.MaxInt64), txt(""), txt("a"), txt(greatest.Text[1:]), greatest}
	next := append(slices.Clone(values[1:]), api.Value{})
	for i, v := range values {
		w, ok := value.Next(v)
		set := list{{From: v, To: w, Open: !ok}}
		for _, c := range []struct {
			row  api.Row
			want api.Region
		}{
			{row(v), box(set)}, {row(v, num(5)), box(set, ints(5, 6))}, {row(num(5), v), box(ints(5, 6), set)},
		} {
			if r, e := region.One(c.row); !same(r, c.want) || e != api.OK {
				t.Errorf("One(%v) = %v, %d", c.row, r, e)
			}
		}
		r, _ := region.One(row(v))
		if region.Has(r, row(next[i])) {
			t.Errorf("One(%v) has %v", v, next[i])
		}
	}
	if r, e := region.One(nil); !same(r, full()) || e != api.OK {
		t.Errorf("One of no cells = %v, %d", r, e)
	}
	if r, e := region.One(slices.Repeat(row(num(3)), 12)); !same(r, box(repeat(ints(3, 4), 12)...)) || e != api.OK {
		t.Errorf("One of 12 cells = %v, %d", r, e)
	}
}

func TestOneErrors(t *testing.T) {
	for _, c := range []struct {
		row  api.Row
		want api.Errno
	}{
		{slices.Repeat(row(num(1)), 13), api.ErrArg}, {make(api.Row, 13), api.ErrArg}, {make(api.Row, 1000), api.ErrArg},
		{make(api.Row, 12), api.ErrValue}, {row(api.Value{}), api.ErrValue}, {row(num(1), api.Value{Kind: 6}), api.ErrValue},
		{row(txt(greatest.Text+"a"), num(1)), api.ErrValue}, {row(missing, api.Value{Kind: api.KindHidden, Int: 1}), api.ErrValue}, {row(api.Value{Kind: api.KindBool, Int: 2}), api.ErrValue},
	} {
		if r, e := region.One(c.row); !isZero(r) || e != c.want {
			t.Errorf("One(%v) = %v, %d, want error %d", c.row, r, e, c.want)
		}
	}
}

// P4.3

func TestHas(t *testing.T) {
	r := tree(2, part(list{between(hidden, yes), from(txt("b"))}, box(ints(5, 7))), part(ints(1, 9), tree(1, part(list{between(missing, hidden), between(num(8), num(9))}, full()))))
	for _, in := range []api.Row{
		row(hidden, num(5)), row(no, num(6)), row(txt("b"), num(5)), row(greatest, num(6)), row(num(1), missing), row(num(8), num(8)),
	} {
		if !region.Has(r, in) {
			t.Errorf("Has(%v) = false", in)
		}
	}
	for _, out := range []api.Row{
		row(missing, num(5)), row(hidden, num(7)), row(hidden, num(8)), row(yes, num(5)), row(num(1), num(5)), row(num(9), missing), row(txt("a\xff"), num(5)),
		nil, row(hidden), row(hidden, num(5), num(5)), row(num(1)), row(num(5), hidden),
		row(api.Value{}, num(5)), row(num(1), api.Value{}), row(txt(greatest.Text+"a"), num(5)), row(api.Value{Kind: api.KindBool, Int: -1}, num(5)),
	} {
		if region.Has(r, out) {
			t.Errorf("Has(%v) = true", out)
		}
	}
}

func TestHasOfAllAndEmpty(t *testing.T) {
	for width := range api.MaxWidth + 1 {
		for length := range api.MaxWidth + 2 {
			cells := slices.Repeat(row(hidden), length)
			if region.Has(everything(width), cells) != (length == width) || region.Has(tree(width), cells) {
				t.Errorf("width %d: a row of %d cells", width, length)
			}
		}
		if width > 0 && region.Has(everything(width), append(slices.Repeat(row(hidden), width-1), api.Value{Kind: 6})) {
			t.Errorf("width %d: has an invalid cell", width)
		}
	}
}

func TestHasOfRegionsThatAreNotCanonical(t *testing.T) {
	for name, r := range notCanonical() {
		for width := range api.MaxWidth + 2 {
			for n := range int64(10) {
				if cells := slices.Repeat(row(num(n)), width); region.Has(r, cells) {
					t.Errorf("%s: Has(%v) = true", name, cells)
				}
			}
		}
	}
	// The part that contains the row is in order; a later one is not.
	if region.Has(tree(2, part(ints(1, 2), everything(1)), part(ints(3, 4), tree(1))), row(num(1), num(1))) {
		t.Error("Has of a region that is not canonical behind the row = true")
	}
}

// P4.9

func TestLeast(t *testing.T) {
	for _, c := range []struct {
		r    api.Region
		want api.Row
	}{
		{full(), row()},
		{everything(1), row(missing)},
		{everything(12), slices.Repeat(row(missing), 12)},
		{box(comb(64, 2, 3, 1), list{from(txt("b"))}), row(num(3), txt("b"))},
		{tree(2, part(ints(1, 2), box(ints(8, 9))), part(ints(2, 3), box(ints(1, 2)))), row(num(1), num(8))},
		{tree(3, part(ints(1, 2), stairs(3)), part(ints(2, 3), everything(2))), row(num(1), num(0), num(0))},
		{box(list{from(greatest)}), row(greatest)},
	} {
		if got, ok := region.Least(c.r); !ok || !slices.Equal(got, c.want) || !region.Has(c.r, got) {
			t.Errorf("Least(%v) = %v, %v", c.r, got, ok)
		}
	}
	for width := range api.MaxWidth + 1 {
		if got, ok := region.Least(tree(width)); got != nil || ok {
			t.Errorf("Least of no rows = %v, %v", got, ok)
		}
	}
	for name, r := range notCanonical() {
		if got, ok := region.Least(r); got != nil || ok {
			t.Errorf("%s: Least = %v, %v", name, got, ok)
		}
	}
}

// The promises about errors of P4.4 to P4.8

func TestRegionsThatAreNotCanonical(t *testing.T) {
	check := func(name string, r api.Region, e api.Errno) {
		t.Helper()
		if !isZero(r) || e != api.ErrRegion {
			t.Errorf("%s = %v, %d, want ErrRegion", name, r, e)
		}
	}
	binary := map[string]func(a, b api.Region) (api.Region, api.Errno){
		"Union": region.Union, "Intersect": region.Intersect, "Minus": region.Minus, "Product": region.Product,
		"Covers": func(a, b api.Region) (api.Region, api.Errno) {
			ok, e := region.Covers(a, b)
			return api.Region{Full: ok}, e
		},
	}
	for name, bad := range notCanonical() {
		for of, f := range binary {
			for i, good := range []api.Region{{Width: bad.Width}, {}, everything(1), everything(12), stairs(32), bad} {
				r, e := f(bad, good)
				check(fmt.Sprintf("%s: %s of it and region %d", name, of, i), r, e)
				r, e = f(good, bad)
				check(fmt.Sprintf("%s: %s of region %d and it", name, of, i), r, e)
			}
		}
		r, e := region.Complement(bad)
		check(name+": Complement", r, e)
		for _, columns := range [][]int{nil, {0}, {0, 1}, {5}, {-1}, {0, 0}} {
			r, e = region.Project(bad, columns)
			check(name+": Project", r, e)
			r, e = region.ForAll(bad, columns)
			check(name+": ForAll", r, e)
			for _, width := range []int{-1, 0, 2, 12, 13} {
				r, e = region.Lift(bad, columns, width)
				check(name+": Lift", r, e)
			}
		}
	}
}

func TestWidthsThatDiffer(t *testing.T) {
	for a := range api.MaxWidth + 1 {
		for b := range api.MaxWidth + 1 {
			if a == b {
				continue
			}
			for of, f := range map[string]func(a, b api.Region) (api.Region, api.Errno){"Union": region.Union, "Intersect": region.Intersect, "Minus": region.Minus} {
				for _, r := range []api.Region{everything(a), tree(a)} {
					for _, s := range []api.Region{everything(b), tree(b)} {
						if r, e := f(r, s); !isZero(r) || e != api.ErrRegion {
							t.Errorf("%s of the widths %d and %d = %v, %d", of, a, b, r, e)
						}
					}
				}
			}
			if ok, e := region.Covers(everything(a), tree(b)); ok || e != api.ErrRegion {
				t.Errorf("Covers of the widths %d and %d = %v, %d", a, b, ok, e)
			}
		}
	}
}

// R2

// copied copies r into new memory.
func copied(r api.Region) api.Region {
	c := api.Region{Width: r.Width, Full: r.Full}
	for _, p := range r.Parts {
		c.Parts = append(c.Parts, part(slices.Clone(p.Values), copied(p.Rest)))
	}
	return c
}

// roomy copies r into lists with unused capacity, where something stands.
func roomy(r api.Region) api.Region {
	parts := []api.Part{}
	for _, p := range r.Parts {
		parts = append(parts, part(append(p.Values[:len(p.Values):len(p.Values)], ints(77, 78)...)[:len(p.Values)], roomy(p.Rest)))
	}
	parts = append(parts, part(ints(88, 89), full()))
	return api.Region{Width: r.Width, Full: r.Full, Parts: parts[:len(r.Parts)]}
}

// stretched returns r with its unused capacity in use.
func stretched(r api.Region) api.Region {
	s := api.Region{Width: r.Width, Full: r.Full}
	for _, p := range r.Parts[:cap(r.Parts)] {
		s.Parts = append(s.Parts, part(slices.Clone(p.Values[:cap(p.Values)]), stretched(p.Rest)))
	}
	return s
}

// memory is the places of intervals and parts that were met.
type memory struct {
	intervals map[*api.Interval]bool
	parts     map[*api.Part]bool
}

// meets reports whether a place of r, used or not, was met before, be it in r itself.
func (m memory) meets(r api.Region) bool {
	met := false
	parts := r.Parts[:cap(r.Parts)]
	for i := range parts {
		met = met || m.parts[&parts[i]]
		m.parts[&parts[i]] = true
		met = m.meetsSet(parts[i].Values) || met
		met = m.meets(parts[i].Rest) || met
	}
	return met
}

func (m memory) meetsSet(set list) bool {
	met := false
	set = set[:cap(set)]
	for i := range set {
		met = met || m.intervals[&set[i]]
		m.intervals[&set[i]] = true
	}
	return met
}

func TestResultsShareNoMemory(t *testing.T) {
	u := tree(2, part(ints(1, 4), box(ints(5, 9))), part(ints(6, 9), tree(1, part(comb(3, 3, 0, 2), full()))))
	for name, c := range map[string]struct {
		args []api.Region
		f    func(args []api.Region) (api.Region, api.Errno)
	}{
		"Union":         {[]api.Region{u, stairs(5)}, func(l []api.Region) (api.Region, api.Errno) { return region.Union(l[0], l[1]) }},
		"Union, empty":  {[]api.Region{u, tree(2)}, func(l []api.Region) (api.Region, api.Errno) { return region.Union(l[0], l[1]) }},
		"Union, first":  {[]api.Region{tree(2), u}, func(l []api.Region) (api.Region, api.Errno) { return region.Union(l[0], l[1]) }},
		"Intersect":     {[]api.Region{u, everything(2)}, func(l []api.Region) (api.Region, api.Errno) { return region.Intersect(l[0], l[1]) }},
		"Minus":         {[]api.Region{u, stairs(2)}, func(l []api.Region) (api.Region, api.Errno) { return region.Minus(l[0], l[1]) }},
		"Complement":    {[]api.Region{u}, func(l []api.Region) (api.Region, api.Errno) { return region.Complement(l[0]) }},
		"Project":       {[]api.Region{u}, func(l []api.Region) (api.Region, api.Errno) { return region.Project(l[0], []int{1, 0}) }},
		"Project alone": {[]api.Region{box(ints(1, 2), ints(3, 4))}, func(l []api.Region) (api.Region, api.Errno) { return region.Project(l[0], []int{0, 1}) }},
		"ForAll":        {[]api.Region{u}, func(l []api.Region) (api.Region, api.Errno) { return region.ForAll(l[0], []int{1, 0}) }},
		"Lift":          {[]api.Region{u}, func(l []api.Region) (api.Region, api.Errno) { return region.Lift(l[0], []int{3, 1}, 5) }},
		"Product":       {[]api.Region{u, stairs(3)}, func(l []api.Region) (api.Region, api.Errno) { return region.Product(l[0], l[1]) }},
		"Product, full": {[]api.Region{u, full()}, func(l []api.Region) (api.Region, api.Errno) { return region.Product(l[0], l[1]) }},
		"full Product":  {[]api.Region{full(), u}, func(l []api.Region) (api.Region, api.Errno) { return region.Product(l[0], l[1]) }},
		"All":           {nil, func([]api.Region) (api.Region, api.Errno) { return region.All(3) }},
		"One":           {nil, func([]api.Region) (api.Region, api.Errno) { return region.One(row(yes, yes)) }},
	} {
		m := memory{map[*api.Interval]bool{}, map[*api.Part]bool{}}
		var args, before []api.Region
		for _, r := range c.args {
			args = append(args, roomy(r))
			before = append(before, stretched(args[len(args)-1]))
			m.meets(args[len(args)-1])
		}
		for range 2 {
			r, e := c.f(args)
			if e != api.OK || len(r.Parts) == 0 || m.meets(r) {
				t.Errorf("%s = %v, %d, with memory of an argument or a result", name, r, e)
			}
		}
		for i, r := range args {
			if !same(stretched(r), before[i]) {
				t.Errorf("%s changed an argument to %v", name, stretched(r))
			}
		}
	}
}

func TestBoxSharesNoMemory(t *testing.T) {
	set := append(comb(3, 3, 0, 1), ints(77, 78)...)
	before := slices.Clone(set)
	m := memory{map[*api.Interval]bool{}, map[*api.Part]bool{}}
	m.meetsSet(set)
	for range 2 {
		if r, e := region.Box(repeat(set[:3], 3)); e != api.OK || m.meets(r) {
			t.Errorf("Box = %v, %d, with memory of an argument or a result", r, e)
		}
	}
	if !slices.Equal(set, before) {
		t.Errorf("Box changed its argument to %v", set)
	}
}

func TestReadersChangeNothing(t *testing.T) {
	for _, c := range canonicalRegions() {
		r := roomy(c.r)
		before := stretched(r)
		region.Valid(r)
		region.Size(r)
		region.Equal(r, r)
		region.Covers(r, r)
		region.Has(r, slices.Repeat(row(num(1)), r.Width))
		least, ok := region.Least(r)
		clear(least)
		if again, okAgain := region.Least(r); ok && (!okAgain || len(again) != len(least) || len(again) > 0 && again[0] == api.Value{}) {
			t.Errorf("Least of %v returns the same memory twice", c.r)
		}
		if !same(stretched(r), before) {
			t.Errorf("%v has changed", c.r)
		}
	}
}

func TestColumnsStayAsTheyAre(t *testing.T) {
	columns := []int{1, 0, 7, 7}
	for name, f := range map[string]func(columns []int){
		"Project": func(columns []int) { region.Project(stairs(3), columns) },
		"ForAll":  func(columns []int) { region.ForAll(stairs(3), columns) },
		"Lift":    func(columns []int) { region.Lift(stairs(3), columns, 4) },
	} {
		if f(columns[:2]); !slices.Equal(columns, []int{1, 0, 7, 7}) {
			t.Errorf("%s changed its columns to %v", name, columns)
		}
	}
}
