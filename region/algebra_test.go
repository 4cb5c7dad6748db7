package region_test

import (
	"math/rand"
	"slices"
	"testing"

	"partsync/api"
	"partsync/interval"
	"partsync/region"
)

// grid divides the values into pieces, each from a border to the next one. A set of rows of pieces is a number: it has a bit for each row, and the rows with a lesser first piece have the lower bits.
type grid []api.Value

func halves() grid { return grid{missing, num(0)} }
func thirds() grid { return grid{missing, num(0), txt("a")} }
func fifths() grid { return grid{missing, hidden, num(0), num(1), greatest} }

// cells returns the number of rows of pieces of the width.
func (g grid) cells(width int) int {
	n := 1
	for range width {
		n *= len(g)
	}
	return n
}

// rows returns the rows of pieces in the order of their bits.
func (g grid) rows(width int) [][]int {
	rows := [][]int{nil}
	for range width {
		var longer [][]int
		for first := range g {
			for _, rest := range rows {
				longer = append(longer, slices.Concat([]int{first}, rest))
			}
		}
		rows = longer
	}
	return rows
}

// bit returns the bit of a row of pieces.
func (g grid) bit(pieces []int) uint {
	at := 0
	for _, piece := range pieces {
		at = at*len(g) + piece
	}
	return 1 << at
}

// all returns the set of all rows of the width.
func (g grid) all(width int) uint { return 1<<g.cells(width) - 1 }

// values returns the row of the first values of the pieces.
func (g grid) values(pieces []int) api.Row {
	var cells api.Row
	for _, piece := range pieces {
		cells = append(cells, g[piece])
	}
	return cells
}

// set returns the canonical list of the pieces for which in holds.
func (g grid) set(in func(piece int) bool) list {
	var l list
	for piece, border := range g {
		switch {
		case !in(piece):
		case piece > 0 && in(piece-1):
			l[len(l)-1] = g.upTo(l[len(l)-1].From, piece)
		default:
			l = append(l, g.upTo(border, piece))
		}
	}
	return l
}

// upTo returns the interval from a value to the end of the piece.
func (g grid) upTo(v api.Value, piece int) api.Interval {
	if piece+1 == len(g) {
		return from(v)
	}
	return between(v, g[piece+1])
}

// region returns the canonical region of the set, made as the chapter defines it.
func (g grid) region(set uint, width int) api.Region {
	if width == 0 {
		return api.Region{Full: set == 1}
	}
	below := g.cells(width - 1)
	rest := func(piece int) uint { return set >> (piece * below) & g.all(width-1) }
	r := tree(width)
	var done []uint
	for piece := range g {
		if rest(piece) == 0 || slices.Contains(done, rest(piece)) {
			continue
		}
		done = append(done, rest(piece))
		same := g.set(func(other int) bool { return rest(other) == rest(piece) })
		r.Parts = append(r.Parts, part(same, g.region(rest(piece), width-1)))
	}
	return r
}

// world is sets of rows of one width over a grid.
type world struct {
	grid
	width int
	sets  []uint
}

// worlds returns worlds with all sets of rows, and wider ones with some.
func worlds() []world {
	l := []world{
		{grid: halves(), width: 0}, {grid: halves(), width: 1}, {grid: fifths(), width: 1}, {grid: halves(), width: 2}, {grid: halves(), width: 3},
		{grid: thirds(), width: 2}, {grid: thirds(), width: 3}, {grid: fifths(), width: 2}, {grid: halves(), width: 5},
	}
	random := rand.New(rand.NewSource(4))
	for i, w := range l {
		cells := w.cells(w.width)
		if cells <= 8 {
			for set := range uint(1) << cells {
				l[i].sets = append(l[i].sets, set)
			}
			continue
		}
		l[i].sets = []uint{0, w.all(w.width)}
		for range 30 {
			l[i].sets = append(l[i].sets, uint(random.Uint64())&w.all(w.width))
		}
	}
	return l
}

// partners returns the sets with which tests combine the i-th one: all of them if they are few.
func (w world) partners(i int) []uint {
	if len(w.sets) < 100 {
		return w.sets
	}
	var l []uint
	const step = 7
	for j := i % step; j < len(w.sets); j += step {
		l = append(l, w.sets[j])
	}
	return l
}

func TestTheGridIsCanonical(t *testing.T) {
	for _, w := range worlds() {
		for _, set := range w.sets {
			r := w.region(set, w.width)
			if !region.Valid(r) {
				t.Fatalf("%v is not canonical", r)
			}
			for _, pieces := range w.rows(w.width) {
				if region.Has(r, w.values(pieces)) != (set&w.bit(pieces) > 0) {
					t.Fatalf("%v has %v: %v", r, pieces, set&w.bit(pieces) == 0)
				}
			}
		}
	}
}

// P4.4

func TestOperationsOfAllWorlds(t *testing.T) {
	operations := map[string]struct {
		f    func(a, b api.Region) (api.Region, api.Errno)
		bits func(a, b uint) uint
	}{
		"Union":     {region.Union, func(a, b uint) uint { return a | b }},
		"Intersect": {region.Intersect, func(a, b uint) uint { return a & b }},
		"Minus":     {region.Minus, func(a, b uint) uint { return a &^ b }},
	}
	for _, w := range worlds() {
		for i, a := range w.sets {
			for _, b := range w.partners(i) {
				for name, o := range operations {
					want := w.region(o.bits(a, b), w.width)
					if got, e := o.f(w.region(a, w.width), w.region(b, w.width)); !same(got, want) || e != api.OK {
						t.Fatalf("%s of %v and %v = %v, %d, want %v", name, w.region(a, w.width), w.region(b, w.width), got, e, want)
					}
				}
			}
		}
	}
}

func TestComplementOfAllWorlds(t *testing.T) {
	for _, w := range worlds() {
		for _, a := range w.sets {
			want := w.region(w.all(w.width)&^a, w.width)
			if got, e := region.Complement(w.region(a, w.width)); !same(got, want) || e != api.OK {
				t.Fatalf("Complement of %v = %v, %d, want %v", w.region(a, w.width), got, e, want)
			}
		}
	}
}

// outcome is what an operation returns.
type outcome struct {
	r api.Region
	e api.Errno
}

func returned(r api.Region, e api.Errno) outcome { return outcome{r, e} }

// check compares outcomes by name; for a size of 0 or more it needs a canonical region of this size, else ErrLimit.
func check(t *testing.T, outcomes map[string]struct {
	got  outcome
	size int
}) {
	t.Helper()
	for name, c := range outcomes {
		if c.size < 0 {
			if !isZero(c.got.r) || c.got.e != api.ErrLimit {
				t.Errorf("%s: a region of the size %d, %d, want ErrLimit", name, region.Size(c.got.r), c.got.e)
			}
			continue
		}
		if c.got.e != api.OK || !region.Valid(c.got.r) || region.Size(c.got.r) != c.size {
			t.Errorf("%s: a region of the size %d (canonical: %v), %d, want the size %d", name, region.Size(c.got.r), region.Valid(c.got.r), c.got.e, c.size)
		}
	}
}

func TestOperationsAtTheLimitOfParts(t *testing.T) {
	further := tree(2, part(ints(500, 501), box(ints(500, 501))))
	ten, eleven := box(repeat(ints(1, 2), 10)...), box(repeat(ints(1, 2), 11)...)
	notTen, _ := region.Complement(ten)
	check(t, map[string]struct {
		got  outcome
		size int
	}{
		"Union of 31 and 1 boxes":              {returned(region.Union(stairs(31), further)), 64},
		"Union of 32 and 1 boxes":              {returned(region.Union(stairs(32), further)), -1},
		"Union of 1 and 32 boxes":              {returned(region.Union(further, stairs(32))), -1},
		"Union of 32 boxes and one with these": {returned(region.Union(stairs(32), box(ints(0, 64), ints(0, 64)))), 2},
		"Union of 32 boxes and All":            {returned(region.Union(stairs(32), everything(2))), 2},
		"Union of the same 32 boxes":           {returned(region.Union(stairs(32), stairs(32))), 64},
		"Minus of All and 31 boxes":            {returned(region.Minus(everything(2), stairs(31))), 64},
		"Minus of All and 32 boxes":            {returned(region.Minus(everything(2), stairs(32))), -1},
		"Complement of 31 boxes":               {returned(region.Complement(stairs(31))), 64},
		"Complement of 32 boxes":               {returned(region.Complement(stairs(32))), -1},
		"Complement of a box of width 10":      {returned(region.Complement(ten)), 64},
		"Complement of this":                   {returned(region.Complement(notTen)), 10},
		"Complement of a box of width 11":      {returned(region.Complement(eleven)), -1},
		"Intersect of 32 boxes and All":        {returned(region.Intersect(stairs(32), everything(2))), 64},
		"Intersect of 32 boxes and rows":       {returned(region.Intersect(tree(3, part(ints(1, 2), stairs(31))), box(list{from(missing)}, ints(0, 9), ints(0, 9)))), 11},
		"Intersect that divides rests":         {returned(region.Intersect(tree(3, part(ints(1, 3), stairs(30)), part(ints(4, 5), stairs(1))), tree(3, part(ints(1, 2), everything(2)), part(ints(2, 9), box(ints(0, 50), ints(0, 50)))))), -1},
	})
}

func TestOperationsAtTheLimitOfIntervals(t *testing.T) {
	// The wide boxes are greater in the second column, so that holes of the first column stay.
	wide, narrow := ints(1, 9), ints(2, 3)
	holes := func(n int) list { return comb(n, 4, 0, 2) }
	check(t, map[string]struct {
		got  outcome
		size int
	}{
		"Union of 32 and 32 intervals":               {returned(region.Union(box(comb(32, 4, 0, 1)), box(comb(32, 4, 2, 1)))), 1},
		"Union of 32 and 33 intervals":               {returned(region.Union(box(comb(32, 4, 0, 1)), box(comb(33, 4, 2, 1)))), -1},
		"Union of 64 and 64 that touch":              {returned(region.Union(box(comb(64, 4, 0, 2)), box(comb(64, 4, 2, 2)))), 1},
		"Union of 64 and 64 that overlap":            {returned(region.Union(box(comb(64, 4, 0, 3)), box(comb(64, 4, 2, 3)))), 1},
		"Union of 64 intervals and one around them":  {returned(region.Union(box(holes(64), narrow), box(ints(-9, 999), narrow))), 2},
		"Union of 64 intervals and All":              {returned(region.Union(box(holes(64), narrow), everything(2))), 2},
		"Union with 63 rests that grow":              {returned(region.Union(box(ints(-9, 250), narrow), box(comb(63, 4, 0, 2), wide))), 4},
		"Union with 64 rests that grow":              {returned(region.Union(box(ints(-9, 999), narrow), box(holes(64), wide))), -1},
		"Union with 64 rests that do not grow":       {returned(region.Union(box(ints(-9, 999), wide), box(holes(64), narrow))), 2},
		"Union with 65 intervals below":              {returned(region.Union(box(ints(1, 2), comb(64, 4, 0, 1)), box(ints(1, 3), ints(300, 301)))), -1},
		"Union with 64 intervals below":              {returned(region.Union(box(ints(1, 2), comb(63, 4, 0, 1)), box(ints(1, 3), ints(300, 301)))), 4},
		"Intersect of 64 and 64 intervals, 127 left": {returned(region.Intersect(box(comb(64, 4, 0, 3)), box(comb(64, 4, 2, 3)))), -1},
		"Intersect of 32 and 33 intervals, 64 left":  {returned(region.Intersect(box(comb(32, 4, 0, 3)), box(comb(33, 4, -2, 3)))), 1},
		"Minus of one interval and 63 holes":         {returned(region.Minus(box(ints(-9, 999)), box(holes(63)))), 1},
		"Minus of one interval and 64 holes":         {returned(region.Minus(box(ints(-9, 999)), box(holes(64)))), -1},
		"Complement of 63 intervals":                 {returned(region.Complement(box(holes(63)))), 1},
		"Complement of 64 intervals":                 {returned(region.Complement(box(holes(64)))), -1},
		"Complement of 63 intervals of width 2":      {returned(region.Complement(box(holes(63), narrow))), 4},
		"Complement of 64 intervals of width 2":      {returned(region.Complement(box(holes(64), narrow))), -1},
		"Complement of 64 intervals below":           {returned(region.Complement(box(narrow, holes(64)))), -1},
	})
}

// P4.5

func TestCoversOfAllWorlds(t *testing.T) {
	for _, w := range worlds() {
		for i, a := range w.sets {
			for _, b := range append(slices.Clone(w.partners(i)), a, a&^4) {
				if got, e := region.Covers(w.region(a, w.width), w.region(b, w.width)); got != (b&^a == 0) || e != api.OK {
					t.Fatalf("Covers(%v, %v) = %v, %d", w.region(a, w.width), w.region(b, w.width), got, e)
				}
			}
		}
	}
}

func TestCoversHasNoLimit(t *testing.T) {
	twelve := box(repeat(ints(1, 2), 12)...)
	for name, c := range map[string]struct {
		a, b api.Region
		want bool
	}{
		"a box of width 12 and All":        {twelve, everything(12), false},
		"All and a box of width 12":        {everything(12), twelve, true},
		"64 intervals and All":             {box(comb(64, 4, 0, 2)), everything(1), false},
		"64 intervals and 64, 127 left":    {box(comb(64, 4, 3, 3)), box(comb(64, 4, 0, 2)), false},
		"64 intervals and a part of each":  {box(comb(64, 4, 0, 3)), box(comb(64, 4, 1, 2)), true},
		"32 boxes and All":                 {stairs(32), everything(2), false},
		"32 boxes and 31 of them":          {stairs(32), stairs(31), true},
		"31 boxes and 32":                  {stairs(31), stairs(32), false},
		"what does not meet, of 32 boxes":  {stairs(32), box(ints(500, 501), interval.All()), false},
		"32 boxes and no rows":             {stairs(32), tree(2), true},
		"no rows and 32 boxes":             {tree(2), stairs(32), false},
		"rows that differ in the last one": {box(append(repeat(interval.All(), 11), ints(1, 9))...), box(append(repeat(interval.All(), 11), ints(1, 10))...), false},
	} {
		if got, e := region.Covers(c.a, c.b); got != c.want || e != api.OK {
			t.Errorf("%s: Covers = %v, %d", name, got, e)
		}
	}
}

// P4.10

func TestRegionsWithTheSameRowsAreEqual(t *testing.T) {
	for _, w := range worlds() {
		for i, a := range w.sets {
			for _, b := range w.partners(i) {
				if region.Equal(w.region(a, w.width), w.region(b, w.width)) != (a == b) {
					t.Fatalf("%v and %v: Equal is %v", w.region(a, w.width), w.region(b, w.width), a != b)
				}
			}
		}
	}
}

// must returns the region of an operation that has no error.
func must(t *testing.T) func(r api.Region, e api.Errno) api.Region {
	return func(r api.Region, e api.Errno) api.Region {
		t.Helper()
		if e != api.OK || !region.Valid(r) {
			t.Fatalf("%v, %d", r, e)
		}
		return r
	}
}

// samples returns regions of width 3 whose edges meet in many ways.
func samples() []api.Region {
	return []api.Region{
		tree(3), everything(3), box(ints(1, 5), ints(2, 6), ints(3, 7)), box(ints(3, 9), list{from(num(4))}, interval.All()),
		tree(3, part(ints(2, 4), stairs(2)), part(list{between(num(4), num(5)), from(txt("a"))}, stairs(1))),
		tree(3, part(ints(0, 2), everything(2)), part(ints(2, 3), box(comb(3, 3, 1, 2), list{between(hidden, num(5))})), part(list{from(greatest)}, stairs(3))),
		box(list{between(missing, hidden), between(no, yes)}, list{from(missing)}, ints(1, 5)),
	}
}

func TestAlgebra(t *testing.T) {
	of := must(t)
	for _, a := range samples() {
		notA := of(region.Complement(a))
		if !same(of(region.Complement(notA)), a) {
			t.Errorf("the complement of the complement of %v is another region", a)
		}
		if !same(of(region.Union(a, notA)), everything(3)) || !same(of(region.Intersect(a, notA)), tree(3)) {
			t.Errorf("%v and its complement are not complements", a)
		}
		for _, b := range samples() {
			notB := of(region.Complement(b))
			both, either := of(region.Intersect(a, b)), of(region.Union(a, b))
			if !same(both, of(region.Intersect(b, a))) || !same(either, of(region.Union(b, a))) {
				t.Errorf("%v, %v: the order matters", a, b)
			}
			if !same(of(region.Complement(either)), of(region.Intersect(notA, notB))) {
				t.Errorf("%v, %v: the complement of the union is not the intersection of the complements", a, b)
			}
			if !same(of(region.Minus(a, b)), of(region.Intersect(a, notB))) {
				t.Errorf("%v, %v: Minus is not the intersection with the complement", a, b)
			}
			if !same(of(region.Union(a, both)), a) || !same(of(region.Intersect(a, either)), a) {
				t.Errorf("%v, %v: no absorption", a, b)
			}
			for _, c := range samples() {
				if !same(of(region.Intersect(c, either)), of(region.Union(of(region.Intersect(c, a)), of(region.Intersect(c, b))))) {
					t.Errorf("%v, %v, %v: not distributive", a, b, c)
				}
			}
		}
	}
}
