package region_test

import (
	"math"
	"slices"
	"testing"

	"partsync/api"
	"partsync/interval"
	"partsync/region"
)

// choices returns all lists of distinct columns of rows of the width.
func choices(width int) [][]int {
	l := [][]int{nil}
	for i := 0; i < len(l); i++ {
		for column := range width {
			if !slices.Contains(l[i], column) {
				l = append(l, append(slices.Clone(l[i]), column))
			}
		}
	}
	return l
}

// chosen returns the pieces at the columns.
func chosen(pieces, columns []int) []int {
	var l []int
	for _, column := range columns {
		l = append(l, pieces[column])
	}
	return l
}

// projected returns the set of the rows' pieces at the columns.
func (w world) projected(set uint, columns []int) uint {
	var out uint
	for _, pieces := range w.rows(w.width) {
		if set&w.bit(pieces) > 0 {
			out |= w.bit(chosen(pieces, columns))
		}
	}
	return out
}

// lifted returns the set of the rows of the width whose pieces at the columns are in the set.
func (w world) lifted(set uint, columns []int, width int) uint {
	var out uint
	for _, pieces := range w.rows(width) {
		if set&w.bit(chosen(pieces, columns)) > 0 {
			out |= w.bit(pieces)
		}
	}
	return out
}

// smallWorlds returns the worlds of which tests can visit all lists of columns.
func smallWorlds() []world {
	return slices.DeleteFunc(worlds(), func(w world) bool { return w.width > 3 })
}

// P4.6

func TestProjectOfAllWorlds(t *testing.T) {
	for _, w := range smallWorlds() {
		for _, set := range w.sets {
			for _, columns := range choices(w.width) {
				r, want := w.region(set, w.width), w.region(w.projected(set, columns), len(columns))
				if got, e := region.Project(r, columns); !same(got, want) || e != api.OK {
					t.Fatalf("Project(%v, %v) = %v, %d, want %v", r, columns, got, e, want)
				}
			}
		}
	}
}

func TestForAllOfAllWorlds(t *testing.T) {
	for _, w := range smallWorlds() {
		for _, set := range w.sets {
			for _, columns := range choices(w.width) {
				others := w.projected(w.all(w.width)&^set, columns)
				r, want := w.region(set, w.width), w.region(w.all(len(columns))&^others, len(columns))
				if got, e := region.ForAll(r, columns); !same(got, want) || e != api.OK {
					t.Fatalf("ForAll(%v, %v) = %v, %d, want %v", r, columns, got, e, want)
				}
			}
		}
	}
}

func TestNoColumns(t *testing.T) {
	for width := range api.MaxWidth + 1 {
		for name, c := range map[string]struct {
			r               api.Region
			project, forAll bool
		}{
			"no rows":  {tree(width), false, false},
			"all rows": {everything(width), true, true},
			"some":     {box(repeat(ints(1, 2), width)...), true, width == 0},
		} {
			if width == 0 && name == "no rows" {
				c.r = api.Region{}
			}
			if got, e := region.Project(c.r, nil); !same(got, api.Region{Full: c.project}) || e != api.OK {
				t.Errorf("width %d, %s: Project = %v, %d", width, name, got, e)
			}
			got, e := region.ForAll(c.r, []int{})
			if width > 10 && name == "some" {
				if !isZero(got) || e != api.ErrLimit {
					t.Errorf("width %d, %s: ForAll = %v, %d, want ErrLimit", width, name, got, e)
				}
				continue
			}
			if !same(got, api.Region{Full: c.forAll}) || e != api.OK {
				t.Errorf("width %d, %s: ForAll = %v, %d", width, name, got, e)
			}
		}
	}
}

// steps returns the region of width 2 in which the rests are the sets, in this order.
func steps(sets ...list) api.Region {
	r := tree(2)
	for i, set := range sets {
		r.Parts = append(r.Parts, part(ints(int64(i), int64(i+1)), box(set)))
	}
	return r
}

// TestProjectUnitesBoxByBox has unions on the way that have no canonical form, though the last one has.
func TestProjectUnitesBoxByBox(t *testing.T) {
	many, more := comb(64, 4, 0, 1), ints(500, 501)
	check(t, map[string]struct {
		got  outcome
		size int
	}{
		"first too many intervals":      {returned(region.Project(steps(many, more, interval.All()), []int{1})), -1},
		"first all values":              {returned(region.Project(steps(interval.All(), many, more), []int{1})), 1},
		"all values in the middle":      {returned(region.Project(steps(many, interval.All(), more), []int{1})), 1},
		"too many intervals at the end": {returned(region.Project(steps(many, more), []int{1})), -1},
		"64 intervals":                  {returned(region.Project(steps(comb(63, 4, 0, 1), more), []int{1})), 1},
		"other columns":                 {returned(region.Project(steps(many, more), []int{0})), 1},
		"both columns":                  {returned(region.Project(steps(many, more), []int{1, 0})), 4},
		"the same columns":              {returned(region.Project(stairs(32), []int{0, 1})), 64},
		"the columns in disorder":       {returned(region.Project(stairs(32), []int{1, 0})), 64},
	})
}

// negated is the region of the other rows.
func negated(t *testing.T, r api.Region) api.Region {
	t.Helper()
	return must(t)(region.Complement(r))
}

func TestForAllAtTheLimit(t *testing.T) {
	// The complement of a negated region is the region itself, whose boxes are then united.
	many, more := comb(63, 4, 0, 1), ints(500, 501)
	check(t, map[string]struct {
		got  outcome
		size int
	}{
		"the complement has too many parts":     {returned(region.ForAll(stairs(32), []int{0})), -1},
		"the complement just fits":              {returned(region.ForAll(stairs(31), []int{0})), 0},
		"the complement has too many intervals": {returned(region.ForAll(box(comb(64, 2, 0, 1)), []int{0})), -1},
		"the projection has 64 intervals":       {returned(region.ForAll(negated(t, steps(many, more)), []int{1})), -1},
		"the projection has 63 intervals":       {returned(region.ForAll(negated(t, steps(many)), []int{1})), 1},
		"a union has 65 intervals":              {returned(region.ForAll(negated(t, steps(many, more, ints(600, 601), interval.All())), []int{1})), -1},
		"no union has":                          {returned(region.ForAll(negated(t, steps(interval.All(), many, more, ints(600, 601))), []int{1})), 0},
	})
}

func TestProjectAndForAllErrors(t *testing.T) {
	wide := box(repeat(ints(1, 2), 12)...)
	for _, c := range []struct {
		r       api.Region
		columns []int
	}{
		{full(), []int{0}}, {full(), []int{-1}}, {api.Region{}, []int{0}},
		{everything(2), []int{2}}, {everything(2), []int{0, 1, 2}}, {everything(2), []int{-1}}, {everything(2), []int{0, -1}}, {everything(2), []int{math.MinInt}}, {everything(2), []int{math.MaxInt}},
		{everything(2), []int{0, 0}}, {everything(2), []int{0, 1, 0}}, {everything(12), []int{11, 3, 4, 11}}, {everything(12), []int{12}}, {tree(2), []int{1, 1}}, {tree(2), []int{2}},
		{everything(2), make([]int, 1000)}, {everything(2), []int{0, 1, 1, 0, 0, 0, 1, 0, 1, 1, 1, 1, 1, 1}},
		// These have no canonical complement either.
		{wide, []int{12}}, {wide, []int{3, 3}}, {stairs(32), []int{0, 2}}, {stairs(32), []int{0, 0}},
	} {
		if r, e := region.Project(c.r, c.columns); !isZero(r) || e != api.ErrArg {
			t.Errorf("Project(%v, %v) = %v, %d", c.r, c.columns, r, e)
		}
		if r, e := region.ForAll(c.r, c.columns); !isZero(r) || e != api.ErrArg {
			t.Errorf("ForAll(%v, %v) = %v, %d", c.r, c.columns, r, e)
		}
	}
}

func TestAllColumnsOfWideRegions(t *testing.T) {
	var columns, back []int
	for i := range 12 {
		columns, back = append(columns, i), append(back, 11-i)
	}
	var sets []list
	for i := range int64(12) {
		sets = append(sets, ints(i, 2*i+1))
	}
	if r, e := region.Project(box(sets...), columns); !same(r, box(sets...)) || e != api.OK {
		t.Errorf("Project on all columns = %v, %d", r, e)
	}
	turned := slices.Clone(sets)
	slices.Reverse(turned)
	if r, e := region.Project(box(sets...), back); !same(r, box(turned...)) || e != api.OK {
		t.Errorf("Project on all columns, back = %v, %d", r, e)
	}
	if r, e := region.Lift(box(sets...), back, 12); !same(r, box(turned...)) || e != api.OK {
		t.Errorf("Lift to all columns, back = %v, %d", r, e)
	}
	if r, e := region.ForAll(everything(12), back); !same(r, everything(12)) || e != api.OK {
		t.Errorf("ForAll on all columns = %v, %d", r, e)
	}
}

// P4.7

func TestLiftOfAllWorlds(t *testing.T) {
	for _, w := range smallWorlds() {
		for _, set := range w.sets {
			for width := range 5 - len(w.grid)/2 {
				for _, columns := range choices(width) {
					if len(columns) != w.width {
						continue
					}
					r, want := w.region(set, w.width), w.region(w.lifted(set, columns, width), width)
					if got, e := region.Lift(r, columns, width); !same(got, want) || e != api.OK {
						t.Fatalf("Lift(%v, %v, %d) = %v, %d, want %v", r, columns, width, got, e, want)
					}
				}
			}
		}
	}
}

func TestLiftOfWidth0(t *testing.T) {
	for width := range api.MaxWidth + 1 {
		if r, e := region.Lift(full(), nil, width); !same(r, everything(width)) || e != api.OK {
			t.Errorf("Lift of the empty row to width %d = %v, %d", width, r, e)
		}
		if r, e := region.Lift(api.Region{}, nil, width); !same(r, tree(width)) || e != api.OK {
			t.Errorf("Lift of nothing to width %d = %v, %d", width, r, e)
		}
	}
}

func TestLiftErrors(t *testing.T) {
	two := everything(2)
	for _, c := range []struct {
		r       api.Region
		columns []int
		width   int
		want    api.Errno
	}{
		{two, nil, 3, api.ErrRegion}, {two, []int{0}, 3, api.ErrRegion}, {two, []int{0, 1, 2}, 3, api.ErrRegion}, {full(), []int{0}, 3, api.ErrRegion},
		{two, []int{7}, -1, api.ErrRegion}, {two, []int{0, 1, 1}, 13, api.ErrRegion}, {tree(2), []int{0}, 2, api.ErrRegion},
		{two, []int{0, 1}, -1, api.ErrArg}, {two, []int{0, 1}, 13, api.ErrArg}, {two, []int{0, 12}, 13, api.ErrArg}, {two, []int{0, 1}, math.MaxInt, api.ErrArg}, {two, []int{0, 1}, math.MinInt, api.ErrArg},
		{full(), nil, -1, api.ErrArg}, {full(), nil, 13, api.ErrArg}, {tree(2), []int{0, 1}, 13, api.ErrArg},
		{two, []int{0, 2}, 2, api.ErrArg}, {two, []int{0, 1}, 1, api.ErrArg}, {two, []int{0, 1}, 0, api.ErrArg}, {two, []int{-1, 0}, 3, api.ErrArg}, {two, []int{0, math.MinInt}, 3, api.ErrArg}, {two, []int{math.MaxInt, 0}, 3, api.ErrArg},
		{two, []int{1, 1}, 3, api.ErrArg}, {tree(2), []int{0, 0}, 2, api.ErrArg}, {tree(2), []int{0, 2}, 2, api.ErrArg}, {stairs(32), []int{2, 2}, 3, api.ErrArg},
	} {
		if r, e := region.Lift(c.r, c.columns, c.width); !isZero(r) || e != c.want {
			t.Errorf("Lift(%v, %v, %d) = %v, %d, want error %d", c.r, c.columns, c.width, r, e, c.want)
		}
	}
}

// TestLiftUnitesBoxByBox has unions on the way that have no canonical form, though the last one has.
func TestLiftUnitesBoxByBox(t *testing.T) {
	// Of the values in around alone, the holes leave 65 intervals; half of them makes two parts of these.
	around, holes, half := ints(-9, 300), comb(64, 4, 0, 1), ints(-9, 130)
	check(t, map[string]struct {
		got  outcome
		size int
	}{
		"the holes second":          {returned(region.Lift(steps(around, holes, half), []int{1, 0}, 2)), -1},
		"the holes last":            {returned(region.Lift(steps(around, half, holes), []int{1, 0}, 2)), 8},
		"the columns in order":      {returned(region.Lift(steps(around, holes, half), []int{0, 1}, 2)), 6},
		"more columns behind":       {returned(region.Lift(stairs(20), []int{0, 1}, 3)), 60},
		"more parts than there may": {returned(region.Lift(stairs(32), []int{0, 1}, 3)), -1},
		"more columns before":       {returned(region.Lift(stairs(31), []int{2, 3}, 4)), 64},
		"one part too many":         {returned(region.Lift(stairs(32), []int{1, 2}, 3)), -1},
		"one column between":        {returned(region.Lift(stairs(21), []int{0, 2}, 3)), 63},
		"one part too many between": {returned(region.Lift(stairs(22), []int{0, 2}, 3)), -1},
	})
}

// P4.8

func TestProductOfAllWorlds(t *testing.T) {
	for _, w := range smallWorlds() {
		for _, v := range smallWorlds() {
			if len(w.grid) != len(v.grid) || w.cells(w.width+v.width) > 32 {
				continue
			}
			for _, a := range w.sets {
				for _, b := range v.sets {
					width := w.width + v.width
					var rows uint
					for _, pieces := range w.rows(width) {
						if a&w.bit(pieces[:w.width]) > 0 && b&w.bit(pieces[w.width:]) > 0 {
							rows |= w.bit(pieces)
						}
					}
					if got, e := region.Product(w.region(a, w.width), w.region(b, v.width)); !same(got, w.region(rows, width)) || e != api.OK {
						t.Fatalf("Product(%v, %v) = %v, %d", w.region(a, w.width), w.region(b, v.width), got, e)
					}
				}
			}
		}
	}
}

func TestProductAtTheLimit(t *testing.T) {
	six, seven := everything(6), everything(7)
	check(t, map[string]struct {
		got  outcome
		size int
	}{
		"width 12":                        {returned(region.Product(six, six)), 12},
		"width 13":                        {returned(region.Product(six, seven)), -1},
		"width 24":                        {returned(region.Product(everything(12), everything(12))), -1},
		"width 13, no rows":               {returned(region.Product(tree(6), tree(7))), -1},
		"width 13, no rows first":         {returned(region.Product(tree(12), everything(1))), -1},
		"width 13, no rows last":          {returned(region.Product(everything(1), tree(12))), -1},
		"width 12 and 0":                  {returned(region.Product(everything(12), full())), 12},
		"width 0 and 12":                  {returned(region.Product(full(), everything(12))), 12},
		"width 12 and no row":             {returned(region.Product(everything(12), api.Region{})), 0},
		"no row and width 12":             {returned(region.Product(api.Region{}, everything(12))), 0},
		"a box and 31 boxes":              {returned(region.Product(box(ints(1, 2), ints(1, 2)), stairs(31))), 64},
		"a box and 32 boxes":              {returned(region.Product(box(ints(1, 2)), stairs(32))), -1},
		"5 boxes and 5 boxes":             {returned(region.Product(stairs(5), stairs(5))), 60},
		"6 boxes and 5 boxes":             {returned(region.Product(stairs(6), stairs(5))), -1},
		"32 boxes and the empty row":      {returned(region.Product(stairs(32), full())), 64},
		"32 boxes and one":                {returned(region.Product(stairs(32), everything(1))), -1},
		"32 boxes and no rows":            {returned(region.Product(stairs(32), tree(10))), 0},
		"no rows and 32 boxes":            {returned(region.Product(tree(10), stairs(32))), 0},
		"no rows of width 0 and 32 boxes": {returned(region.Product(api.Region{}, stairs(32))), 0},
	})
	if r, _ := region.Product(tree(3), stairs(32)); !same(r, tree(5)) {
		t.Errorf("Product with no rows = %v", r)
	}
}

// P4.10

// TestGalois checks that Project and ForAll are the bounds between which and a region Lift is a Galois connection.
func TestGalois(t *testing.T) {
	of := must(t)
	covers := func(a, b api.Region) bool {
		ok, e := region.Covers(a, b)
		if e != api.OK {
			t.Fatalf("Covers(%v, %v): error %d", a, b, e)
		}
		return ok
	}
	columns := []int{2, 0}
	three := world{grid: halves(), width: 3}
	for set := range uint(1) << 8 {
		r := three.region(set, 3)
		some, every := of(region.Project(r, columns)), of(region.ForAll(r, columns))
		for chosen := range uint(1) << 4 {
			x := three.region(chosen, 2)
			lifted := of(region.Lift(x, columns, 3))
			if covers(lifted, r) != covers(x, some) || covers(r, lifted) != covers(every, x) {
				t.Fatalf("%v, %v: no Galois connection", r, x)
			}
		}
	}
}
