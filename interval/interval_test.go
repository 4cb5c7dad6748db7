package interval_test

import (
	"fmt"
	"maps"
	"math"
	"slices"
	"strings"
	"testing"

	"partsync/api"
	"partsync/interval"
	"partsync/value"
)

// list is short for a set in the tables below.
type list = []api.Interval

var (
	missing  = api.Value{Kind: api.KindMissing}
	hidden   = api.Value{Kind: api.KindHidden}
	no       = api.Value{Kind: api.KindBool}
	yes      = api.Value{Kind: api.KindBool, Int: 1}
	greatest = txt(strings.Repeat("\xff", api.MaxText))
)

func num(n int64) api.Value  { return api.Value{Kind: api.KindInt, Int: n} }
func txt(s string) api.Value { return api.Value{Kind: api.KindText, Text: s} }

func part(from, to api.Value) api.Interval { return api.Interval{From: from, To: to} }
func ints(from, to int64) api.Interval     { return part(num(from), num(to)) }
func open(from api.Value) api.Interval     { return api.Interval{From: from, Open: true} }

// comb returns n intervals of ints: the i-th one begins at step*i+start and contains width ints.
func comb(n int, step, start, width int64) list {
	var l list
	for i := range int64(n) {
		l = append(l, ints(step*i+start, step*i+start+width))
	}
	return l
}

// ascending returns valid values in their order, the ends of each kind among them.
func ascending() []api.Value {
	return []api.Value{
		missing, hidden, no, yes,
		num(math.MinInt64), num(-1), num(0), num(1), num(2), num(math.MaxInt64),
		txt(""), txt("\x00"), txt("a"), txt("a\x00"), txt("b"), txt(greatest.Text[1:]), greatest,
	}
}

// invalid returns values that are not valid, each for another reason.
func invalid() []api.Value {
	return []api.Value{
		{}, {Kind: -1}, {Kind: 6}, {Kind: 9}, {Kind: math.MinInt}, {Kind: math.MaxInt},
		{Kind: api.KindMissing, Int: 1}, {Kind: api.KindHidden, Text: "a"},
		{Kind: api.KindBool, Int: 2}, {Kind: api.KindBool, Int: -1}, {Kind: api.KindInt, Text: "a"},
		{Kind: api.KindText, Int: 1}, txt(greatest.Text + "a"),
	}
}

// notCanonical returns lists that are not canonical, each for another reason.
func notCanonical() map[string]list {
	lists := map[string]list{
		"65 intervals":                    comb(65, 2, 0, 1),
		"65 intervals, the last one open": append(comb(64, 2, 0, 1), open(num(200))),
		"an empty interval":               {ints(2, 2)},
		"an interval that runs back":      {ints(2, 1)},
		"a later empty interval":          {ints(1, 2), ints(4, 4), ints(6, 7)},
		"a last empty interval":           {ints(1, 2), ints(4, 4)},
		"intervals that touch":            {ints(1, 3), ints(3, 4)},
		"intervals that touch at the end": {ints(1, 3), ints(5, 6), open(num(6))},
		"intervals that overlap":          {ints(1, 4), ints(3, 5)},
		"an interval in another":          {ints(1, 9), ints(3, 5)},
		"an interval twice":               {ints(1, 2), ints(1, 2)},
		"intervals out of order":          {ints(5, 6), ints(1, 2)},
		"an open interval before another": {open(num(9)), ints(20, 21)},
		"an open interval before it":      {open(num(9)), ints(1, 2)},
		"two open intervals":              {open(num(1)), open(num(3))},
		"an open interval in the middle":  {ints(1, 2), open(num(9)), ints(20, 21)},
		"open, with a To":                 {{From: num(1), To: num(2), Open: true}},
		"open, with a To of no kind":      {{From: num(1), To: api.Value{Int: 1}, Open: true}},
		"open, with a text of no kind":    {{From: num(1), To: api.Value{Text: "a"}, Open: true}},
		"neither open nor with a To":      {{From: num(1)}},
		"no From":                         {{To: num(1)}},
		"the zero interval":               {{}},
		"only open":                       {{Open: true}},
	}
	for _, v := range invalid() {
		name := fmt.Sprint(v)
		lists["From "+name] = list{part(v, greatest)}
		lists["To "+name] = list{part(missing, v)}
		lists["open From "+name] = list{open(v)}
		lists["last To "+name] = list{ints(1, 2), part(num(4), v)}
		lists["last From "+name] = list{part(missing, hidden), part(v, greatest)}
	}
	return lists
}

func same(a, b list) bool { return slices.Equal(a, b) }

// P3.1

func TestValidOfCanonicalLists(t *testing.T) {
	for _, l := range []list{
		nil, {}, {ints(1, 2)}, {ints(math.MinInt64, math.MaxInt64)}, {open(missing)}, {open(greatest)},
		{part(missing, greatest)}, {part(yes, num(math.MinInt64))}, {part(no, txt("a"))},
		{ints(1, 2), ints(3, 4)}, {ints(1, 2), open(num(3))}, {part(missing, hidden), part(no, yes), open(num(0))},
		{part(txt("a"), txt("a\x00")), part(txt("a\x00\x00"), txt("b"))}, {part(missing, txt(greatest.Text[1:])), open(greatest)},
		comb(64, 2, 0, 1), append(comb(63, 2, 0, 1), open(num(200))),
	} {
		if !interval.Valid(l) {
			t.Errorf("Valid(%v) = false", l)
		}
	}
}

func TestValidOfOtherLists(t *testing.T) {
	for name, l := range notCanonical() {
		if interval.Valid(l) {
			t.Errorf("%s: Valid(%v) = true", name, l)
		}
	}
}

// canonicalBySpelling is the definition as the chapter spells it.
func canonicalBySpelling(l list) bool {
	if len(l) > 64 {
		return false
	}
	for i := range l {
		last := i == len(l)-1
		if !value.Valid(l[i].From) || !last && l[i].Open {
			return false
		}
		if l[i].Open && l[i].To != (api.Value{}) {
			return false
		}
		if !l[i].Open && (!value.Valid(l[i].To) || value.Compare(l[i].To, l[i].From) != 1) {
			return false
		}
		if !last && value.Compare(l[i].To, l[i+1].From) != -1 {
			return false
		}
	}
	return true
}

func TestValidOfAllShortLists(t *testing.T) {
	bounds := []api.Value{{}, num(1), num(2), num(3), {Kind: 7}}
	lists := []list{nil}
	for i := 0; i < len(lists); i++ {
		if got, want := interval.Valid(lists[i]), canonicalBySpelling(lists[i]); got != want {
			t.Fatalf("Valid(%v) = %v", lists[i], got)
		}
		if len(lists[i]) == 3 {
			continue
		}
		for _, from := range bounds {
			for _, to := range bounds {
				for _, o := range []bool{false, true} {
					lists = append(lists, append(slices.Clone(lists[i]), api.Interval{From: from, To: to, Open: o}))
				}
			}
		}
	}
}

// P3.2

func TestAll(t *testing.T) {
	if l := interval.All(); !same(l, list{open(missing)}) {
		t.Errorf("All() = %v", l)
	}
}

func TestOne(t *testing.T) {
	for _, c := range []struct {
		v    api.Value
		want list
	}{
		{missing, list{part(missing, hidden)}},
		{hidden, list{part(hidden, no)}},
		{no, list{part(no, yes)}},
		{yes, list{part(yes, num(math.MinInt64))}},
		{num(7), list{ints(7, 8)}},
		{num(math.MaxInt64), list{part(num(math.MaxInt64), txt(""))}},
		{txt(""), list{part(txt(""), txt("\x00"))}},
		{txt("a"), list{part(txt("a"), txt("a\x00"))}},
		{txt("a" + greatest.Text[1:]), list{part(txt("a"+greatest.Text[1:]), txt("b"))}},
		{txt(greatest.Text[1:]), list{part(txt(greatest.Text[1:]), txt(greatest.Text[1:]+"\x00"))}},
		{greatest, list{open(greatest)}},
	} {
		if l, e := interval.One(c.v); !same(l, c.want) || e != api.OK {
			t.Errorf("One(%v) = %v, %d", c.v, l, e)
		}
	}
}

func TestOneContainsOneValue(t *testing.T) {
	for _, v := range ascending() {
		l, e := interval.One(v)
		if e != api.OK || !interval.Valid(l) {
			t.Errorf("One(%v) = %v, %d", v, l, e)
		}
		for _, w := range ascending() {
			if interval.Has(l, w) != (v == w) {
				t.Errorf("One(%v) has %v: %v", v, w, v != w)
			}
		}
	}
}

func TestBetweenAndFromOfAllValues(t *testing.T) {
	values := ascending()
	for i, from := range values {
		for j, to := range values {
			var want list
			if i < j {
				want = list{part(from, to)}
			}
			if l, e := interval.Between(from, to); !same(l, want) || e != api.OK {
				t.Errorf("Between(%v, %v) = %v, %d", from, to, l, e)
			}
		}
		if l, e := interval.From(from); !same(l, list{open(from)}) || e != api.OK {
			t.Errorf("From(%v) = %v, %d", from, l, e)
		}
	}
}

func TestSetsOfInvalidValues(t *testing.T) {
	for _, v := range invalid() {
		if l, e := interval.One(v); len(l) != 0 || e != api.ErrValue {
			t.Errorf("One(%v) = %v, %d", v, l, e)
		}
		if l, e := interval.From(v); len(l) != 0 || e != api.ErrValue {
			t.Errorf("From(%v) = %v, %d", v, l, e)
		}
		for _, w := range append(ascending(), invalid()...) {
			if l, e := interval.Between(v, w); len(l) != 0 || e != api.ErrValue {
				t.Errorf("Between(%v, %v) = %v, %d", v, w, l, e)
			}
			if l, e := interval.Between(w, v); len(l) != 0 || e != api.ErrValue {
				t.Errorf("Between(%v, %v) = %v, %d", w, v, l, e)
			}
		}
	}
}

func TestOfKind(t *testing.T) {
	for kind, want := range map[int]list{
		api.KindMissing: {part(missing, hidden)},
		api.KindHidden:  {part(hidden, no)},
		api.KindBool:    {part(no, num(math.MinInt64))},
		api.KindInt:     {part(num(math.MinInt64), txt(""))},
		api.KindText:    {open(txt(""))},
	} {
		l, e := interval.OfKind(kind)
		if !same(l, want) || e != api.OK {
			t.Errorf("OfKind(%d) = %v, %d", kind, l, e)
		}
		for _, v := range ascending() {
			if interval.Has(l, v) != (v.Kind == kind) {
				t.Errorf("OfKind(%d) has %v: %v", kind, v, v.Kind != kind)
			}
		}
	}
	for _, kind := range []int{0, 6, -1, 7, math.MinInt, math.MaxInt} {
		if l, e := interval.OfKind(kind); len(l) != 0 || e != api.ErrArg {
			t.Errorf("OfKind(%d) = %v, %d", kind, l, e)
		}
	}
}

// P3.3

func TestHas(t *testing.T) {
	l := list{part(hidden, yes), ints(1, 3), ints(5, 9), part(num(math.MaxInt64), txt("a")), open(txt("b"))}
	for _, v := range []api.Value{hidden, no, num(1), num(2), num(5), num(8), num(math.MaxInt64), txt(""), txt("\xff"), txt("b"), greatest} {
		if !interval.Has(l, v) {
			t.Errorf("Has(%v) = false", v)
		}
	}
	for _, v := range []api.Value{missing, yes, num(math.MinInt64), num(0), num(3), num(4), num(9), num(math.MaxInt64 - 1), txt("a"), txt("a\xff")} {
		if interval.Has(l, v) {
			t.Errorf("Has(%v) = true", v)
		}
	}
	for _, v := range ascending() {
		if interval.Has(nil, v) || !interval.Has(interval.All(), v) {
			t.Errorf("%v: of no list %v, of All %v", v, interval.Has(nil, v), interval.Has(interval.All(), v))
		}
	}
}

func TestHasOfWhatIsNotValid(t *testing.T) {
	for _, v := range invalid() {
		if interval.Has(interval.All(), v) || interval.Has(list{part(missing, greatest)}, v) {
			t.Errorf("Has of the invalid value %v = true", v)
		}
	}
	for name, l := range notCanonical() {
		for _, v := range ascending() {
			if interval.Has(l, v) {
				t.Errorf("%s: Has(%v, %v) = true", name, l, v)
			}
		}
	}
	// The interval that contains 5 is in order; a later one is not.
	if interval.Has(list{ints(5, 6), ints(9, 9)}, num(5)) {
		t.Error("Has of a list that is not canonical behind the value = true")
	}
}

// P3.4

// borders divide the values into as many pieces, each from a border to the next one.
func borders() []api.Value {
	return []api.Value{missing, hidden, yes, num(0), num(1), txt("a"), greatest}
}

// world returns the canonical list of the pieces whose bits are set.
func world(bits int) list {
	var l list
	at := borders()
	for i := 0; i < len(at); i++ {
		if bits>>i&1 == 0 {
			continue
		}
		from := at[i]
		for i < len(at) && bits>>i&1 == 1 {
			i++
		}
		if i == len(at) {
			return append(l, open(from))
		}
		l = append(l, part(from, at[i]))
	}
	return l
}

// pieces returns how many lists world makes.
func pieces() int { return 1 << len(borders()) }

type operation struct {
	name string
	f    func(a, b list) (list, api.Errno)
	bits func(a, b int) int
}

func operations() []operation {
	return []operation{
		{"Union", interval.Union, func(a, b int) int { return a | b }},
		{"Intersect", interval.Intersect, func(a, b int) int { return a & b }},
		{"Minus", interval.Minus, func(a, b int) int { return a &^ b }},
	}
}

func TestOperationsOfAllWorlds(t *testing.T) {
	for a := range pieces() {
		for b := range pieces() {
			for _, o := range operations() {
				if l, e := o.f(world(a), world(b)); !same(l, world(o.bits(a, b))) || e != api.OK {
					t.Fatalf("%s(%v, %v) = %v, %d", o.name, world(a), world(b), l, e)
				}
			}
		}
		if l, e := interval.Complement(world(a)); !same(l, world(pieces()-1-a)) || e != api.OK {
			t.Fatalf("Complement(%v) = %v, %d", world(a), l, e)
		}
	}
}

func TestExamplesOfTheChapter(t *testing.T) {
	a, _ := interval.Between(num(1), num(3))
	b, _ := interval.Between(num(3), num(5))
	if l, e := interval.Union(a, b); !same(l, list{ints(1, 5)}) || e != api.OK {
		t.Errorf("Union = %v, %d", l, e)
	}
	if l, e := interval.Complement(interval.All()); len(l) != 0 || e != api.OK {
		t.Errorf("Complement of All = %v, %d", l, e)
	}
	texts, _ := interval.OfKind(api.KindText)
	high, _ := interval.From(txt("b"))
	if l, e := interval.Intersect(texts, high); !same(l, list{open(txt("b"))}) || e != api.OK {
		t.Errorf("Intersect = %v, %d", l, e)
	}
}

func TestOperationsAtTheLimit(t *testing.T) {
	union, intersect, minus := operations()[0], operations()[1], operations()[2]
	for name, c := range map[string]struct {
		o    operation
		a, b list
		want int
	}{
		"Union of 32 and 32":                     {union, comb(32, 4, 0, 1), comb(32, 4, 2, 1), 64},
		"Union of 32 and 33":                     {union, comb(32, 4, 0, 1), comb(33, 4, 2, 1), 65},
		"Union of 64 and 64 that touch":          {union, comb(64, 4, 0, 2), comb(64, 4, 2, 2), 1},
		"Union of 64 and itself":                 {union, comb(64, 4, 0, 2), comb(64, 4, 0, 2), 64},
		"Union of 64 and one more":               {union, comb(64, 4, 0, 2), list{ints(-9, -8)}, 65},
		"Union of 64 and an open one more":       {union, comb(64, 4, 0, 2), list{open(num(999))}, 65},
		"Union of 64 and 64":                     {union, comb(64, 4, 0, 1), comb(64, 4, 2, 1), 128},
		"Intersect of 64 and 64":                 {intersect, comb(64, 4, 0, 3), comb(64, 4, 2, 3), 127},
		"Intersect of 32 and 33":                 {intersect, comb(32, 4, 0, 3), comb(33, 4, -2, 3), 64},
		"Intersect of 33 and 33":                 {intersect, comb(33, 4, 0, 3), comb(33, 4, -2, 3), 65},
		"Intersect of 64 and All":                {intersect, comb(64, 4, 0, 3), interval.All(), 64},
		"Minus of All and 63":                    {minus, interval.All(), comb(63, 2, 0, 1), 64},
		"Minus of All and 64":                    {minus, interval.All(), comb(64, 2, 0, 1), 65},
		"Minus of All and 64 from the least on":  {minus, interval.All(), append(list{part(missing, no)}, comb(63, 2, 0, 1)...), 64},
		"Minus of All and 64, the last one open": {minus, interval.All(), append(comb(63, 2, 0, 1), open(num(999))), 64},
		"Minus of 64 and a hole":                 {minus, comb(64, 4, 0, 3), list{ints(1, 2)}, 65},
		"Minus of 64 and what is not there":      {minus, comb(64, 4, 0, 3), comb(64, 4, 3, 1), 64},
	} {
		l, e := c.o.f(c.a, c.b)
		if c.want > api.MaxIntervals {
			if len(l) != 0 || e != api.ErrLimit {
				t.Errorf("%s: %d intervals, %d, want ErrLimit", name, len(l), e)
			}
			continue
		}
		if len(l) != c.want || e != api.OK || !interval.Valid(l) {
			t.Errorf("%s: %d intervals, %d, want %d", name, len(l), e, c.want)
		}
	}
}

func TestComplementAtTheLimit(t *testing.T) {
	if l, e := interval.Complement(comb(64, 2, 0, 1)); len(l) != 0 || e != api.ErrLimit {
		t.Errorf("Complement of 64 intervals: %d intervals, %d", len(l), e)
	}
	want := append(list{part(missing, num(0))}, comb(62, 2, 1, 1)...)
	want = append(want, open(num(125)))
	if l, e := interval.Complement(comb(63, 2, 0, 1)); !same(l, want) || e != api.OK {
		t.Errorf("Complement of 63 intervals = %v, %d", l, e)
	}
	if l, e := interval.Complement(want); !same(l, comb(63, 2, 0, 1)) || e != api.OK {
		t.Errorf("Complement of 64 intervals that leave no ends = %v, %d", l, e)
	}
}

func TestOperationsOfListsThatAreNotCanonical(t *testing.T) {
	// With the good list the result of some operations would be too large as well.
	for name, bad := range notCanonical() {
		for _, good := range []list{nil, interval.All(), {ints(1, 5)}, comb(64, 4, 1, 1), bad} {
			for _, o := range operations() {
				if l, e := o.f(bad, good); len(l) != 0 || e != api.ErrInterval {
					t.Errorf("%s: %s(bad, %v) = %v, %d", name, o.name, good, l, e)
				}
				if l, e := o.f(good, bad); len(l) != 0 || e != api.ErrInterval {
					t.Errorf("%s: %s(%v, bad) = %v, %d", name, o.name, good, l, e)
				}
			}
		}
		if l, e := interval.Complement(bad); len(l) != 0 || e != api.ErrInterval {
			t.Errorf("%s: Complement = %v, %d", name, l, e)
		}
	}
}

// P3.5

func TestCoversOfAllWorlds(t *testing.T) {
	for a := range pieces() {
		for b := range pieces() {
			if got, e := interval.Covers(world(a), world(b)); got != (b&^a == 0) || e != api.OK {
				t.Fatalf("Covers(%v, %v) = %v, %d", world(a), world(b), got, e)
			}
		}
	}
}

func TestCoversHasNoLimit(t *testing.T) {
	// What is left has 127 intervals.
	if got, e := interval.Covers(comb(64, 4, 3, 3), comb(64, 4, 0, 2)); got || e != api.OK {
		t.Errorf("Covers = %v, %d", got, e)
	}
	if got, e := interval.Covers(comb(64, 4, 0, 1), interval.All()); got || e != api.OK {
		t.Errorf("Covers of All = %v, %d", got, e)
	}
	if got, e := interval.Covers(comb(64, 4, 0, 3), comb(64, 4, 1, 2)); !got || e != api.OK {
		t.Errorf("Covers of a part of each interval = %v, %d", got, e)
	}
}

func TestCoversOfListsThatAreNotCanonical(t *testing.T) {
	for name, bad := range notCanonical() {
		for _, good := range []list{nil, interval.All(), bad} {
			if got, e := interval.Covers(bad, good); got || e != api.ErrInterval {
				t.Errorf("%s: Covers(bad, %v) = %v, %d", name, good, got, e)
			}
			if got, e := interval.Covers(good, bad); got || e != api.ErrInterval {
				t.Errorf("%s: Covers(%v, bad) = %v, %d", name, good, got, e)
			}
		}
	}
}

// P3.6

func TestLeast(t *testing.T) {
	for bits := 1; bits < pieces(); bits++ {
		l := world(bits)
		v, ok := interval.Least(l)
		if !ok || v != l[0].From || !interval.Has(l, v) {
			t.Errorf("Least(%v) = %v, %v", l, v, ok)
		}
	}
	for _, l := range []list{nil, {}} {
		if v, ok := interval.Least(l); v != (api.Value{}) || ok {
			t.Errorf("Least of nothing = %v, %v", v, ok)
		}
	}
	for name, l := range notCanonical() {
		if v, ok := interval.Least(l); v != (api.Value{}) || ok {
			t.Errorf("%s: Least(%v) = %v, %v", name, l, v, ok)
		}
	}
}

// P3.7

func TestListsWithTheSameValuesAreEqual(t *testing.T) {
	// A piece is in a list with its first value, so these tell all lists of the worlds from each other.
	seen := map[string]int{}
	for bits := range pieces() {
		values := ""
		for _, v := range borders() {
			if interval.Has(world(bits), v) {
				values += "1"
			} else {
				values += "0"
			}
		}
		if other, ok := seen[values]; ok || !interval.Valid(world(bits)) {
			t.Errorf("%v and %v contain the same values", world(bits), world(other))
		}
		seen[values] = bits
	}
}

// must returns the list of an operation that has no error.
func must(t *testing.T) func(l list, e api.Errno) list {
	return func(l list, e api.Errno) list {
		t.Helper()
		if e != api.OK || !interval.Valid(l) {
			t.Fatalf("%v, %d", l, e)
		}
		return l
	}
}

func lists() []list {
	return []list{
		nil, interval.All(), comb(9, 4, 0, 3), comb(9, 6, -5, 4), {part(hidden, yes), open(txt("a"))}, {open(greatest)},
		{part(missing, num(7)), part(num(9), txt("")), part(txt("x"), greatest)},
	}
}

func TestAlgebra(t *testing.T) {
	of := must(t)
	for _, a := range lists() {
		notA := of(interval.Complement(a))
		if !same(of(interval.Complement(notA)), a) {
			t.Errorf("the complement of the complement of %v is another list", a)
		}
		if !same(of(interval.Union(a, notA)), interval.All()) || len(of(interval.Intersect(a, notA))) != 0 {
			t.Errorf("%v and its complement are not complements", a)
		}
		for _, b := range lists() {
			notB := of(interval.Complement(b))
			both, either := of(interval.Intersect(a, b)), of(interval.Union(a, b))
			if !same(both, of(interval.Intersect(b, a))) || !same(either, of(interval.Union(b, a))) {
				t.Errorf("%v, %v: the order matters", a, b)
			}
			if !same(of(interval.Complement(either)), of(interval.Intersect(notA, notB))) {
				t.Errorf("%v, %v: the complement of the union is not the intersection of the complements", a, b)
			}
			if !same(of(interval.Minus(a, b)), of(interval.Intersect(a, notB))) {
				t.Errorf("%v, %v: Minus is not the intersection with the complement", a, b)
			}
			if !same(of(interval.Union(a, both)), a) || !same(of(interval.Intersect(a, either)), a) {
				t.Errorf("%v, %v: no absorption", a, b)
			}
			for _, c := range lists() {
				if !same(of(interval.Intersect(c, either)), of(interval.Union(of(interval.Intersect(c, a)), of(interval.Intersect(c, b))))) {
					t.Errorf("%v, %v, %v: not distributive", a, b, c)
				}
			}
		}
	}
}

// TestOperationsValueByValue asks Has, which shares no code with the operations.
func TestOperationsValueByValue(t *testing.T) {
	of := must(t)
	values := ascending()
	for n := range int64(80) {
		values = append(values, num(n-20))
	}
	for _, a := range lists() {
		for _, b := range lists() {
			union, both, minus := of(interval.Union(a, b)), of(interval.Intersect(a, b)), of(interval.Minus(a, b))
			covered := true
			for _, v := range values {
				inA, inB := interval.Has(a, v), interval.Has(b, v)
				covered = covered && (inA || !inB)
				if interval.Has(union, v) != (inA || inB) || interval.Has(both, v) != (inA && inB) || interval.Has(minus, v) != (inA && !inB) {
					t.Errorf("%v, %v: %v is in the wrong lists", a, b, v)
				}
			}
			if got, e := interval.Covers(a, b); got != covered || e != api.OK {
				t.Errorf("Covers(%v, %v) = %v, %d", a, b, got, e)
			}
		}
	}
}

// R2

// roomy returns l with capacity that is in use elsewhere, and a function that reports whether anything of it has changed.
func roomy(l list) (list, func() bool) {
	whole := append(slices.Clone(l), ints(77, 78), ints(88, 89))
	before := slices.Clone(whole)
	return whole[:len(l)], func() bool { return !same(whole, before) }
}

// spoil overwrites l and its unused capacity.
func spoil(l list) {
	for i := range l[:cap(l)] {
		l[:cap(l)][i] = ints(-1, -1)
	}
}

func TestOperationsShareNoMemory(t *testing.T) {
	for _, l := range lists() {
		for _, m := range lists() {
			for _, o := range append(operations(), operation{"Complement", func(a, b list) (list, api.Errno) { return interval.Complement(a) }, nil}) {
				a, changedA := roomy(l)
				b, changedB := roomy(m)
				first, _ := o.f(a, b)
				second, _ := o.f(a, b)
				kept := slices.Clone(second)
				spoil(first)
				if changedA() || changedB() || !same(second, kept) {
					t.Errorf("%s(%v, %v) shares memory with its arguments or another result", o.name, l, m)
				}
			}
		}
	}
}

func TestSetsShareNoMemory(t *testing.T) {
	for name, f := range map[string]func() (list, api.Errno){
		"All":     func() (list, api.Errno) { return interval.All(), api.OK },
		"One":     func() (list, api.Errno) { return interval.One(num(1)) },
		"Between": func() (list, api.Errno) { return interval.Between(num(1), num(2)) },
		"From":    func() (list, api.Errno) { return interval.From(num(1)) },
		"OfKind":  func() (list, api.Errno) { return interval.OfKind(api.KindInt) },
	} {
		first, _ := f()
		second, _ := f()
		kept := slices.Clone(second)
		spoil(first)
		third, _ := f()
		if !same(second, kept) || !same(third, kept) {
			t.Errorf("%s returns the same memory twice", name)
		}
	}
}

func TestReadersChangeNothing(t *testing.T) {
	for _, l := range append(lists(), slices.Collect(maps.Values(notCanonical()))...) {
		a, changed := roomy(l)
		interval.Valid(a)
		interval.Has(a, num(1))
		interval.Covers(a, a)
		interval.Least(a)
		if changed() {
			t.Errorf("%v has changed", l)
		}
	}
}
