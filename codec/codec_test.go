package codec_test

import (
	"bytes"
	"encoding/binary"
	"math"
	"slices"
	"strings"
	"testing"

	"partsync/api"
	"partsync/codec"
)

var (
	missing = api.Value{Kind: api.KindMissing}
	hidden  = api.Value{Kind: api.KindHidden}
	no      = api.Value{Kind: api.KindBool}
	yes     = api.Value{Kind: api.KindBool, Int: 1}
)

func num(n int64) api.Value          { return api.Value{Kind: api.KindInt, Int: n} }
func txt(s string) api.Value         { return api.Value{Kind: api.KindText, Text: s} }
func row(cells ...api.Value) api.Row { return cells }

// full is a text of as many bytes as a value may have.
var full = strings.Repeat("\xff", api.MaxText)

// least and greatest are the encodings of the ends of the ints; maximum is that of the greatest uint.
var (
	least    = []byte{255, 255, 255, 255, 255, 255, 255, 255, 255, 1}
	greatest = []byte{254, 255, 255, 255, 255, 255, 255, 255, 255, 1}
	maximum  = least
)

// join returns the pieces one behind the other, in new memory.
func join(pieces ...[]byte) []byte { return slices.Concat(pieces...) }

// high returns n bytes that have their highest bit set and no other.
func high(n int) []byte { return bytes.Repeat([]byte{128}, n) }

// uints returns numbers around every change of an encoding's length.
func uints() []uint64 {
	numbers := []uint64{0, 1, 2, 63, 64, 65, 300, 1 << 20, math.MaxInt64, 1 << 63, math.MaxUint64 - 1, math.MaxUint64}
	for bits := 7; bits < 64; bits += 7 {
		numbers = append(numbers, 1<<bits-1, 1<<bits, 1<<bits+1)
	}
	return numbers
}

// ints returns numbers around every change of an encoding's length.
func ints() []int64 {
	var numbers []int64
	for _, n := range uints() {
		numbers = append(numbers, int64(n), -int64(n), int64(n>>1), ^int64(n>>1))
	}
	return numbers
}

func texts() []string {
	return []string{"", "a", "abc", "\x00", "\x80", "\xff\xfe", "é", strings.Repeat("x", 127), strings.Repeat("y", 128), strings.Repeat("z", 70000)}
}

// A sample is a valid value and its encoding.
type sample struct {
	v    api.Value
	want []byte
}

func samples() []sample {
	return []sample{
		{missing, []byte{1}},
		{hidden, []byte{2}},
		{no, []byte{3, 0}},
		{yes, []byte{3, 1}},
		{num(0), []byte{4, 0}},
		{num(-1), []byte{4, 1}},
		{num(1), []byte{4, 2}},
		{num(-64), []byte{4, 127}},
		{num(64), []byte{4, 128, 1}},
		{num(math.MinInt64), join([]byte{4}, least)},
		{num(math.MaxInt64), join([]byte{4}, greatest)},
		{txt(""), []byte{5, 0}},
		{txt("a"), []byte{5, 1, 97}},
		{txt("\x00\x80"), []byte{5, 2, 0, 128}},
		{txt(full[1:]), join([]byte{5, 63}, []byte(full[1:]))},
		{txt(full), join([]byte{5, 64}, []byte(full))},
	}
}

// invalid returns values that are not valid, each for another reason.
func invalid() []api.Value {
	return []api.Value{
		{}, {Kind: -1}, {Kind: 6}, {Kind: 256 + api.KindMissing}, {Kind: math.MaxInt},
		{Kind: api.KindMissing, Int: 1}, {Kind: api.KindHidden, Text: "a"},
		{Kind: api.KindBool, Int: 2}, {Kind: api.KindBool, Int: -1}, {Kind: api.KindBool, Int: 1, Text: "a"},
		{Kind: api.KindInt, Text: "a"}, {Kind: api.KindText, Int: 1}, txt(full + "a"),
	}
}

// wide returns a row of the given number of cells, and its encoding.
func wide(width int) (api.Row, []byte) {
	all := samples()
	r, want := row(), []byte{byte(width)}
	for i := range width {
		r, want = append(r, all[i].v), append(want, all[i].want...)
	}
	return r, want
}

// P2.1

func TestAppendUint(t *testing.T) {
	for _, c := range []struct {
		n    uint64
		want []byte
	}{
		{0, []byte{0}}, {1, []byte{1}}, {127, []byte{127}}, {128, []byte{128, 1}}, {300, []byte{172, 2}},
		{16383, []byte{255, 127}}, {16384, []byte{128, 128, 1}}, {1 << 63, join(high(9), []byte{1})}, {math.MaxUint64, maximum},
	} {
		if got := codec.AppendUint(nil, c.n); !bytes.Equal(got, c.want) {
			t.Errorf("AppendUint(%d) = %v, want %v", c.n, got, c.want)
		}
	}
	for _, n := range uints() {
		if got, want := codec.AppendUint([]byte{7, 128}, n), binary.AppendUvarint([]byte{7, 128}, n); !bytes.Equal(got, want) {
			t.Errorf("AppendUint(%d) = %v, want %v", n, got, want)
		}
	}
}

func TestAppendInt(t *testing.T) {
	for _, c := range []struct {
		n    int64
		want []byte
	}{
		{0, []byte{0}}, {-1, []byte{1}}, {1, []byte{2}}, {-2, []byte{3}}, {63, []byte{126}}, {-64, []byte{127}}, {64, []byte{128, 1}},
		{-65, []byte{129, 1}}, {math.MinInt64, least}, {math.MaxInt64, greatest},
	} {
		if got := codec.AppendInt(nil, c.n); !bytes.Equal(got, c.want) {
			t.Errorf("AppendInt(%d) = %v, want %v", c.n, got, c.want)
		}
	}
	for _, n := range ints() {
		if got, want := codec.AppendInt([]byte{7, 128}, n), binary.AppendVarint([]byte{7, 128}, n); !bytes.Equal(got, want) {
			t.Errorf("AppendInt(%d) = %v, want %v", n, got, want)
		}
	}
}

func TestAppendText(t *testing.T) {
	for _, s := range texts() {
		want := append(binary.AppendUvarint([]byte{7, 128}, uint64(len(s))), s...)
		if got := codec.AppendText([]byte{7, 128}, s); !bytes.Equal(got, want) {
			t.Errorf("AppendText(%.20q) of %d bytes begins with %v, want %v", s, len(s), got[:min(len(got), 8)], want[:min(len(want), 8)])
		}
	}
	if got := codec.AppendText(nil, "é"); !bytes.Equal(got, []byte{2, 195, 169}) {
		t.Errorf("AppendText of é = %v", got)
	}
}

// P2.2

func TestAppendValue(t *testing.T) {
	for _, c := range samples() {
		if got, e := codec.AppendValue([]byte{7, 128}, c.v); !bytes.Equal(got, join([]byte{7, 128}, c.want)) || e != api.OK {
			t.Errorf("AppendValue(%v) = %v, %d, want 7, 128 and %v", c.v, got, e, c.want)
		}
	}
	for _, v := range invalid() {
		if got, e := codec.AppendValue([]byte{7}, v); got != nil || e != api.ErrValue {
			t.Errorf("AppendValue(%v) = %v, %d, want ErrValue", v, got, e)
		}
	}
}

func TestAppendRow(t *testing.T) {
	for width := range api.MaxWidth + 1 {
		r, want := wide(width)
		if got, e := codec.AppendRow([]byte{7, 128}, r); !bytes.Equal(got, join([]byte{7, 128}, want)) || e != api.OK {
			t.Errorf("AppendRow(%v) = %v, %d, want 7, 128 and %v", r, got, e, want)
		}
	}
	if got, e := codec.AppendRow(nil, row(yes, txt("a"))); !bytes.Equal(got, []byte{2, 3, 1, 5, 1, 97}) || e != api.OK {
		t.Errorf("AppendRow(true, a) = %v, %d", got, e)
	}
	if got, e := codec.AppendRow(nil, nil); !bytes.Equal(got, []byte{0}) || e != api.OK {
		t.Errorf("AppendRow of no cells = %v, %d", got, e)
	}
}

func TestAppendRowOfInvalidRows(t *testing.T) {
	for _, v := range invalid() {
		for place := range 3 {
			r := row(yes, num(1), missing)
			r[place] = v
			if got, e := codec.AppendRow([]byte{7}, r); got != nil || e != api.ErrValue {
				t.Errorf("AppendRow(%v) = %v, %d, want ErrValue", r, got, e)
			}
		}
	}
	tooWide, _ := wide(api.MaxWidth + 1)
	for _, r := range []api.Row{tooWide, make(api.Row, api.MaxWidth+1), slices.Repeat(row(yes), 1000)} {
		if got, e := codec.AppendRow([]byte{7}, r); got != nil || e != api.ErrLimit {
			t.Errorf("AppendRow of %d cells = %v, %d, want ErrLimit", len(r), got, e)
		}
	}
}

// P2.3

// uintBySpelling reads a number from the beginning of rest as the chapter spells it, error by error.
func uintBySpelling(rest []byte) (uint64, int, api.Errno) {
	ten := rest[:min(len(rest), 10)]
	last := slices.IndexFunc(ten, func(c byte) bool { return c < 128 })
	switch {
	case last < 0 && len(ten) < 10:
		return 0, 0, api.ErrTruncated
	case last < 0 || last > 0 && rest[last] == 0 || last == 9 && rest[last] > 1:
		return 0, 0, api.ErrEncoding
	}
	n := uint64(0)
	for i := last; i >= 0; i-- {
		n = n*128 + uint64(rest[i]%128)
	}
	return n, last + 1, api.OK
}

// numberBytes returns encodings of numbers, prefixes of them, and bytes that are no number.
func numberBytes() [][]byte {
	ends := []byte{0, 1, 2, 127, 128, 129, 255}
	var all [][]byte
	for length := range 13 {
		body := high(length)
		all = append(all, body, bytes.Repeat([]byte{255}, length))
		for _, x := range ends {
			for _, y := range ends {
				all = append(all, join(body, []byte{x}), join(body, []byte{x, y}), join([]byte{x}, body, []byte{y}))
			}
		}
	}
	return all
}

func TestUintAndIntOfAllKindsOfBytes(t *testing.T) {
	for _, rest := range numberBytes() {
		want, size, fail := uintBySpelling(rest)
		next := 2 + size
		if fail != api.OK {
			next = 0
		}
		b := join([]byte{200, 200}, rest)
		if got, end, e := codec.Uint(b, 2); got != want || end != next || e != fail {
			t.Errorf("Uint(%v, 2) = %d, %d, %d, want %d, %d, %d", b, got, end, e, want, next, fail)
		}
		signed := int64(want / 2)
		if want%2 == 1 {
			signed = -signed - 1
		}
		if got, end, e := codec.Int(b, 2); got != signed || end != next || e != fail {
			t.Errorf("Int(%v, 2) = %d, %d, %d, want %d, %d, %d", b, got, end, e, signed, next, fail)
		}
	}
}

func TestUintErrors(t *testing.T) {
	for _, c := range []struct {
		b    []byte
		at   int
		want api.Errno
	}{
		{nil, 0, api.ErrTruncated}, {[]byte{1}, 1, api.ErrTruncated}, {[]byte{128}, 0, api.ErrTruncated}, {high(9), 0, api.ErrTruncated},
		{high(10), 0, api.ErrEncoding}, {high(11), 0, api.ErrEncoding}, {high(11), 2, api.ErrTruncated}, {[]byte{128, 0}, 0, api.ErrEncoding},
		{join(high(9), []byte{0}), 0, api.ErrEncoding}, {join(high(9), []byte{2}), 0, api.ErrEncoding}, {join(high(9), []byte{127}), 0, api.ErrEncoding},
		{join(high(10), []byte{1}), 0, api.ErrEncoding}, {join(high(10), []byte{1}), 1, api.OK}, {[]byte{0}, 0, api.OK}, {[]byte{128, 0}, 1, api.OK},
	} {
		n, next, e := codec.Uint(c.b, c.at)
		if e != c.want || e != api.OK && (n != 0 || next != 0) {
			t.Errorf("Uint(%v, %d) = %d, %d, %d, want error %d", c.b, c.at, n, next, e, c.want)
		}
		i, next, e := codec.Int(c.b, c.at)
		if e != c.want || e != api.OK && (i != 0 || next != 0) {
			t.Errorf("Int(%v, %d) = %d, %d, %d, want error %d", c.b, c.at, i, next, e, c.want)
		}
	}
}

// TestReadersOutside lets every reader begin outside the bytes, before and behind.
func TestReadersOutside(t *testing.T) {
	for _, b := range [][]byte{nil, {0}, {1, 1}, high(12)} {
		for _, at := range []int{math.MinInt, -1, len(b) + 1, len(b) + 2, math.MaxInt} {
			if n, next, e := codec.Uint(b, at); n != 0 || next != 0 || e != api.ErrArg {
				t.Errorf("Uint(%v, %d) = %d, %d, %d, want ErrArg", b, at, n, next, e)
			}
			if n, next, e := codec.Int(b, at); n != 0 || next != 0 || e != api.ErrArg {
				t.Errorf("Int(%v, %d) = %d, %d, %d, want ErrArg", b, at, n, next, e)
			}
			if s, next, e := codec.Text(b, at, 9); s != "" || next != 0 || e != api.ErrArg {
				t.Errorf("Text(%v, %d) = %q, %d, %d, want ErrArg", b, at, s, next, e)
			}
			if v, next, e := codec.Value(b, at); v != (api.Value{}) || next != 0 || e != api.ErrArg {
				t.Errorf("Value(%v, %d) = %v, %d, %d, want ErrArg", b, at, v, next, e)
			}
			if r, next, e := codec.Row(b, at); r != nil || next != 0 || e != api.ErrArg {
				t.Errorf("Row(%v, %d) = %v, %d, %d, want ErrArg", b, at, r, next, e)
			}
		}
		if _, _, e := codec.Uint(b, len(b)); e != api.ErrTruncated {
			t.Errorf("Uint(%v, %d): error %d, want ErrTruncated", b, len(b), e)
		}
	}
}

// TestReadersAtTheEnd has capacity behind the bytes, into which no reader may look.
func TestReadersAtTheEnd(t *testing.T) {
	b := []byte{1, 5, 1, 97}
	if _, _, e := codec.Uint(b[:0], 0); e != api.ErrTruncated {
		t.Errorf("Uint reads behind the end: %d", e)
	}
	if _, _, e := codec.Uint(b[:2], 3); e != api.ErrArg {
		t.Errorf("Uint begins behind the end: %d", e)
	}
	if _, _, e := codec.Text(b[2:3], 0, 9); e != api.ErrTruncated {
		t.Errorf("Text reads behind the end: %d", e)
	}
	if _, _, e := codec.Row(b[:3], 0); e != api.ErrTruncated {
		t.Errorf("Row reads behind the end: %d", e)
	}
}

// P2.4

func TestText(t *testing.T) {
	b := []byte{9, 3, 97, 0, 255, 7}
	for _, most := range []int{3, 4, 64, math.MaxInt} {
		if s, next, e := codec.Text(b, 1, most); s != "a\x00\xff" || next != 5 || e != api.OK {
			t.Errorf("Text with most %d = %q, %d, %d", most, s, next, e)
		}
	}
	if s, next, e := codec.Text([]byte{9, 0}, 1, 0); s != "" || next != 2 || e != api.OK {
		t.Errorf("Text of no bytes = %q, %d, %d", s, next, e)
	}
}

func TestTextErrors(t *testing.T) {
	b := []byte{9, 3, 97, 98, 99}
	for _, c := range []struct {
		b        []byte
		at, most int
		want     api.Errno
	}{
		{b, -1, 3, api.ErrArg}, {b, 6, 3, api.ErrArg}, {b, 1, -1, api.ErrArg}, {b, 1, math.MinInt, api.ErrArg}, {b, 6, -1, api.ErrArg},
		{nil, 0, -1, api.ErrArg}, {[]byte{128, 0}, 0, -1, api.ErrArg}, {[]byte{0}, 0, -1, api.ErrArg},
		{b, 5, 3, api.ErrTruncated}, {[]byte{128}, 0, 0, api.ErrTruncated}, {[]byte{128, 0}, 0, 0, api.ErrEncoding}, {high(10), 0, 9, api.ErrEncoding},
		{b, 1, 2, api.ErrLimit}, {b, 1, 0, api.ErrLimit}, {b[:2], 1, 2, api.ErrLimit}, {[]byte{1}, 0, 0, api.ErrLimit},
		{b[:2], 1, 3, api.ErrTruncated}, {b[:4], 1, 3, api.ErrTruncated}, {b[:4], 1, math.MaxInt, api.ErrTruncated},
		{maximum, 0, math.MaxInt, api.ErrLimit}, {binary.AppendUvarint(nil, 1<<63), 0, math.MaxInt, api.ErrLimit},
		{binary.AppendUvarint(nil, math.MaxInt64), 0, math.MaxInt, api.ErrTruncated}, {maximum, 0, 0, api.ErrLimit},
	} {
		if s, next, e := codec.Text(c.b, c.at, c.most); s != "" || next != 0 || e != c.want {
			t.Errorf("Text(%v, %d, %d) = %q, %d, %d, want error %d", c.b, c.at, c.most, s, next, e, c.want)
		}
	}
}

// P2.5

func TestValue(t *testing.T) {
	for _, c := range samples() {
		b := join([]byte{9}, c.want, []byte{9})
		if v, next, e := codec.Value(b, 1); v != c.v || next != len(b)-1 || e != api.OK {
			t.Errorf("Value(%v, 1) = %v, %d, %d, want %v", b, v, next, e, c.v)
		}
	}
}

// badValues returns bytes that are no value, and the error.
func badValues() []struct {
	b    []byte
	want api.Errno
} {
	return []struct {
		b    []byte
		want api.Errno
	}{
		{nil, api.ErrTruncated},
		{[]byte{0}, api.ErrEncoding}, {[]byte{6}, api.ErrEncoding}, {[]byte{7, 1}, api.ErrEncoding}, {[]byte{128, 1}, api.ErrEncoding}, {[]byte{129}, api.ErrEncoding}, {[]byte{255}, api.ErrEncoding},
		{[]byte{3}, api.ErrTruncated}, {[]byte{3, 2}, api.ErrEncoding}, {[]byte{3, 128, 0}, api.ErrEncoding}, {[]byte{3, 129, 0}, api.ErrEncoding}, {[]byte{3, 255}, api.ErrEncoding},
		{[]byte{4}, api.ErrTruncated}, {[]byte{4, 128}, api.ErrTruncated}, {[]byte{4, 128, 0}, api.ErrEncoding}, {join([]byte{4}, high(10)), api.ErrEncoding}, {join([]byte{4}, high(9), []byte{2}), api.ErrEncoding},
		{[]byte{5}, api.ErrTruncated}, {[]byte{5, 128}, api.ErrTruncated}, {[]byte{5, 128, 0}, api.ErrEncoding},
		{[]byte{5, 65}, api.ErrLimit}, {join([]byte{5, 65}, []byte(full), []byte{0}), api.ErrLimit}, {join([]byte{5}, maximum), api.ErrLimit},
		{[]byte{5, 1}, api.ErrTruncated}, {[]byte{5, 64, 97}, api.ErrTruncated},
	}
}

func TestValueErrors(t *testing.T) {
	for _, c := range badValues() {
		if v, next, e := codec.Value(join([]byte{9}, c.b), 1); v != (api.Value{}) || next != 0 || e != c.want {
			t.Errorf("Value(%v) = %v, %d, %d, want error %d", c.b, v, next, e, c.want)
		}
	}
}

// P2.6

func TestRow(t *testing.T) {
	for width := range api.MaxWidth + 1 {
		want, encoding := wide(width)
		b := join([]byte{9}, encoding, []byte{9})
		if r, next, e := codec.Row(b, 1); !slices.Equal(r, want) || next != len(b)-1 || e != api.OK {
			t.Errorf("Row(%v, 1) = %v, %d, %d, want %v", b, r, next, e, want)
		}
	}
}

func TestRowErrors(t *testing.T) {
	check := func(b []byte, want api.Errno) {
		t.Helper()
		if r, next, e := codec.Row(join([]byte{9}, b), 1); r != nil || next != 0 || e != want {
			t.Errorf("Row(%v) = %v, %d, %d, want error %d", b, r, next, e, want)
		}
	}
	check(nil, api.ErrTruncated)
	check([]byte{128}, api.ErrTruncated)
	check([]byte{130, 0, 1, 1}, api.ErrEncoding)
	check(high(10), api.ErrEncoding)
	for _, width := range []uint64{api.MaxWidth + 1, 255, 1 << 32, 1 << 63, math.MaxUint64} {
		count := binary.AppendUvarint(nil, width)
		check(count, api.ErrLimit)
		check(join(count, bytes.Repeat([]byte{1}, 300)), api.ErrLimit)
		check(join(count, []byte{6}), api.ErrLimit)
	}
	for _, c := range badValues() {
		check(join([]byte{1}, c.b), c.want)
		check(join([]byte{3, 3, 1, 5, 0}, c.b), c.want)
	}
	check([]byte{2, 6, 3}, api.ErrEncoding)
	check([]byte{3, 1, 5, 65, 0}, api.ErrLimit)
	check([]byte{2, 5, 2, 97}, api.ErrTruncated)
}

// P2.7

func TestSize(t *testing.T) {
	for _, c := range samples() {
		if got := codec.Size(c.v); got != len(c.want) {
			t.Errorf("Size(%v) = %d, want %d", c.v, got, len(c.want))
		}
	}
	for _, v := range invalid() {
		if got := codec.Size(v); got != 0 {
			t.Errorf("Size(%v) = %d, want 0", v, got)
		}
	}
}

func TestRowSize(t *testing.T) {
	for width := range api.MaxWidth + 1 {
		r, want := wide(width)
		if got := codec.RowSize(r); got != len(want) {
			t.Errorf("RowSize(%v) = %d, want %d", r, got, len(want))
		}
	}
	if got := codec.RowSize(nil); got != 1 {
		t.Errorf("RowSize of no cells = %d, want 1", got)
	}
	tooWide, _ := wide(api.MaxWidth + 1)
	for _, r := range []api.Row{tooWide, row(api.Value{}), row(yes, no, txt(full+"a"))} {
		if got := codec.RowSize(r); got != 0 {
			t.Errorf("RowSize(%v) = %d, want 0", r, got)
		}
	}
}

// P2.8

func TestNumbersAndTextsAreReadBack(t *testing.T) {
	before, behind := []byte{255, 128}, []byte{129, 1}
	for _, n := range uints() {
		b := codec.AppendUint(before, n)
		if got, next, e := codec.Uint(join(b, behind), 2); got != n || next != len(b) || e != api.OK {
			t.Errorf("Uint of what AppendUint(%d) wrote = %d, %d, %d", n, got, next, e)
		}
	}
	for _, n := range ints() {
		b := codec.AppendInt(before, n)
		if got, next, e := codec.Int(join(b, behind), 2); got != n || next != len(b) || e != api.OK {
			t.Errorf("Int of what AppendInt(%d) wrote = %d, %d, %d", n, got, next, e)
		}
	}
	for _, s := range texts() {
		b := codec.AppendText(before, s)
		if got, next, e := codec.Text(join(b, behind), 2, len(s)); got != s || next != len(b) || e != api.OK {
			t.Errorf("Text of what AppendText(%.20q) wrote = %.20q, %d, %d", s, got, next, e)
		}
	}
}

// TestWhatWasReadIsWrittenBack reads all sequences of telling bytes; what is a value or row is written as the bytes that were read.
func TestWhatWasReadIsWrittenBack(t *testing.T) {
	alphabet := []byte{0, 1, 2, 3, 4, 5, 6, 13, 65, 127, 128, 129, 255}
	read := 0
	sequences(alphabet, 5, func(b []byte) {
		if v, next, e := codec.Value(b, 0); e == api.OK {
			read++
			if again, e := codec.AppendValue(nil, v); !bytes.Equal(again, b[:next]) || e != api.OK {
				t.Errorf("Value(%v) = %v, which is written as %v, %d", b, v, again, e)
			}
		}
		if r, next, e := codec.Row(b, 0); e == api.OK {
			read++
			if again, e := codec.AppendRow(nil, r); !bytes.Equal(again, b[:next]) || e != api.OK {
				t.Errorf("Row(%v) = %v, which is written as %v, %d", b, r, again, e)
			}
		}
	})
	if read == 0 {
		t.Error("nothing was read")
	}
	for _, b := range numberBytes() {
		if n, next, e := codec.Uint(b, 0); e == api.OK && !bytes.Equal(codec.AppendUint(nil, n), b[:next]) {
			t.Errorf("Uint(%v) = %d, which is written as %v", b, n, codec.AppendUint(nil, n))
		}
		if n, next, e := codec.Int(b, 0); e == api.OK && !bytes.Equal(codec.AppendInt(nil, n), b[:next]) {
			t.Errorf("Int(%v) = %d, which is written as %v", b, n, codec.AppendInt(nil, n))
		}
	}
}

// sequences calls visit with each sequence of at most longest bytes of the alphabet.
func sequences(alphabet []byte, longest int, visit func(b []byte)) {
	var extend func(b []byte)
	extend = func(b []byte) {
		visit(b)
		if len(b) == longest {
			return
		}
		for _, c := range alphabet {
			extend(join(b, []byte{c}))
		}
	}
	extend(nil)
}

func TestPrefixesAreTruncated(t *testing.T) {
	check := func(name string, b []byte, read func(b []byte) api.Errno) {
		t.Helper()
		for n := range b {
			if e := read(b[:n]); e != api.ErrTruncated {
				t.Errorf("%s of %v: error %d, want ErrTruncated", name, b[:n], e)
			}
		}
	}
	for _, n := range uints() {
		check("Uint", codec.AppendUint(nil, n), func(b []byte) api.Errno { _, _, e := codec.Uint(b, 0); return e })
		check("Int", codec.AppendUint(nil, n), func(b []byte) api.Errno { _, _, e := codec.Int(b, 0); return e })
	}
	for _, s := range texts() {
		if len(s) < 1000 {
			check("Text", codec.AppendText(nil, s), func(b []byte) api.Errno { _, _, e := codec.Text(b, 0, len(s)); return e })
		}
	}
	for _, c := range samples() {
		check("Value", c.want, func(b []byte) api.Errno { _, _, e := codec.Value(b, 0); return e })
	}
	for width := range api.MaxWidth + 1 {
		_, b := wide(width)
		check("Row", b, func(b []byte) api.Errno { _, _, e := codec.Row(b, 0); return e })
	}
}

// R2

func TestAppendLeavesItsArgumentAlone(t *testing.T) {
	for name, write := range map[string]func(b []byte) []byte{
		"AppendUint":  func(b []byte) []byte { return codec.AppendUint(b, 300) },
		"AppendInt":   func(b []byte) []byte { return codec.AppendInt(b, 0) },
		"AppendText":  func(b []byte) []byte { return codec.AppendText(b, "") },
		"AppendValue": func(b []byte) []byte { b, _ = codec.AppendValue(b, missing); return b },
		"AppendRow":   func(b []byte) []byte { b, _ = codec.AppendRow(b, nil); return b },
	} {
		for _, length := range []int{0, 3, 40} {
			memory := bytes.Repeat([]byte{77}, 40)
			out := write(memory[:length])
			if len(out) <= length {
				t.Fatalf("%s wrote nothing", name)
			}
			clear(out[:cap(out)])
			if !bytes.Equal(memory, bytes.Repeat([]byte{77}, 40)) {
				t.Errorf("%s of %d bytes shares memory with its argument", name, length)
			}
		}
	}
}

func TestReadersShareNoMemory(t *testing.T) {
	r, b := wide(api.MaxWidth)
	b = append(b, 2, 5, 1, 97, 5, 1, 98)
	before := slices.Clone(b)
	first, next, _ := codec.Row(b, 0)
	second, _, _ := codec.Row(b, 0)
	last, _, _ := codec.Row(b, next)
	s, _, _ := codec.Text(b, next+2, 1)
	if !bytes.Equal(b, before) {
		t.Errorf("reading changed the bytes to %v", b)
	}
	clear(b)
	clear(second)
	if !slices.Equal(first, r) || !slices.Equal(last, row(txt("a"), txt("b"))) || s != "a" {
		t.Errorf("writing to the bytes or to another result changed %v, %v or %q", first, last, s)
	}
}

func TestAppendRowLeavesTheRowAlone(t *testing.T) {
	r, _ := wide(api.MaxWidth)
	before := slices.Clone(r)
	codec.AppendRow(nil, r)
	codec.RowSize(r[:5])
	if !slices.Equal(r, before) {
		t.Errorf("writing changed the row to %v", r)
	}
}
