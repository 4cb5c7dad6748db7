package codec

import "partsync/api"

// Uint reads what AppendUint writes, and returns it and the index behind it.
func Uint(b []byte, at int) (n uint64, next int, e api.Errno) {
	defer func() { e = reason(recover()) }()
	d := begin(b, at)
	n = d.uint()
	return n, d.at, api.OK
}

// Int reads what AppendInt writes, and returns it and the index behind it.
func Int(b []byte, at int) (n int64, next int, e api.Errno) {
	defer func() { e = reason(recover()) }()
	d := begin(b, at)
	n = d.int()
	return n, d.at, api.OK
}

// Text reads what AppendText writes, if that has at most most bytes, and returns it and the index behind it.
func Text(b []byte, at, most int) (s string, next int, e api.Errno) {
	defer func() { e = reason(recover()) }()
	d := begin(b, at)
	require(most >= 0, api.ErrArg)
	s = d.text(most)
	return s, d.at, api.OK
}

// Value reads what AppendValue writes, and returns it and the index behind it.
func Value(b []byte, at int) (v api.Value, next int, e api.Errno) {
	defer func() { e = reason(recover()) }()
	d := begin(b, at)
	v = d.value()
	return v, d.at, api.OK
}

// Row reads what AppendRow writes, and returns it and the index behind it.
func Row(b []byte, at int) (r api.Row, next int, e api.Errno) {
	defer func() { e = reason(recover()) }()
	d := begin(b, at)
	r = d.row()
	return r, d.at, api.OK
}

// decoder reads from bytes, beginning at the index at. At the first error it stops by a panic with the error.
type decoder struct {
	bytes []byte
	at    int
}

func begin(b []byte, at int) *decoder {
	require(at >= 0 && at <= len(b), api.ErrArg)
	return &decoder{bytes: b, at: at}
}

func require(holds bool, e api.Errno) {
	if !holds {
		panic(e)
	}
}

// reason returns the error with which a decoder stopped, as recover returned it; OK if the decoder did not stop.
func reason(stop any) api.Errno {
	if stop == nil {
		return api.OK
	}
	return stop.(api.Errno)
}

func (d *decoder) octet() byte {
	require(d.at < len(d.bytes), api.ErrTruncated)
	c := d.bytes[d.at]
	d.at++
	return c
}

func (d *decoder) uint() uint64 {
	const last = 63 // where the group of the tenth byte begins, of which 64 bits take only one
	var n uint64
	for shift := 0; ; shift += group {
		c := d.octet()
		// A last byte 0 could be left out: the number has a shorter encoding.
		require(c > 0 || shift == 0, api.ErrEncoding)
		require(c <= 1 || shift < last, api.ErrEncoding)
		n |= uint64(c&payload) << shift
		if c&more == 0 {
			return n
		}
	}
}

func (d *decoder) int() int64 {
	n := d.uint()
	return int64(n>>1) ^ -int64(n&1)
}

func (d *decoder) text(most int) string {
	// The length is compared as it was read, since an int may not hold it.
	length := d.uint()
	require(length <= uint64(most), api.ErrLimit)
	rest := d.bytes[d.at:]
	require(length <= uint64(len(rest)), api.ErrTruncated)
	d.at += int(length)
	return string(rest[:length])
}

func (d *decoder) value() api.Value {
	v := api.Value{Kind: int(d.octet())}
	switch v.Kind {
	case api.KindMissing, api.KindHidden:
	case api.KindBool:
		v.Int = int64(d.octet())
		require(v.Int <= 1, api.ErrEncoding)
	case api.KindInt:
		v.Int = d.int()
	case api.KindText:
		v.Text = d.text(api.MaxText)
	default:
		panic(api.ErrEncoding)
	}
	return v
}

func (d *decoder) row() api.Row {
	width := d.uint()
	require(width <= api.MaxWidth, api.ErrLimit)
	r := make(api.Row, width)
	for i := range r {
		r[i] = d.value()
	}
	return r
}
