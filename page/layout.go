package page

import (
	"slices"

	"fenland/api"
	"fenland/value"
	"fenland/wire"
)

// layout is what the bytes of a kind of pages are, for columns of one type.
type layout interface {
	// encode returns the bytes of the page for a column.
	encode(l []api.Value) []byte
	// decode returns the column whose page has these bytes, and any other list if there is none.
	decode(r *reader, rows int) []api.Value
}

type (
	plain struct{ nullMask }
	dict  struct{ t int }
	delta struct{ nullMask }
	runs  struct{ t int }
)

// layoutOf returns the layout of the given kind for columns of the type t.
func layoutOf(kind, t int) (layout, api.Errno) {
	switch {
	case kind < api.Plain || kind > api.Runs:
		return nil, api.ErrArg
	case t < api.Bool || t > api.Day || kind == api.Delta && t == api.Text:
		return nil, api.ErrType
	}
	m := nullMask{t}
	return []layout{plain{m}, dict{t}, delta{m}, runs{t}}[kind-api.Plain], api.OK
}

func (p plain) encode(l []api.Value) []byte { return p.write(l) }

func (p plain) decode(r *reader, rows int) []api.Value { return p.read(r, rows) }

func (d delta) encode(l []api.Value) []byte { return d.write(differences(l)) }

func (d delta) decode(r *reader, rows int) []api.Value { return sums(d.read(r, rows)) }

func (d dict) encode(l []api.Value) []byte {
	values := withNull(l)
	b := wire.U(nil, uint64(len(values)-1))
	for _, v := range values[1:] {
		b = append(b, bare(v, d.t)...)
	}
	for _, v := range l {
		k, _ := slices.BinarySearchFunc(values, v, value.Compare)
		b = append(b, wire.U(nil, uint64(k))...)
	}
	return b
}

func (d dict) decode(r *reader, rows int) []api.Value {
	values := []api.Value{{Null: true}}
	for range r.upTo(rows) {
		values = append(values, r.bare(d.t))
	}
	var l []api.Value
	for range rows {
		l = append(l, values[r.upTo(len(values)-1)])
	}
	return l
}

func (u runs) encode(l []api.Value) []byte {
	var b []byte
	for from, to := 0, 0; from < len(l); from = to {
		for to < len(l) && value.Same(l[from], l[to]) {
			to++
		}
		b = append(b, value.Encode(wire.U(nil, uint64(to-from)), l[from], u.t)...)
	}
	return b
}

func (u runs) decode(r *reader, rows int) []api.Value {
	var l []api.Value
	for len(r.rest) > 0 {
		n := r.upTo(rows - len(l))
		v := r.value(u.t)
		for range n {
			l = append(l, v)
		}
	}
	return l
}

// nullMask is what the pages that begin with a null mask have in common, for columns of the type t.
type nullMask struct{ t int }

// write returns the null mask of l, and the values that are not null.
func (m nullMask) write(l []api.Value) []byte {
	b := make([]byte, maskSize(len(l)))
	for i, v := range l {
		if v.Null {
			b[i/8] |= 1 << (i % 8)
		} else {
			b = append(b, bare(v, m.t)...)
		}
	}
	return b
}

// read reads as many values as there are rows from what write has written.
func (m nullMask) read(r *reader, rows int) []api.Value {
	mask := r.bytes(maskSize(rows))
	var l []api.Value
	for i := range rows {
		if mask[i/8]>>(i%8)&1 == 1 {
			l = append(l, api.Value{Null: true})
		} else {
			l = append(l, r.bare(m.t))
		}
	}
	return l
}

func maskSize(rows int) int { return (rows + 7) / 8 }

// withNull returns the different values of l in increasing order, after a null, whether l has one or not: the place of a
// value is its number in a dictionary.
func withNull(l []api.Value) []api.Value {
	values := append([]api.Value{{Null: true}}, l...)
	slices.SortFunc(values, value.Compare)
	return slices.CompactFunc(values, value.Same)
}

// differences returns l with the difference from the number before it, if there is one, in the place of each number.
func differences(l []api.Value) []api.Value {
	var to []api.Value
	var last int64
	for _, v := range l {
		if !v.Null {
			v.N, last = v.N-last, v.N
		}
		to = append(to, v)
	}
	return to
}

// sums returns the list of which l has the differences.
func sums(l []api.Value) []api.Value {
	var to []api.Value
	var last int64
	for _, v := range l {
		if !v.Null {
			last += v.N
			v.N = last
		}
		to = append(to, v)
	}
	return to
}

// bare returns the encoding of a value that is not null without a sign that it is not.
func bare(v api.Value, t int) []byte {
	if t == api.Text {
		return wire.Text(nil, v.S)
	}
	return wire.S(nil, v.N)
}
