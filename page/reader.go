package page

import (
	"fenland/api"
	"fenland/value"
	"fenland/wire"
)

// reader reads the parts of a page one after the other. A part that cannot be read is zero, and nothing is left after
// it.
type reader struct{ rest []byte }

// upTo reads a number, and returns most if it is greater.
func (r *reader) upTo(most int) int { return int(min(part(r, wire.ReadU), uint64(most))) }

// bytes returns the next n bytes, which are zero where there are none.
func (r *reader) bytes(n int) []byte {
	b := make([]byte, n)
	r.rest = r.rest[copy(b, r.rest):]
	return b
}

// bare reads a value of the type t of which nothing says that it is not null.
func (r *reader) bare(t int) (v api.Value) {
	if t == api.Text {
		v.S = part(r, wire.ReadText)
	} else {
		v.N = part(r, wire.ReadS)
	}
	return v
}

// value reads a value of the type t that may be null.
func (r *reader) value(t int) api.Value {
	return part(r, func(b []byte, at int) (api.Value, int, api.Errno) { return value.Decode(b, at, t) })
}

// part reads what a function of the form of wire's reads.
func part[T any](r *reader, read func([]byte, int) (T, int, api.Errno)) T {
	v, next, err := read(r.rest, 0)
	if err != api.OK {
		next = len(r.rest)
	}
	r.rest = r.rest[next:]
	return v
}
