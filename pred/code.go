package pred

import (
	"slices"

	"fenland/api"
	"fenland/wire"
)

// The byte before an element of a set.
const (
	present = 0
	null    = 1
)

// Encode returns b followed by the encoding of p, and by nothing if p is not well-formed.
func Encode(b []byte, p api.Pred) []byte {
	b = slices.Clone(b)
	if !isWellFormed(p) {
		return b
	}
	for _, q := range all(p) {
		b = append(b, head(q)...)
	}
	return b
}

// head returns the encoding of p up to those of its Kids.
func head(p api.Pred) []byte {
	b := []byte{byte(p.Op)}
	switch p.Op {
	case api.Between:
		return wire.S(wire.S(wire.S(b, int64(p.ID)), p.Lo), p.Hi)
	case api.In:
		b = wire.U(wire.S(b, int64(p.ID)), uint64(len(p.Set)))
		for _, v := range p.Set {
			b = append(b, element(v)...)
		}
	case api.Prefix:
		return wire.Text(wire.S(b, int64(p.ID)), p.Text)
	case api.IsNull:
		return wire.S(b, int64(p.ID))
	case api.And, api.Or, api.Not:
		return wire.U(b, uint64(len(p.Kids)))
	}
	return b
}

// element returns the encoding of an element of a set. What is not valid is kept: a null may have a number and a text,
// and a text may have a number.
func element(v api.Value) []byte {
	b := []byte{present}
	if v.Null {
		b[0] = null
	}
	return wire.Text(wire.S(b, v.N), v.S)
}

// Decode decodes a predicate that Encode has written, and returns it and the offset after it.
func Decode(b []byte, at int) (api.Pred, int, api.Errno) {
	if at < 0 || at > len(b) {
		return api.Pred{}, 0, api.ErrArg
	}
	r := reader{b: b, at: at}
	p := r.pred(1)
	if r.err != api.OK {
		return api.Pred{}, 0, r.err
	}
	return p, r.at, api.OK
}

// reader reads the parts of an encoding one after the other. From the first error on, it reads nothing, and all parts
// are zero.
type reader struct {
	b   []byte
	at  int
	err api.Errno
}

// pred reads a predicate that lies inside level - 1 others.
func (r *reader) pred(level int) api.Pred {
	p := api.Pred{Op: r.small(api.Not)}
	switch p.Op {
	case api.Between:
		p.ID, p.Lo, p.Hi = r.id(), r.number(), r.number()
	case api.In:
		p.ID = r.id()
		p.Set = list(r.count(), r.element)
	case api.Prefix:
		p.ID, p.Text = r.id(), r.text()
	case api.IsNull:
		p.ID = r.id()
	case api.And, api.Or, api.Not:
		n := r.count()
		r.require(p.Op != api.Not || n == 1, api.ErrForm)
		r.require(n == 0 || level < api.MaxDepth, api.ErrBig)
		p.Kids = list(n, func() api.Pred { return r.pred(level + 1) })
	}
	return p
}

func (r *reader) element() api.Value {
	return api.Value{Null: r.small(null) == null, N: r.number(), S: r.text()}
}

// small reads a byte that is not greater than most.
func (r *reader) small(most int) int {
	n := int(part(r, readByte))
	r.require(n <= most, api.ErrForm)
	return n
}

func (r *reader) id() int { return int(r.number()) }

func (r *reader) number() int64 { return part(r, wire.ReadS) }

func (r *reader) text() string {
	s := part(r, wire.ReadText)
	r.require(len(s) <= api.MaxText, api.ErrBig)
	return s
}

// count reads how many elements or Kids there are, and returns 0 if these are too many.
func (r *reader) count() int {
	n := part(r, wire.ReadU)
	if n > api.MaxKids {
		r.require(false, api.ErrBig)
		return 0
	}
	return int(n)
}

// require sets the error if a condition is not met, unless there is one already.
func (r *reader) require(ok bool, err api.Errno) {
	if !ok && r.err == api.OK {
		r.err = err
	}
}

// part reads what a function of the form of wire's reads.
func part[T any](r *reader, read func([]byte, int) (T, int, api.Errno)) (v T) {
	if r.err != api.OK {
		return v
	}
	v, next, err := read(r.b, r.at)
	r.at, r.err = next, err
	return v
}

func readByte(b []byte, at int) (byte, int, api.Errno) {
	if at == len(b) {
		return 0, 0, api.ErrShort
	}
	return b[at], at + 1, api.OK
}

func list[T any](n int, next func() T) []T {
	var l []T
	for range n {
		l = append(l, next())
	}
	return l
}
