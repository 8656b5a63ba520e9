package pred_test

import (
	"encoding/binary"
	"slices"
	"strconv"

	"fenland/api"
	"fenland/value"
	"fenland/wire"
)

func name(n int) string { return strconv.Itoa(n) }

// fieldsOf are the fields of an operator, as 'Types' lists them.
func fieldsOf(o int) []string {
	switch o {
	case api.Between:
		return []string{"ID", "Lo", "Hi"}
	case api.In:
		return []string{"ID", "Set"}
	case api.Prefix:
		return []string{"ID", "Text"}
	case api.IsNull:
		return []string{"ID"}
	case api.And, api.Or, api.Not:
		return []string{"Kids"}
	}
	return nil
}

// wantValue is the value of a field in a row, and whether it is not null.
func wantValue(r api.Row, id int) (api.Value, bool) {
	v := null
	for _, c := range slices.Backward(r.Cells) {
		if c.ID == id {
			v = c.V
		}
	}
	return v, !v.Null
}

// The truth values in the order in which And takes the least and Or the greatest of them.
var order = []int{api.No, api.Unknown, api.Yes}

// wantEval is E1.
func wantEval(p api.Pred, r api.Row) int {
	v, ok := wantValue(r, p.ID)
	is := false
	switch p.Op {
	case api.True:
		ok, is = true, true
	case api.Between:
		is = !(v.N < p.Lo || v.N > p.Hi)
	case api.In:
		for _, e := range p.Set {
			is = is || !e.Null && e.N == v.N && e.S == v.S
		}
	case api.Prefix:
		is = len(v.S) >= len(p.Text) && v.S[:len(p.Text)] == p.Text
	case api.IsNull:
		ok, is = true, !ok
	case api.And, api.Or, api.Not:
		return order[wantRank(p, r)]
	default:
		ok = false
	}
	switch {
	case !ok:
		return api.Unknown
	case is:
		return api.Yes
	}
	return api.No
}

// wantRank is the position in order of the value of And, Or or Not.
func wantRank(p api.Pred, r api.Row) int {
	ranks := []int{}
	for _, k := range p.Kids {
		ranks = append(ranks, slices.Index(order, wantEval(k, r)))
	}
	switch {
	case p.Op == api.And:
		return slices.Min(append(ranks, 2))
	case p.Op == api.Or:
		return slices.Max(append(ranks, 0))
	case len(ranks) == 1:
		return 2 - ranks[0]
	}
	return 1
}

// wantFields is E2: for each number, whether it occurs.
func wantFields(p api.Pred) []int {
	seen := map[int]bool{}
	c := clone(p)
	for _, q := range nodes(&c) {
		if slices.Contains(fieldsOf(q.Op), "ID") {
			seen[q.ID] = true
		}
	}
	l := []int{}
	for id := range seen {
		l = append(l, id)
	}
	slices.Sort(l)
	return l
}

// wantSize is E2.
func wantSize(p api.Pred) int {
	n := 1
	for _, k := range p.Kids {
		n += wantSize(k)
	}
	return n
}

// depth is that of 'Types'.
func depth(p api.Pred) int {
	n := 0
	for _, k := range p.Kids {
		n = max(n, depth(k))
	}
	return n + 1
}

// wantWellFormed is the condition of 'Types'.
func wantWellFormed(p api.Pred) bool {
	c := clone(p)
	for _, q := range nodes(&c) {
		full := map[string]bool{"ID": q.ID != 0, "Lo": q.Lo != 0, "Hi": q.Hi != 0, "Set": len(q.Set) > 0,
			"Text": q.Text != "", "Kids": len(q.Kids) > 0}
		for field, is := range full {
			if is && !slices.Contains(fieldsOf(q.Op), field) {
				return false
			}
		}
		for _, v := range q.Set {
			if len(v.S) > 200 {
				return false
			}
		}
		if q.Op < 0 || q.Op > 7 || len(q.Kids) > 16 || len(q.Set) > 16 || len(q.Text) > 200 {
			return false
		}
		if q.Op == api.Not && len(q.Kids) != 1 {
			return false
		}
	}
	return depth(p) <= 8
}

// wantType is the type of a field in a schema, or 0.
func wantType(s api.Schema, id int) int {
	t := 0
	for _, f := range slices.Backward(s.Fields) {
		if f.ID == id {
			t = f.Type
		}
	}
	return t
}

// wantValid is E3.
func wantValid(s api.Schema, p api.Pred) bool {
	if !wantWellFormed(p) {
		return false
	}
	c := clone(p)
	for _, q := range nodes(&c) {
		t := wantType(s, q.ID)
		ok := true
		switch q.Op {
		case api.Between:
			ok = t == api.Bool || t == api.Small || t == api.Int || t == api.Day
		case api.In:
			ok = len(q.Set) > 0 && value.Valid(q.Set[0], t) && !q.Set[0].Null
			for i := 1; i < len(q.Set); i++ {
				ok = ok && value.Valid(q.Set[i], t) && !q.Set[i].Null && value.Compare(q.Set[i], q.Set[i-1]) > 0
			}
		case api.Prefix:
			ok = t == api.Text
		case api.IsNull:
			ok = t >= api.Bool && t <= api.Day
		}
		if !ok {
			return false
		}
	}
	return true
}

func counted(b []byte, s string) []byte { return append(binary.AppendUvarint(b, uint64(len(s))), s...) }

// wantEncode is the encoding of E4. The number encodings of layer 1 are those of package binary.
func wantEncode(p api.Pred) []byte {
	b := []byte{byte(p.Op)}
	if slices.Contains(fieldsOf(p.Op), "ID") {
		b = binary.AppendVarint(b, int64(p.ID))
	}
	switch p.Op {
	case api.Between:
		b = binary.AppendVarint(binary.AppendVarint(b, p.Lo), p.Hi)
	case api.In:
		b = binary.AppendUvarint(b, uint64(len(p.Set)))
		for _, v := range p.Set {
			b = append(b, map[bool]byte{true: 1, false: 0}[v.Null])
			b = counted(binary.AppendVarint(b, v.N), v.S)
		}
	case api.Prefix:
		b = counted(b, p.Text)
	case api.And, api.Or, api.Not:
		b = binary.AppendUvarint(b, uint64(len(p.Kids)))
		for _, k := range p.Kids {
			b = append(b, wantEncode(k)...)
		}
	}
	return b
}

// script reads what E5 describes, sentence by sentence, and stops with a panic.
type script struct {
	b  []byte
	at int
}

func (s *script) stopIf(is bool, err api.Errno) {
	if is {
		panic(err)
	}
}

func (s *script) oneByte() byte {
	s.stopIf(s.at >= len(s.b), api.ErrShort)
	s.at++
	return s.b[s.at-1]
}

func (s *script) signed() int64 {
	n, next, err := wire.ReadS(s.b, s.at)
	s.stopIf(err != api.OK, err)
	s.at = next
	return n
}

func (s *script) number() uint64 {
	n, next, err := wire.ReadU(s.b, s.at)
	s.stopIf(err != api.OK, err)
	s.at = next
	s.stopIf(n > 16, api.ErrBig)
	return n
}

func (s *script) text() string {
	t, next, err := wire.ReadText(s.b, s.at)
	s.stopIf(err != api.OK, err)
	s.at = next
	s.stopIf(len(t) > 200, api.ErrBig)
	return t
}

// pred reads a predicate that lies inside others.
func (s *script) pred(others int) (p api.Pred) {
	o := s.oneByte()
	s.stopIf(o > 7, api.ErrForm)
	p.Op = int(o)
	if slices.Contains(fieldsOf(p.Op), "ID") {
		p.ID = int(s.signed())
	}
	switch p.Op {
	case api.Between:
		p.Lo = s.signed()
		p.Hi = s.signed()
	case api.In:
		for n := s.number(); n > 0; n-- {
			isNull := s.oneByte()
			s.stopIf(isNull > 1, api.ErrForm)
			v := api.Value{Null: isNull == 1}
			v.N = s.signed()
			v.S = s.text()
			p.Set = append(p.Set, v)
		}
	case api.Prefix:
		p.Text = s.text()
	case api.And, api.Or, api.Not:
		n := s.number()
		s.stopIf(p.Op == api.Not && n != 1, api.ErrForm)
		s.stopIf(n > 0 && others == 7, api.ErrBig)
		for ; n > 0; n-- {
			p.Kids = append(p.Kids, s.pred(others+1))
		}
	}
	return p
}

// wantDecode is E5.
func wantDecode(b []byte, at int) (p api.Pred, next int, err api.Errno) {
	if at < 0 || at > len(b) {
		return p, 0, api.ErrArg
	}
	defer func() {
		if e, ok := recover().(api.Errno); ok {
			p, next, err = api.Pred{}, 0, e
		}
	}()
	s := script{b, at}
	p = s.pred(0)
	return p, s.at, api.OK
}
