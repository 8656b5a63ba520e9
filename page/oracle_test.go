package page_test

import (
	"encoding/binary"
	"math"
	"slices"
	"strings"

	"fenland/api"
)

// wantValid tells whether a value is valid for a type.
func wantValid(v api.Value, t int) bool {
	if !slices.Contains(types, t) {
		return false
	}
	if v.Null {
		return v == null
	}
	if t == api.Text {
		return v.N == 0 && len(v.S) <= 200
	}
	low := map[int]int64{api.Bool: 0, api.Small: math.MinInt32, api.Int: math.MinInt64, api.Day: -1000000}[t]
	high := map[int]int64{api.Bool: 1, api.Small: math.MaxInt32, api.Int: math.MaxInt64, api.Day: 1000000}[t]
	return v.S == "" && v.N >= low && v.N <= high
}

// wantLess is the order of values that are valid and not null.
func wantLess(a, b api.Value) bool { return a.N < b.N || a.N == b.N && a.S < b.S }

// wantBare is the bare encoding of a value.
func wantBare(v api.Value, t int) []byte {
	if t == api.Text {
		return append(binary.AppendUvarint(nil, uint64(len(v.S))), v.S...)
	}
	return binary.AppendVarint(nil, v.N)
}

// wantMask is the null mask of a column.
func wantMask(l []api.Value) []byte {
	b := make([]byte, int(math.Ceil(float64(len(l))/8)))
	for i, v := range l {
		if v.Null {
			b[i/8] += []byte{1, 2, 4, 8, 16, 32, 64, 128}[i%8]
		}
	}
	return b
}

func wantPlain(l []api.Value, t int) []byte {
	b := wantMask(l)
	for _, v := range l {
		if !v.Null {
			b = append(b, wantBare(v, t)...)
		}
	}
	return b
}

func wantDict(l []api.Value, t int) []byte {
	number := map[api.Value]int{}
	var values []api.Value
	for _, v := range l {
		if _, seen := number[v]; !seen && !v.Null {
			number[v] = 0
			values = append(values, v)
		}
	}
	slices.SortFunc(values, func(a, b api.Value) int {
		if wantLess(a, b) {
			return -1
		}
		return 1
	})
	b := binary.AppendUvarint(nil, uint64(len(values)))
	for i, v := range values {
		number[v] = i + 1
		b = append(b, wantBare(v, t)...)
	}
	for _, v := range l {
		b = binary.AppendUvarint(b, uint64(number[v]))
	}
	return b
}

func wantDelta(l []api.Value) []byte {
	b := wantMask(l)
	var before []int64
	for _, v := range l {
		switch {
		case v.Null:
			continue
		case len(before) == 0:
			b = binary.AppendVarint(b, v.N)
		default:
			b = binary.AppendVarint(b, int64(uint64(v.N)-uint64(before[len(before)-1])))
		}
		before = append(before, v.N)
	}
	return b
}

func wantRuns(l []api.Value, t int) []byte {
	var b []byte
	n := 0
	for i, v := range l {
		n++
		if i+1 < len(l) && l[i+1] == v {
			continue
		}
		b = binary.AppendUvarint(b, uint64(n))
		if v.Null {
			b = append(b, 0)
		} else {
			b = append(append(b, 1), wantBare(v, t)...)
		}
		n = 0
	}
	return b
}

// wantEncode is A1.
func wantEncode(l []api.Value, t int, kind int) (api.Page, api.Errno) {
	if !slices.Contains(kinds, kind) {
		return api.Page{}, api.ErrArg
	}
	if !slices.Contains(types, t) || kind == api.Delta && t == api.Text {
		return api.Page{}, api.ErrType
	}
	if len(l) > 1024 {
		return api.Page{}, api.ErrBig
	}
	for _, v := range l {
		if !wantValid(v, t) {
			return api.Page{}, api.ErrType
		}
	}
	p := api.Page{Kind: kind, Rows: len(l)}
	switch kind {
	case api.Plain:
		p.B = wantPlain(l, t)
	case api.Dict:
		p.B = wantDict(l, t)
	case api.Delta:
		p.B = wantDelta(l)
	case api.Runs:
		p.B = wantRuns(l, t)
	}
	return p, api.OK
}

// wantBest is A2.
func wantBest(l []api.Value, t int) (api.Page, api.Errno) {
	if !slices.Contains(types, t) {
		return api.Page{}, api.ErrType
	}
	var pages []api.Page
	for _, kind := range kindsOf(t) {
		p, err := wantEncode(l, t, kind)
		if err != api.OK {
			return api.Page{}, err
		}
		pages = append(pages, p)
	}
	return slices.MinFunc(pages, func(p, q api.Page) int { return (len(p.B)-len(q.B))*8 + p.Kind - q.Kind }), api.OK
}

// source is what has not been read of the bytes of a page. It is broken when something could not be read.
type source struct {
	b      []byte
	broken bool
}

func (s *source) fail() { s.b, s.broken = nil, true }

func (s *source) u() uint64 {
	n, size := binary.Uvarint(s.b)
	if size <= 0 || size > 1 && s.b[size-1] == 0 {
		s.fail()
		return 0
	}
	s.b = s.b[size:]
	return n
}

func (s *source) s() int64 {
	u := s.u()
	if u%2 == 1 {
		return -int64(u/2) - 1
	}
	return int64(u / 2)
}

func (s *source) take(n uint64) string {
	if n > uint64(len(s.b)) {
		s.fail()
		return ""
	}
	part := string(s.b[:n])
	s.b = s.b[n:]
	return part
}

func (s *source) bare(t int) (v api.Value) {
	if t == api.Text {
		v.S = s.take(s.u())
	} else {
		v.N = s.s()
	}
	return s.valid(v, t)
}

func (s *source) valid(v api.Value, t int) api.Value {
	if !wantValid(v, t) {
		s.fail()
	}
	return v
}

// masked reads a Plain page, or the differences of a Delta page.
func (s *source) masked(rows int, next func() api.Value) []api.Value {
	size := rows / 8
	if rows%8 > 0 {
		size++
	}
	mask := s.take(uint64(size))
	var l []api.Value
	for i := 0; i < size*8 && !s.broken; i++ {
		set := strings.Contains(bitsOf(mask[i/8])[i%8:i%8+1], "1")
		switch {
		case i >= rows && set:
			s.fail()
		case i < rows && set:
			l = append(l, null)
		case i < rows:
			l = append(l, next())
		}
	}
	return l
}

// bitsOf is a byte as eight digits, the least significant one first.
func bitsOf(c byte) string {
	var s string
	for range 8 {
		s += string('0' + rune(c%2))
		c /= 2
	}
	return s
}

func (s *source) delta(rows, t int) []api.Value {
	sum := uint64(0)
	return s.masked(rows, func() api.Value {
		sum += uint64(s.s())
		return s.valid(num(int64(sum)), t)
	})
}

func (s *source) dict(rows, t int) []api.Value {
	d := s.u()
	if d > uint64(rows) {
		s.fail()
	}
	values := []api.Value{null}
	for i := uint64(1); i <= d && !s.broken; i++ {
		v := s.bare(t)
		if i > 1 && !wantLess(values[i-1], v) {
			s.fail()
		}
		values = append(values, v)
	}
	used := map[uint64]bool{}
	var l []api.Value
	for range rows {
		k := s.u()
		if k > d || s.broken {
			s.fail()
			return nil
		}
		used[k] = k > 0
		l = append(l, values[k])
	}
	for k := uint64(1); k <= d; k++ {
		if !used[k] {
			s.fail()
			return nil
		}
	}
	return l
}

func (s *source) runs(rows, t int) []api.Value {
	var l []api.Value
	for len(s.b) > 0 {
		n := s.u()
		if n == 0 || n > uint64(rows-len(l)) {
			s.fail()
			return nil
		}
		v := null
		switch s.take(1) {
		case "\x00":
		case "\x01":
			v = s.bare(t)
		default:
			s.fail()
		}
		if len(l) > 0 && l[len(l)-1] == v {
			s.fail()
		}
		l = append(l, times(int(n), v)...)
	}
	return l
}

// wantDecode is A3: each page is read strictly, from its beginning to its end.
func wantDecode(p api.Page, t int) ([]api.Value, api.Errno) {
	if !slices.Contains(kinds, p.Kind) {
		return nil, api.ErrArg
	}
	if !slices.Contains(types, t) || p.Kind == api.Delta && t == api.Text {
		return nil, api.ErrType
	}
	if p.Rows < 0 || p.Rows > 1024 {
		return nil, api.ErrPage
	}
	s := &source{b: p.B}
	var l []api.Value
	switch p.Kind {
	case api.Plain:
		l = s.masked(p.Rows, func() api.Value { return s.bare(t) })
	case api.Dict:
		l = s.dict(p.Rows, t)
	case api.Delta:
		l = s.delta(p.Rows, t)
	case api.Runs:
		l = s.runs(p.Rows, t)
	}
	if s.broken || len(s.b) > 0 || len(l) != p.Rows {
		return nil, api.ErrPage
	}
	return l, api.OK
}

// wantPut is the first half of A4.
func wantPut(b []byte, p api.Page) []byte {
	b = binary.AppendUvarint(slices.Clone(b), uint64(p.Kind))
	b = binary.AppendUvarint(b, uint64(p.Rows))
	return append(binary.AppendUvarint(b, uint64(len(p.B))), p.B...)
}

// wantNumber is A4 of chapter 1: it reads byte by byte.
func wantNumber(b []byte, at int) (n uint64, next int, err api.Errno) {
	for i := 0; ; i++ {
		if at+i == len(b) {
			return 0, 0, api.ErrShort
		}
		c := b[at+i]
		if i == 9 && c > 1 {
			return 0, 0, api.ErrForm
		}
		n += uint64(c%128) << (7 * i)
		if c < 128 {
			if i > 0 && c == 0 {
				return 0, 0, api.ErrForm
			}
			return n, at + i + 1, api.OK
		}
	}
}

// wantGet is the second half of A4.
func wantGet(b []byte, at int) (api.Page, int, api.Errno) {
	if at < 0 || at > len(b) {
		return api.Page{}, 0, api.ErrArg
	}
	var l [3]uint64
	for i, most := range []uint64{4, 1024, 1 << 20} {
		n, next, err := wantNumber(b, at)
		if err == api.OK && (n > most || i == 0 && n == 0) {
			err = []api.Errno{api.ErrPage, api.ErrPage, api.ErrBig}[i]
		}
		if err != api.OK {
			return api.Page{}, 0, err
		}
		l[i], at = n, next
	}
	end := at + int(l[2])
	if end > len(b) {
		return api.Page{}, 0, api.ErrShort
	}
	return api.Page{Kind: int(l[0]), Rows: int(l[1]), B: b[at:end]}, end, api.OK
}
