package share

import (
	"slices"

	"fenland/api"
)

// oracle computes what the chapter says, with products that were computed from the polynomials beforehand.
type oracle struct {
	product [256][256]byte
	inverse [256]byte
}

func newOracle() *oracle {
	var o oracle
	for a := range 256 {
		for b := range 256 {
			p := productOfPolynomials(a, b)
			o.product[a][b] = p
			if p == 1 {
				o.inverse[a] = byte(b)
			}
		}
	}
	return &o
}

// productOfPolynomials multiplies every term with every term, and then takes away the terms from x^14 to x^8.
func productOfPolynomials(a, b int) byte {
	p := 0
	for i := range 8 {
		for k := range 8 {
			if a>>i&1 == 1 && b>>k&1 == 1 {
				p ^= 1 << (i + k)
			}
		}
	}
	const modulus = 1<<8 | 1<<4 | 1<<3 | 1<<1 | 1<<0
	for i := 14; i >= 8; i-- {
		if p>>i&1 == 1 {
			p ^= modulus << (i - 8)
		}
	}
	return byte(p)
}

// value is the sum of the coefficients times the powers of x.
func (o *oracle) value(coefficients []byte, x byte) byte {
	sum, power := byte(0), byte(1)
	for _, c := range coefficients {
		sum ^= o.product[c][power]
		power = o.product[power][x]
	}
	return sum
}

// polynomial is f_i of A2, or, with the constant 0, g_i of A4.
func polynomial(constant byte, random []byte, need, i int) []byte {
	f := []byte{constant}
	for j := 1; j <= need-1; j++ {
		at := i*(need-1) + j - 1
		if at < len(random) {
			f = append(f, random[at])
		} else {
			f = append(f, 0)
		}
	}
	return f
}

// split is what A2 describes.
func (o *oracle) split(secret, random []byte, w [2]int) ([]api.Share, api.Errno) {
	need, n := w[0], w[1]
	if !(1 <= need && need <= n && n <= 255) {
		return nil, api.ErrArg
	}
	var l []api.Share
	for x := 1; x <= n; x++ {
		s := api.Share{X: byte(x)}
		for i := range secret {
			s.B = append(s.B, o.value(polynomial(secret[i], random, need, i), s.X))
		}
		l = append(l, s)
	}
	return l, api.OK
}

// isWellFormed is the definition under 'Types'.
func isWellFormed(l []api.Share) bool {
	for i, s := range l {
		if s.X == 0 {
			return false
		}
		for _, t := range l[:i] {
			if s.X == t.X || len(s.B) != len(t.B) {
				return false
			}
		}
	}
	return true
}

// solve returns the coefficients of the polynomial of degree less than len(xs) that has the values ys at the points xs.
func (o *oracle) solve(xs, ys []byte) []byte {
	n := len(xs)
	var rows [][]byte
	for k, x := range xs {
		row := []byte{1}
		for range n - 1 {
			row = append(row, o.product[row[len(row)-1]][x])
		}
		rows = append(rows, append(row, ys[k]))
	}
	for c := range n {
		o.eliminate(rows, c)
	}
	var coefficients []byte
	for _, row := range rows {
		coefficients = append(coefficients, row[n])
	}
	return coefficients
}

// eliminate makes the element c of the row c 1, and that of the others 0.
func (o *oracle) eliminate(rows [][]byte, c int) {
	k := c
	for rows[k][c] == 0 {
		k++
	}
	rows[c], rows[k] = rows[k], rows[c]
	by := o.inverse[rows[c][c]]
	for i, a := range rows[c] {
		rows[c][i] = o.product[a][by]
	}
	for k := range rows {
		factor := rows[k][c]
		if k == c || factor == 0 {
			continue
		}
		for i, a := range rows[c] {
			rows[k][i] ^= o.product[factor][a]
		}
	}
}

// combine is what A3 describes.
func (o *oracle) combine(l []api.Share, need int) ([]byte, api.Errno) {
	if !(1 <= need && need <= 255) {
		return nil, api.ErrArg
	}
	if !isWellFormed(l) || len(l) < need {
		return nil, api.ErrShares
	}
	sorted := slices.Clone(l)
	slices.SortFunc(sorted, func(s, t api.Share) int { return int(s.X) - int(t.X) })
	var secret []byte
	for i := range l[0].B {
		var xs, ys []byte
		for _, s := range sorted[:need] {
			xs, ys = append(xs, s.X), append(ys, s.B[i])
		}
		f := o.solve(xs, ys)
		for _, s := range sorted[need:] {
			if o.value(f, s.X) != s.B[i] {
				return nil, api.ErrShares
			}
		}
		secret = append(secret, o.value(f, 0))
	}
	return secret, api.OK
}

// refresh is what A4 describes.
func (o *oracle) refresh(l []api.Share, random []byte, need int) ([]api.Share, api.Errno) {
	if !(1 <= need && need <= 255) {
		return nil, api.ErrArg
	}
	if !isWellFormed(l) {
		return nil, api.ErrShares
	}
	var m []api.Share
	for _, s := range l {
		t := api.Share{X: s.X}
		for i, b := range s.B {
			t.B = append(t.B, b^o.value(polynomial(0, random, need, i), s.X))
		}
		m = append(m, t)
	}
	return m, api.OK
}
