package wire

import (
	"math"
	"math/big"
	"math/rand"
	"strings"

	"fenland/api"
)

// numbers are the edges of A1, both sides of every power of two, and some of every length.
func numbers() []uint64 {
	l := []uint64{0, 127, 128, 300, 16383, 16384, api.MaxObject, api.MaxObject + 1, math.MaxUint64}
	r := rand.New(rand.NewSource(1))
	for k := range 64 {
		p := uint64(1) << k
		l = append(l, p-1, p, p+1, r.Uint64()>>k)
	}
	return l
}

// integers are the edges of A2, and the numbers with both signs.
func integers() []int64 {
	l := []int64{0, -1, math.MaxInt64, math.MinInt64, math.MinInt64 + 1}
	for _, n := range numbers() {
		l = append(l, int64(n), -int64(n))
	}
	return l
}

// strs are texts with the lengths at which something changes, up to the longest one that can be read.
func strs() []string {
	l := []string{"", "ab", "\x00", "\xff\xfe\x80", "Zürich, 東京"}
	for _, n := range []int{126, 127, 128, 129, 16383, 16384, api.MaxObject - 1, api.MaxObject} {
		l = append(l, strings.Repeat("a\x80", n/2)+strings.Repeat("z", n%2))
	}
	return l
}

// digits is the definition of the number encoding, computed by dividing numbers without a limit.
func digits(n *big.Int) []byte {
	var l []byte
	rest, digit := new(big.Int).Set(n), new(big.Int)
	for len(l) == 0 || rest.Sign() != 0 {
		rest.DivMod(rest, big.NewInt(128), digit)
		l = append(l, byte(digit.Int64()))
	}
	for i := range len(l) - 1 {
		l[i] += 128
	}
	return l
}

func wantU(n uint64) []byte { return digits(new(big.Int).SetUint64(n)) }

// wantS is the encoding of 2n, or of -2n - 1 if n is negative.
func wantS(n int64) []byte {
	twice := new(big.Int).Mul(big.NewInt(n), big.NewInt(2))
	if n < 0 {
		twice.Neg(twice).Sub(twice, big.NewInt(1))
	}
	return digits(twice)
}

func wantString(s string) []byte { return append(wantU(uint64(len(s))), s...) }

// wantReadU is A4: it looks for the last byte first, and then at the conditions.
func wantReadU(b []byte, at int) (uint64, int, api.Errno) {
	if at < 0 || at > len(b) {
		return 0, 0, api.ErrArg
	}
	rest := b[at:]
	last := 0
	for last < len(rest) && rest[last] >= 128 {
		last++
	}
	if last >= 9 && len(rest) >= 10 && rest[9] > 1 {
		return 0, 0, api.ErrForm
	}
	if last == len(rest) {
		return 0, 0, api.ErrShort
	}
	if last > 0 && rest[last] == 0 {
		return 0, 0, api.ErrForm
	}
	n := new(big.Int)
	for i := last; i >= 0; i-- {
		n.Mul(n, big.NewInt(128)).Add(n, big.NewInt(int64(rest[i]%128)))
	}
	return n.Uint64(), at + last + 1, api.OK
}

// wantReadS is A5: the integer follows from whether the number is even.
func wantReadS(b []byte, at int) (int64, int, api.Errno) {
	u, next, err := wantReadU(b, at)
	if err != api.OK {
		return 0, 0, err
	}
	n := new(big.Int).SetUint64(u)
	if u%2 == 1 {
		n.Add(n, big.NewInt(1)).Neg(n)
	}
	return n.Div(n, big.NewInt(2)).Int64(), next, api.OK
}

// wantReadText is A6.
func wantReadText(b []byte, at int) (string, int, api.Errno) {
	n, start, err := wantReadU(b, at)
	if err != api.OK {
		return "", 0, err
	}
	if n > 1<<20 {
		return "", 0, api.ErrBig
	}
	if start+int(n) > len(b) {
		return "", 0, api.ErrShort
	}
	return string(b[start : start+int(n)]), start + int(n), api.OK
}
