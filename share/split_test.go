package share

import (
	"bytes"
	"math"
	"math/rand"
	"testing"

	"fenland/api"
)

// sizes are valid pairs of need and n.
var sizes = [][2]int{
	{1, 1}, {1, 2}, {2, 2}, {1, 3}, {2, 3}, {3, 3}, {2, 5}, {3, 5}, {5, 8}, {16, 17},
	{1, 254}, {1, 255}, {2, 255}, {3, 255}, {128, 255}, {253, 254}, {254, 254}, {254, 255}, {255, 255},
}

// limits are numbers around those at which arguments become valid, and those that become valid as a byte.
var limits = []int{
	math.MinInt, math.MinInt + 1, -1<<16 + 1, -257, -256, -255, -254, -2, -1, 0, 1, 2, 3, 127, 128, 129, 253, 254, 255,
	256, 257, 258, 510, 511, 512, 513, 1<<16 + 1, math.MaxInt,
}

// anyBytes returns n bytes without a plan.
func anyBytes(r *rand.Rand, n int) []byte {
	b := make([]byte, n)
	r.Read(b)
	return b
}

// secrets are byte strings of few bytes: zeros, all bits set, and without a plan.
func secrets(r *rand.Rand) [][]byte {
	l := [][]byte{nil, {}, {0}, {1}, {255}, {0, 0, 0}, {255, 255, 255}}
	for n := range 6 {
		l = append(l, anyBytes(r, n))
	}
	return l
}

// randoms are random bytes for a secret of n bytes: missing, too few, as many as needed, and too many.
func randoms(r *rand.Rand, n, need int) [][]byte {
	all := n * (need - 1)
	l := [][]byte{nil, {}, make([]byte, all), bytes.Repeat([]byte{255}, all)}
	for _, k := range []int{1, need - 2, need - 1, need, all / 2, all - need, all - 1, all, all + 1, all + 300} {
		if k >= 0 {
			l = append(l, anyBytes(r, k))
		}
	}
	return l
}

func sameShares(l, m []api.Share) bool {
	if len(l) != len(m) {
		return false
	}
	for i, s := range l {
		if s.X != m[i].X || !bytes.Equal(s.B, m[i].B) {
			return false
		}
	}
	return true
}

// P4.1: A2, the section 'Examples', also with random bytes that are too many.
func TestExampleOfSplit(t *testing.T) {
	want := []api.Share{{X: 1, B: []byte{6}}, {X: 2, B: []byte{3}}, {X: 3, B: []byte{0}}}
	for _, random := range [][]byte{{3}, {3, 0}, {3, 7, 9, 200}} {
		if l, err := Split([]byte{5}, random, [2]int{2, 3}); err != api.OK || !sameShares(l, want) {
			t.Errorf("Split of 5 with %v: %v, %v", random, l, err)
		}
	}
}

// P4.1: A2, the coefficients are taken byte by byte, that of x first, and are 0 where random ends.
func TestOrderOfCoefficients(t *testing.T) {
	for _, c := range []struct {
		random []byte
		want   []api.Share
	}{
		// At the point 2, x is 2 and x^2 is 4; at 3, they are 3 and 5.
		{[]byte{16, 1, 0, 32}, []api.Share{{X: 1, B: []byte{64 ^ 16 ^ 1, 128 ^ 32}}, {X: 2, B: []byte{64 ^ 32 ^ 4, 128 ^ 128}}, {X: 3, B: []byte{64 ^ 48 ^ 5, 128 ^ 160}}}},
		{[]byte{16, 1, 8}, []api.Share{{X: 1, B: []byte{64 ^ 16 ^ 1, 128 ^ 8}}, {X: 2, B: []byte{64 ^ 32 ^ 4, 128 ^ 16}}, {X: 3, B: []byte{64 ^ 48 ^ 5, 128 ^ 24}}}},
		{[]byte{16}, []api.Share{{X: 1, B: []byte{64 ^ 16, 128}}, {X: 2, B: []byte{64 ^ 32, 128}}, {X: 3, B: []byte{64 ^ 48, 128}}}},
		{nil, []api.Share{{X: 1, B: []byte{64, 128}}, {X: 2, B: []byte{64, 128}}, {X: 3, B: []byte{64, 128}}}},
	} {
		if l, err := Split([]byte{64, 128}, c.random, [2]int{3, 3}); err != api.OK || !sameShares(l, c.want) {
			t.Errorf("Split with %v: %v, %v; want %v", c.random, l, err, c.want)
		}
	}
}

// P4.1: A2, for secrets and random bytes of many lengths.
func TestSplit(t *testing.T) {
	o, r := newOracle(), rand.New(rand.NewSource(1))
	for _, w := range sizes {
		for _, secret := range secrets(r) {
			for _, random := range randoms(r, len(secret), w[0]) {
				want, _ := o.split(secret, random, w)
				if l, err := Split(secret, random, w); err != api.OK || !sameShares(l, want) {
					t.Fatalf("Split(%v, %v, %v): %v, %v; want %v", secret, random, w, l, err, want)
				}
			}
		}
	}
}

// P4.1: A2, arguments without a plan.
func TestSplitAtRandom(t *testing.T) {
	o, r := newOracle(), rand.New(rand.NewSource(2))
	for range 2000 {
		n := 1 + r.Intn(255)
		w := [2]int{1 + r.Intn(min(n, 1+r.Intn(255))), n}
		secret := anyBytes(r, r.Intn(5))
		random := anyBytes(r, r.Intn(2+len(secret)*w[0]))
		want, _ := o.split(secret, random, w)
		if l, err := Split(secret, random, w); err != api.OK || !sameShares(l, want) {
			t.Fatalf("Split(%v, %v, %v): %v, %v; want %v", secret, random, w, l, err, want)
		}
	}
}

// P4.1: A2, ErrArg unless 1 <= need <= n <= 255, whatever the bytes are.
func TestSplitArguments(t *testing.T) {
	for _, need := range limits {
		for _, n := range limits {
			want := api.ErrArg
			if 1 <= need && need <= n && n <= 255 {
				want = api.OK
			}
			for _, b := range [][]byte{nil, {}, {7}, {7, 8, 9}} {
				l, err := Split(b, b, [2]int{need, n})
				if err != want || want != api.OK && len(l) != 0 || want == api.OK && len(l) != n {
					t.Fatalf("Split(%v, %v, {%d, %d}): %d shares, %v", b, b, need, n, len(l), err)
				}
			}
		}
	}
}

// P4.1: A2, the shares of the empty secret are empty and have all points.
func TestSplitOfNothing(t *testing.T) {
	for _, w := range sizes {
		for _, random := range [][]byte{nil, {}, {1, 2, 3}} {
			l, err := Split(nil, random, w)
			if err != api.OK || len(l) != w[1] {
				t.Fatalf("Split of no bytes with %v: %d shares, %v", w, len(l), err)
			}
			for i, s := range l {
				if int(s.X) != i+1 || len(s.B) != 0 {
					t.Errorf("share %d of no bytes: %v", i, s)
				}
			}
		}
	}
}

// P4.1: A2, if one share is required, each of them is the secret, and random has no effect.
func TestSplitForOne(t *testing.T) {
	secret := []byte{0, 1, 2, 254, 255}
	for _, random := range [][]byte{nil, {1}, bytes.Repeat([]byte{9}, 20)} {
		l, err := Split(secret, random, [2]int{1, 255})
		if err != api.OK || len(l) != 255 {
			t.Fatalf("%d shares, %v", len(l), err)
		}
		for i, s := range l {
			if int(s.X) != i+1 || !bytes.Equal(s.B, secret) {
				t.Errorf("share %d: %v", i, s)
			}
		}
	}
}

// P4.1: A2, a long secret.
func TestSplitOfAnObject(t *testing.T) {
	o, r := newOracle(), rand.New(rand.NewSource(3))
	secret, random := anyBytes(r, 100000), anyBytes(r, 2*100000-5)
	want, _ := o.split(secret, random, [2]int{3, 4})
	if l, err := Split(secret, random, [2]int{3, 4}); err != api.OK || !sameShares(l, want) {
		t.Errorf("Split of %d bytes: %v", len(secret), err)
	}
}
