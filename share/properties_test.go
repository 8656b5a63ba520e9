package share

import (
	"bytes"
	"math/rand"
	"testing"

	"fenland/api"
)

// ordered calls f with every list of different elements of l, in every order.
func ordered(l []api.Share, f func([]api.Share)) {
	used := make([]bool, len(l))
	var chosen []api.Share
	var extend func()
	extend = func() {
		f(chosen)
		for i, s := range l {
			if used[i] {
				continue
			}
			used[i], chosen = true, append(chosen, s)
			extend()
			used[i], chosen = false, chosen[:len(chosen)-1]
		}
	}
	extend()
}

// P4.3: all lists of up to five shares, in all orders.
func TestReconstruction(t *testing.T) {
	r := rand.New(rand.NewSource(1))
	for n := 1; n <= 5; n++ {
		for need := 1; need <= n; need++ {
			secret := anyBytes(r, 3)
			all, _ := Split(secret, anyBytes(r, 3*(need-1)), [2]int{need, n})
			ordered(all, func(l []api.Share) {
				b, err := Combine(l, need)
				if len(l) < need && (err != api.ErrShares || len(b) != 0) {
					t.Errorf("%d of %d shares are required: Combine of %v: %v, %v", need, n, l, b, err)
				}
				if len(l) >= need && (err != api.OK || !bytes.Equal(b, secret)) {
					t.Errorf("%d of %d shares are required: Combine of %v: %v, %v; want %v", need, n, l, b, err, secret)
				}
			})
		}
	}
}

// P4.3: lists of many shares, for secrets of several lengths, and for random bytes that are too few.
func TestReconstructionOfMany(t *testing.T) {
	r := rand.New(rand.NewSource(2))
	for _, w := range sizes {
		need, n := w[0], w[1]
		for _, secret := range secrets(r) {
			for _, random := range randoms(r, len(secret), need) {
				all, _ := Split(secret, random, w)
				k := need + r.Intn(n-need+1)
				if b, err := Combine(shuffled(r, all)[:k], need); err != api.OK || !bytes.Equal(b, secret) {
					t.Fatalf("%d shares of %d, of %v: %v, %v", k, n, secret, b, err)
				}
				if b, err := Combine(shuffled(r, all)[:need-1], need); err != api.ErrShares || len(b) != 0 {
					t.Fatalf("%d shares, of which %d are required: %v, %v", need-1, need, b, err)
				}
			}
		}
	}
}

// P4.3: a key, and an object.
func TestReconstructionOfLongSecrets(t *testing.T) {
	r := rand.New(rand.NewSource(3))
	for _, n := range []int{32, 1000, api.MaxObject} {
		secret := anyBytes(r, n)
		all, _ := Split(secret, anyBytes(r, 2*n), [2]int{3, 5})
		for k := 3; k <= 5; k++ {
			if b, err := Combine(shuffled(r, all)[:k], 3); err != api.OK || !bytes.Equal(b, secret) {
				t.Errorf("%d shares of %d bytes: %v", k, n, err)
			}
		}
	}
}

// P4.4: a share of two, at any point, has every value once, whatever the secret is.
func TestSecrecyOfTwo(t *testing.T) {
	for secret := range 256 {
		var seen [256][256]bool
		for random := range 256 {
			l, _ := Split([]byte{byte(secret)}, []byte{byte(random)}, [2]int{2, 255})
			for _, s := range l {
				if seen[s.X][s.B[0]] {
					t.Fatalf("secret %d: the share %v occurs twice", secret, s)
				}
				seen[s.X][s.B[0]] = true
			}
		}
	}
}

// P4.4: two shares of three, at any two points, have every pair of values once.
func TestSecrecyOfThree(t *testing.T) {
	for _, secret := range []byte{0, 1, 200} {
		var seen [3][1 << 16]bool
		for random := range 1 << 16 {
			l, _ := Split([]byte{secret}, []byte{byte(random), byte(random >> 8)}, [2]int{3, 3})
			for k := range seen {
				pair := int(l[k].B[0])<<8 | int(l[(k+1)%3].B[0])
				if seen[k][pair] {
					t.Fatalf("secret %d: the values %x of two shares occur twice", secret, pair)
				}
				seen[k][pair] = true
			}
		}
	}
}

// randomFor returns the random bytes with which the secret has the shares l, one less than are required.
func (o *oracle) randomFor(secret []byte, l []api.Share) []byte {
	var random []byte
	for i, b := range secret {
		xs, ys := []byte{0}, []byte{b}
		for _, s := range l {
			xs, ys = append(xs, s.X), append(ys, s.B[i])
		}
		random = append(random, o.solve(xs, ys)[1:]...)
	}
	return random
}

// P4.4: for any other secret there are random bytes, which can be computed.
func TestSecrecyOfMany(t *testing.T) {
	o, r := newOracle(), rand.New(rand.NewSource(4))
	for _, w := range append([][2]int{{4, 6}, {7, 9}, {30, 60}}, sizes...) {
		need := w[0]
		for n := range 3 {
			all, _ := Split(anyBytes(r, n), anyBytes(r, n*(need-1)), w)
			l := shuffled(r, all)[:need-1]
			other := anyBytes(r, n)
			m, err := Split(other, o.randomFor(other, l), w)
			if err != api.OK {
				t.Fatal(err)
			}
			for _, s := range l {
				if x := m[s.X-1]; x.X != s.X || !bytes.Equal(x.B, s.B) {
					t.Errorf("%v: the share of %v is %v, not %v", w, other, x, s)
				}
			}
		}
	}
}

// sum is the sum of two byte strings, of which the shorter one is continued with 0.
func sum(a, b []byte) []byte {
	c := make([]byte, max(len(a), len(b)))
	copy(c, a)
	for i, x := range b {
		c[i] ^= x
	}
	return c
}

// sumOfShares are the sums of corresponding shares.
func sumOfShares(l, m []api.Share) []api.Share {
	var s []api.Share
	for i := range l {
		s = append(s, api.Share{X: l[i].X, B: sum(l[i].B, m[i].B)})
	}
	return s
}

// P4.5: the sums of corresponding shares are shares of the sum, by the sum of the random bytes.
func TestLinearity(t *testing.T) {
	r := rand.New(rand.NewSource(5))
	for _, w := range sizes {
		need := w[0]
		for n := range 4 {
			a, b := anyBytes(r, n), anyBytes(r, n)
			for _, random := range randoms(r, n, need) {
				others := anyBytes(r, n*(need-1))
				l, _ := Split(a, random, w)
				m, _ := Split(b, others, w)
				s := sumOfShares(l, m)
				if want, _ := Split(sum(a, b), sum(random, others), w); !sameShares(s, want) {
					t.Fatalf("the sums of shares of %v and %v: %v; want %v", a, b, s, want)
				}
				if c, err := Combine(shuffled(r, s)[:need], need); err != api.OK || !bytes.Equal(c, sum(a, b)) {
					t.Fatalf("the secret of the sums of shares of %v and %v: %v, %v", a, b, c, err)
				}
			}
		}
	}
}

// P4.5: Refresh adds shares of zero bytes, keeps the points, and keeps the secret.
func TestRefreshKeepsTheSecret(t *testing.T) {
	r := rand.New(rand.NewSource(6))
	for _, w := range sizes {
		need, n := w[0], w[1]
		for size := range 4 {
			secret := anyBytes(r, size)
			l, _ := Split(secret, anyBytes(r, size*(need-1)), w)
			for _, random := range randoms(r, size, need) {
				zero, _ := Split(make([]byte, size), random, w)
				m, err := Refresh(l, random, need)
				if err != api.OK || !sameShares(m, sumOfShares(l, zero)) {
					t.Fatalf("Refresh(%v, %v, %d): %v, %v", l, random, need, m, err)
				}
				k := need + r.Intn(n-need+1)
				if b, err := Combine(shuffled(r, m)[:k], need); err != api.OK || !bytes.Equal(b, secret) {
					t.Fatalf("%d refreshed shares of %v: %v, %v", k, secret, b, err)
				}
				l = m
			}
		}
	}
}

// P4.5: each share is refreshed by itself, so that the owners may refresh theirs apart.
func TestRefreshOfEach(t *testing.T) {
	r := rand.New(rand.NewSource(7))
	l, _ := Split(anyBytes(r, 4), anyBytes(r, 8), [2]int{3, 255})
	l = shuffled(r, l)
	random := anyBytes(r, 8)
	m, err := Refresh(l, random, 3)
	if err != api.OK || len(m) != len(l) {
		t.Fatalf("%d shares, %v", len(m), err)
	}
	for i, s := range l {
		if one, err := Refresh([]api.Share{s}, random, 3); err != api.OK || !sameShares(one, m[i:i+1]) {
			t.Errorf("Refresh of %v alone: %v, %v; want %v", s, one, err, m[i])
		}
	}
	if bytes.Equal(m[0].B, l[0].B) {
		t.Error("a share is not replaced")
	}
}

// P4.6: every change of every byte of every share, of lists of up to six shares.
func TestDetection(t *testing.T) {
	r := rand.New(rand.NewSource(8))
	for need := 1; need <= 5; need++ {
		all, _ := Split(anyBytes(r, 2), anyBytes(r, 2*(need-1)), [2]int{need, 6})
		for k := need + 1; k <= 6; k++ {
			l := shuffled(r, all)[:k]
			for place := range l {
				for i := range 2 {
					for change := 1; change < 256; change++ {
						refused(t, changed(l, place, i, byte(change)), need)
					}
				}
			}
		}
	}
}

// P4.6: lists of many shares, also if several bytes of one share were changed.
func TestDetectionOfMany(t *testing.T) {
	r := rand.New(rand.NewSource(9))
	for _, w := range [][2]int{{1, 255}, {2, 255}, {128, 129}, {128, 255}, {253, 255}, {254, 255}} {
		need, n := w[0], w[1]
		all, _ := Split(anyBytes(r, 3), anyBytes(r, 3*(need-1)), w)
		for range 60 {
			l := shuffled(r, all)[:need+1+r.Intn(n-need)]
			place := r.Intn(len(l))
			bad := changed(l, place, r.Intn(3), byte(1+r.Intn(255)))
			refused(t, bad, need)
			bad[place].B = sum(l[place].B, []byte{byte(1 + r.Intn(255)), byte(r.Intn(256)), byte(r.Intn(256))})
			refused(t, bad, need)
		}
	}
}

// changed returns shares of which one has another byte.
func changed(l []api.Share, place, i int, change byte) []api.Share {
	var m []api.Share
	for _, s := range l {
		m = append(m, api.Share{X: s.X, B: bytes.Clone(s.B)})
	}
	m[place].B[i] ^= change
	return m
}

func refused(t *testing.T, l []api.Share, need int) {
	t.Helper()
	if b, err := Combine(l, need); err != api.ErrShares || len(b) != 0 {
		t.Fatalf("Combine(%v, %d): %v, %v", l, need, b, err)
	}
}
