package share

import (
	"encoding/hex"
	"math/bits"
	"testing"
)

// P4.1: A1, the section 'Examples'.
func TestExamplesOfTheField(t *testing.T) {
	if Mul(87, 131) != 193 || Inv(2) != 141 {
		t.Errorf("Mul(87, 131) = %d, Inv(2) = %d", Mul(87, 131), Inv(2))
	}
}

// P4.1: A1, all products.
func TestProducts(t *testing.T) {
	for a := range 256 {
		for b := range 256 {
			if p, want := Mul(byte(a), byte(b)), productOfPolynomials(a, b); p != want {
				t.Errorf("Mul(%d, %d) = %d; want %d", a, b, p, want)
			}
		}
	}
}

// P4.1: A1, all inverses, and 0 for 0.
func TestInverses(t *testing.T) {
	o := newOracle()
	for a := range 256 {
		if i := Inv(byte(a)); i != o.inverse[a] {
			t.Errorf("Inv(%d) = %d; want %d", a, i, o.inverse[a])
		}
	}
	if Inv(0) != 0 || Inv(1) != 1 {
		t.Errorf("Inv(0) = %d, Inv(1) = %d", Inv(0), Inv(1))
	}
}

// P4.1: A1, the products in FIPS 197, 4.2, which uses this field.
func TestPublishedProducts(t *testing.T) {
	for _, x := range [][3]byte{
		{0x57, 0x83, 0xc1}, {0x57, 0x13, 0xfe}, {0x57, 0x01, 0x57}, {0x57, 0x02, 0xae}, {0x57, 0x04, 0x47},
		{0x57, 0x08, 0x8e}, {0x57, 0x10, 0x07},
	} {
		if p := Mul(x[0], x[1]); p != x[2] {
			t.Errorf("Mul(%x, %x) = %x; want %x", x[0], x[1], p, x[2])
		}
	}
}

// box is the S-box of FIPS 197.
const box = "637c777bf26b6fc53001672bfed7ab76ca82c97dfa5947f0add4a2af9ca472c0" +
	"b7fd9326363ff7cc34a5e5f171d8311504c723c31896059a071280e2eb27b275" +
	"09832c1a1b6e5aa0523bd6b329e32f8453d100ed20fcb15b6acbbe394a4c58cf" +
	"d0efaafb434d338545f9027f503c9fa851a3408f929d38f5bcb6da2110fff3d2" +
	"cd0c13ec5f974417c4a77e3d645d197360814fdc222a908846eeb814de5e0bdb" +
	"e0323a0a4906245cc2d3ac629195e479e7c8376d8dd54ea96c56f4ea657aae08" +
	"ba78252e1ca6b4c6e8dd741f4bbd8b8a703eb5664803f60e613557b986c11d9e" +
	"e1f8981169d98e949b1e87e9ce5528df8ca1890dbfe6426841992d0fb054bb16"

// P4.1: A1, the S-box consists of inverses, whose bits are then combined with each other.
func TestPublishedInverses(t *testing.T) {
	want, err := hex.DecodeString(box)
	if err != nil || len(want) != 256 {
		t.Fatal(err)
	}
	for a := range 256 {
		s := byte(0x63)
		for n := range 5 {
			s ^= bits.RotateLeft8(Inv(byte(a)), n)
		}
		if s != want[a] {
			t.Errorf("the S-box has %x for %x, not %x: Inv = %x", want[a], a, s, Inv(byte(a)))
		}
	}
}

func allProducts() *[256][256]byte {
	var l [256][256]byte
	for a := range l {
		for b := range l[a] {
			l[a][b] = Mul(byte(a), byte(b))
		}
	}
	return &l
}

// P4.2: the product is commutative, 1 is neutral, and 0 yields 0.
func TestProductsOfTwo(t *testing.T) {
	l := allProducts()
	for a := range l {
		if x := byte(a); Mul(x, 1) != x || Mul(1, x) != x || Mul(x, 0) != 0 || Mul(0, x) != 0 {
			t.Errorf("products of %d with 0 and 1: %d and %d", a, Mul(x, 0), Mul(x, 1))
		}
		for b := range l {
			if l[a][b] != l[b][a] {
				t.Errorf("Mul(%d, %d) = %d, Mul(%d, %d) = %d", a, b, l[a][b], b, a, l[b][a])
			}
		}
	}
}

// P4.2: the product is associative and distributes over the sum.
func TestProductsOfThree(t *testing.T) {
	l := allProducts()
	for a := range l {
		for b := range l {
			for c := range l {
				if l[l[a][b]][c] != l[a][l[b][c]] {
					t.Fatalf("products of %d, %d and %d", a, b, c)
				}
				if l[a][b^c] != l[a][b]^l[a][c] {
					t.Fatalf("the product of %d with the sum of %d and %d", a, b, c)
				}
			}
		}
	}
}

// P4.2: every byte except 0 has one inverse, whose inverse it is, and no product of two bytes that are not 0 is 0.
func TestInversesAreInverses(t *testing.T) {
	l := allProducts()
	for a := 1; a < 256; a++ {
		x := byte(a)
		if Mul(x, Inv(x)) != 1 || Mul(Inv(x), x) != 1 || Inv(Inv(x)) != x {
			t.Errorf("Inv(%d) = %d", a, Inv(x))
		}
		seen := map[byte]bool{}
		for b := 1; b < 256; b++ {
			seen[l[a][b]] = true
		}
		if len(seen) != 255 || seen[0] {
			t.Errorf("%d products of %d, 0 among them: %v", len(seen), a, seen[0])
		}
	}
}

// P4.2: the inverse of a product is the product of the inverses.
func TestInversesOfProducts(t *testing.T) {
	l := allProducts()
	var inverse [256]byte
	for a := range inverse {
		inverse[a] = Inv(byte(a))
	}
	for a := range l {
		for b := range l {
			if inverse[l[a][b]] != l[inverse[a]][inverse[b]] {
				t.Errorf("the inverse of the product of %d and %d: %d", a, b, inverse[l[a][b]])
			}
		}
	}
}
