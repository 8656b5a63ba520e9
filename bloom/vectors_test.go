package bloom_test

import (
	"strings"
	"testing"

	"fenland/bloom"
)

// vectors are the bits of keys with K 4 in sketches of 16 bytes, and with K 16 in sketches of 65536 bytes, computed with
// CPython's hashlib and its numbers.
var vectors = []struct {
	key   string
	even  bool // h2, before 1 is added
	short []int
	long  []int
}{
	{"", false, []int{99, 14, 57, 100}, []int{282083, 403086, 524089, 120804, 241807, 362810, 483813, 80528, 201531, 322534, 443537, 40252, 161255, 282258, 403261, 524264}},
	{"\x00", false, []int{119, 6, 21, 36}, []int{20343, 55558, 90773, 125988, 161203, 196418, 231633, 266848, 302063, 337278, 372493, 407708, 442923, 478138, 513353, 24280}},
	{"a", false, []int{58, 81, 104, 127}, []int{233914, 95953, 482280, 344319, 206358, 68397, 454724, 316763, 178802, 40841, 427168, 289207, 151246, 13285, 399612, 261651}},
	{"abc", true, []int{102, 123, 16, 37}, []int{401638, 471419, 16912, 86693, 156474, 226255, 296036, 365817, 435598, 505379, 50872, 120653, 190434, 260215, 329996, 399777}},
	{"reed", true, []int{35, 56, 77, 98}, []int{233507, 165432, 97357, 29282, 485495, 417420, 349345, 281270, 213195, 145120, 77045, 8970, 465183, 397108, 329033, 260958}},
	{"sedge", true, []int{68, 31, 122, 85}, []int{27332, 85919, 144506, 203093, 261680, 320267, 378854, 437441, 496028, 30327, 88914, 147501, 206088, 264675, 323262, 381849}},
	{strings.Repeat("x", 1000), false, []int{53, 60, 67, 74}, []int{115637, 365884, 91843, 342090, 68049, 318296, 44255, 294502, 20461, 270708, 520955, 246914, 497161, 223120, 473367, 199326}},
}

// P11.1, F2: the bits of keys, which are those of the oracle, too.
func TestVectors(t *testing.T) {
	for _, x := range vectors {
		key := []byte(x.key)
		if f, want := bloom.Add(empty(4, 16), key), set(empty(4, 16), x.short...); !equal(f, want) || !equal(wantAdd(empty(4, 16), key), want) {
			t.Errorf("Add(K 4, 16 bytes; %s) = %s instead of %s", showKey(key), show(f), show(want))
		}
		if f, want := bloom.Add(empty(16, 65536), key), set(empty(16, 65536), x.long...); !equal(f, want) || !equal(wantAdd(empty(16, 65536), key), want) {
			t.Errorf("Add(K 16, 65536 bytes; %s) has other bits", showKey(key))
		}
		if (wantStep(key).Bit(0) == 0) != x.even {
			t.Errorf("h2 of %s is even: %v", showKey(key), !x.even)
		}
	}
	// Bytes with the bits 99, 14, 57 and 100 of no key, and 35, 56, 77 and 98 of 'reed'.
	want := sketch(4, 0, 64, 0, 0, 8, 0, 0, 3, 0, 32, 0, 0, 28, 0, 0, 0)
	if f := with(empty(4, 16), [][]byte{nil, []byte("reed")}); !equal(f, want) {
		t.Errorf("%s instead of %s", show(f), show(want))
	}
}
