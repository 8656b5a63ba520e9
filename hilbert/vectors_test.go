package hilbert_test

import (
	"strings"
	"testing"
)

// walks are the curves of the orders 1 to 4 from the point (0, 0), by steps to the right, upward, to the left and downward.
// They were derived with the rules of replacement A: +BF-AFA-FB+ and B: -AF+BFB+FA-, in which + and - turn by a right angle.
var walks = []string{
	"URD",
	"RULUURDRURDDLDR",
	"URDRRULURULLDLUURULUURDRURDDLDRRRULUURDRURDDLDRDDLULLDRDLDRRURD",
	"RULUURDRURDDLDRRURDRRULURULLDLUUURDRRULURULLDLULLDRDDLULDLUURULUURDRRULURULLDLUURULUURDRURDDLDRRRULUURDRURDDLDRDDLULLDRDLDRRURD" +
		"RURDRRULURULLDLUURULUURDRURDDLDRRRULUURDRURDDLDRDDLULLDRDLDRRURDDLDRDDLULDLUURULLDLULLDRDLDRRURDDDLULLDRDLDRRURDRRULUURDRURDDLDR",
}

// P12.1, H1, H2: the curves of the orders 1 to 4, which are those of the oracle, too.
func TestWalks(t *testing.T) {
	for at, walk := range walks {
		order := at + 1
		if uint64(len(walk)) != count(order)-1 {
			t.Fatalf("the walk of the order %d has %d steps", order, len(walk))
		}
		p := point{}
		lies(t, order, p, 0)
		for i, c := range walk {
			step := strings.IndexRune("RULD", c)
			p[0] += []uint32{1, 0, ^uint32(0), 0}[step]
			p[1] += []uint32{0, 1, 0, ^uint32(0)}[step]
			lies(t, order, p, uint64(i+1))
			if indexOfPoint(order, p) != uint64(i+1) {
				t.Errorf("the oracle has the index %d for %v by the order %d", indexOfPoint(order, p), p, order)
			}
		}
	}
}

// P12.1, H1, H2: points of higher orders, which were computed in CPython from the same rules of replacement, and are those
// of the oracle, too. Some of them have equal digits to the base 4, or alternating ones.
func TestPointsOfHighOrders(t *testing.T) {
	for _, x := range []struct {
		order int
		i     uint64
		p     point
	}{
		{5, 1000, point{30, 6}}, {8, 54321, point{157, 120}}, {11, 4000000, point{1568, 304}}, {13, 50000000, point{8136, 4872}},
		{15, 1000000000, point{23503, 3919}},
		{16, 0, point{0, 0}}, {16, 1, point{1, 0}}, {16, 2, point{1, 1}}, {16, 3, point{0, 1}}, {16, 4, point{0, 2}}, {16, 5, point{0, 3}},
		{16, 0x55555555, point{0, 65535}}, {16, 0xAAAAAAAA, point{65535, 65535}}, {16, 0xFFFFFFFF, point{65535, 0}},
		{16, 0xFFFFFFFE, point{65534, 0}}, {16, 0x33333333, point{13107, 26214}}, {16, 0xCCCCCCCC, point{52428, 26214}},
		{16, 0x11111111, point{17476, 4369}}, {16, 0x77777777, point{21845, 43690}}, {16, 0x12345678, point{21254, 5610}},
		{16, 0x80000000, point{32768, 32768}}, {16, 0x7FFFFFFF, point{32767, 32768}}, {16, 0x40000000, point{0, 32768}},
		{16, 0x3FFFFFFF, point{0, 32767}}, {16, 0xC0000000, point{65535, 32767}}, {16, 0xBFFFFFFF, point{65535, 32768}},
		{16, 0x1B1B1B1B, point{26985, 15420}}, {16, 0xE4E4E4E4, point{38550, 15420}}, {16, 2038265566, point{18011, 39349}},
		{16, 1155324522, point{10824, 33920}}, {16, 2823822892, point{60456, 57418}}, {16, 2272599372, point{43812, 37982}},
		{16, 2862211193, point{64182, 65339}}, {16, 1502316763, point{10838, 64347}}, {16, 612463845, point{26711, 18876}},
		{16, 1639135743, point{23312, 52815}}, {16, 46645234, point{5630, 7810}}, {16, 4280459899, point{62936, 1493}},
	} {
		lies(t, x.order, x.p, x.i)
		if indexOfPoint(x.order, x.p) != x.i {
			t.Errorf("the oracle has the index %d for %v by the order %d", indexOfPoint(x.order, x.p), x.p, x.order)
		}
	}
}
