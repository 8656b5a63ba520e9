package pred_test

import (
	"bytes"
	"math"
	"math/rand"
	"slices"
	"strings"
	"testing"

	"fenland/api"
	"fenland/pred"
)

// prefixes are arguments b of Encode: without bytes, with bytes that look like an encoding, and with room behind them.
func prefixes() [][]byte {
	return [][]byte{nil, {}, {9}, {7, 1}, {0, 128, 255}, make([]byte, 3, 64)}
}

// encodes checks Encode, and that Decode reads the same predicate again.
func encodes(t *testing.T, p api.Pred, want ...byte) {
	t.Helper()
	for _, b := range prefixes() {
		got := pred.Encode(b, p)
		if !bytes.Equal(got, slices.Concat(b, want)) {
			t.Errorf("Encode(%v, %+v) = %v instead of %v", b, p, got, want)
		}
		if q, next, err := pred.Decode(got, len(b)); !equal(p, q) || next != len(got) || err != api.OK {
			t.Errorf("Decode(%v, %d) = %+v, %d, %v", got, len(b), q, next, err)
		}
	}
}

// refuses checks that Encode adds nothing.
func refuses(t *testing.T, what string, p api.Pred) {
	t.Helper()
	for _, b := range prefixes() {
		if got := pred.Encode(b, p); !bytes.Equal(got, b) {
			t.Errorf("%s: Encode(%v, %+v) = %v", what, b, p, got)
		}
	}
}

// P8.1, E4: the examples, and each operator.
func TestEncodings(t *testing.T) {
	encodes(t, yes, 0)
	encodes(t, between(3, 0, 64), 1, 6, 0, 128, 1)
	encodes(t, between(0, 0, 0), 1, 0, 0, 0)
	encodes(t, between(1, 2, 3), 1, 2, 4, 6)
	encodes(t, between(-1, -2, -3), 1, 1, 3, 5)
	encodes(t, between(1, 9, 0), 1, 2, 18, 0)
	encodes(t, between(300, 0, 0), 1, 216, 4, 0, 0)
	encodes(t, in(3), 2, 6, 0)
	encodes(t, in(3, num(1)), 2, 6, 1, 0, 2, 0)
	encodes(t, in(3, num(1), num(-1)), 2, 6, 2, 0, 2, 0, 0, 1, 0)
	encodes(t, in(3, text("ab")), 2, 6, 1, 0, 0, 2, 97, 98)
	encodes(t, in(3, null), 2, 6, 1, 1, 0, 0)
	encodes(t, in(-1, null, api.Value{N: 1, S: "a"}), 2, 1, 2, 1, 0, 0, 0, 2, 1, 97)
	encodes(t, in(0, api.Value{Null: true, N: -2, S: "b"}, api.Value{}), 2, 0, 2, 1, 3, 1, 98, 0, 0, 0)
	encodes(t, in(3, num(5), num(5), num(4)), 2, 6, 3, 0, 10, 0, 0, 10, 0, 0, 8, 0)
	encodes(t, prefix(3, ""), 3, 6, 0)
	encodes(t, prefix(1, "b"), 3, 2, 1, 98)
	encodes(t, prefix(-64, "\x00\xff"), 3, 127, 2, 0, 255)
	encodes(t, isNull(3), 4, 6)
	encodes(t, isNull(-65), 4, 129, 1)
	encodes(t, and(), 5, 0)
	encodes(t, or(), 6, 0)
	encodes(t, not(yes), 7, 1, 0)
	encodes(t, and(yes), 5, 1, 0)
	encodes(t, or(isNull(1), yes, isNull(2)), 6, 3, 4, 2, 0, 4, 4)
	encodes(t, and(or(isNull(1), yes), not(or()), prefix(2, "a")), 5, 3, 6, 2, 4, 2, 0, 7, 1, 6, 0, 3, 4, 1, 97)
}

// P8.1, E4: the least and the greatest numbers, the most elements, Kids and bytes, and the greatest depth.
func TestEncodingsOfBounds(t *testing.T) {
	greatest := []byte{254, 255, 255, 255, 255, 255, 255, 255, 255, 1}
	least := append([]byte{255}, greatest[1:]...)
	encodes(t, between(math.MaxInt, math.MinInt64, math.MaxInt64), slices.Concat([]byte{1}, greatest, least, greatest)...)
	encodes(t, isNull(math.MinInt), append([]byte{4}, least...)...)
	encodes(t, in(math.MaxInt, num(math.MinInt64)), slices.Concat([]byte{2}, greatest, []byte{1, 0}, least, []byte{0})...)
	encodes(t, and(repeated(16, yes)...), append([]byte{5, 16}, make([]byte, 16)...)...)
	encodes(t, or(repeated(15, isNull(1))...), append([]byte{6, 15}, bytes.Repeat([]byte{4, 2}, 15)...)...)
	encodes(t, in(1, slices.Repeat([]api.Value{null}, 16)...),
		append([]byte{2, 2, 16}, bytes.Repeat([]byte{1, 0, 0}, 16)...)...)
	for _, n := range []int{127, 128, 199, 200} {
		length := []byte{byte(n)}
		if n > 127 {
			length = append(length, 1)
		}
		encodes(t, prefix(1, xs(n)), slices.Concat([]byte{3, 2}, length, []byte(xs(n)))...)
		encodes(t, in(1, text(xs(n)), num(0)),
			slices.Concat([]byte{2, 2, 2, 0, 0}, length, []byte(xs(n)), []byte{0, 0, 0})...)
		encodes(t, in(1, api.Value{Null: true, S: xs(n)}), slices.Concat([]byte{2, 2, 1, 1, 0}, length, []byte(xs(n)))...)
	}
	for n := range 8 {
		encodes(t, chain(api.Not, n, yes), append(bytes.Repeat([]byte{7, 1}, n), 0)...)
		encodes(t, chain(api.And, n, or()), append(bytes.Repeat([]byte{5, 1}, n), 6, 0)...)
		encodes(t, chain(api.Or, n, isNull(1)), append(bytes.Repeat([]byte{6, 1}, n), 4, 2)...)
	}
}

// P8.1, E4: what is not well-formed has no encoding, at the top and inside of others.
func TestEncodeBroken(t *testing.T) {
	for what, p := range broken() {
		for _, context := range contexts(p) {
			refuses(t, what, context)
		}
	}
	refuses(t, "a null of 201 bytes", in(4, api.Value{Null: true, S: xs(201)}))
	refuses(t, "17 nulls", in(4, slices.Repeat([]api.Value{null}, 17)...))
	for n := 8; n < 20; n++ {
		for _, p := range innermost() {
			for _, o := range []int{api.And, api.Or, api.Not} {
				refuses(t, "too deep", chain(o, n, p))
				refuses(t, "too deep", and(yes, chain(o, n-1, p), yes))
			}
		}
	}
}

// P8.1, E4: what fits no schema may be well-formed.
func TestEncodeWithoutSchema(t *testing.T) {
	for _, p := range []api.Pred{
		in(3), in(0), in(3, null), in(3, null, null), in(3, num(2), num(1)), in(3, api.Value{N: 1, S: "a"}),
		in(3, api.Value{Null: true, N: 1, S: "a"}), between(math.MinInt, 1, 0), prefix(-1, "a"), isNull(0),
	} {
		for _, context := range contexts(p) {
			encodes(t, context, wantEncode(context)...)
		}
	}
}

// P8.1, E4, and P8.5: any predicates that are well-formed, and any that are so except for what was altered.
func TestEncodeAny(t *testing.T) {
	r := rand.New(rand.NewSource(4))
	found := map[bool]int{}
	for range 5000 {
		p := wellFormed(r, 1+r.Intn(8))
		encodes(t, p, wantEncode(p)...)
		p = altered(r, p)
		if found[wantWellFormed(p)]++; wantWellFormed(p) {
			encodes(t, p, wantEncode(p)...)
		} else {
			refuses(t, "altered", p)
		}
	}
	if found[true] < 1000 || found[false] < 1000 {
		t.Errorf("%d predicates are well-formed after a change, %d are not", found[true], found[false])
	}
}

// samples are well-formed predicates of every kind.
func samples() []api.Pred {
	r := rand.New(rand.NewSource(5))
	l := []api.Pred{yes, no, and(), between(0, 0, 0), in(0), prefix(0, ""), isNull(0), in(1, null), in(1, api.Value{}),
		and(repeated(16, in(1, numbers(16, 0)...))...), chain(api.Not, 7, prefix(9, xs(200))),
		in(1, text(xs(200)), text(strings.Repeat("y", 200)))}
	for range 600 {
		l = append(l, wellFormed(r, 1+r.Intn(8)))
	}
	return l
}

// P8.5: Decode inverts Encode, whatever the bytes before and behind the encoding.
func TestDecodeInvertsEncode(t *testing.T) {
	for _, p := range samples() {
		for _, before := range [][]byte{nil, {0}, {8}, {7, 1}, {255, 128}} {
			for _, after := range [][]byte{nil, {0}, {8}, {5, 17}, {128, 128}, {255}} {
				b := append(pred.Encode(before, p), after...)
				q, next, err := pred.Decode(b, len(before))
				if !equal(p, q) || next != len(b)-len(after) || err != api.OK {
					t.Errorf("Decode(%v, %d) = %+v, %d, %v instead of %+v", b, len(before), q, next, err, p)
				}
			}
		}
	}
}

// P8.5: predicates that were written one after the other are read one after the other.
func TestDecodeSequence(t *testing.T) {
	var b []byte
	for _, p := range samples() {
		b = pred.Encode(b, p)
	}
	at := 0
	for _, p := range samples() {
		q, next, err := pred.Decode(b, at)
		if !equal(p, q) || err != api.OK {
			t.Fatalf("Decode at %d: %+v, %v, instead of %+v", at, q, err, p)
		}
		at = next
	}
	if at != len(b) {
		t.Errorf("the last predicate ends at %d of %d", at, len(b))
	}
}

// P8.5: different predicates have different encodings, none of which begins with another one.
func TestEncodingsAreSeparate(t *testing.T) {
	seen := map[string]api.Pred{}
	for _, p := range samples() {
		b := string(pred.Encode(nil, p))
		if q, used := seen[b]; used && !equal(p, q) {
			t.Errorf("%+v and %+v have the encoding %v", p, q, []byte(b))
		}
		seen[b] = p
	}
	for b, p := range seen {
		for end := range len(b) {
			if q, used := seen[b[:end]]; used {
				t.Errorf("the encoding of %+v begins with that of %+v", p, q)
			}
		}
	}
}
