package pred_test

import (
	"bytes"
	"math"
	"math/rand"
	"slices"
	"testing"

	"fenland/api"
	"fenland/pred"
)

// fails checks that Decode returns an error and zero values.
func fails(t *testing.T, b []byte, at int, want api.Errno) {
	t.Helper()
	if p, next, err := pred.Decode(b, at); err != want || next != 0 || !equal(p, api.Pred{}) {
		t.Errorf("Decode(%.60v, %d) = %+v, %d, %v instead of %v", b, at, p, next, err, want)
	}
}

// failsInside checks that Decode returns an error for bytes at the top, inside of others, and behind others.
func failsInside(t *testing.T, b []byte, want api.Errno) {
	t.Helper()
	for _, before := range [][]byte{{}, {7, 1}, {5, 1}, {6, 3, 0}, {5, 2, 4, 2}, {6, 16, 0, 0, 6, 1, 3, 2, 0, 7, 1}} {
		whole := slices.Concat(before, b)
		fails(t, whole, 0, want)
		fails(t, slices.Concat([]byte{0, 8}, whole), 2, want)
		fails(t, slices.Clip(whole), 0, want)
	}
}

// decodes checks that Decode accepts bytes, up to an offset.
func decodes(t *testing.T, b []byte, want api.Pred, end int) {
	t.Helper()
	if p, next, err := pred.Decode(b, 0); !equal(p, want) || next != end || err != api.OK {
		t.Errorf("Decode(%.60v, 0) = %+v, %d, %v instead of %+v, %d", b, p, next, err, want, end)
	}
}

// P8.1, E5: the examples of the chapter.
func TestDecodeExamples(t *testing.T) {
	fails(t, []byte{8}, 0, api.ErrForm)
	fails(t, []byte{7, 0}, 0, api.ErrForm)
	fails(t, []byte{5, 17}, 0, api.ErrBig)
	fails(t, nil, 0, api.ErrShort)
	decodes(t, []byte{0}, yes, 1)
	decodes(t, []byte{7, 1, 0}, not(yes), 3)
	decodes(t, []byte{1, 6, 0, 128, 1}, between(3, 0, 64), 5)
}

// P8.1, E5: offsets.
func TestDecodeOffsets(t *testing.T) {
	for _, b := range [][]byte{nil, {}, {0}, {8}, {7, 1, 0}, {1, 6, 0, 128, 1}, make([]byte, 3, 9)} {
		for _, at := range []int{-1, -2, len(b) + 1, len(b) + 2, math.MinInt, math.MaxInt, 1 << 32} {
			fails(t, b, at, api.ErrArg)
		}
		fails(t, b, len(b), api.ErrShort)
	}
	b := []byte{7, 1, 0, 4, 2, 0, 0}
	for at, c := range []struct {
		want api.Pred
		next int
	}{{not(yes), 3}, {between(0, 2, 1), 5}, {yes, 3}, {isNull(1), 5}, {in(0), 7}, {yes, 6}, {yes, 7}} {
		if p, next, err := pred.Decode(b, at); !equal(p, c.want) || next != c.next || err != api.OK {
			t.Errorf("Decode(%v, %d) = %+v, %d, %v instead of %+v, %d", b, at, p, next, err, c.want, c.next)
		}
	}
}

// P8.1, E5: operators.
func TestDecodeOperators(t *testing.T) {
	for o := 8; o < 256; o++ {
		failsInside(t, []byte{byte(o)}, api.ErrForm)
		failsInside(t, []byte{byte(o), 0, 0, 0, 0}, api.ErrForm)
	}
	fails(t, nil, 0, api.ErrShort)
	failsInside(t, nil, api.ErrShort)
}

// P8.5: every beginning of an encoding is too short.
func TestDecodeBeginnings(t *testing.T) {
	for _, p := range samples() {
		b := pred.Encode(nil, p)
		for end := range len(b) {
			fails(t, b[:end], 0, api.ErrShort)
			fails(t, slices.Concat([]byte{9, 0}, b[:end]), 2, api.ErrShort)
		}
	}
}

// encoded is a part of an encoding: bytes, and texts of n bytes x.
func encoded(n int, b ...byte) []byte { return append(b, xs(n)...) }

// badNumber are beginnings of numbers with their errors.
var badNumber = []struct {
	b   []byte
	err api.Errno
}{
	{nil, api.ErrShort},
	{[]byte{128}, api.ErrShort},
	{[]byte{255, 255}, api.ErrShort},
	{[]byte{128, 0}, api.ErrForm},
	{[]byte{130, 0, 0, 0, 0, 0, 0}, api.ErrForm},
	{append(bytes.Repeat([]byte{255}, 9), 2), api.ErrForm},
	{bytes.Repeat([]byte{128}, 10), api.ErrForm},
}

// P8.1, E5: the errors of the functions of wire, for each number and text.
func TestDecodeNumbers(t *testing.T) {
	for _, before := range [][]byte{
		{1}, {1, 6}, {1, 6, 0}, {1, 128, 1}, {2}, {2, 6}, {2, 6, 1, 0}, {2, 6, 1, 1}, {2, 6, 1, 0, 2},
		{2, 6, 2, 0, 2, 0, 1, 0}, {2, 6, 2, 0, 0, 1, 97, 0}, {3}, {3, 6}, {4}, {5}, {6}, {7},
	} {
		for _, bad := range badNumber {
			failsInside(t, slices.Concat(before, bad.b), bad.err)
		}
	}
	failsInside(t, []byte{3, 6, 1}, api.ErrShort)
	failsInside(t, []byte{3, 6, 3, 97, 98}, api.ErrShort)
	failsInside(t, []byte{2, 6, 1, 0, 0, 2, 97}, api.ErrShort)
	failsInside(t, []byte{2, 6, 1, 0, 0}, api.ErrShort)
	failsInside(t, []byte{2, 6, 1}, api.ErrShort)
	failsInside(t, []byte{2, 6, 2, 0, 0, 0}, api.ErrShort)
	failsInside(t, []byte{7, 1}, api.ErrShort)
	failsInside(t, []byte{5, 2, 0}, api.ErrShort)
	failsInside(t, []byte{6, 16, 0, 0}, api.ErrShort)
}

// P8.1, E5: texts of 200 and 201 bytes, and of more than wire.ReadText reads; a text that is too long has to be there.
func TestDecodeTexts(t *testing.T) {
	decodes(t, encoded(200, 3, 6, 200, 1), prefix(3, xs(200)), 204)
	decodes(t, encoded(200, 2, 6, 1, 0, 0, 200, 1), in(3, text(xs(200))), 207)
	decodes(t, encoded(200, 2, 6, 1, 1, 2, 200, 1), in(3, api.Value{Null: true, N: 1, S: xs(200)}), 207)
	for _, before := range [][]byte{
		{3, 6}, {2, 6, 1, 0, 0}, {2, 6, 1, 1, 0}, {2, 6, 3, 0, 2, 1, 97, 0, 0}, {2, 6, 16, 1, 2},
	} {
		with := func(n int, b ...byte) []byte { return slices.Concat(before, encoded(n, b...)) }
		failsInside(t, with(201, 201, 1), api.ErrBig)
		failsInside(t, with(205, 201, 1), api.ErrBig)
		failsInside(t, with(456, 200, 3), api.ErrBig)
		failsInside(t, with(256, 128, 2), api.ErrBig)
		failsInside(t, with(200, 201, 1), api.ErrShort)
		failsInside(t, with(199, 200, 1), api.ErrShort)
		failsInside(t, with(0, 201, 1), api.ErrShort)
		failsInside(t, with(1000, 128, 128, 64), api.ErrShort)
		failsInside(t, with(0, 129, 128, 64), api.ErrBig)
		failsInside(t, with(1000, 255, 255, 255, 255, 255, 255, 255, 255, 255, 1), api.ErrBig)
		failsInside(t, with(200, 200, 129, 0), api.ErrForm)
	}
	fails(t, slices.Concat([]byte{3, 6, 128, 128, 64}, []byte(xs(1<<20))), 0, api.ErrBig)
	fails(t, slices.Concat([]byte{3, 6, 128, 128, 64}, []byte(xs(1<<20-1))), 0, api.ErrShort)
	fails(t, slices.Concat([]byte{3, 6, 129, 128, 64}, []byte(xs(1<<20+1))), 0, api.ErrBig)
}

// P8.1, E5: the byte for null, in the first and in a later element.
func TestDecodeNulls(t *testing.T) {
	decodes(t, []byte{2, 6, 1, 0, 2, 1, 97}, in(3, api.Value{N: 1, S: "a"}), 7)
	decodes(t, []byte{2, 6, 1, 1, 2, 1, 97}, in(3, api.Value{Null: true, N: 1, S: "a"}), 7)
	for n := 2; n < 256; n++ {
		failsInside(t, []byte{2, 6, 1, byte(n)}, api.ErrForm)
		failsInside(t, []byte{2, 6, 1, byte(n), 0, 0}, api.ErrForm)
		failsInside(t, []byte{2, 6, 3, 0, 2, 1, 97, byte(n), 0, 0, 0, 0, 0}, api.ErrForm)
		failsInside(t, []byte{2, 6, 2, 1, 0, 0, byte(n), 128}, api.ErrForm)
	}
}

// P8.1, E5: numbers of 16 and 17 elements and Kids, and greater ones.
func TestDecodeCounts(t *testing.T) {
	decodes(t, append([]byte{2, 6, 16}, make([]byte, 48)...), in(3, slices.Repeat([]api.Value{{}}, 16)...), 51)
	decodes(t, append([]byte{5, 16}, make([]byte, 17)...), and(repeated(16, yes)...), 18)
	decodes(t, append([]byte{6, 16}, make([]byte, 17)...), or(repeated(16, yes)...), 18)
	decodes(t, append([]byte{6, 15}, make([]byte, 17)...), or(repeated(15, yes)...), 17)
	greatest := append(bytes.Repeat([]byte{255}, 9), 1)
	for _, count := range [][]byte{
		{17}, {18}, {127}, {128, 1}, {128, 2}, {144, 2}, {255, 255, 255, 255, 15}, {128, 128, 128, 128, 16},
		{144, 128, 128, 128, 16}, greatest, append(bytes.Repeat([]byte{128}, 9), 1),
	} {
		for _, after := range [][]byte{nil, {0}, {2}, {8}, {128}, make([]byte, 500)} {
			failsInside(t, slices.Concat([]byte{2, 6}, count, after), api.ErrBig)
			for _, o := range []byte{5, 6, 7} {
				failsInside(t, slices.Concat([]byte{o}, count, after), api.ErrBig)
			}
		}
	}
}

// P8.1, E5: Not with another number of Kids than one.
func TestDecodeNot(t *testing.T) {
	decodes(t, []byte{7, 1, 0, 0}, not(yes), 3)
	for n := range byte(17) {
		if n == 1 {
			continue
		}
		for _, after := range [][]byte{nil, {0}, {8}, {5, 17}, make([]byte, 20)} {
			failsInside(t, slices.Concat([]byte{7, n}, after), api.ErrForm)
		}
	}
}

// P8.1, E5: depths of 8 and 9, and which error is the first one in a predicate that lies inside of seven others.
func TestDecodeDepths(t *testing.T) {
	for _, o := range []byte{5, 6, 7} {
		with := func(n int, b ...byte) []byte { return append(bytes.Repeat([]byte{o, 1}, n), b...) }
		for n := range 8 {
			for _, p := range innermost() {
				b := with(n, pred.Encode(nil, p)...)
				decodes(t, append(b, 0, 9), chain(int(o), n, p), len(b))
			}
		}
		for _, p := range innermost() {
			for n := 8; n < 20; n++ {
				fails(t, with(n, pred.Encode(nil, p)...), 0, api.ErrBig)
			}
		}
		fails(t, with(8), 0, api.ErrBig)
		fails(t, with(7), 0, api.ErrShort)
		fails(t, with(7, 8), 0, api.ErrForm)
		fails(t, with(8, 8), 0, api.ErrBig)
		for _, last := range []byte{5, 6} {
			decodes(t, with(7, last, 0), chain(int(o), 7, op(int(last))), 16)
			fails(t, with(7, last, 1), 0, api.ErrBig)
			fails(t, with(7, last, 2, 8), 0, api.ErrBig)
			fails(t, with(7, last, 16, 0), 0, api.ErrBig)
		}
		fails(t, with(7, 7, 0), 0, api.ErrForm)
		fails(t, with(7, 7, 2), 0, api.ErrForm)
		fails(t, with(7, 7, 16), 0, api.ErrForm)
		fails(t, with(7, 7, 17), 0, api.ErrBig)
		fails(t, with(7, 5, 17), 0, api.ErrBig)
		fails(t, with(7, 7, 128, 0), 0, api.ErrForm)
		fails(t, with(7, 5, 128, 0), 0, api.ErrForm)
		fails(t, with(7, 5), 0, api.ErrShort)
		fails(t, with(7, 7, 1), 0, api.ErrBig)
	}
	decodes(t, []byte{5, 3, 7, 1, 0, 6, 0, 7, 1, 0}, and(not(yes), or(), not(yes)), 10)
	side := append([]byte{5, 2}, bytes.Repeat([]byte{7, 1}, 6)...)
	whole := slices.Concat(side, []byte{0}, bytes.Repeat([]byte{6, 1}, 6), []byte{0})
	decodes(t, whole, and(chain(api.Not, 6, yes), chain(api.Or, 6, yes)), len(whole))
	fails(t, slices.Concat(side, []byte{0}, bytes.Repeat([]byte{6, 1}, 7), []byte{0}), 0, api.ErrBig)
	fails(t, slices.Concat(side, []byte{7, 1, 0}, bytes.Repeat([]byte{6, 1}, 6), []byte{0}), 0, api.ErrBig)
}

// P8.1, E5: the first of two errors counts, in the order in which the encoding is read.
func TestDecodeOrderOfErrors(t *testing.T) {
	long := encoded(201, 201, 1)
	for _, c := range []struct {
		b   []byte
		err api.Errno
	}{
		{[]byte{1, 128, 0, 128}, api.ErrForm}, {[]byte{1, 0, 128, 0, 128}, api.ErrForm},
		{[]byte{1, 0, 0, 128}, api.ErrShort}, {[]byte{2, 128, 0, 17}, api.ErrForm}, {[]byte{2, 0, 17, 2}, api.ErrBig},
		{[]byte{2, 0, 128, 0, 2}, api.ErrForm}, {[]byte{2, 0, 2, 2, 128}, api.ErrForm},
		{[]byte{2, 0, 2, 0, 128}, api.ErrShort}, {[]byte{2, 0, 2, 0, 128, 0, 129, 128, 64}, api.ErrForm},
		{[]byte{2, 0, 2, 0, 0, 129, 128, 64, 2}, api.ErrBig},
		{slices.Concat([]byte{2, 0, 2, 0, 0}, long, []byte{2}), api.ErrBig},
		{slices.Concat([]byte{2, 0, 2, 0, 0}, long), api.ErrBig}, {slices.Concat([]byte{2, 0, 2, 2, 0}, long), api.ErrForm},
		{slices.Concat([]byte{2, 0, 2, 0, 128, 0}, long), api.ErrForm},
		{slices.Concat([]byte{2, 0, 17, 0, 0}, long), api.ErrBig}, {[]byte{2, 0, 2, 0, 0, 0, 2}, api.ErrForm},
		{slices.Concat([]byte{3, 128, 0}, long), api.ErrForm}, {[]byte{3, 128}, api.ErrShort},
		{[]byte{5, 2, 8, 9}, api.ErrForm}, {[]byte{5, 2, 7, 17}, api.ErrBig}, {[]byte{5, 3, 7, 0, 5, 17}, api.ErrForm},
		{[]byte{5, 3, 5, 17, 7, 0}, api.ErrBig}, {[]byte{5, 3, 0, 1, 0}, api.ErrShort},
		{[]byte{5, 2, 7, 2, 8}, api.ErrForm}, {slices.Concat([]byte{6, 2, 3, 0}, long, []byte{8}), api.ErrBig},
		{slices.Concat([]byte{6, 2, 8, 3, 0}, long), api.ErrForm}, {[]byte{6, 3, 2, 0, 1, 2, 0, 0, 5, 17}, api.ErrForm},
		{[]byte{6, 3, 5, 17, 2, 0, 1, 2, 0, 0}, api.ErrBig},
		{slices.Concat([]byte{5, 2}, bytes.Repeat([]byte{7, 1}, 8), []byte{8}), api.ErrBig},
		{slices.Concat([]byte{5, 2, 8}, bytes.Repeat([]byte{7, 1}, 8)), api.ErrForm},
		{slices.Concat([]byte{5, 2, 0}, bytes.Repeat([]byte{7, 1}, 7), []byte{0}), api.ErrBig},
		{slices.Concat([]byte{5, 2, 0}, bytes.Repeat([]byte{7, 1}, 6), []byte{7, 0}), api.ErrForm},
	} {
		fails(t, c.b, 0, c.err)
		fails(t, c.b, -1, api.ErrArg)
		fails(t, c.b, len(c.b)+1, api.ErrArg)
		fails(t, slices.Concat([]byte{8, 17, 2}, c.b), 3, c.err)
		if _, _, want := wantDecode(c.b, 0); want != c.err {
			t.Errorf("%v: %v instead of %v", c.b, c.err, want)
		}
	}
}

// inputs are bytes of every kind: encodings, also with a byte more, less or changed, and bytes without a plan.
func inputs() [][]byte {
	r := rand.New(rand.NewSource(6))
	l := [][]byte{nil}
	for i := range 256 {
		for _, before := range [][]byte{{}, {7, 1}, {2, 0, 1}, {3}, {5}, {6, 1, 4}, {1, 0}, {2, 0}} {
			for _, after := range [][]byte{{}, {0}, {0, 0}, {8}, {1, 0, 0, 0}, {129, 0}} {
				l = append(l, slices.Concat(before, []byte{byte(i)}, after))
			}
		}
	}
	for range 20000 {
		b := wantEncode(wellFormed(r, 1+r.Intn(9)))
		for range r.Intn(3) {
			at := r.Intn(len(b) + 1)
			switch r.Intn(4) {
			case 0:
				b = slices.Insert(b, at, byte(r.Intn(20)))
			case 1:
				b = slices.Delete(b, min(at, len(b)), min(at+1, len(b)))
			case 2:
				b = slices.Concat(b[:at], []byte{byte(r.Intn(256))}, b[min(at+1, len(b)):])
			case 3:
				b = slices.Concat(b[:at], []byte{5, 6, 7}[r.Intn(3):][:1], []byte{1, 1, 1, 0, 2, 16, 17}[r.Intn(7):][:1], b[at:])
			}
		}
		l = append(l, b)
	}
	edges := []byte{0, 0, 0, 1, 2, 3, 4, 5, 6, 7, 7, 8, 16, 17, 127, 128, 129, 200, 201, 255}
	for range 20000 {
		b := make([]byte, 1+r.Intn(24))
		for i := range b {
			b[i] = pick(r, edges)
		}
		l = append(l, b)
	}
	return l
}

// P8.1, E5: any bytes and offsets.
func TestDecodeAny(t *testing.T) {
	found := map[api.Errno]int{}
	for _, b := range inputs() {
		for at := -1; at <= min(3, len(b)+1); at++ {
			p, next, err := pred.Decode(b, at)
			want, wantNext, wantErr := wantDecode(b, at)
			if !equal(p, want) || next != wantNext || err != wantErr {
				t.Errorf("Decode(%v, %d) = %+v, %d, %v instead of %+v, %d, %v", b, at, p, next, err, want, wantNext, wantErr)
			}
			found[err]++
		}
	}
	for _, err := range []api.Errno{api.OK, api.ErrArg, api.ErrShort, api.ErrForm, api.ErrBig} {
		if found[err] < 1000 {
			t.Errorf("%v occurs only %d times", err, found[err])
		}
	}
}

// P8.5: what is accepted is the encoding of the well-formed predicate that is returned.
func TestOnlyEncodingsAreDecoded(t *testing.T) {
	for _, b := range inputs() {
		for at := range min(4, len(b)) {
			p, next, err := pred.Decode(b, at)
			if err == api.OK && (!wantWellFormed(p) || !bytes.Equal(pred.Encode(nil, p), b[at:next])) {
				t.Errorf("%v is accepted as %+v", b[at:next], p)
			}
		}
	}
}

// P8.1, E5: bytes between the length and the capacity of b do not count.
func TestDecodeWithinTheLength(t *testing.T) {
	for _, p := range samples()[:50] {
		b := pred.Encode(nil, p)
		for end := range len(b) {
			fails(t, b[:end:len(b)], 0, api.ErrShort)
		}
		fails(t, append(b, 0)[:len(b)], len(b)+1, api.ErrArg)
	}
}
