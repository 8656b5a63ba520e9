package lens_test

import (
	"strings"
	"testing"

	"fenland/api"
	"fenland/lens"
	"fenland/schema"
)

func xs(n int) string { return strings.Repeat("x", n) }

func ys(n int) string { return strings.Repeat("y", n) }

func dashes(n int) string { return strings.Repeat("-", n) }

// parts is a row in which the first fields have texts, and the others are null.
func parts(l []string, ids ...int) api.Row {
	m := values{}
	for i, s := range l {
		m.put(ids[i], s)
	}
	return m.row()
}

// P7.1, A1 and A2: texts that are divided, by Forward of SplitField and by Back of JoinFields in both orders.
func TestDivide(t *testing.T) {
	for _, x := range []struct {
		text, sep string
		parts     []string
	}{
		// The separator does not occur, or not whole.
		{"abc", "-", []string{"abc"}}, {"", "-", []string{""}}, {"a-b", "--", []string{"a-b"}}, {"a-", "--", []string{"a-"}},
		{"-a-a-", "--", []string{"-a-a-"}}, {"ab", "ba", []string{"ab"}}, {"a", "A", []string{"a"}},
		{"a- b", " -", []string{"a- b"}},
		// It is longer than the text.
		{"ab", "abc", []string{"ab"}}, {"", "abc", []string{""}}, {"-", "--", []string{"-"}},
		{xs(15), xs(16), []string{xs(15)}},
		// It occurs once: between, at the beginning, at the end, and as the whole text.
		{"a-b", "-", []string{"a", "b"}}, {"-abc", "-", []string{"", "abc"}}, {"abc-", "-", []string{"abc", ""}},
		{"-", "-", []string{"", ""}},
		{"ab, c", ", ", []string{"ab", "c"}}, {", c", ", ", []string{"", "c"}}, {"ab, ", ", ", []string{"ab", ""}},
		{xs(16), xs(16), []string{"", ""}},
		// It occurs more than once.
		{"a-b-c", "-", []string{"a", "b-c"}}, {"--", "-", []string{"", "-"}}, {"---", "-", []string{"", "--"}},
		{"a--b", "-", []string{"a", "-b"}},
		{"-a-", "-", []string{"", "a-"}}, {"a--b--c", "--", []string{"a", "b--c"}}, {"----", "--", []string{"", "--"}},
		// It overlaps itself, or begins with what precedes it.
		{"aaa", "aa", []string{"", "a"}}, {"baaa", "aa", []string{"b", "a"}}, {"---", "--", []string{"", "-"}},
		{"abababa", "aba", []string{"", "baba"}}, {"cababab", "aba", []string{"c", "bab"}}, {"aab", "ab", []string{"a", ""}},
		{"ababac", "abac", []string{"ab", ""}}, {"aaab", "aab", []string{"a", ""}}, {"-a--b", "--", []string{"-a", "b"}},
		// Bytes that are no characters, parts of characters, and characters of more than one byte or with a meaning elsewhere.
		{"a\x00b", "\x00", []string{"a", "b"}}, {"a\xffb", "\xff", []string{"a", "b"}},
		{"\xff\xfe", "\xfe", []string{"\xff", ""}},
		{"é", "\xc3", []string{"", "\xa9"}}, {"é", "\xa9", []string{"\xc3", ""}}, {"aéb", "é", []string{"a", "b"}},
		{"a.b", ".", []string{"a", "b"}}, {"ab", ".", []string{"ab"}}, {"a*", "*", []string{"a", ""}},
		{"a\nb", "\n", []string{"a", "b"}},
		{" a - b ", "-", []string{" a ", " b "}},
		// Texts of the greatest length.
		{xs(200), "-", []string{xs(200)}}, {xs(199) + "-", "-", []string{xs(199), ""}},
		{"-" + xs(199), "-", []string{"", xs(199)}},
		{xs(184) + dashes(16), dashes(16), []string{xs(184), ""}}, {xs(99) + "--" + ys(99), "--", []string{xs(99), ys(99)}},
		{dashes(200), dashes(16), []string{"", dashes(184)}},
	} {
		goes(t, people(), splitting(7, x.sep), row(text(7, x.text)), parts(x.parts, 20, 21))
		comes(t, people(), splitting(7, x.sep), parts(x.parts, 20, 21), row(text(7, x.text)))
		comes(t, people(), joining(4, 17, x.sep), row(text(20, x.text)), parts(x.parts, 4, 17))
		comes(t, people(), joining(17, 4, x.sep), row(text(20, x.text)), parts(x.parts, 17, 4))
		if !lens.Lossless(people(), splitting(7, x.sep), row(text(7, x.text))) {
			t.Errorf("splitting %q at %q is not lossless", x.text, x.sep)
		}
	}
}

// P7.1, A1 and A2: texts that are connected, by Forward of JoinFields in both orders and by Back of SplitField.
func TestConnect(t *testing.T) {
	for _, x := range []struct{ a, sep, b, want string }{
		{"a", "-", "b", "a-b"}, {"", "-", "", "-"}, {"a", "-", "", "a-"}, {"", "-", "b", "-b"}, {"a-", "-", "-b", "a---b"},
		{"a", ", ", "b", "a, b"}, {"a", dashes(16), "b", "a" + dashes(16) + "b"}, {"\xff", "\x00", "\xc3", "\xff\x00\xc3"},
		// 199, 200 and 201 bytes.
		{xs(100), "-", ys(98), xs(100) + "-" + ys(98)}, {xs(100), "-", ys(99), xs(100) + "-" + ys(99)},
		{xs(100), "-", ys(100), xs(100) + "-" + ys(99)}, {"", "-", ys(198), "-" + ys(198)}, {"", "-", ys(199), "-" + ys(199)},
		{"", "-", ys(200), "-" + ys(199)}, {xs(198), "-", "", xs(198) + "-"}, {xs(199), "-", "", xs(199) + "-"},
		{xs(200), "-", "", xs(200)},
		{"", dashes(16), ys(183), dashes(16) + ys(183)}, {"", dashes(16), ys(184), dashes(16) + ys(184)},
		{"", dashes(16), ys(185), dashes(16) + ys(184)}, {xs(197), "--", "", xs(197) + "--"},
		{xs(198), "--", "", xs(198) + "--"},
		// Cut within the second text, before it, within the separator and before it.
		{xs(197), "--", "yz", xs(197) + "--y"}, {xs(198), "--", "yz", xs(198) + "--"}, {xs(199), "-+", "yz", xs(199) + "-"},
		{xs(200), "--", "yz", xs(200)}, {xs(190), dashes(16), ys(9), xs(190) + dashes(10)},
		{xs(200), dashes(16), ys(200), xs(200)},
		{xs(10), "-", ys(200), xs(10) + "-" + ys(189)},
		// Cut within a character.
		{xs(198), "-", "é", xs(198) + "-\xc3"}, {xs(199), "é", "y", xs(199) + "\xc3"}, {xs(197), "-", "éé", xs(197) + "-é"},
	} {
		both := row(text(4, x.a), text(17, x.b))
		goes(t, people(), joining(4, 17, x.sep), both, row(text(20, x.want)))
		goes(t, people(), joining(17, 4, x.sep), row(text(4, x.b), text(17, x.a)), row(text(20, x.want)))
		comes(t, people(), splitting(7, x.sep), row(text(20, x.a), text(21, x.b)), row(text(7, x.want)))
		// A null counts as an empty text, except for a second part.
		if x.a == "" {
			goes(t, people(), joining(4, 17, x.sep), row(text(17, x.b)), row(text(20, x.want)))
			goes(t, people(), joining(17, 4, x.sep), row(text(4, x.b)), row(text(20, x.want)))
			comes(t, people(), splitting(7, x.sep), row(text(21, x.b)), row(text(7, x.want)))
		}
		if x.b == "" {
			goes(t, people(), joining(4, 17, x.sep), row(text(4, x.a)), row(text(20, x.want)))
			goes(t, people(), joining(17, 4, x.sep), row(text(17, x.a)), row(text(20, x.want)))
			comes(t, people(), splitting(7, x.sep), row(text(20, x.a)), row(text(7, x.a)))
		}
	}
}

// P7.1, A1 and A2: all short texts of two letters, and all separators of up to three.
func TestShortTexts(t *testing.T) {
	l := []string{""}
	for i := 0; len(l[i]) < 5; i++ {
		l = append(l, l[i]+"a", l[i]+"b")
	}
	s := api.Schema{Next: 3, Fields: []api.Field{{ID: 1, Name: "a", Type: api.Text}, {ID: 2, Name: "b", Type: api.Text}}}
	for _, sep := range l[1:15] {
		split, join := splitting(1, sep), joining(1, 2, sep)
		for _, a := range l {
			goes(t, s, split, row(text(1, a)), wantForward(s, split, row(text(1, a))))
			comes(t, s, join, row(text(3, a)), wantBack(s, join, row(text(3, a))))
			for _, b := range l[:15] {
				x := row(text(1, a), text(2, b))
				goes(t, s, join, x, wantForward(s, join, x))
				first := strings.Index(a+sep+b, sep) == len(a)
				if !schema.Fits(s, x) || lens.Lossless(s, join, x) != first {
					t.Errorf("joining %q and %q with %q is lossless: %v", a, b, sep, !first)
				}
			}
		}
	}
}
