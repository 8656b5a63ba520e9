package decide_test

import (
	"slices"
	"strings"
	"testing"

	"fenland/api"
)

// bytesBut are all bytes, as texts, but one.
func bytesBut(missing int) []string {
	var l []string
	for c := range 256 {
		if c != missing {
			l = append(l, string([]byte{byte(c)}))
		}
	}
	return l
}

const all = -1 // no byte is missing

// notPrefixes excludes all texts that begin with start and one of the bytes; notTexts excludes these texts alone.
func notPrefixes(start string, bytes []string) []api.Pred {
	var l []api.Pred
	for _, c := range bytes {
		l = append(l, not(prefix(aText, start+c)))
	}
	return l
}

func notTexts(start string, bytes []string) []api.Pred {
	var l []api.Pred
	for group := range slices.Chunk(bytes, 16) {
		set := inTexts(aText)
		for _, c := range group {
			set.Set = append(set.Set, text(start+c))
		}
		l = append(l, not(set))
	}
	return l
}

// P9.1, D2: In and Not In of texts.
func TestWitnessOfTexts(t *testing.T) {
	texts := func(l ...string) api.Pred { return inTexts(aText, l...) }
	for _, s := range []string{"", "a", "\x00", "\xff", "a\x00", "é", xs(199), xs(200)} {
		onlyValue(t, aText, text(s), texts(s))
		onlyValue(t, aText, text(s), texts(s, "other"), not(texts("other")))
		onlyValue(t, aText, text(s), texts(s, "other"), not(texts("other", "x")))
		onlyValue(t, aText, text(s), texts(s, "other"), texts(s, "x"))
		onlyValue(t, aText, text(s), texts(s), prefix(aText, s))
		onlyValue(t, aText, text(s), texts(s), prefix(aText, ""))
		together(t, false, texts(s), not(texts(s)))
		together(t, false, texts(s, "other"), not(texts(s, "other")))
		together(t, false, texts(s), not(prefix(aText, s)))
		together(t, false, texts(s), not(prefix(aText, "")))
		together(t, false, texts(s), texts("other"))
		together(t, false, texts(s), isNull(aText))
		together(t, true, not(texts(s)))
		together(t, false, not(texts(s)), isNull(aText))
	}
	onlyValue(t, aText, text("a"), texts("a", "ab"), not(prefix(aText, "ab")))
	onlyValue(t, aText, text("ab"), texts("a", "ab", "b"), prefix(aText, "a"), not(texts("a")))
	onlyValue(t, aText, text("b"), texts("a", "ab", "b"), not(prefix(aText, "a")))
	onlyValue(t, aText, text("b"), texts("a", "b"), texts("b", "c"), texts("a", "b", "c"))
	onlyValue(t, aText, text("\xff"), texts("\x00", "\xff"), not(prefix(aText, "\x00")))
	together(t, false, texts("ab"), not(prefix(aText, "a")))
	together(t, false, texts("a", "b"), prefix(aText, "ab"))
	together(t, false, texts(""), prefix(aText, "\x00"))
	together(t, false, texts("a", "ab"), not(texts("a")), not(prefix(aText, "ab")))
	together(t, true, not(texts("", "a", "b")), not(texts("c")))
	together(t, true, not(texts("")), prefix(aText, ""))
}

// P9.1, D2: Prefix and Not Prefix of each other's beginnings and of the empty text.
func TestWitnessOfPrefixes(t *testing.T) {
	chain := []string{"", "a", "ab", "abc", "abc\x00", "abc\x00\xff"}
	for i, long := range chain {
		for k, short := range chain[:i+1] {
			together(t, true, prefix(aText, long), prefix(aText, short))
			together(t, false, prefix(aText, long), not(prefix(aText, short)))
			together(t, i != k, prefix(aText, short), not(prefix(aText, long)))
			together(t, k > 0, not(prefix(aText, short)), not(prefix(aText, long)))
			together(t, i != k, prefix(aText, short), not(prefix(aText, long)), not(prefix(aText, "b")), not(prefix(aText, long+"x")))
			together(t, i != k, prefix(aText, short), not(prefix(aText, long)), not(inTexts(aText, short)))
			together(t, k > 0, not(prefix(aText, short)), not(inTexts(aText, "")))
		}
	}
	p := func(s string) api.Pred { return prefix(aText, s) }
	together(t, true, p(""), p("a"), p("ab"), p("abc"), not(p("abcd")), not(p("ac")), not(p("b")))
	together(t, false, p(""), p("a"), p("abc"), p("ab"), not(p("ab")))
	together(t, false, p("a"), p("b"))
	together(t, false, p("ab"), p("ac"))
	together(t, false, p("ab"), p("abc"), p("abd"))
	together(t, false, p("abc"), p("b"))
	together(t, false, p("\x00"), p("\xff"))
	together(t, false, not(p("")))
	together(t, false, not(p("")), not(isNull(aText)))
	together(t, true, p(""))
	together(t, true, p("\xff"), not(p("\xff\xff")), not(inTexts(aText, "\xff")))
	together(t, true, p("\x00"), not(p("\x00\x00")), not(inTexts(aText, "\x00")))
	onlyValue(t, aText, text("a"), p("a"), inTexts(aText, "", "a", "b"))
}

// P9.1, D2: a text has at most 200 bytes.
func TestWitnessOfLongTexts(t *testing.T) {
	long, short := xs(200), xs(199)
	onlyValue(t, aText, text(long), prefix(aText, long))
	onlyValue(t, aText, text(long), prefix(aText, long), prefix(aText, short), prefix(aText, ""))
	onlyValue(t, aText, text(long), prefix(aText, long), not(inTexts(aText, short)))
	together(t, false, prefix(aText, long), not(inTexts(aText, long)))
	together(t, false, prefix(aText, long), not(inTexts(aText, "a", long, "y")))
	together(t, false, prefix(aText, long), not(prefix(aText, long)))
	together(t, false, prefix(aText, long), not(prefix(aText, short)))
	together(t, true, prefix(aText, short), not(inTexts(aText, short)))
	together(t, true, prefix(aText, short), not(prefix(aText, long)))
	together(t, true, prefix(aText, short), not(prefix(aText, long)), not(inTexts(aText, short)))
	together(t, true, prefix(aText, short), not(inTexts(aText, short, long)))
	onlyValue(t, aText, text(short), append(notTexts(short, bytesBut(all)), prefix(aText, short))...)
	together(t, false, append(notTexts(short, bytesBut(all)), prefix(aText, short), not(inTexts(aText, short)))...)
	together(t, false, append(notPrefixes(short, bytesBut(all)), prefix(aText, short), not(inTexts(aText, short)))...)
	for _, c := range []int{0, 1, 127, 128, 254, 255} {
		want := text(short + string([]byte{byte(c)}))
		onlyValue(t, aText, want, append(notTexts(short, bytesBut(c)), prefix(aText, short), not(inTexts(aText, short)))...)
		onlyValue(t, aText, want, append(notPrefixes(short, bytesBut(c)), prefix(aText, short), not(inTexts(aText, short)))...)
	}
	// Two bytes are left, and all texts but the last one are excluded.
	l := []api.Pred{prefix(aText, xs(198)), not(inTexts(aText, xs(198)))}
	l = append(l, notPrefixes(xs(198), bytesBut(255))...)
	l = append(l, not(inTexts(aText, xs(198)+"\xff")))
	onlyValue(t, aText, text(xs(198)+"\xff\xff"), append(l, notTexts(xs(198)+"\xff", bytesBut(255))...)...)
	together(t, false, append(l, notTexts(xs(198)+"\xff", bytesBut(all))...)...)
}

// P9.1, D2: texts of which all longer ones are excluded, or all longer ones but those with one byte.
func TestWitnessOfExhaustedTexts(t *testing.T) {
	for _, start := range []string{"", "a", "\x00", "a\xff"} {
		l := append(notPrefixes(start, bytesBut(all)), prefix(aText, start))
		onlyValue(t, aText, text(start), l...)
		together(t, false, append(l, not(inTexts(aText, start)))...)
		for _, c := range []int{0, 1, 97, 127, 128, 254, 255} {
			next := start + string([]byte{byte(c)})
			m := append(notPrefixes(start, bytesBut(c)), prefix(aText, start), not(inTexts(aText, start)))
			together(t, true, m...)
			if r := witness(t, typed(), joined(api.And, m), true); len(r.Cells) != 1 || !strings.HasPrefix(r.Cells[0].V.S, next) {
				t.Errorf("Witness: %v instead of a text that begins with %q", r, next)
			}
			together(t, false, append(m, not(prefix(aText, next)))...)
			together(t, true, append(m, not(inTexts(aText, next)))...)
			m = append(m, notPrefixes(next, bytesBut(all))...)
			onlyValue(t, aText, text(next), m...)
			together(t, false, append(m, not(inTexts(aText, next)))...)
		}
	}
	// If only texts of one length are excluded, longer ones remain.
	l := append(notTexts("a", bytesBut(all)), prefix(aText, "a"), not(inTexts(aText, "a")))
	together(t, true, l...)
	together(t, false, append(l, notPrefixes("a", bytesBut(all))...)...)
	together(t, true, notTexts("", bytesBut(all))...)
	// What begins with the first bytes is excluded further on.
	l = []api.Pred{prefix(aText, "a"), not(inTexts(aText, "a", "a\x00", "a\x01"))}
	for _, start := range []string{"a\x00", "a\x01"} {
		l = append(l, notPrefixes(start, bytesBut(all))...)
	}
	together(t, true, l...)
	together(t, true, append(l, notPrefixes("a", bytesBut(255))...)...)
	together(t, false, append(l, not(prefix(aText, "a\x02")), not(inTexts(aText, "a\x02")), inTexts(aText, "a", "a\x01", "a\x02x"))...)
}
