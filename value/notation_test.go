package value

import (
	"math"
	"math/rand"
	"strings"
	"testing"

	"fenland/api"
)

// P5.1, V5: the examples, and the notations of the bounds.
func TestNotations(t *testing.T) {
	for _, c := range []struct {
		v    api.Value
		t    int
		want string
	}{
		{num(0), api.Bool, "false"},
		{num(1), api.Bool, "true"},
		{num(2), api.Bool, ""},
		{num(0), api.Small, "0"},
		{num(1), api.Int, "1"},
		{num(-7), api.Int, "-7"},
		{num(100), api.Small, "100"},
		{num(-1 << 31), api.Small, "-2147483648"},
		{num(1 << 31), api.Small, ""},
		{num(math.MinInt64), api.Int, "-9223372036854775808"},
		{num(math.MaxInt64), api.Int, "9223372036854775807"},
		{text(""), api.Text, `""`},
		{text("null"), api.Text, `"null"`},
		{text("a\"\x00"), api.Text, `"a\x22\x00"`},
		{text(" !#[]~"), api.Text, `" !#[]~"`},
		{text("\x1f\x7f\\\xff\n"), api.Text, `"\x1f\x7f\x5c\xff\x0a"`},
		{text("é"), api.Text, `"\xc3\xa9"`},
		{text(strings.Repeat("\xab", 200)), api.Text, `"` + strings.Repeat(`\xab`, 200) + `"`},
		{text(strings.Repeat("a", 201)), api.Text, ""},
		{num(0), api.Day, "1970-01-01"},
		{num(11016), api.Day, "2000-02-29"},
		{num(-1), api.Day, "1969-12-31"},
		{num(-719528), api.Day, "0000-01-01"},
		{num(-719529), api.Day, "-0001-12-31"},
		{num(-719162), api.Day, "0001-01-01"},
		{num(-719163), api.Day, "0000-12-31"},
		{num(-719528 + 59), api.Day, "0000-02-29"},
		{num(-719529 - 306), api.Day, "-0001-02-28"},
		{num(-719528 - 365*3 - 307), api.Day, "-0004-02-29"},
		{num(-354285), api.Day, "1000-01-01"},
		{num(-354286), api.Day, "0999-12-31"},
		{num(-25567 + 58), api.Day, "1900-02-28"},
		{num(-25567 + 59), api.Day, "1900-03-01"},
		{num(1000000), api.Day, "4707-11-29"},
		{num(-1000000), api.Day, "-0768-02-04"},
		{num(1000001), api.Day, ""},
		{num(-1000001), api.Day, ""},
	} {
		if got := Show(c.v, c.t); got != c.want {
			t.Errorf("Show(%+v, %d) = %s", c.v, c.t, got)
		}
		if c.want == "" {
			continue
		}
		if v, err := Parse(c.want, c.t); v != c.v || err != api.OK {
			t.Errorf("Parse(%s, %d) = %+v, %v", c.want, c.t, v, err)
		}
	}
	for _, typ := range types {
		if v, err := Parse("null", typ); Show(null, typ) != "null" || v != null || err != api.OK {
			t.Errorf("null of the type %d: %s, %+v, %v", typ, Show(null, typ), v, err)
		}
	}
}

// P5.1, V5.
func TestShow(t *testing.T) {
	for _, v := range values() {
		for _, typ := range append(otherTypes, types...) {
			if got, want := Show(v, typ), wantShow(v, typ); got != want {
				t.Errorf("Show(%+v, %d) = %s instead of %s", v, typ, got, want)
			}
		}
	}
}

// P5.3: Parse of Show.
func TestParseInvertsShow(t *testing.T) {
	for _, typ := range types {
		for _, v := range validValues(typ) {
			if got, err := Parse(Show(v, typ), typ); got != v || err != api.OK {
				t.Errorf("Parse(%s, %d) = %+v, %v", Show(v, typ), typ, got, err)
			}
		}
	}
}

// P5.4: different values have different notations.
func TestNotationsAreSeparate(t *testing.T) {
	for _, typ := range types {
		seen := map[string]api.Value{}
		for _, v := range validValues(typ) {
			s := Show(v, typ)
			if other, used := seen[s]; used || s == "" {
				t.Errorf("the type %d: %+v and %+v have the notation %s", typ, v, other, s)
			}
			seen[s] = v
		}
	}
}

// malformed are strings that are no notations of the types for which they are listed.
func malformed() map[int][]string {
	numbers := []string{
		"", "-", "+", "-0", "+0", "+1", "00", "007", "01", "-01", "-00", "--1", "1 ", " 1", "1\n", "1\x00", "1.0", "1e3",
		"0x1", "1_000", "٣", "1-", "null ", "Null", "NULL", "nul", "nulll", "\"null\"", "true", "false", "\"1\"",
		"9223372036854775808", "-9223372036854775809", "18446744073709551616", "18446744073709551617",
		"340282366920938463463374607431768211456", strings.Repeat("9", 1000), strings.Repeat("0", 1000) + "1",
	}
	bools := []string{
		"", "0", "1", "True", "TRUE", "t", "tru", "truee", "true ", " true", "False", "falsey", "yes", "2", "-1",
		"null ", "Null", "\"true\"", "true\x00",
	}
	return map[int][]string{
		api.Bool:  bools,
		api.Small: append(numbers, "2147483648", "-2147483649", "4294967296", "4294967297"),
		api.Int:   numbers,
		api.Text:  malformedTexts(),
		api.Day:   malformedDays(),
	}
}

func malformedTexts() []string {
	return []string{
		"", `"`, `a`, `"a`, `a"`, `'a'`, `""a`, `"" `, ` ""`, `"""`, `"a"b"`, `"a""`, `"\"`, `"\""`, `"\\"`, `"\x"`,
		`"\x0"`, `"\x0`, `"\x00`, `"\x0g"`, `"\xg0"`, `"\x+1"`, `"\x-1"`, `"\x 1"`, `"\x_1"`, `"\x0A"`, `"\xFF"`, `"\xfF"`,
		`"\x41"`, `"\x20"`, `"\x7e"`, `"\x7E"`, `"\x2"`, `"\X00"`, `"\000"`, `"\u0000"`, `"\n"`, `"\t"`, `"\x22`,
		`\x22\x22`, `\x22`, "\"\n\"", "\"\x00\"", "\"\x1f\"", "\"\x7f\"", "\"\x80\"", "\"é\"", "\"a\x00\"", "'\"", "xa\"",
		"nulla", "NULL", "null\x00", `"` + strings.Repeat("a", 201) + `"`, `"` + strings.Repeat(`\x00`, 201) + `"`,
		`"` + strings.Repeat("a", 200), strings.Repeat("a", 202),
	}
}

func malformedDays() []string {
	return []string{
		"", "-", "--", "---", "0", "1970", "1970-01", "1970-01-", "1970-01-1", "1970-1-01", "1970-01-001", "1970-001-01",
		"970-01-01", "01970-01-01", "+1970-01-01", " 1970-01-01", "1970-01-01 ", "1970-01-01\n", "1970/01/01",
		"1970-01/01", "1970/01-01", "19700101", "1970-00-01", "1970-13-01", "1970-01-00", "1970-01-32", "1970-04-31",
		"1970-06-31", "1970-09-31", "1970-11-31", "1970-02-29", "2001-02-29", "1900-02-29", "2100-02-29", "2000-02-30",
		"2004-02-30", "0100-02-29", "-0001-02-29", "-0100-02-29", "-0400-02-30", "-0000-01-01", "-0000-12-31",
		"-001-12-31", "-1-12-31", "--001-12-31", "--0001-12-31", "0-01-01", "000-01-01", "00000-01-01", "-00001-12-31",
		"4707-11-30", "4708-01-01", "-0768-02-03", "-0767-02-29", "-0800-12-31", "4799-12-31", "4800-01-01",
		"-0799-01-01", "9999-12-31", "10000-01-01", "-9999-01-01", "99999-01-01", "1970-0a-01", "1970-01-0a",
		"197a-01-01", "a970-01-01", "1970-+1-01", "1970-01-+1", "1970--1-01", "1970-01--1", "1970- 1-01", "1970-01- 1",
		"-01-01", "01-01", "a-01-01", "1970-12-99", "1970-99-12", "9223372036854775807-01-01",
		"9223372036854775808-01-01", "-9223372036854775808-01-01", "18446744073709553586-01-01",
		"-9223372036854775809-12-31", "768614336404564650-08-01", "NULL", "null-01-01", "Thu Jan 1 1970",
		strings.Repeat("9", 400) + "-01-01",
	}
}

// P5.1, V6.
func TestParseErrors(t *testing.T) {
	for typ, l := range malformed() {
		for _, s := range l {
			if v, err := Parse(s, typ); v != (api.Value{}) || err != api.ErrForm {
				t.Errorf("Parse(%q, %d) = %+v, %v", s, typ, v, err)
			}
		}
	}
	for _, typ := range otherTypes {
		for _, s := range []string{"", "null", "0", "true", `""`, "1970-01-01", "-0"} {
			if v, err := Parse(s, typ); v != (api.Value{}) || err != api.ErrType {
				t.Errorf("Parse(%q, %d) = %+v, %v", s, typ, v, err)
			}
		}
	}
}

// P5.1, V6: a byte is escaped in one way or not at all, whatever its digits.
func TestEscapes(t *testing.T) {
	for c := range 256 {
		own := string([]byte{byte(c)})
		plain := strings.Contains(plainBytes(), own)
		for _, s := range []string{own, hex(c, "0123456789abcdef"), hex(c, "0123456789ABCDEF")} {
			want := api.ErrForm
			if s == own && plain || s == hex(c, "0123456789abcdef") && !plain {
				want = api.OK
			}
			for _, around := range [][2]string{{"", ""}, {"a", "b"}, {`\x00`, `\x22`}} {
				v, err := Parse(`"`+around[0]+s+around[1]+`"`, api.Text)
				if err != want || err == api.OK && !strings.Contains(v.S, own) {
					t.Errorf("the byte %d as %s: %+v, %v", c, s, v, err)
				}
			}
		}
	}
}

func hex(c int, digits string) string { return `\x` + digits[c/16:][:1] + digits[c%16:][:1] }

// edit returns s with one byte more, less, or exchanged.
func edit(r *rand.Rand, s string) string {
	const bytes = `-+0123456789abcdefx\" ~nultrse_A` + "\x00\x1f\x7f\xff"
	at := r.Intn(len(s) + 1)
	c := bytes[r.Intn(len(bytes)):][:1]
	switch r.Intn(3) {
	case 0:
		return s[:at] + c + s[at:]
	case 1:
		return s[:at] + s[min(at+1, len(s)):]
	}
	return s[:at] + c + s[min(at+1, len(s)):]
}

// P5.1, V6: notations, edited notations, and notations of other types.
func TestParse(t *testing.T) {
	r := rand.New(rand.NewSource(4))
	var l []string
	for _, typ := range types {
		for _, s := range malformed()[typ] {
			l = append(l, s)
		}
		for _, v := range validValues(typ) {
			s := Show(v, typ)
			l = append(l, s)
			for range 20 {
				l = append(l, edit(r, s), edit(r, edit(r, s)))
			}
		}
	}
	for range 20000 {
		l = append(l, wantDate(r.Intn(6000)-1000, r.Intn(14), r.Intn(33)))
	}
	for _, s := range l {
		for _, typ := range append(types, 0, api.Nest) {
			want, wantErr := wantParse(s, typ)
			if v, err := Parse(s, typ); v != want || err != wantErr {
				t.Errorf("Parse(%q, %d) = %+v, %v instead of %+v, %v", s, typ, v, err, want, wantErr)
			}
			// P5.4: what is accepted is the notation of the value.
			if wantErr == api.OK && Show(want, typ) != s {
				t.Errorf("%q and %q are notations of %+v", s, Show(want, typ), want)
			}
		}
	}
}
