package value

import (
	"fmt"
	"math"
	"math/big"
	"math/rand"
	"regexp"
	"strconv"
	"strings"
	"time"

	"fenland/api"
)

var (
	null  = api.Value{Null: true}
	types = []int{api.Bool, api.Small, api.Int, api.Text, api.Day}

	otherTypes = []int{math.MinInt, -1, 0, api.Nest, 7, 255, 256 + api.Bool, 1<<32 + api.Int, math.MaxInt}
)

// limits are the least and the greatest number of each type of numbers.
var limits = map[int][2]int64{
	api.Bool:  {0, 1},
	api.Small: {-2147483648, 2147483647},
	api.Int:   {math.MinInt64, math.MaxInt64},
	api.Day:   {-1000000, 1000000},
}

func num(n int64) api.Value { return api.Value{N: n} }

func text(s string) api.Value { return api.Value{S: s} }

// numbers are the limits, the numbers beside them, both sides of every power of two, and some between them.
func numbers() []int64 {
	l := []int64{0, 1, -1, 2, -2, 7, 10, -10, 99, 100, 300, 999, 1000, 11016, -719528, -719529}
	for _, t := range types {
		r := limits[t]
		l = append(l, r[0]-1, r[0], r[0]+1, r[1]-1, r[1], r[1]+1)
	}
	r := rand.New(rand.NewSource(1))
	for k := range 63 {
		p := int64(1) << k
		l = append(l, p-1, p, p+1, -p+1, -p, -p-1, r.Int63()>>k, -r.Int63()>>k)
	}
	return l
}

// strs are texts of every single byte, of the lengths at which something changes, and of bytes with a meaning.
func strs() []string {
	l := []string{"", "ab", "a", "b", "aa", "\"", "\\", "\\x41", "\\x0a", "null", "true", "0", "1970-01-01",
		"Zürich, 東京"}
	for c := range 256 {
		l = append(l, string([]byte{byte(c)}), string([]byte{'a', byte(c), 'b'}))
	}
	for _, n := range []int{127, 128, 199, 200, 201, 400, 1000} {
		l = append(l, strings.Repeat("x", n), strings.Repeat("\x00", n), strings.Repeat("é",
			n/2)+strings.Repeat("\\", n%2))
	}
	r := rand.New(rand.NewSource(2))
	for range 50 {
		b := make([]byte, r.Intn(203))
		r.Read(b)
		l = append(l, string(b))
	}
	return l
}

// values are values that are valid for some types, and others that are valid for none.
func values() []api.Value {
	l := []api.Value{null, {Null: true, N: 1}, {Null: true, N: -1}, {Null: true, S: "a"}, {Null: true, N: 1,
		S: "\x00"}}
	for _, n := range numbers() {
		l = append(l, num(n))
	}
	for _, s := range strs() {
		l = append(l, text(s))
	}
	for _, n := range []int64{1, -1, math.MinInt64, math.MaxInt64} {
		l = append(l, api.Value{N: n, S: "a"}, api.Value{N: n, S: "\x00"}, api.Value{Null: true, N: n, S: "ab"})
	}
	return l
}

// validValues are those of values that are valid for t.
func validValues(t int) []api.Value {
	var l []api.Value
	seen := map[api.Value]bool{}
	for _, v := range values() {
		if wantValid(v, t) && !seen[v] {
			seen[v] = true
			l = append(l, v)
		}
	}
	return l
}

// wantValid is the definition in 'Types'.
func wantValid(v api.Value, t int) bool {
	switch r, number := limits[t]; {
	case !number && t != api.Text:
		return false
	case v.Null:
		return v == null
	case number:
		return v.S == "" && r[0] <= v.N && v.N <= r[1]
	}
	return v.N == 0 && len([]byte(v.S)) < 201
}

// wantEncode is V3.
func wantEncode(v api.Value, t int) []byte {
	switch {
	case !wantValid(v, t):
		return nil
	case v.Null:
		return []byte{0}
	case t == api.Text:
		return append(wantNumber([]byte{1}, big.NewInt(int64(len(v.S)))), v.S...)
	}
	n := new(big.Int).Mul(big.NewInt(v.N), big.NewInt(2))
	if v.N < 0 {
		n.Not(n) // -2n - 1
	}
	return wantNumber([]byte{1}, n)
}

// wantNumber is the number encoding of layer 1.
func wantNumber(b []byte, n *big.Int) []byte {
	rest, digit := new(big.Int).Set(n), new(big.Int)
	for rest.Cmp(big.NewInt(128)) >= 0 {
		rest.DivMod(rest, big.NewInt(128), digit)
		b = append(b, byte(digit.Int64())+128)
	}
	return append(b, byte(rest.Int64()))
}

// wantShow is V5, with the dates of another calendar program.
func wantShow(v api.Value, t int) string {
	switch {
	case !wantValid(v, t):
		return ""
	case v.Null:
		return "null"
	case t == api.Bool:
		return fmt.Sprint(v.N == 1)
	case t == api.Day:
		date := time.Date(1970, time.January, 1+int(v.N), 0, 0, 0, 0, time.UTC)
		return wantDate(date.Year(), int(date.Month()), date.Day())
	case t != api.Text:
		return big.NewInt(v.N).String()
	}
	s := `"`
	for _, c := range []byte(v.S) {
		if strings.IndexByte(plainBytes(), c) >= 0 {
			s += string(rune(c))
		} else {
			s += fmt.Sprintf(`\x%02x`, c)
		}
	}
	return s + `"`
}

func wantDate(year, month, day int) string {
	if year < 0 {
		return fmt.Sprintf("-%04d-%02d-%02d", -year, month, day)
	}
	return fmt.Sprintf("%04d-%02d-%02d", year, month, day)
}

// plainBytes are the bytes that are written as they are.
func plainBytes() string {
	return " !#$%&'()*+,-./0123456789:;<=>?@ABCDEFGHIJKLMNOPQRSTUVWXYZ[]^_`abcdefghijklmnopqrstuvwxyz{|}~"
}

var (
	numberForm = regexp.MustCompile(`^(0|-?[1-9][0-9]*)$`)
	textForm   = regexp.MustCompile(`^"([ !#-\[\]-~]|\\x[0-9a-f][0-9a-f])*"$`)
	escapeForm = regexp.MustCompile(`\\x..`)
	dayForm    = regexp.MustCompile(`^(0[0-9]{3}|-?[1-9][0-9]{3,}|-0[0-9]{3})-([0-9]{2})-([0-9]{2})$`)
)

// wantParse is V6: it accepts what has the form of a notation, and then looks at what is excluded.
func wantParse(s string, t int) (api.Value, api.Errno) {
	v, ok := api.Value{}, false
	switch {
	case !wantValid(null, t):
		return api.Value{}, api.ErrType
	case s == "null":
		return null, api.OK
	case t == api.Bool:
		ok = s == "false" || s == "true"
		v.N = int64(strings.Count(s, "true"))
	case t == api.Day:
		v.N, ok = wantDay(s)
	case t == api.Text:
		v.S, ok = wantText(s)
	case numberForm.MatchString(s):
		n, _ := new(big.Int).SetString(s, 10)
		v.N, ok = n.Int64(), n.IsInt64()
	}
	if !ok || !wantValid(v, t) {
		return api.Value{}, api.ErrForm
	}
	return v, api.OK
}

func wantText(s string) (string, bool) {
	if !textForm.MatchString(s) {
		return "", false
	}
	ok := true
	inner := escapeForm.ReplaceAllStringFunc(s[1:len(s)-1], func(e string) string {
		n, _ := strconv.ParseUint(e[2:], 16, 8)
		ok = ok && !strings.Contains(plainBytes(), string(rune(n)))
		return string([]byte{byte(n)})
	})
	return inner, ok
}

func wantDay(s string) (int64, bool) {
	m := dayForm.FindStringSubmatch(s)
	if m == nil || m[1] == "-0000" {
		return 0, false
	}
	year, err := strconv.Atoi(m[1])
	if err != nil || year < -5000 || year > 5000 {
		return 0, false
	}
	month, _ := strconv.Atoi(m[2])
	day, _ := strconv.Atoi(m[3])
	if month < 1 || month > 12 || day < 1 || day > lengthOfMonth(year, month) {
		return 0, false
	}
	return time.Date(year, time.Month(month), day, 0, 0, 0, 0, time.UTC).Unix() / 86400, true
}

// lengthOfMonth is the rule in 'Types'.
func lengthOfMonth(year, month int) int {
	switch month {
	case 4, 6, 9, 11:
		return 30
	case 2:
		if year%400 == 0 || year%4 == 0 && year%100 != 0 {
			return 29
		}
		return 28
	}
	return 31
}
