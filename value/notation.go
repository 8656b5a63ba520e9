package value

import (
	"strconv"

	"fenland/api"
)

const (
	nullNotation  = "null"
	trueNotation  = "true"
	falseNotation = "false"

	decimal     = 10
	hexadecimal = 16
	numberBits  = 64
	byteBits    = 8

	quote      = '"'
	backslash  = '\\'
	firstPlain = ' ' // the first and the last byte that may be written as they are
	lastPlain  = '~'
	digits     = "0123456789abcdef"
	escapeSize = len(`\x00`)
)

// Show returns the notation of v, which is empty if v is not valid for t.
func Show(v api.Value, t int) string {
	switch {
	case !Valid(v, t):
		return ""
	case v.Null:
		return nullNotation
	case t == api.Text:
		return quoted(v.S)
	case t == api.Day:
		return dateOf(v.N)
	case t == api.Bool && v.N == 0:
		return falseNotation
	case t == api.Bool:
		return trueNotation
	}
	return strconv.FormatInt(v.N, decimal)
}

// Parse returns the valid value whose notation is s.
func Parse(s string, t int) (api.Value, api.Errno) {
	if !isType(t) {
		return api.Value{}, api.ErrType
	}
	// The candidate is read generously. That s is not its notation shows when it is written again.
	v := candidate(s, t)
	if !Valid(v, t) || Show(v, t) != s {
		return api.Value{}, api.ErrForm
	}
	return v, api.OK
}

// candidate returns a value that has the notation s, unless no valid value has it.
func candidate(s string, t int) (v api.Value) {
	switch {
	case s == nullNotation:
		v.Null = true
	case t == api.Text:
		v.S = unquoted(s)
	case t == api.Day:
		v.N = dayOf(s)
	case t != api.Bool:
		// With an error, the result is a number with another notation.
		v.N, _ = strconv.ParseInt(s, decimal, numberBits)
	case s == trueNotation:
		v.N = 1
	}
	return v
}

// quoted returns the notation of a text.
func quoted(s string) string {
	b := []byte{quote}
	for i := range len(s) {
		c := s[i]
		if c < firstPlain || c > lastPlain || c == quote || c == backslash {
			b = append(b, backslash, 'x', digits[c/hexadecimal], digits[c%hexadecimal])
		} else {
			b = append(b, c)
		}
	}
	return string(append(b, quote))
}

// unquoted returns the text that has the notation s, unless there is none.
func unquoted(s string) string {
	var b []byte
	at := 1
scan:
	for at < len(s) {
		switch s[at] {
		case quote:
			break scan
		case backslash:
			end := at + escapeSize
			if end > len(s) {
				break scan
			}
			n, _ := strconv.ParseUint(s[end-2:end], hexadecimal, byteBits)
			b = append(b, byte(n))
			at = end
		default:
			b = append(b, s[at])
			at++
		}
	}
	return string(b)
}
