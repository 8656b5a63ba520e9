// Package wire encodes integers, texts and byte strings as bytes and decodes them. Every value has exactly one
// encoding, and the decoders accept nothing else. It is layer 1; see shared/doc/01-wire.md.
package wire

import "fenland/api"

const (
	digitBits = 7              // bits of a digit to the base 128
	more      = 1 << digitBits // added to every byte of a number except the last one
	maxBytes  = 10             // bytes of the longest number
	tenth     = 63             // bits before the tenth digit, which leave room for one more
)

// U returns b followed by the number encoding of n.
func U(b []byte, n uint64) []byte {
	return appendNumber(extend(b, maxBytes), n)
}

// S returns b followed by the number encoding of 2n, or of -2n - 1 if n is negative.
func S(b []byte, n int64) []byte {
	if n < 0 {
		// ^n is -n - 1, which, unlike -n, exists for the least number too.
		return U(b, uint64(^n)<<1|1)
	}
	return U(b, uint64(n)<<1)
}

// Text returns b followed by the length of s and its bytes.
func Text(b []byte, s string) []byte { return appendCounted(b, s) }

// Bytes returns b followed by the length of p and its bytes.
func Bytes(b []byte, p []byte) []byte { return appendCounted(b, p) }

// ReadU decodes a number, and returns it and the offset after it.
func ReadU(b []byte, at int) (uint64, int, api.Errno) {
	if at < 0 || at > len(b) {
		return 0, 0, api.ErrArg
	}
	var n uint64
	next := at
digits:
	for shift := 0; ; shift += digitBits {
		if next == len(b) {
			return 0, 0, api.ErrShort
		}
		digit := b[next]
		next++
		n |= uint64(digit%more) << shift
		switch {
		case shift == tenth && digit > 1:
			return 0, 0, api.ErrForm
		case shift > 0 && digit == 0:
			return 0, 0, api.ErrForm
		case digit < more:
			break digits
		}
	}
	return n, next, api.OK
}

// ReadS decodes a number that S has written, and returns it and the offset after it.
func ReadS(b []byte, at int) (int64, int, api.Errno) {
	u, next, err := ReadU(b, at)
	if err != api.OK {
		return 0, 0, err
	}
	n := int64(u >> 1)
	if u&1 == 1 {
		n = ^n
	}
	return n, next, api.OK
}

// ReadText decodes a text, and returns it and the offset after it.
func ReadText(b []byte, at int) (string, int, api.Errno) {
	start, end, err := span(b, at)
	if err != api.OK {
		return "", 0, err
	}
	return string(b[start:end]), end, api.OK
}

// ReadBytes decodes a byte string, and returns it and the offset after it.
func ReadBytes(b []byte, at int) ([]byte, int, api.Errno) {
	start, end, err := span(b, at)
	if err != api.OK {
		return nil, 0, err
	}
	return extend(b[start:end], 0), end, api.OK
}

// extend returns a copy of b with room for at least n more bytes: results share no memory with arguments.
func extend(b []byte, n int) []byte {
	c := make([]byte, len(b), len(b)+n)
	copy(c, b)
	return c
}

// appendNumber writes into the memory of b, which therefore has to be the caller's own.
func appendNumber(b []byte, n uint64) []byte {
	for n >= more {
		b = append(b, byte(n%more)+more)
		n /= more
	}
	return append(b, byte(n))
}

// appendCounted returns b followed by the length of s and its bytes.
func appendCounted[T string | []byte](b []byte, s T) []byte {
	return append(appendNumber(extend(b, maxBytes+len(s)), uint64(len(s))), s...)
}

// span decodes a length, and returns the offsets at which the bytes counted by it begin and end.
func span(b []byte, at int) (int, int, api.Errno) {
	n, start, err := ReadU(b, at)
	switch {
	case err != api.OK:
		return 0, 0, err
	case n > api.MaxObject:
		return 0, 0, api.ErrBig
	case n > uint64(len(b)-start):
		return 0, 0, api.ErrShort
	}
	return start, start + int(n), api.OK
}
