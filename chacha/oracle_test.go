package chacha

import (
	"slices"
	"strconv"
	"strings"

	"fenland/api"
)

// wantConstants, wantSteps and wantRounds are copied from the chapter, without the words "and" before their last parts.
const (
	wantConstants = "61707865, 3320646e, 79622d32, 6b206574"
	wantSteps     = "a = a + b, d = d xor a, d rotated by 16; c = c + d, b = b xor c, b rotated by 12; " +
		"a = a + b, d = d xor a, d rotated by 8; c = c + d, b = b xor c, b rotated by 7"
	wantRounds = "0, 4, 8, 12; 1, 5, 9, 13; 2, 6, 10, 14; 3, 7, 11, 15; " +
		"0, 5, 10, 15; 1, 6, 11, 12; 2, 7, 8, 13; 3, 4, 9, 14"
)

// modulus is that of words. The oracle computes with numbers of 64 bits, so that no sum wraps around unnoticed.
const modulus = 1 << 32

func number(s string, base int) uint64 {
	n, err := strconv.ParseUint(s, base, 32)
	if err != nil {
		panic(err)
	}
	return n
}

// step is a step of a quarter round: the word to combines itself with the word from, or is rotated by n bits.
type step struct {
	does     string
	to, from int
	n        int
}

func readStep(s string) step {
	f := strings.Fields(s)
	if f[1] == "rotated" {
		return step{does: "rotated", to: int(f[0][0] - 'a'), n: int(number(f[3], 10))}
	}
	if f[0] != f[2] {
		panic(s)
	}
	return step{does: f[3], to: int(f[0][0] - 'a'), from: int(f[4][0] - 'a')}
}

func readSteps() []step {
	var l []step
	for _, line := range strings.Split(wantSteps, "; ") {
		for _, s := range strings.Split(line, ", ") {
			l = append(l, readStep(s))
		}
	}
	return l
}

func readRounds() [][]int {
	var l [][]int
	for _, line := range strings.Split(wantRounds, "; ") {
		var r []int
		for _, s := range strings.Split(line, ", ") {
			r = append(r, int(number(s, 10)))
		}
		l = append(l, r)
	}
	return l
}

// rotated is x rotated left by n bits: the upper n bits become the lower ones.
func rotated(x uint64, n int) uint64 {
	p := uint64(modulus) >> n
	return x%p*(modulus/p) + x/p
}

// oracle computes what the chapter says.
type oracle struct {
	steps  []step
	rounds [][]int
}

func newOracle() oracle { return oracle{readSteps(), readRounds()} }

// inverse undoes what o does: the last quarter round first, and the last step of each first.
func (o oracle) inverse() oracle {
	steps, rounds := slices.Clone(o.steps), slices.Clone(o.rounds)
	slices.Reverse(steps)
	slices.Reverse(rounds)
	for i, x := range steps {
		switch x.does {
		case "+":
			steps[i].does = "-"
		case "rotated":
			steps[i].n = 32 - x.n
		}
	}
	return oracle{steps, rounds}
}

// quarter performs the steps of a quarter round of the words at r.
func (o oracle) quarter(s []uint64, r []int) {
	for _, x := range o.steps {
		to, from := &s[r[x.to]], s[r[x.from]]
		switch x.does {
		case "+":
			*to = (*to + from) % modulus
		case "-":
			*to = (*to + modulus - from) % modulus
		case "xor":
			*to ^= from
		case "rotated":
			*to = rotated(*to, x.n)
		default:
			panic(x.does)
		}
	}
}

// double performs a double round.
func (o oracle) double(s []uint64) {
	for _, r := range o.rounds {
		o.quarter(s, r)
	}
}

// wordsOf reads words from bytes.
func wordsOf(b []byte) []uint64 {
	var l []uint64
	for at := 0; at < len(b); at += 4 {
		l = append(l, uint64(b[at])+uint64(b[at+1])*256+uint64(b[at+2])*256*256+uint64(b[at+3])*256*256*256)
	}
	return l
}

// bytesOf writes words to bytes.
func bytesOf(l []uint64) []byte {
	var b []byte
	for _, w := range l {
		b = append(b, byte(w), byte(w/256), byte(w/256/256), byte(w/256/256/256))
	}
	return b
}

// initial is the initial state: the constants, the key, the counter, and the nonce.
func (o oracle) initial(key api.Key, nonce [12]byte, n uint32) []uint64 {
	var s []uint64
	for _, c := range strings.Split(wantConstants, ", ") {
		s = append(s, number(c, 16))
	}
	s = append(s, wordsOf(key[:])...)
	s = append(s, uint64(n))
	return append(s, wordsOf(nonce[:])...)
}

// block is what C1 describes.
func (o oracle) block(key api.Key, nonce [12]byte, n uint32) []byte {
	s := o.initial(key, nonce, n)
	for range 10 {
		o.double(s)
	}
	for i, w := range o.initial(key, nonce, n) {
		s[i] = (s[i] + w) % modulus
	}
	return bytesOf(s)
}

// stream is at least as much of the key stream as n bytes need.
func (o oracle) stream(key api.Key, nonce [12]byte, n int) []byte {
	var all []byte
	for k := uint32(0); len(all) < n; k++ {
		all = append(all, o.block(key, nonce, k)...)
	}
	return all
}

// xor is what C2 describes.
func (o oracle) xor(key api.Key, nonce [12]byte, b []byte) []byte {
	var c []byte
	stream := o.stream(key, nonce, len(b))
	for i := range b {
		c = append(c, b[i]^stream[i])
	}
	return c
}
