package blake

import (
	"math/big"
	"strconv"
	"strings"

	"fenland/api"
)

// wantIV and wantRows are copied from the chapter.
const (
	wantIV   = "6a09e667, bb67ae85, 3c6ef372, a54ff53a, 510e527f, 9b05688c, 1f83d9ab, 5be0cd19"
	wantRows = `| 0 | 0 1 2 3 4 5 6 7 8 9 10 11 12 13 14 15 |
| 1 | 14 10 4 8 9 15 13 6 1 12 0 2 11 7 5 3 |
| 2 | 11 8 12 0 5 2 15 13 10 14 3 6 7 1 9 4 |
| 3 | 7 9 3 1 13 12 11 14 2 6 5 10 4 0 15 8 |
| 4 | 9 0 5 7 2 4 10 15 14 1 11 12 6 8 3 13 |
| 5 | 2 12 6 10 0 11 8 3 4 13 7 5 15 14 1 9 |
| 6 | 12 5 1 15 14 13 4 10 0 7 6 3 9 2 8 11 |
| 7 | 13 11 7 14 12 1 3 9 5 0 15 4 8 6 2 10 |
| 8 | 6 15 14 9 11 3 0 8 12 2 13 7 1 4 10 5 |
| 9 | 10 2 8 4 7 6 1 5 15 11 9 14 3 12 13 0 |`
)

// modulus is that of sums of words. The oracle computes with numbers of 64 bits, so that no sum wraps around unnoticed.
const modulus = 1 << 32

func startOfState() []uint64 {
	var h []uint64
	for _, s := range strings.Split(wantIV, ", ") {
		n, err := strconv.ParseUint(s, 16, 32)
		if err != nil {
			panic(err)
		}
		h = append(h, n)
	}
	return h
}

func rows() [][]int {
	var l [][]int
	for _, line := range strings.Split(wantRows, "\n") {
		var s []int
		for _, f := range strings.Fields(strings.Split(line, "|")[2]) {
			n, err := strconv.Atoi(f)
			if err != nil {
				panic(err)
			}
			s = append(s, n)
		}
		l = append(l, s)
	}
	return l
}

// rot is x rotated right by n bits: the lower n bits become the upper ones.
func rot(x uint64, n int) uint64 {
	p := uint64(1) << n
	return x/p + x%p*(modulus/p)
}

// wantMix is the mixing of the words of v with these indices.
func wantMix(v []uint64, a, b, c, d int, x, y uint64) {
	v[a] = (v[a] + v[b] + x) % modulus
	v[d] = rot(v[d]^v[a], 16)
	v[c] = (v[c] + v[d]) % modulus
	v[b] = rot(v[b]^v[c], 12)
	v[a] = (v[a] + v[b] + y) % modulus
	v[d] = rot(v[d]^v[a], 8)
	v[c] = (v[c] + v[d]) % modulus
	v[b] = rot(v[b]^v[c], 7)
}

// wantCompress is the compression; its counter may have any number of bits.
func wantCompress(h, m []uint64, t *big.Int, flag bool) []uint64 {
	upper, lower := new(big.Int).DivMod(t, big.NewInt(modulus), new(big.Int))
	v := append(append([]uint64{}, h...), startOfState()...)
	v[12] ^= lower.Uint64()
	v[13] ^= upper.Uint64()
	if flag {
		v[14] ^= 0xffffffff
	}
	for _, s := range rows() {
		for i := range 4 {
			wantMix(v, i, 4+i, 8+i, 12+i, m[s[2*i]], m[s[2*i+1]])
		}
		for i := range 4 {
			wantMix(v, i, 4+(i+1)%4, 8+(i+2)%4, 12+(i+3)%4, m[s[8+2*i]], m[s[9+2*i]])
		}
	}
	var result []uint64
	for i := range 8 {
		result = append(result, h[i]^v[i]^v[i+8])
	}
	return result
}

// wantDigest is the digest of b with a key of at most 32 bytes: all bytes are laid out, padded, and divided into blocks.
func wantDigest(key, b []byte) api.Digest {
	h := startOfState()
	h[0] ^= uint64(0x01010020 + 256*len(key))
	var all []byte
	if len(key) > 0 {
		all = append(append(all, key...), make([]byte, 64-len(key))...)
	}
	all = append(all, b...)
	counted := len(all)
	for len(all) == 0 || len(all)%64 != 0 {
		all = append(all, 0)
	}
	for end := 64; end <= len(all); end += 64 {
		var m []uint64
		for at := end - 64; at < end; at += 4 {
			m = append(m, uint64(all[at])+uint64(all[at+1])*256+uint64(all[at+2])*256*256+uint64(all[at+3])*256*256*256)
		}
		h = wantCompress(h, m, big.NewInt(int64(min(end, counted))), end == len(all))
	}
	var d api.Digest
	for i := range d {
		d[i] = byte(h[i/4] >> (i % 4 * 8))
	}
	return d
}
