package codec_test

import (
	"math/big"
	"slices"
	"testing"

	"arrayarchive/api"
	"arrayarchive/codec"
)

// P4.4

func TestGroups(t *testing.T) {
	for _, c := range []struct {
		name    string
		n       int
		b, want string
	}{
		{"Delta", 1, "\x05\x07\x06", "\x05\x02\xff"},
		{"Delta", 1, "", ""},
		{"Delta", 1, "\x09", "\x09"},
		{"Delta", 1, "\x00\xff\x00", "\x00\xff\x01"},
		{"Delta", 2, "\x09", "\x09"},
		{"Delta", 2, "\x01\x00\x00\xff", "\x01\x00\xff\xff"},
		{"Delta", 2, "\x00\xff\x01\x00\x00\x00\x09", "\x00\xff\x00\x01\xff\x00\x09"},
		{"Delta", 3, "\x00\x00\x01\xff\xff\xff\x00\x00\x00ab", "\x00\x00\x01\xff\xff\xfe\x00\x00\x01ab"},
		{"Delta", 8, "\x80\x00\x00\x00\x00\x00\x00\x00\x00\x00\x00\x00\x00\x00\x00\x01abcdefg", "\x80\x00\x00\x00\x00\x00\x00\x00\x80\x00\x00\x00\x00\x00\x00\x01abcdefg"},
		{"Delta", 8, "\x00\x00\x00\x00\x00\x00\x00\x01\x00\x00\x00\x00\x00\x00\x00\x00", "\x00\x00\x00\x00\x00\x00\x00\x01\xff\xff\xff\xff\xff\xff\xff\xff"},
		{"Delta", 8, "abcdefg", "abcdefg"},
		{"Shuffle", 1, "abc", "abc"},
		{"Shuffle", 2, "\x01\x02\x03\x04\x05", "\x01\x03\x02\x04\x05"},
		{"Shuffle", 2, "", ""},
		{"Shuffle", 2, "a", "a"},
		{"Shuffle", 3, "abcdefgh", "adbecfgh"},
		{"Shuffle", 4, "abcdABCD1234", "aA1bB2cC3dD4"},
		{"Shuffle", 8, "abcdefghABCDEFGH1234567", "aAbBcCdDeEfFgGhH1234567"},
		{"Shuffle", 8, "abcdefg", "abcdefg"},
	} {
		f := coders()[c.name]
		b, errno := f[0]([]byte(c.b), c.n)
		checkResult(t, c.name, b, errno, []byte(c.want), api.OK)
		b, errno = f[1]([]byte(c.want), c.n)
		checkResult(t, c.name+" undone", b, errno, []byte(c.b), api.OK)
	}
}

// modelDelta is Delta with numbers of any length.
func modelDelta(b []byte, n int) []byte {
	modulus := new(big.Int).Lsh(big.NewInt(1), uint(8*n))
	out := slices.Clone(b)
	for at := n; at+n <= len(b); at += n {
		x := new(big.Int).SetBytes(b[at : at+n])
		x.Sub(x, new(big.Int).SetBytes(b[at-n:at]))
		x.Mod(x, modulus).FillBytes(out[at : at+n])
	}
	return out
}

// modelShuffle is Shuffle by lists of the first bytes, the second ones, and so on.
func modelShuffle(b []byte, n int) []byte {
	lists := make([][]byte, n+1)
	for i, c := range b {
		column := i % n
		if i >= len(b)/n*n {
			column = n
		}
		lists[column] = append(lists[column], c)
	}
	return slices.Concat(lists...)
}

func TestGroupsByModel(t *testing.T) {
	r := newRandom()
	for i := range 4000 {
		b, n := someBytes(r, 60), sizes[i%8]
		got, errno := codec.Delta(b, n)
		checkResult(t, "Delta", got, errno, modelDelta(b, n), api.OK)
		got, errno = codec.Shuffle(b, n)
		checkResult(t, "Shuffle", got, errno, modelShuffle(b, n), api.OK)
	}
}

// P4.4 and P4.5: the errors, in their order.
func TestGroupErrors(t *testing.T) {
	most, tooMany := make([]byte, maxBytes), make([]byte, maxBytes+1)
	for _, name := range []string{"Delta", "Shuffle", "Pack"} {
		for _, f := range coders()[name] {
			for _, n := range noSizes {
				for _, b := range [][]byte{nil, {0, 0, 0, 0}, {1}, tooMany} {
					out, errno := f(b, n)
					checkResult(t, name, out, errno, nil, api.ErrArg)
				}
			}
			for _, n := range sizes {
				out, errno := f(tooMany, n)
				checkResult(t, name, out, errno, nil, api.ErrLimit)
			}
		}
	}
	for _, f := range []coder{codec.Delta, codec.Undelta, codec.Shuffle, codec.Unshuffle} {
		for _, n := range []int{1, 3, 8} {
			out, errno := f(most, n)
			checkResult(t, "the most bytes", out, errno, most, api.OK)
		}
	}
}

// P4.11
func TestLengthsOfGroups(t *testing.T) {
	r := newRandom()
	for range 500 {
		b := someBytes(r, 100)
		for _, n := range sizes {
			for _, name := range []string{"Delta", "Shuffle"} {
				if out, errno := coders()[name][0](b, n); len(out) != len(b) || errno != api.OK {
					t.Errorf("%s of %d bytes: %d, error %d", name, len(b), len(out), errno)
				}
			}
		}
	}
}
