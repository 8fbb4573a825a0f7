package codec_test

import (
	"bytes"
	"slices"
	"strings"
	"testing"

	"arrayarchive/api"
	"arrayarchive/codec"
)

// count returns so many bytes in which no list of four is found twice.
func count(n int) []byte {
	var b []byte
	for i := 0; len(b) < n; i++ {
		b = append(b, byte(i>>8), byte(i), byte(i>>8)+128)
	}
	return b[:n]
}

// P4.6

func TestDict(t *testing.T) {
	zeros := func(n int) string { return strings.Repeat("\x00", n) }
	for _, c := range [][2]string{
		{"", ""},
		{"a", "\x00a"},
		{"abc", "\x02abc"},
		{"\x01\x01\x01\x01\x01\x01\x01\x01", "\x00\x01\x83\x00\x01"}, // it reaches beyond the place
		{"aaaa", "\x03aaaa"}, {"aaaaa", "\x00a\x80\x00\x01"},
		{"abcabc", "\x05abcabc"}, {"abcdabcd", "\x03abcd\x80\x00\x04"}, {"abcdabc", "\x06abcdabc"},
		{"abcabcabcabc", "\x02abc\x85\x00\x03"},
		{"abcdXabcdYabcd", "\x04abcdX\x80\x00\x05\x00Y\x80\x00\x05"},          // the nearest of two
		{"abcdeXabcdYabcde", "\x05abcdeX\x80\x00\x06\x00Y\x81\x00\x0b"},       // a longer one that is farther
		{"abcdeXabcdYabcdeZ", "\x05abcdeX\x80\x00\x06\x00Y\x81\x00\x0b\x00Z"}, // and a byte behind it
		{"0abcd1abcd0abcd1", "\x050abcd1\x80\x00\x05\x82\x00\x0a"},
		{"a" + strings.Repeat("a", 131), "\x00a\xff\x00\x01"},
		{strings.Repeat("a", 133), "\x00a\xff\x00\x01\x00a"},
		{strings.Repeat("a", 136), "\x00a\xff\x00\x01\x80\x00\x01"},
		{"abcd" + zeros(65531) + "abcd", "\x04abcd\x00" + strings.Repeat("\xff\x00\x01", 500) + "\x9a\x00\x01\x80\xff\xff"},
		{"abcd" + zeros(65532) + "abcd", "\x04abcd\x00" + strings.Repeat("\xff\x00\x01", 500) + "\x9b\x00\x01\x03abcd"},
	} {
		b, errno := codec.Dict([]byte(c[0]))
		checkResult(t, "Dict", b, errno, []byte(c[1]), api.OK)
		b, errno = codec.Undict([]byte(c[1]))
		checkResult(t, "Undict", b, errno, []byte(c[0]), api.OK)
	}
}

// A token of plain bytes has at most 128.
func TestDictPlain(t *testing.T) {
	for _, n := range []int{1, 127, 128, 129, 255, 256, 257, 1000} {
		var want []byte
		b := count(n)
		for part := range slices.Chunk(b, 128) {
			want = append(want, byte(len(part)-1))
			want = append(want, part...)
		}
		got, errno := codec.Dict(b)
		checkResult(t, "Dict", got, errno, want, api.OK)
		// The same behind a token of the other kind.
		got, errno = codec.Dict(append([]byte("~~~~~~~"), b...))
		checkResult(t, "Dict", got, errno, append([]byte("\x00~\x82\x00\x01"), want...), api.OK)
	}
}

// modelDict is Dict by plain search.
func modelDict(b []byte) []byte {
	var out, plain []byte
	flush := func() {
		for len(plain) > 0 {
			n := min(len(plain), 128)
			out = append(out, byte(n-1))
			out = append(out, plain[:n]...)
			plain = plain[n:]
		}
	}
	for at := 0; at < len(b); {
		length, distance := 0, 0
		for d := 1; d <= min(at, 65535); d++ {
			n := 0
			for n < 131 && at+n < len(b) && b[at+n] == b[at+n-d] {
				n++
			}
			if n > length {
				length, distance = n, d
			}
			if n == min(131, len(b)-at) {
				break
			}
		}
		if length < 4 {
			plain = append(plain, b[at])
			at++
			continue
		}
		flush()
		out = append(out, byte(128+length-4), byte(distance/256), byte(distance%256))
		at += length
	}
	flush()
	return out
}

func TestDictByModel(t *testing.T) {
	r := newRandom()
	for i := range 3000 {
		b := someBytes(r, 1+i%700)
		got, errno := codec.Dict(b)
		checkResult(t, "Dict", got, errno, modelDict(b), api.OK)
	}
	// Words of which many begin in the same way.
	words := []string{"abcd", "abcde", "abcdef", "abcdx", "bcde", "0000", "00000001", strings.Repeat("0", 60), strings.Repeat("ab", 70), "x", "yz"}
	for range 500 {
		var b []byte
		for range r.IntN(60) {
			b = append(b, pick(r, words)...)
		}
		got, errno := codec.Dict(b)
		checkResult(t, "Dict", got, errno, modelDict(b), api.OK)
	}
}

// The greatest distance is used, and no greater one: of two lists of bytes, many zeros are between them.
func TestDictFarByModel(t *testing.T) {
	r := newRandom()
	for range 3 {
		b := append(count(2000), make([]byte, 68000)...)
		for range 30 {
			from, to, n := r.IntN(1800), 65000+r.IntN(4000), r.IntN(200)
			copy(b[to:to+n], b[from:from+n])
		}
		got, errno := codec.Dict(b)
		checkResult(t, "Dict", got, errno, modelDict(b), api.OK)
	}
}

func TestUndict(t *testing.T) {
	for _, c := range [][2]string{
		{"\x00a\x00b", "ab"}, // tokens that Dict does not make
		{"\x00a\x80\x00\x01\x80\x00\x01", "aaaaaaaaa"},
		{"\x03abcd\x80\x00\x02", "abcdcdcd"},
		{"\x7f" + strings.Repeat("a", 128), strings.Repeat("a", 128)},
		{"\x01ab\xff\x00\x02", strings.Repeat("ab", 66) + "a"},
	} {
		b, errno := codec.Undict([]byte(c[0]))
		checkResult(t, "Undict", b, errno, []byte(c[1]), api.OK)
	}
	for _, s := range []string{
		"\x80\x00\x01", "\x80\x00\x00", "\xff\xff\xff", // nothing is in front of it
		"\x00", "\x05a", "\x7f" + strings.Repeat("a", 127), "\x00a\x01b", // too few plain bytes
		"\x00a\x80\x00\x00", "\x00a\x80\x00\x02", "\x00a\x80\x01\x01", "\x03abcd\x80\x00\x05", // distances
		"\x80", "\x00a\x80", "\x00a\x80\x00", "\x00a\xff\x00", // a token that ends too early
		"\x00a\x80\x00\x01\x80\x00", "\x00a\x80\x00\x02\x80\x00\x01",
	} {
		b, errno := codec.Undict([]byte(s))
		checkResult(t, "Undict", b, errno, nil, api.ErrBytes)
	}
}

// full are tokens that stand for 2^20 bytes less some, which are from 4 on.
func full(less int) []byte {
	b := append([]byte{0, 7}, bytes.Repeat([]byte{255, 0, 1}, 8003)...)
	left := maxBytes - 1 - 8003*131 - less
	for ; left > 0; left-- {
		b = append(b, 0, 7)
	}
	return b
}

func TestDictLimits(t *testing.T) {
	if _, errno := codec.Dict(make([]byte, maxBytes)); errno != api.OK {
		t.Errorf("Dict of 2^20 bytes: error %d", errno)
	}
	for _, n := range []int{maxBytes + 1, 1 << 22} {
		b, errno := codec.Dict(make([]byte, n))
		checkResult(t, "Dict", b, errno, nil, api.ErrLimit)
	}
	for _, c := range []struct {
		less int
		then string
		want api.Errno
	}{
		{0, "", api.OK}, {0, "\x00a", api.ErrLimit}, {0, "\x80\x00\x01", api.ErrLimit},
		{4, "\x80\x00\x01", api.OK}, {4, "\x03abcd", api.OK}, {4, "\x81\x00\x01", api.ErrLimit}, {4, "\x04abcde", api.ErrLimit}, {3, "\x80\x00\x01", api.ErrLimit},
		// The first token that is wrong or too long counts.
		{4, "\x80\x00\x00\x00a", api.ErrBytes}, {4, "\x80\x00\x00" + strings.Repeat("\x80\x00\x01", 3), api.ErrBytes}, {4, "\x81\x00\x01\x80\x00\x00", api.ErrLimit}, {4, "\x04abcde\x05", api.ErrLimit},
		// A token that is both is too long.
		{4, "\x04a", api.ErrLimit}, {4, "\x81\x00\x00", api.ErrLimit}, {4, "\x81", api.ErrLimit}, {0, "\x00", api.ErrLimit},
		{4, "\x03a", api.ErrBytes}, {4, "\x80\x00\x00", api.ErrBytes}, {4, "\x80", api.ErrBytes}, {4, "\x80\x00", api.ErrBytes},
	} {
		b, errno := codec.Undict(append(full(c.less), c.then...))
		if errno != c.want || errno == api.OK && len(b) != maxBytes || errno != api.OK && len(b) != 0 {
			t.Errorf("Undict behind all bytes but %d, %q: %d bytes, error %d", c.less, c.then, len(b), errno)
		}
	}
	// The tokens themselves may be more.
	b, errno := codec.Undict(bytes.Repeat([]byte{0, 1}, maxBytes))
	checkResult(t, "Undict of many tokens", b, errno, bytes.Repeat([]byte{1}, maxBytes), api.OK)
	b, errno = codec.Undict(append([]byte{128, 0, 1}, bytes.Repeat([]byte{0, 1}, maxBytes+1)...))
	checkResult(t, "Undict of a wrong token in front", b, errno, nil, api.ErrBytes)
}

// P4.11
func TestLengthsOfDict(t *testing.T) {
	r := newRandom()
	check := func(b []byte) {
		code, errno := codec.Dict(b)
		if most := len(b) + (len(b)+127)/128; len(code) > most || errno != api.OK {
			t.Errorf("Dict of %d bytes: %d bytes, error %d", len(b), len(code), errno)
		}
	}
	for n := range 600 {
		check(count(n))
		check(someBytes(r, n))
	}
	// Plain bytes, a short list that is found again, plain bytes, and so on.
	for gap := range 130 {
		b := []byte("abcd")
		for at := 0; at < 2000; at += gap + 1 {
			b = append(b, count(at + gap)[at:]...)
			b = append(b, "abcd"...)
		}
		check(b)
	}
}
