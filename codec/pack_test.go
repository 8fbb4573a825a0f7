package codec_test

import (
	"bytes"
	"math/big"
	"slices"
	"strconv"
	"strings"
	"testing"

	"arrayarchive/api"
	"arrayarchive/codec"
)

// P4.5

func TestPack(t *testing.T) {
	for _, c := range []struct {
		n       int
		b, want string
	}{
		{1, "\x07\x09\x08", "\x00\x00\x00\x03\x07\x02\x24"},
		{2, "\x01\x02\x03", "\x00\x00\x00\x01\x01\x02\x00\x03"},
		{4, "abc", "\x00\x00\x00\x00abc"},
		{1, "", "\x00\x00\x00\x00"},
		{8, "", "\x00\x00\x00\x00"},
		{1, "\x00\xff", "\x00\x00\x00\x02\x00\x08\x00\xff"},
		{1, "\x03\x03\x03\x03", "\x00\x00\x00\x04\x03\x00"},
		{1, "\x03\x04\x03\x03\x03\x03\x03\x03\x04", "\x00\x00\x00\x09\x03\x01\x40\x80"},
		{1, "\x03\x04\x03\x03\x03\x03\x03\x04", "\x00\x00\x00\x08\x03\x01\x41"},
		{2, "\x00\xff\x01\x00\x09", "\x00\x00\x00\x02\x00\xff\x01\x40\x09"},
		{3, "\x00\x00\x00\x00\x01\x00xy", "\x00\x00\x00\x02\x00\x00\x00\x09\x00\x40\x00xy"},
		{8, "\x00\x00\x00\x00\x00\x00\x00\x00\xff\xff\xff\xff\xff\xff\xff\xff", "\x00\x00\x00\x02\x00\x00\x00\x00\x00\x00\x00\x00\x40\x00\x00\x00\x00\x00\x00\x00\x00\xff\xff\xff\xff\xff\xff\xff\xff"},
		{8, "\xff\xff\xff\xff\xff\xff\xff\xff\xff\xff\xff\xff\xff\xff\xff\xfeabc", "\x00\x00\x00\x02\xff\xff\xff\xff\xff\xff\xff\xfe\x01\x80abc"},
	} {
		b, errno := codec.Pack([]byte(c.b), c.n)
		checkResult(t, "Pack", b, errno, []byte(c.want), api.OK)
		b, errno = codec.Unpack([]byte(c.want), c.n)
		checkResult(t, "Unpack", b, errno, []byte(c.b), api.OK)
	}
}

// modelPack is Pack with numbers of any length, and bits as a text.
func modelPack(b []byte, n int) []byte {
	count := len(b) / n
	out := []byte{byte(count >> 24), byte(count >> 16), byte(count >> 8), byte(count)}
	if count == 0 {
		return append(out, b...)
	}
	var l []*big.Int
	for group := range slices.Chunk(b[:count*n], n) {
		l = append(l, new(big.Int).SetBytes(group))
	}
	least := slices.MinFunc(l, (*big.Int).Cmp)
	width := new(big.Int).Sub(slices.MaxFunc(l, (*big.Int).Cmp), least).BitLen()
	out = append(out, least.FillBytes(make([]byte, n))...)
	out = append(out, byte(width))
	text := ""
	for _, x := range l {
		digits := new(big.Int).Sub(x, least).Text(2)
		if width > 0 {
			text += strings.Repeat("0", width-len(digits)) + digits
		}
	}
	for len(text)%8 != 0 {
		text += "0"
	}
	for ; text != ""; text = text[8:] {
		c, _ := strconv.ParseUint(text[:8], 2, 8)
		out = append(out, byte(c))
	}
	return append(out, b[count*n:]...)
}

func TestPackByModel(t *testing.T) {
	r := newRandom()
	for i := range 4000 {
		b, n := someBytes(r, 60), sizes[i%8]
		got, errno := codec.Pack(b, n)
		checkResult(t, "Pack", got, errno, modelPack(b, n), api.OK)
	}
}

func TestUnpackErrors(t *testing.T) {
	for _, s := range []string{
		"", "\x00", "\x00\x00\x00", // no number of groups
		"\x00\x00\x00\x00a", "\x00\x00\x00\x01", "\x00\x00\x00\x01\x07", // too many bytes behind, no least number, no width
		"\x00\x00\x00\x03\x07\x02", "\x00\x00\x00\x09\x07\x01\x40", // too few bits
		"\x00\x00\x00\x03\x07\x02\x24\x00", "\x00\x00\x00\x03\x07\x02\x24\x24", // a byte more
		"\x00\x00\x00\x03\x07\x02\x27", "\x00\x00\x00\x03\x07\x02\x25", "\x00\x00\x00\x03\x07\x02\x26", // a bit that is not used
		"\x00\x00\x00\x03\x07\x03\x05\x00",                                                             // more bits than needed
		"\x00\x00\x00\x03\x07\x02\x64", "\x00\x00\x00\x01\x07\x01\x80", "\x00\x00\x00\x01\x07\x01\x00", // 7 is not the least number
		"\x00\x00\x00\x03\xff\x02\x24",                                                                                                             // 255 + 2 is too great
		"\x00\x00\x00\x01\x07\x41", "\x00\x00\x00\x01\x07\x40", "\x00\x00\x00\x01\x07\xff", "\x00\x00\x00\x01\x07\x41" + strings.Repeat("\x00", 9), // a width that no byte has
		"\xff\xff\xff\xff\x07\x00", "\x80\x00\x00\x00\x07\x00", "\x00\x10\x00\x01\x07\x00", // more than 2^20 bytes
	} {
		b, errno := codec.Unpack([]byte(s), 1)
		checkResult(t, strconv.Quote(s), b, errno, nil, api.ErrBytes)
	}
	for _, c := range []struct {
		n    int
		s    string
		want api.Errno
	}{
		{1, "\x00\x10\x00\x00\x07\x00", api.OK}, {8, "\x00\x02\x00\x00\x07\x07\x07\x07\x07\x07\x07\x07\x00", api.OK},
		{8, "\x00\x02\x00\x01\x07\x07\x07\x07\x07\x07\x07\x07\x00", api.ErrBytes}, {8, "\x00\x02\x00\x00\x07\x07\x07\x07\x07\x07\x07\x07\x00a", api.ErrBytes},
		{3, "\x00\x05\x55\x55\x07\x07\x07\x00a", api.OK}, {3, "\x00\x05\x55\x55\x07\x07\x07\x00ab", api.ErrBytes}, {3, "\x00\x05\x55\x56\x07\x07\x07\x00", api.ErrBytes},
		{2, "\x00\x00\x00\x01\x07\x07\x00a", api.OK}, {2, "\x00\x00\x00\x01\x07\x07\x00ab", api.ErrBytes},
	} {
		b, errno := codec.Unpack([]byte(c.s), c.n)
		if errno != c.want || (len(b) > 0) != (errno == api.OK) {
			t.Errorf("Unpack(%x, %d): %d bytes, error %d", c.s, c.n, len(b), errno)
		}
	}
}

// Unpack accepts the results of Pack alone: all those of at most two bytes, and none that is one of them with a byte changed, taken away or added.
func TestUnpackAcceptsPackedBytesAlone(t *testing.T) {
	for _, n := range []int{1, 2, 3} {
		packed := map[string]bool{}
		var all [][]byte
		for i := range 1 << 16 {
			b := []byte{byte(i >> 8), byte(i)}
			for _, b := range [][]byte{b, b[:1], b[:0]} {
				code, _ := codec.Pack(b, n)
				if !packed[string(code)] {
					packed[string(code)] = true
					all = append(all, code)
				}
			}
		}
		check := func(code []byte) {
			b, errno := codec.Unpack(code, n)
			switch {
			case errno == api.ErrBytes && len(b) == 0 && !packed[string(code)]:
			case errno == api.OK && len(b) <= 2 && packed[string(code)]:
			case errno == api.OK && len(b) > 2: // it is the Pack of more bytes
				if again, _ := codec.Pack(b, n); !bytes.Equal(again, code) {
					t.Fatalf("Unpack(%x, %d) = %x, whose Pack is %x", code, n, b, again)
				}
			default:
				t.Fatalf("Unpack(%x, %d) = %x, error %d", code, n, b, errno)
			}
		}
		r := newRandom()
		for range 2000 {
			code := pick(r, all)
			check(code)
			for i := range code {
				c := slices.Clone(code)
				c[i] ^= 1 << r.IntN(8)
				check(c)
				check(slices.Delete(slices.Clone(code), i, i+1))
				check(slices.Insert(slices.Clone(code), i, byte(r.IntN(3))))
			}
		}
	}
}
