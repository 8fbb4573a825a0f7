package codec_test

import (
	"bytes"
	"math"
	"math/rand/v2"
	"slices"
	"strconv"
	"strings"
	"testing"

	"arrayarchive/api"
	"arrayarchive/codec"
)

var (
	types     = []int{api.TypeI8, api.TypeI16, api.TypeI32, api.TypeI64, api.TypeNum}
	noTypes   = []int{math.MinInt, -1, 0, 6, 7, math.MaxInt}
	sizes     = []int{1, 2, 3, 4, 5, 6, 7, 8}
	noSizes   = []int{math.MinInt, -8, -1, 0, 9, 1 << 20, math.MaxInt}
	positives = []string{"1", "1/2", "5", "2/3", "100", "7/5"}
	notSteps  = []string{"", "0", "-1", "-1/2", "x", "1.5", "2/4", "01", " 1", "1 ", "+1", "1/0", strings.Repeat("9", 41), "1/" + strings.Repeat("9", 41)}
	notValues = []string{"x", "-0", "01", "1.0", "2/4", "4/2", "1/1", "1/0", "+1", " ", "1 ", "-", "/", "1/-2", "\x00", strings.Repeat("1", 41), "1/1" + strings.Repeat("0", 40), strings.Repeat("1", 5000)}
)

const maxBytes = 1 << 20

func newRandom() *rand.Rand {
	return rand.New(rand.NewPCG(4, 44))
}

func pick[T any](r *rand.Rand, l []T) T {
	return l[r.IntN(len(l))]
}

// someBytes returns at most so many bytes: any ones, or few different ones, or numbers that increase slowly.
func someBytes(r *rand.Rand, most int) []byte {
	b := make([]byte, r.IntN(most+1))
	way, letters := r.IntN(3), 1+r.IntN(3)
	for i := range b {
		switch way {
		case 0:
			b[i] = byte(r.IntN(256))
		case 1:
			b[i] = byte(r.IntN(letters))
		case 2:
			b[i] = byte(i / 7 * (i % 2))
		}
	}
	return b
}

// someValues returns values of a type, so that rounding them by a step from positives does not leave the type.
func someValues(r *rand.Rand, kind, most int) []string {
	l := make([]string, r.IntN(most+1))
	for i := range l {
		n := r.Int64N(1<<(8*max(codec.Width(kind), 1)-2)) >> r.IntN(40)
		if r.IntN(2) == 0 {
			n = -n
		}
		if codec.Width(kind) == 1 {
			n /= 4
		}
		switch r.IntN(4) {
		case 0:
		case 1:
			l[i] = "0"
			if kind == api.TypeNum {
				l[i] = pick(r, []string{"1/2", "-7/3", "123456789012345678901234567890/11", "-99999999999999999999999999999/1000000000000000000000"})
			}
		default:
			l[i] = strconv.FormatInt(n, 10)
		}
	}
	return l
}

// checkResult checks bytes and an error code; with an error there are no bytes.
func checkResult(t *testing.T, name string, b []byte, errno api.Errno, want []byte, wantErrno api.Errno) {
	t.Helper()
	if errno != wantErrno || !bytes.Equal(b, want) {
		t.Errorf("%.200s: %.100x, error %d, want %.100x, error %d", name, b, errno, want, wantErrno)
	}
}

// checkValues does the same for values.
func checkValues(t *testing.T, name string, l []string, errno api.Errno, want []string, wantErrno api.Errno) {
	t.Helper()
	if errno != wantErrno || !slices.Equal(l, want) {
		t.Errorf("%.200s: %.200q, error %d, want %.200q, error %d", name, l, errno, want, wantErrno)
	}
}

// a coder is a function on bytes in groups.
type coder func(b []byte, n int) ([]byte, api.Errno)

// withoutGroups makes a coder of a function on bytes.
func withoutGroups(f func(b []byte) ([]byte, api.Errno)) coder {
	return func(b []byte, n int) ([]byte, api.Errno) { return f(b) }
}

// coders returns the functions that code and those that undo them, by name.
func coders() map[string][2]coder {
	return map[string][2]coder{
		"Delta":   {codec.Delta, codec.Undelta},
		"Shuffle": {codec.Shuffle, codec.Unshuffle},
		"Pack":    {codec.Pack, codec.Unpack},
		"Dict":    {withoutGroups(codec.Dict), withoutGroups(codec.Undict)},
	}
}

// P4.8

func TestInverse(t *testing.T) {
	r := newRandom()
	for name, c := range coders() {
		for i := range 2000 {
			b, n := someBytes(r, 300), sizes[i%8]
			code, errno := c[0](b, n)
			if errno != api.OK {
				t.Fatalf("%s(%x, %d): error %d", name, b, n, errno)
			}
			back, errno := c[1](code, n)
			checkResult(t, name+" undone", back, errno, b, api.OK)
		}
	}
}

// Any bytes are the Delta, and the Shuffle, of others.
func TestInverseOfAnyBytes(t *testing.T) {
	r := newRandom()
	for _, name := range []string{"Delta", "Shuffle"} {
		c := coders()[name]
		for i := range 2000 {
			b, n := someBytes(r, 100), sizes[i%8]
			back, errno := c[1](b, n)
			if errno != api.OK || len(back) != len(b) {
				t.Fatalf("%s undone (%x, %d): %x, error %d", name, b, n, back, errno)
			}
			again, errno := c[0](back, n)
			checkResult(t, name+" of it undone", again, errno, b, api.OK)
		}
	}
}

// R4: arguments are not changed, and results have memory of their own.
func TestMemory(t *testing.T) {
	r := newRandom()
	for name, c := range coders() {
		for i := range 200 {
			n := sizes[i%8]
			b := someBytes(r, 40)
			code, _ := c[0](b, n)
			for _, f := range []struct {
				coder
				b []byte
			}{{c[0], b}, {c[1], code}} {
				// A capacity that is greater than the length must not be used.
				padded := append(slices.Clone(f.b), "0123456789abcdef"...)
				arg := padded[:len(f.b)]
				out, _ := f.coder(arg, n)
				want := slices.Clone(out)
				if !bytes.Equal(arg, f.b) || string(padded[len(arg):]) != "0123456789abcdef" {
					t.Fatalf("%s: an argument is changed", name)
				}
				for j := range arg {
					arg[j]++
				}
				if !bytes.Equal(out, want) {
					t.Fatalf("%s: a result lies in the memory of the argument", name)
				}
			}
		}
	}
}

// R1: bytes of any length are coded quickly, also where much is the same.
func TestManyBytes(t *testing.T) {
	r := newRandom()
	for _, next := range []func(i int) byte{
		func(i int) byte { return 0 },
		func(i int) byte { return byte(i % 3) },
		func(i int) byte { return byte(r.IntN(256)) },
		func(i int) byte { return byte(i / 61 * 7 * (i % 61 / 60)) },
		func(i int) byte { return byte(i >> 3 >> (8 * (7 - i%8))) },
		func(i int) byte { return byte(r.IntN(256) * (i % 8 / 7)) },
	} {
		b := make([]byte, maxBytes)
		for i := range b {
			b[i] = next(i)
		}
		for _, n := range []int{1, 8} {
			for _, name := range []string{"Delta", "Shuffle", "Pack"} {
				c := coders()[name]
				code, errno := c[0](b, n)
				if errno != api.OK {
					t.Fatalf("%s: error %d", name, errno)
				}
				if len(code) > maxBytes {
					_, errno := c[1](code, n)
					if errno != api.ErrLimit {
						t.Errorf("%s undone of %d bytes: error %d", name, len(code), errno)
					}
					continue
				}
				back, errno := c[1](code, n)
				checkResult(t, name, back, errno, b, api.OK)
			}
		}
		code, errno := codec.Dict(b)
		if errno != api.OK || len(code) > maxBytes+maxBytes/128 {
			t.Errorf("Dict: %d bytes, error %d", len(code), errno)
		}
		back, errno := codec.Undict(code)
		checkResult(t, "Dict", back, errno, b, api.OK)
	}
}
