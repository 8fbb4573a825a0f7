package codec_test

import (
	"bytes"
	"math/big"
	"slices"
	"strconv"
	"strings"
	"testing"

	"arrayarchive/api"
	"arrayarchive/codec"
	"arrayarchive/quantity"
)

var (
	nines     = strings.Repeat("9", 40)
	longest   = "-" + nines + "/" + strings.Repeat("9", 39) + "8"
	greatest  = []string{"127", "32767", "2147483647", "9223372036854775807"}
	least     = []string{"-128", "-32768", "-2147483648", "-9223372036854775808"}
	tooGreat  = []string{"128", "32768", "2147483648", "9223372036854775808"}
	tooLittle = []string{"-129", "-32769", "-2147483649", "-9223372036854775809"}
)

// P4.2

func TestPut(t *testing.T) {
	for _, c := range []struct {
		kind int
		vals []string
		want string
	}{
		{api.TypeI16, []string{"1", "", "-2"}, "\x05\x00\x01\x00\x00\xff\xfe"},
		{api.TypeI8, nil, ""}, {api.TypeNum, nil, ""}, {api.TypeI64, []string{}, ""},
		{api.TypeI8, []string{""}, "\x00\x00"}, {api.TypeI8, []string{"0"}, "\x01\x00"}, {api.TypeI8, []string{"-1"}, "\x01\xff"}, {api.TypeI8, []string{"127", "-128"}, "\x03\x7f\x80"},
		{api.TypeI16, []string{"258", "-32768", "32767"}, "\x07\x01\x02\x80\x00\x7f\xff"},
		{api.TypeI32, []string{"16909060", "-2147483648", "2147483647", "-1"}, "\x0f\x01\x02\x03\x04\x80\x00\x00\x00\x7f\xff\xff\xff\xff\xff\xff\xff"},
		{api.TypeI64, []string{"72623859790382856", "-9223372036854775808"}, "\x03\x01\x02\x03\x04\x05\x06\x07\x08\x80\x00\x00\x00\x00\x00\x00\x00"},
		{api.TypeI64, []string{"9223372036854775807", "", "-2"}, "\x05\x7f\xff\xff\xff\xff\xff\xff\xff\x00\x00\x00\x00\x00\x00\x00\x00\xff\xff\xff\xff\xff\xff\xff\xfe"},
		{api.TypeI8, []string{"", "", "", "", "", "", "", "", "7"}, "\x00\x01\x00\x00\x00\x00\x00\x00\x00\x00\x07"},
		{api.TypeI8, []string{"", "1", "", "1", "", "1", "", "1"}, "\xaa\x00\x01\x00\x01\x00\x01\x00\x01"},
		{api.TypeNum, []string{"1/2", "", "-3"}, "\x05\x031/2\x02-3"},
		{api.TypeNum, []string{"", "", ""}, "\x00"}, {api.TypeNum, []string{"0"}, "\x01\x010"},
		{api.TypeNum, []string{"", longest}, "\x02\x52" + longest},
	} {
		b, errno := codec.Put(c.kind, c.vals)
		checkResult(t, "Put", b, errno, []byte(c.want), api.OK)
		l, errno := codec.Get(c.kind, len(c.vals), []byte(c.want))
		checkValues(t, "Get", l, errno, c.vals, api.OK)
	}
}

func TestPutErrors(t *testing.T) {
	most, tooMany := make([]string, 4096), make([]string, 4097)
	wrong := append(slices.Clone(most), "x")
	for _, kind := range noTypes {
		for _, l := range [][]string{nil, {""}, {"x"}, tooMany, wrong} {
			b, errno := codec.Put(kind, l)
			checkResult(t, "Put", b, errno, nil, api.ErrArg)
		}
	}
	for _, kind := range types {
		for _, l := range [][]string{tooMany, wrong} {
			b, errno := codec.Put(kind, l)
			checkResult(t, "Put of too many values", b, errno, nil, api.ErrLimit)
		}
		b, errno := codec.Put(kind, most)
		checkResult(t, "Put of missing values", b, errno, make([]byte, 512+4096*codec.Width(kind)), api.OK)
		for _, x := range notValues {
			for _, l := range [][]string{{x}, {"1", "", x}, {x, "1"}} {
				b, errno := codec.Put(kind, l)
				checkResult(t, "Put of "+x, b, errno, nil, api.ErrValue)
			}
		}
	}
	for i, kind := range types[:4] {
		for _, x := range []string{tooGreat[i], tooLittle[i], "1/2", "-1/2", nines, "-" + nines} {
			b, errno := codec.Put(kind, []string{x})
			checkResult(t, "Put of "+x, b, errno, nil, api.ErrValue)
		}
		for _, x := range []string{greatest[i], least[i]} {
			if b, errno := codec.Put(kind, []string{x}); len(b) != 1+codec.Width(kind) || errno != api.OK {
				t.Errorf("Put of %s: %x, error %d", x, b, errno)
			}
		}
	}
}

func TestGetErrors(t *testing.T) {
	for _, kind := range noTypes {
		l, errno := codec.Get(kind, 1, nil)
		checkValues(t, "Get", l, errno, nil, api.ErrArg)
	}
	for _, kind := range types {
		for _, n := range []int{-1, 4097, -1 << 63, 1<<63 - 1} {
			for _, b := range [][]byte{nil, {1, 2}, make([]byte, 40000)} {
				l, errno := codec.Get(kind, n, b)
				checkValues(t, "Get", l, errno, nil, api.ErrArg)
			}
		}
		l, errno := codec.Get(kind, 4096, make([]byte, 512+4096*codec.Width(kind)))
		checkValues(t, "Get of the most values", l, errno, make([]string, 4096), api.OK)
	}
	for _, c := range []struct {
		kind, n int
		b       string
	}{
		{api.TypeI16, 2, "\x05\x00\x01\x00\x00\xff\xfe"}, {api.TypeI16, 4, "\x05\x00\x01\x00\x00\xff\xfe"}, {api.TypeI16, 3, ""},
		{api.TypeI16, 3, "\x05\x00\x01\x00\x00\xff"}, {api.TypeI16, 3, "\x05\x00\x01\x00\x00\xff\xfe\x00"}, {api.TypeI16, 3, "\x05"},
		{api.TypeI16, 3, "\x05\x00\x01\x00\x01\xff\xfe"},                                                   // a missing value that is not 0
		{api.TypeI16, 3, "\x0d\x00\x01\x00\x00\xff\xfe"}, {api.TypeI16, 3, "\x85\x00\x01\x00\x00\xff\xfe"}, // bits without values
		{api.TypeI8, 1, "\x03\x07"}, {api.TypeI8, 1, "\x00\x07"}, {api.TypeI8, 0, "\x00"}, {api.TypeI8, 0, "\x01"}, // and so on
		{api.TypeI8, 9, "\xff\x03\x01\x01\x01\x01\x01\x01\x01\x01\x01"}, {api.TypeI8, 9, "\xff"}, {api.TypeI8, 9, "\xff\x01"},
		{api.TypeNum, 1, "\x01"}, {api.TypeNum, 1, "\x01\x00"}, {api.TypeNum, 1, "\x01\x05"}, {api.TypeNum, 1, "\x01\x0512"}, {api.TypeNum, 1, "\x01\x01"}, {api.TypeNum, 1, "\x01\x0112"},
		{api.TypeNum, 1, "\x01\x032/2"}, {api.TypeNum, 1, "\x01\x0201"}, {api.TypeNum, 1, "\x01\x01x"}, {api.TypeNum, 1, "\x01\x02-0"}, {api.TypeNum, 1, "\x00\x00"}, {api.TypeNum, 1, "\x03\x011"}, {api.TypeNum, 1, ""},
		{api.TypeNum, 1, "\x01\xff" + strings.Repeat("1", 255)}, {api.TypeNum, 1, "\x01\x29" + strings.Repeat("1", 41)},
		{api.TypeNum, 2, "\x03\x011"}, {api.TypeNum, 2, "\x01\x011\x012"},
	} {
		l, errno := codec.Get(c.kind, c.n, []byte(c.b))
		checkValues(t, "Get of "+strconv.Quote(c.b), l, errno, nil, api.ErrBytes)
	}
}

// modelPut is Put with numbers of any length.
func modelPut(kind int, vals []string) []byte {
	out := make([]byte, (len(vals)+7)/8)
	for i, x := range vals {
		n, _ := new(big.Int).SetString(x, 10)
		if x != "" {
			out[i/8] += 1 << (i % 8)
		}
		switch {
		case kind != api.TypeNum && x == "":
			out = append(out, make([]byte, codec.Width(kind))...)
		case kind != api.TypeNum:
			if n.Sign() < 0 {
				n.Add(n, new(big.Int).Lsh(big.NewInt(1), uint(8*codec.Width(kind))))
			}
			out = append(out, n.FillBytes(make([]byte, codec.Width(kind)))...)
		case x != "":
			out = append(append(out, byte(len(x))), x...)
		}
	}
	return out
}

// P4.2 and P4.8: Get undoes Put.
func TestPutByModel(t *testing.T) {
	r := newRandom()
	for i := range 3000 {
		kind := types[i%5]
		l := someValues(r, kind, 30)
		b, errno := codec.Put(kind, l)
		checkResult(t, "Put", b, errno, modelPut(kind, l), api.OK)
		back, errno := codec.Get(kind, len(l), b)
		checkValues(t, "Get", back, errno, l, api.OK)
	}
}

// Get accepts the results of Put alone.
func TestGetAcceptsPutAlone(t *testing.T) {
	r := newRandom()
	accepted := 0
	for i := range 20000 {
		kind := types[i%5]
		l := someValues(r, kind, 12)
		b := modelPut(kind, l)
		if len(b) > 0 {
			at := r.IntN(len(b))
			switch r.IntN(3) {
			case 0:
				b[at] ^= 1 << r.IntN(8)
			case 1:
				b = slices.Delete(b, at, at+1)
			case 2:
				b = slices.Insert(b, at, byte(r.IntN(256)))
			}
		}
		got, errno := codec.Get(kind, len(l), b)
		if errno != api.OK {
			checkValues(t, "Get", got, errno, nil, api.ErrBytes)
			continue
		}
		accepted++
		if len(got) != len(l) || !bytes.Equal(modelPut(kind, got), b) {
			t.Fatalf("Get(%d, %d, %x) = %q", kind, len(l), b, got)
		}
	}
	if accepted < 1000 {
		t.Errorf("only %d were accepted", accepted)
	}
}

// P4.3

func TestRounded(t *testing.T) {
	for _, c := range []struct {
		kind       int
		step       string
		vals, want []string
	}{
		{api.TypeI8, "5", []string{"7", "8", "-8", ""}, []string{"5", "10", "-10", ""}},
		{api.TypeI8, "5", []string{"0", "2", "3", "-2", "-3", "127", "-127"}, []string{"0", "0", "5", "0", "-5", "125", "-125"}},
		{api.TypeI8, "2", []string{"1", "-1", "3", "-3"}, []string{"2", "0", "4", "-2"}}, // halves are rounded up
		{api.TypeI8, "1", []string{"127", "-128"}, []string{"127", "-128"}},
		{api.TypeI8, "1/2", []string{"127", "-128"}, []string{"127", "-128"}},
		{api.TypeI8, "7/2", []string{"7", "-7", "0"}, []string{"7", "-7", "0"}},
		{api.TypeI64, "10", []string{"9223372036854775804", "-9223372036854775805"}, []string{"9223372036854775800", "-9223372036854775800"}},
		{api.TypeI64, nines, []string{"9223372036854775807", "-1"}, []string{"0", "0"}},
		{api.TypeNum, "1/2", []string{"12", "1/3", "1/4", "-1/4"}, []string{"12", "1/2", "1/2", "0"}},
		{api.TypeNum, "3", []string{"5", "4", "9/2"}, []string{"6", "3", "6"}},
		{api.TypeNum, "1", []string{"7/2", "-7/2", longest}, []string{"4", "-3", "-1"}},
		{api.TypeNum, "1", nil, nil}, {api.TypeI8, "1", []string{"", ""}, []string{"", ""}},
	} {
		l, errno := codec.Rounded(c.kind, c.vals, c.step)
		checkValues(t, "Rounded", l, errno, c.want, api.OK)
	}
}

func TestRoundedErrors(t *testing.T) {
	tooMany, wrong := make([]string, 4097), append(make([]string, 4096), "x")
	for _, l := range [][]string{nil, {"1"}, {"x"}, tooMany, wrong} {
		for _, kind := range noTypes {
			for _, step := range []string{"1", "0", ""} {
				got, errno := codec.Rounded(kind, l, step)
				checkValues(t, "Rounded, no type", got, errno, nil, api.ErrArg)
			}
		}
		for _, kind := range types {
			for _, step := range notSteps {
				got, errno := codec.Rounded(kind, l, step)
				checkValues(t, "Rounded, step "+step, got, errno, nil, api.ErrArg)
			}
		}
	}
	for _, kind := range types {
		for _, l := range [][]string{tooMany, wrong} {
			got, errno := codec.Rounded(kind, l, "1")
			checkValues(t, "Rounded, too many values", got, errno, nil, api.ErrLimit)
		}
		got, errno := codec.Rounded(kind, make([]string, 4096), "1")
		checkValues(t, "Rounded, the most values", got, errno, make([]string, 4096), api.OK)
		for _, x := range notValues {
			got, errno := codec.Rounded(kind, []string{"1", "", x}, "1")
			checkValues(t, "Rounded "+x, got, errno, nil, api.ErrValue)
		}
	}
	for _, c := range []struct {
		kind    int
		x, step string
	}{
		{api.TypeI8, "128", "1"}, {api.TypeI8, "200", "1000"}, {api.TypeI8, "1/3", "1"}, // the value does not fit
		{api.TypeI8, "127", "10"}, {api.TypeI8, "1", "2/3"}, {api.TypeI8, "-128", "5"}, {api.TypeI8, "-128", "3"}, {api.TypeI64, "9223372036854775807", "2"}, {api.TypeI64, "9223372036854775805", "10"}, // the rounded one does not
		{api.TypeNum, nines, "10"}, {api.TypeNum, "-" + nines, "6" + strings.Repeat("0", 39)}, // Round of it is missing
	} {
		got, errno := codec.Rounded(c.kind, []string{"0", c.x}, c.step)
		checkValues(t, "Rounded "+c.x, got, errno, nil, api.ErrValue)
	}
}

func TestRoundedByModel(t *testing.T) {
	r := newRandom()
	for i := range 3000 {
		kind, step := types[i%5], pick(r, positives)
		l := someValues(r, kind, 10)
		want, wantErrno := make([]string, len(l)), api.OK
		for i, x := range l {
			if want[i] = quantity.Round(x, step); !quantity.Fits(kind, want[i]) || x != "" && want[i] == "" {
				wantErrno = api.ErrValue
			}
		}
		if wantErrno != api.OK {
			want = nil
		}
		got, errno := codec.Rounded(kind, l, step)
		checkValues(t, "Rounded", got, errno, want, wantErrno)
	}
}

// R4: values are not changed, and results are new.
func TestValuesAreCopied(t *testing.T) {
	vals := []string{"7", "", "8"}
	got, _ := codec.Rounded(api.TypeI8, vals, "1")
	got[0] = "1"
	if vals[0] != "7" {
		t.Error("a result lies in the memory of the argument")
	}
	got, _ = codec.Rounded(api.TypeI8, vals, "5")
	if !slices.Equal(vals, []string{"7", "", "8"}) || !slices.Equal(got, []string{"5", "", "10"}) {
		t.Errorf("Rounded(%q) = %q", vals, got)
	}
	b := []byte("\x05\x031/2\x02-3")
	got, _ = codec.Get(api.TypeNum, 3, b)
	clear(b)
	if !slices.Equal(got, []string{"1/2", "", "-3"}) {
		t.Errorf("Get keeps its argument: %q", got)
	}
}
