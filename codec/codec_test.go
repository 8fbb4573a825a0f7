package codec_test

import (
	"bytes"
	"encoding/binary"
	"hash/crc32"
	"math/rand/v2"
	"slices"
	"strings"
	"testing"

	"arrayarchive/api"
	"arrayarchive/codec"
	"arrayarchive/quantity"
)

var (
	delta   = api.Stage{Kind: api.StageDelta, N: 2}
	shuffle = api.Stage{Kind: api.StageShuffle, N: 2}
	pack    = api.Stage{Kind: api.StagePack, N: 1}
	dict    = api.Stage{Kind: api.StageDict}
)

func rounding(step string) api.Stage {
	return api.Stage{Kind: api.StageRound, Step: step}
}

// badPipelines are valid for no type.
func badPipelines() [][]api.Stage {
	l := [][]api.Stage{
		{dict, rounding("1")}, {rounding("1"), rounding("1")}, {delta, shuffle, pack, rounding("1")},
		{dict, dict, dict, dict, dict}, {rounding("1"), dict, dict, dict, dict}, slices.Repeat([]api.Stage{dict}, 1000),
		{{}}, {{Kind: 6}}, {{Kind: -1}}, {{Kind: 1 << 40}}, {dict, {}}, {{N: 1}},
		{{Kind: api.StageDict, N: 1}}, {{Kind: api.StageDict, N: -1}}, {{Kind: api.StageDict, Step: "1"}}, {{Kind: api.StageDict, Step: "0"}},
		{{Kind: api.StageRound, Step: "1", N: 1}}, {{Kind: api.StageRound, Step: "1", N: -1}},
	}
	for _, step := range notSteps {
		l = append(l, []api.Stage{rounding(step)})
	}
	for _, kind := range []int{api.StageDelta, api.StageShuffle, api.StagePack} {
		for _, n := range noSizes {
			l = append(l, []api.Stage{{Kind: kind, N: n}}, []api.Stage{dict, {Kind: kind, N: n}})
		}
		l = append(l, []api.Stage{{Kind: kind, N: 1, Step: "1"}}, []api.Stage{{Kind: kind, N: 1, Step: "x"}})
	}
	return l
}

// goodPipelines are valid for all types.
func goodPipelines() [][]api.Stage {
	l := [][]api.Stage{
		nil, {}, {dict}, {dict, dict, dict, dict}, {rounding("5"), delta, shuffle, dict}, {rounding("5"), pack}, {rounding("5")}, {pack, dict}, {dict, pack}, {shuffle, delta, pack, dict},
	}
	for _, n := range sizes {
		for _, kind := range []int{api.StageDelta, api.StageShuffle, api.StagePack} {
			l = append(l, []api.Stage{{Kind: kind, N: n}})
		}
	}
	for _, step := range append([]string{nines, "1/" + nines}, positives...) {
		l = append(l, []api.Stage{rounding(step)}, []api.Stage{rounding(step), dict})
	}
	return l
}

// P4.1

func TestWidth(t *testing.T) {
	for i, kind := range types {
		if want := []int{1, 2, 4, 8, 0}[i]; codec.Width(kind) != want {
			t.Errorf("Width(%d) = %d", kind, codec.Width(kind))
		}
	}
	for _, kind := range noTypes {
		if codec.Width(kind) != 0 {
			t.Errorf("Width(%d) = %d", kind, codec.Width(kind))
		}
	}
}

func TestValid(t *testing.T) {
	for _, kind := range types {
		for _, l := range goodPipelines() {
			if !codec.Valid(kind, l) {
				t.Errorf("not valid for %d: %v", kind, l)
			}
		}
		for _, l := range badPipelines() {
			if codec.Valid(kind, l) {
				t.Errorf("valid for %d: %v", kind, l)
			}
		}
	}
	for _, kind := range noTypes {
		for _, l := range goodPipelines() {
			if codec.Valid(kind, l) {
				t.Errorf("valid for %d: %v", kind, l)
			}
		}
	}
}

func TestLoss(t *testing.T) {
	even := strings.Repeat("9", 39) + "8"
	for _, c := range []struct {
		stages []api.Stage
		want   string
	}{
		{nil, "0"}, {[]api.Stage{delta, shuffle, pack, dict}, "0"},
		{[]api.Stage{rounding("5")}, "5/2"}, {[]api.Stage{rounding("5"), delta, dict}, "5/2"}, {[]api.Stage{rounding("4")}, "2"}, {[]api.Stage{rounding("1")}, "1/2"}, {[]api.Stage{rounding("2/3")}, "1/3"}, {[]api.Stage{rounding("1/2"), pack}, "1/4"},
		{[]api.Stage{rounding(nines)}, nines + "/2"}, {[]api.Stage{rounding(even)}, "4" + strings.Repeat("9", 39)},
		{[]api.Stage{rounding("1/" + nines)}, ""}, {[]api.Stage{rounding("2/" + nines)}, "1/" + nines}, {[]api.Stage{rounding("1/" + even)}, ""}, {[]api.Stage{rounding(nines + "/2")}, nines + "/4"},
	} {
		for _, kind := range types {
			if got, errno := codec.Loss(kind, c.stages); got != c.want || errno != api.OK {
				t.Errorf("Loss(%d, %v) = %q, error %d, want %q", kind, c.stages, got, errno, c.want)
			}
		}
	}
	for _, l := range badPipelines() {
		if got, errno := codec.Loss(api.TypeNum, l); got != "" || errno != api.ErrStage {
			t.Errorf("Loss(%v) = %q, error %d", l, got, errno)
		}
	}
	for _, kind := range noTypes {
		if got, errno := codec.Loss(kind, []api.Stage{rounding("5")}); got != "" || errno != api.ErrStage {
			t.Errorf("Loss of the type %d = %q, error %d", kind, got, errno)
		}
	}
}

// P4.7

func TestChecksum(t *testing.T) {
	if got := codec.Checksum([]byte("123456789")); got != 0xCBF43926 {
		t.Errorf("Checksum = %x", got)
	}
	r := newRandom()
	for range 2000 {
		b := someBytes(r, 300)
		if got, want := codec.Checksum(b), crc32.ChecksumIEEE(b); got != want {
			t.Errorf("Checksum(%x) = %x, want %x", b, got, want)
		}
	}
}

// sealed returns bytes with their checksum behind them.
func sealed(b []byte) []byte {
	return binary.LittleEndian.AppendUint32(slices.Clone(b), crc32.ChecksumIEEE(b))
}

// somePipeline returns a pipeline that is valid for a type, and rounds its values to integers if it is one of integers.
func somePipeline(r *rand.Rand, kind int) []api.Stage {
	var l []api.Stage
	if r.IntN(2) == 0 {
		steps := []string{"1", "3", "5", "100"}
		if kind == api.TypeNum {
			steps = positives
		}
		l = append(l, rounding(pick(r, steps)))
	}
	for r.IntN(3) > 0 && len(l) < 4 {
		n := pick(r, sizes)
		l = append(l, pick(r, []api.Stage{dict, {Kind: api.StageDelta, N: n}, {Kind: api.StageShuffle, N: n}, {Kind: api.StagePack, N: n}}))
	}
	return l
}

// modelEncode lets values through a pipeline by its exported parts.
func modelEncode(kind int, stages []api.Stage, vals []string) []byte {
	if len(stages) > 0 && stages[0].Kind == api.StageRound {
		vals, _ = codec.Rounded(kind, vals, stages[0].Step)
	}
	b, _ := codec.Put(kind, vals)
	for _, s := range stages {
		switch s.Kind {
		case api.StageDelta:
			b = modelDelta(b, s.N)
		case api.StageShuffle:
			b = modelShuffle(b, s.N)
		case api.StagePack:
			b = modelPack(b, s.N)
		case api.StageDict:
			b = modelDict(b)
		}
	}
	return sealed(b)
}

func TestEncode(t *testing.T) {
	for _, c := range []struct {
		kind   int
		stages []api.Stage
		vals   []string
		want   string
	}{
		{api.TypeI8, nil, nil, ""},
		{api.TypeI16, nil, []string{"1", "", "-2"}, "\x05\x00\x01\x00\x00\xff\xfe"},
		{api.TypeI8, []api.Stage{rounding("5")}, []string{"7", "", "-8"}, "\x05\x05\x00\xf6"},
		{api.TypeI8, []api.Stage{rounding("5"), {Kind: api.StageDelta, N: 1}}, []string{"7", "", "-8"}, "\x05\x00\xfb\xf6"},
		{api.TypeI8, []api.Stage{{Kind: api.StageDelta, N: 1}, shuffle}, []string{"7", "", "-8"}, "\x05\xf9\x02\xf8"},
		{api.TypeI8, []api.Stage{shuffle, {Kind: api.StageDelta, N: 1}}, []string{"7", "", "-8"}, "\x05\xfb\x07\xf1"},
		{api.TypeI8, []api.Stage{pack}, []string{"7", "", "-8"}, "\x00\x00\x00\x04\x00\x08\x05\x07\x00\xf8"},
		{api.TypeI8, []api.Stage{pack, dict}, nil, "\x03\x00\x00\x00\x00"},
		{api.TypeI8, []api.Stage{dict, pack}, nil, "\x00\x00\x00\x00"},
		{api.TypeI8, []api.Stage{dict}, []string{"", "", "", "", "", "", ""}, "\x00\x00\x83\x00\x01"},
	} {
		b, errno := codec.Encode(c.kind, c.stages, c.vals)
		checkResult(t, "Encode", b, errno, sealed([]byte(c.want)), api.OK)
	}
	b, errno := codec.Encode(api.TypeI64, nil, nil)
	checkResult(t, "Encode of nothing", b, errno, []byte{0, 0, 0, 0}, api.OK)
	// The least significant byte of the checksum of 00 00, which is 41D912FF, is the first one.
	b, errno = codec.Encode(api.TypeI8, nil, []string{""})
	checkResult(t, "Encode", b, errno, []byte{0, 0, 0xff, 0x12, 0xd9, 0x41}, api.OK)
}

// P4.7, P4.8 and P4.9
func TestCodingByModel(t *testing.T) {
	r := newRandom()
	for i := range 3000 {
		kind := types[i%5]
		stages := somePipeline(r, kind)
		vals := someValues(r, kind, 60)
		b, errno := codec.Encode(kind, stages, vals)
		checkResult(t, "Encode", b, errno, modelEncode(kind, stages, vals), api.OK)
		back, errno := codec.Decode(kind, stages, len(vals), b)
		if errno != api.OK || len(back) != len(vals) {
			t.Fatalf("Decode of Encode(%d, %v, %q): error %d", kind, stages, vals, errno)
		}
		loss, _ := codec.Loss(kind, stages)
		for j, x := range vals {
			if x == "" || back[j] == "" || loss == "0" {
				if x != back[j] {
					t.Fatalf("%v: %q becomes %q", stages, x, back[j])
				}
				continue
			}
			for _, difference := range []string{quantity.Sub(x, back[j]), quantity.Sub(back[j], x)} {
				if sign, ok := quantity.Compare(difference, loss); !ok || sign > 0 {
					t.Fatalf("%v: %q becomes %q", stages, x, back[j])
				}
			}
		}
		again, errno := codec.Encode(kind, stages, back)
		checkResult(t, "Encode again", again, errno, b, api.OK)
	}
}

// P4.9: half a step is lost at most, and it can be lost.
func TestLossIsReached(t *testing.T) {
	for _, c := range [][3]string{{"5", "5/2", "5"}, {"1/3", "1/6", "1/3"}, {"4", "-2", "0"}} {
		stages := []api.Stage{rounding(c[0]), dict}
		b, _ := codec.Encode(api.TypeNum, stages, []string{c[1]})
		l, errno := codec.Decode(api.TypeNum, stages, 1, b)
		checkValues(t, "Decode", l, errno, []string{c[2]}, api.OK)
	}
}

func TestEncodeErrors(t *testing.T) {
	tooMany, wrong := make([]string, 4097), append(make([]string, 4096), "x")
	for _, l := range [][]string{nil, {"x"}, {"1"}, tooMany, wrong} {
		for _, stages := range badPipelines() {
			b, errno := codec.Encode(api.TypeNum, stages, l)
			checkResult(t, "Encode", b, errno, nil, api.ErrStage)
		}
		for _, kind := range noTypes {
			b, errno := codec.Encode(kind, nil, l)
			checkResult(t, "Encode", b, errno, nil, api.ErrStage)
		}
	}
	for _, stages := range goodPipelines() {
		for _, l := range [][]string{tooMany, wrong} {
			b, errno := codec.Encode(api.TypeI8, stages, l)
			checkResult(t, "Encode", b, errno, nil, api.ErrLimit)
		}
		for _, l := range [][]string{{"x"}, {"1", "128"}, {"1/2"}, {"", "2/4"}} {
			b, errno := codec.Encode(api.TypeI8, stages, l)
			checkResult(t, "Encode", b, errno, nil, api.ErrValue)
		}
	}
	for _, c := range []struct {
		kind    int
		step, x string
	}{{api.TypeI8, "10", "127"}, {api.TypeI8, "2/3", "1"}, {api.TypeNum, "10", nines}} {
		b, errno := codec.Encode(c.kind, []api.Stage{rounding(c.step)}, []string{c.x})
		checkResult(t, "Encode", b, errno, nil, api.ErrValue)
	}
	// The longest values do not come near the limit of a stage.
	for _, stages := range [][]api.Stage{nil, {dict, dict, dict, dict}, {pack, pack, pack, pack}} {
		vals := slices.Repeat([]string{longest}, 4096)
		b, errno := codec.Encode(api.TypeNum, stages, vals)
		if errno != api.OK {
			t.Fatalf("Encode of the longest values: error %d", errno)
		}
		l, errno := codec.Decode(api.TypeNum, stages, len(vals), b)
		checkValues(t, "Decode of the longest values", l, errno, vals, api.OK)
	}
}

func TestDecodeErrors(t *testing.T) {
	good := sealed([]byte("\x01\x07"))
	for _, b := range [][]byte{nil, good, {1, 2, 3, 4, 5}} {
		for _, n := range []int{-1, 1, 4097} {
			for _, stages := range badPipelines() {
				l, errno := codec.Decode(api.TypeI8, stages, n, b)
				checkValues(t, "Decode", l, errno, nil, api.ErrStage)
			}
			for _, kind := range noTypes {
				l, errno := codec.Decode(kind, nil, n, b)
				checkValues(t, "Decode", l, errno, nil, api.ErrStage)
			}
		}
		for _, n := range []int{-1, 4097, -1 << 63, 1<<63 - 1} {
			for _, stages := range goodPipelines() {
				l, errno := codec.Decode(api.TypeI8, stages, n, b)
				checkValues(t, "Decode", l, errno, nil, api.ErrArg)
			}
		}
	}
	l, errno := codec.Decode(api.TypeI8, nil, 1, good)
	checkValues(t, "Decode", l, errno, []string{"7"}, api.OK)
	for _, c := range []struct {
		stages []api.Stage
		n      int
		b      []byte
	}{
		{nil, 0, nil}, {nil, 0, []byte{0}}, {nil, 0, []byte{0, 0, 0}}, {nil, 0, []byte{0, 0, 0, 1}}, {nil, 0, []byte{0, 0, 0, 0, 0}}, // checksums
		{nil, 1, []byte("\x01\x07")}, {nil, 1, good[:5]}, {nil, 1, append(slices.Clone(good), 0)}, {nil, 1, append([]byte{0}, good...)},
		{nil, 0, good}, {nil, 2, good}, {nil, 1, sealed([]byte("\x03\x07"))}, {nil, 1, sealed(nil)}, // Get
		{[]api.Stage{pack}, 1, good}, {[]api.Stage{pack}, 1, sealed([]byte("\x00\x00\x00\x02\x01\x03\x0d"))}, {[]api.Stage{pack}, 1, sealed([]byte("\xff\xff\xff\xff\x07\x00"))}, // Unpack
		{[]api.Stage{dict}, 1, sealed([]byte("\x05\x07"))}, {[]api.Stage{dict}, 1, sealed([]byte("\x80\x00\x01"))}, {[]api.Stage{dict, delta}, 1, sealed([]byte("\x81"))}, // Undict
		{[]api.Stage{dict}, 1, sealed(append(full(4), 255, 0, 1))}, {[]api.Stage{delta}, 1, sealed(make([]byte, maxBytes+1))}, {[]api.Stage{shuffle}, 1, sealed(make([]byte, maxBytes+1))}, {[]api.Stage{pack}, 1, sealed(make([]byte, maxBytes+1))}, // too many bytes
		{nil, 1, sealed(make([]byte, maxBytes+1))}, {[]api.Stage{dict}, 1, sealed(full(4))},
	} {
		l, errno := codec.Decode(api.TypeI8, c.stages, c.n, c.b)
		checkValues(t, "Decode", l, errno, nil, api.ErrBytes)
	}
}

// Decode undoes also what Encode does not make: tokens that are not the best ones, and values that are not rounded.
func TestDecodeOfOtherCodes(t *testing.T) {
	l, errno := codec.Decode(api.TypeI8, []api.Stage{dict}, 1, sealed([]byte("\x00\x01\x00\x07")))
	checkValues(t, "Decode", l, errno, []string{"7"}, api.OK)
	l, errno = codec.Decode(api.TypeI8, []api.Stage{rounding("5")}, 1, sealed([]byte("\x01\x07")))
	checkValues(t, "Decode", l, errno, []string{"7"}, api.OK)
}

// P4.10
func TestDamage(t *testing.T) {
	r := newRandom()
	for i := range 40 {
		kind := types[i%5]
		stages := somePipeline(r, kind)
		vals := someValues(r, kind, 12)
		b, _ := codec.Encode(kind, stages, vals)
		for at := range b {
			for by := 1; by < 256; by++ {
				c := slices.Clone(b)
				c[at] ^= byte(by)
				l, errno := codec.Decode(kind, stages, len(vals), c)
				checkValues(t, "Decode of damaged bytes", l, errno, nil, api.ErrBytes)
			}
		}
	}
}

// R4: what goes in is not changed.
func TestCodingKeepsArguments(t *testing.T) {
	stages := []api.Stage{rounding("5"), delta, shuffle, dict}
	vals := []string{"7", "", "8"}
	b, _ := codec.Encode(api.TypeI16, stages, vals)
	keep := bytes.Clone(b)
	if _, errno := codec.Decode(api.TypeI16, stages, 3, b); errno != api.OK || !bytes.Equal(b, keep) {
		t.Errorf("Decode changes its argument, error %d", errno)
	}
	if !slices.Equal(vals, []string{"7", "", "8"}) || !slices.Equal(stages, []api.Stage{rounding("5"), delta, shuffle, dict}) {
		t.Errorf("Encode changes its arguments: %q, %v", vals, stages)
	}
}
