package calc_test

import (
	"fmt"
	"math/rand/v2"
	"slices"
	"testing"

	"arrayarchive/api"
	"arrayarchive/calc"
)

// P7.8 and P7.9

func TestFormatLaw(t *testing.T) {
	r := newRandom()
	s := schemaOf(t, worldText)
	m := newModel(s, nil)
	for range 600 {
		m.data = someData(r, s)
		text := (&grower{r, m}).growGood(r.IntN(3) + 2).noisy(r)
		format, errno := calc.Format(text)
		if errno != api.OK {
			continue
		}
		a, aErrno := calc.Value(s, m.data, text)
		b, bErrno := calc.Value(s, m.data, format)
		if aErrno != bErrno || !sameArray(a, b) {
			t.Fatalf("Value(%q) is not that of %q", text, format)
		}
		shaped, inferErrno := calc.Infer(s, m.data, text)
		again, errno := calc.Infer(s, m.data, format)
		if inferErrno != errno || !sameShaped(shaped, again) {
			t.Fatalf("Infer(%q) is not that of %q", text, format)
		}
		if inferErrno != aErrno {
			t.Fatalf("%q: Value has the error %d, Infer %d", text, aErrno, inferErrno)
		}
		names, _ := calc.Names(text)
		if others, errno := calc.Names(format); errno != api.OK || !sameChunks(names, others) {
			t.Fatalf("Names(%q) are not those of %q", text, format)
		}
	}
}

// P7.12

func TestChunksLaw(t *testing.T) {
	r := newRandom()
	s := schemaOf(t, worldText)
	m := newModel(s, nil)
	for range 600 {
		m.data = someData(r, s)
		text := (&grower{r, m}).growGood(r.IntN(3) + 2).format()
		want, wantErrno := calc.Value(s, m.data, text)
		other := schemaOf(t, worldText)
		for g := range other.Groups {
			for _, v := range other.Groups[g].Vars {
				for k := range v.Chunks {
					v.Chunks[k] = r.IntN(5) + 1
				}
			}
		}
		if got, errno := calc.Value(other, m.data, text); errno != wantErrno || !sameArray(got, want) {
			t.Fatalf("Value(%s) depends on chunks: %s, error %d, and %s, error %d", text, showArray(got), errno, showArray(want), wantErrno)
		}
		if wantErrno != api.OK {
			continue
		}
		sizes := slices.Repeat([]int{2}, len(want.Shape))
		tiles := 1
		for _, size := range want.Shape {
			tiles *= (size + 1) / 2
		}
		if got, errno := calc.Run(other, m.data, text, sizes, r.Perm(tiles), 2); errno != api.OK || !sameArray(got, want) {
			t.Fatalf("Run(%s) depends on chunks: %s, error %d", text, showArray(got), errno)
		}
	}
}

// P7.13

// terms are expressions over a world, all with the dimensions t and x and without a unit, with small numbers of which none is missing.
func terms(r *rand.Rand) string {
	return pick(r, []string{"/a", "/a * 2", "(/a + 1) / 3", "/a - /b", "/a * /b", "window(max, /a, t, 2)", "/a / 7 + sum(/b, x)", "greater(/a, /b)", "where(lt(/a, 0), /b, /a)", "bare(to(/a, \"1/3\"))"})
}

// smallData returns data with small numbers alone.
func smallData(r *rand.Rand, list []api.Data) []api.Data {
	for _, d := range list {
		for i := range d.A.Vals {
			d.A.Vals[i] = fmt.Sprint(r.IntN(19) - 9)
		}
	}
	return list
}

func TestAlgebraLaw(t *testing.T) {
	r := newRandom()
	s := schemaOf(t, worldText)
	for range 200 {
		data := smallData(r, someData(r, s))
		value := func(text string) api.Array {
			t.Helper()
			a, errno := calc.Value(s, data, text)
			if errno != api.OK || slices.Contains(a.Vals, "") {
				t.Fatalf("Value(%s) = %s, error %d", text, showArray(a), errno)
			}
			return a
		}
		same := func(one, other string) {
			t.Helper()
			if a, b := value(one), value(other); !sameArray(a, b) {
				t.Fatalf("Value(%s) is %s, Value(%s) is %s", one, showArray(a), other, showArray(b))
			}
		}
		a, b := terms(r), terms(r)
		d := pick(r, []string{"t", "x"})
		same(a+" + ("+b+")", b+" + ("+a+")")
		same("sum("+a+" + "+b+", "+d+")", "sum("+a+", "+d+") + sum("+b+", "+d+")")
		same("/d + to(/d, \"m\")", "to(to(/d, \"m\") + /d, \"km\")")
		same("to(to(/d, \"cm\"), \"km\")", "/d")
		same("to(to(/c, \"degF\"), \"degC\")", "/c")
		same("to(to(to(/f, \"degC\"), \"K\"), \"degF\")", "/f")
	}
}
