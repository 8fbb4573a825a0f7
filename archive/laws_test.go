package archive_test

import (
	"fmt"
	"math/rand/v2"
	"testing"

	"arrayarchive/api"
	"arrayarchive/array"
	"arrayarchive/codec"
	"arrayarchive/quantity"
)

// someNumbers returns the array of a shape with some values of a type.
func someNumbers(r *rand.Rand, kind int, shape []int) api.Array {
	a, _ := array.Fill(shape, "")
	for i := range a.Vals {
		switch n := r.IntN(200) - 100; {
		case r.IntN(6) == 0:
		case kind == api.TypeNum && r.IntN(2) == 0:
			a.Vals[i] = quantity.Div(quantity.FromInt(n), "7")
		default:
			a.Vals[i] = quantity.FromInt(n)
		}
	}
	return a
}

// somePipeline returns stages that are valid for each type, without StageRound.
func somePipeline(r *rand.Rand) []api.Stage {
	var l []api.Stage
	for range r.IntN(4) {
		l = append(l, pick(r, []api.Stage{{Kind: api.StageDelta, N: 1 + r.IntN(8)}, {Kind: api.StageShuffle, N: 1 + r.IntN(8)}, {Kind: api.StagePack, N: 1 + r.IntN(8)}, {Kind: api.StageDict}}))
	}
	return l
}

// P9.12: what Write has written, Read returns, rounded, at most the loss away; all other elements stay.
func TestWriting(t *testing.T) {
	r := newRandom(12)
	steps := []string{"", "1", "5", "3/2", "17"}
	for range 60 {
		kind, step := pick(r, []int{api.TypeI8, api.TypeI16, api.TypeI32, api.TypeI64, api.TypeNum}), pick(r, steps)
		if step == "3/2" {
			kind = api.TypeNum
		}
		v := api.Var{Name: "v", Type: kind, Dims: []string{"x", "y"}, Chunks: []int{1 + r.IntN(6), 1 + r.IntN(6)}, Fill: pick(r, []string{"", "3"}), Stages: somePipeline(r)}
		if step != "" {
			v.Stages = append([]api.Stage{rounding(step)}, v.Stages...)
		}
		loss, errno := codec.Loss(kind, v.Stages)
		checkErrno(t, "Loss", errno, api.OK)
		d := newDisk(t, 300)
		a := create(t, d, 2)
		do(t, a, func() {
			change(t, a, dim("/", "x", 5))
			change(t, a, dim("/", "y", 6))
			change(t, a, vari("/", v))
		})
		shape := []int{5, 6}
		for range 5 {
			before, errno := a.Read("/", "v", cuts("0:5:1 0:6:1"))
			checkErrno(t, "Read", errno, api.OK)
			slab := someSlab(r, shape)
			b := someNumbers(r, kind, []int{slab[0].Count, slab[1].Count})
			do(t, a, func() { checkErrno(t, "Write", a.Write("/", "v", slab, b), api.OK) })
			got, errno := a.Read("/", "v", slab)
			checkErrno(t, "Read", errno, api.OK)
			for i, x := range got.Vals {
				if (x == "") != (b.Vals[i] == "") {
					t.Errorf("%q was written, %q is read", b.Vals[i], x)
				}
				if x == "" {
					continue
				}
				diff := quantity.Sub(x, b.Vals[i])
				most, _ := quantity.Compare(diff, loss)
				least, _ := quantity.Compare(quantity.Sub("0", diff), loss)
				if most > 0 || least > 0 || step != "" && x != quantity.Round(b.Vals[i], step) {
					t.Errorf("%q was written, %q is read, with the step %q and the loss %q", b.Vals[i], x, step, loss)
				}
			}
			want, _ := array.Paste(before, slab, got)
			if after, errno := a.Read("/", "v", cuts("0:5:1 0:6:1")); !same(after, want) || errno != api.OK {
				t.Errorf("other elements: %v, error %d, want %v", after, errno, want)
			}
		}
	}
}

// P9.13: the arrays do not depend on the chunks and the stages, but for StageRound.
func TestChunksAndStages(t *testing.T) {
	for seed := range uint64(12) {
		for _, step := range []string{"", "5"} {
			want := ""
			for n := range 6 {
				r := newRandom(100 + uint64(n))
				stages := somePipeline(r)
				if step != "" {
					stages = append([]api.Stage{rounding(step)}, stages...)
				}
				v := api.Var{Name: "v", Type: api.TypeI16, Dims: []string{"x", "y"}, Chunks: []int{1 + r.IntN(6), 1 + r.IntN(6)}, Fill: "8", Stages: stages}
				r = newRandom(seed)
				d := newDisk(t, 400)
				a := create(t, d, 2)
				do(t, a, func() {
					change(t, a, dim("/", "x", 2))
					change(t, a, dim("/", "y", 3))
					change(t, a, vari("/", v))
				})
				shape, got := []int{2, 3}, ""
				for range 8 {
					begin(t, a)
					for range r.IntN(3) {
						slab := someSlab(r, shape)
						checkErrno(t, "Write", a.Write("/", "v", slab, someNumbers(r, v.Type, []int{slab[0].Count, slab[1].Count})), api.OK)
						if k := r.IntN(8); k < 2 {
							change(t, a, grow("/", v.Dims[k], 1))
							shape[k]++
						}
					}
					commit(t, a)
					got += fmt.Sprintln(whole(t, a, "/", "v"), counted(t, a))
				}
				if want == "" {
					want = got
				}
				if got != want {
					t.Fatalf("with chunks of %v and the stages %v: %s, want %s", v.Chunks, v.Stages, got, want)
				}
			}
		}
	}
}

// P9.14: Upgrade changes nothing but the format and the generation, whatever was done before.
func TestUpgradeOfAnything(t *testing.T) {
	for seed := range uint64(30) {
		r := newRandom(seed)
		d := newDisk(t, 400)
		a := create(t, d, 1)
		do(t, a, func() { change(t, a, dim("/", "t", 4)) })
		for i := range 6 {
			name := fmt.Sprintf("v%d", i)
			do(t, a, func() {
				kind := 1 + r.IntN(5)
				change(t, a, vari("/", api.Var{Name: name, Type: kind, Dims: []string{"t"}, Chunks: []int{1 + r.IntN(5)}, Fill: pick(r, []string{"", "1"})}))
				s, _ := a.Schema()
				slab := someSlab(r, []int{s.Groups[0].Dims[0].Size})
				checkErrno(t, "Write", a.Write("/", name, slab, someNumbers(r, kind, []int{slab[0].Count})), api.OK)
				if i > 0 && r.IntN(4) == 0 {
					checkErrno(t, "SetNote", a.SetNote("/", name, []byte{byte(i)}), api.OK)
				}
				change(t, a, grow("/", "t", r.IntN(2)))
			})
		}
		n, before, keys := a.Generation(), content(t, a), values(t, d)
		checkErrno(t, "Upgrade", a.Upgrade(), api.OK)
		if after := content(t, a); after != before || a.Format() != 2 || a.Generation() != n+1 || len(values(t, d)) != len(keys) {
			t.Errorf("behind Upgrade: %s, want %s", after, before)
		}
	}
}
