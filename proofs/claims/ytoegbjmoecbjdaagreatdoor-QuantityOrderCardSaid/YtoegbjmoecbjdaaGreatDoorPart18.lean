/- Texts of units: what product computes. Texts of units: product, what its rounds keep. Texts of units: product. -/
import Derived.Test.YtoegbjmoecbjdaaGreatDoorPart17
import Derived.RegionTactic
import Derived.ChangeAlike
import Derived.BigRegion
set_option maxHeartbeats 6400000
set_option maxRecDepth 100000
namespace Go.Proofs.YtoegbjmoecbjdaaGreatDoor
open Go.RowKit Go.Lib Big
def mixL (ps rs : List Int) (n : Int) (k : Nat) : List Int := (List.zipWith (fun p r => p + r * n) ps rs).take k ++ ps.drop k
def i64c (l : List Int) : Array Value := (l.map (Value.int .i64)).toArray
theorem ResU.drew {w0 W : World} {B : Nat} (h : ResU B w0 W) : ResU B w0 W.drew := ⟨h.size, h.below.drew, h.z⟩
theorem mul_lt_add {a b K L : Nat} (ha : a < B64 ^ K) (hb : b < B64 ^ L) : a * b < B64 ^ (K + L) := by
  rw [Nat.pow_add]
  exact Nat.mul_lt_mul'' ha hb
theorem mul_is2 (x y : Value) (p q : Rat) (K L : Nat) (w : World) (hK : K + L ≤ 1073741824) (hx : RatIs w x p K) (hy : RatIs w y q L) : Calls Tryz.prog 81 #[x, y] w (IsPost (p * q) (K + L) w) := by
  have hx' := hx.more (M := K + L) (by omega)
  have hy' := hy.more (M := K + L) (by omega)
  obtain ⟨s, a, b, h1, rfl, h3, h4, h5⟩ := hx
  obtain ⟨t, c, d, k1, rfl, k3, k4, k5⟩ := hy
  have hp1 := Nat.pow_le_pow_right B64_pos (show K ≤ K + L by omega)
  have hp2 := Nat.pow_le_pow_right B64_pos (show L ≤ K + L by omega)
  refine (mul_any x y s t a b c d (K + L) w hK (by omega) (by omega) (by omega) (by omega) h1 k1).mono ?_
  rintro e w' ⟨z, rfl, hz, hb⟩
  exact ⟨z, rfl, ⟨_, _, _, hz, by rw [ratv_drop, ratv_mul h3 k3], Nat.mul_pos h3 k3, mul_lt_add h4 k4, mul_lt_add h5 k5⟩, hb⟩
def smallPs (ps : List Int) : Prop := ps.length = 7 ∧ ∀ x ∈ ps, -3 ≤ x ∧ x ≤ 3
theorem symT_small {l v : List UInt8} {ps : List Int} {b : Bool} (h : symT l = some (v, ps, b)) : smallPs ps := by
  have key : ∀ ps' : List Int, ps' ∈ ([[1, 0, 0, 0, 0, 0, 0], [0, 1, 0, 0, 0, 0, 0], [0, 0, 1, 0, 0, 0, 0], [0, 0, 0, 1, 0, 0, 0], [0, 0, 0, 0, 1, 0, 0], [0, 0, 0, 0, 0, 1, 0], [0, 0, 0, 0, 0, 0, 1], [3, 0, 0, 0, 0, 0, 0], [0, 0, -1, 0, 0, 0, 0], [1, 1, -2, 0, 0, 0, 0], [-1, 1, -2, 0, 0, 0, 0], [2, 1, -2, 0, 0, 0, 0], [2, 1, -3, 0, 0, 0, 0]] : List (List Int)) → smallPs ps' := by
    intro ps' hp
    simp only [List.mem_cons, List.not_mem_nil, or_false] at hp
    rcases hp with rfl | rfl | rfl | rfl | rfl | rfl | rfl | rfl | rfl | rfl | rfl | rfl | rfl <;> exact ⟨rfl, by decide⟩
  apply key
  unfold symT at h
  by_cases c0 : (l == [109]) = true
  · rw [if_pos c0] at h; simp only [Option.some.injEq, Prod.mk.injEq] at h; obtain ⟨-, rfl, -⟩ := h; simp
  rw [if_neg c0] at h
  by_cases c1 : (l == [103]) = true
  · rw [if_pos c1] at h; simp only [Option.some.injEq, Prod.mk.injEq] at h; obtain ⟨-, rfl, -⟩ := h; simp
  rw [if_neg c1] at h
  by_cases c2 : (l == [115]) = true
  · rw [if_pos c2] at h; simp only [Option.some.injEq, Prod.mk.injEq] at h; obtain ⟨-, rfl, -⟩ := h; simp
  rw [if_neg c2] at h
  by_cases c3 : (l == [75]) = true
  · rw [if_pos c3] at h; simp only [Option.some.injEq, Prod.mk.injEq] at h; obtain ⟨-, rfl, -⟩ := h; simp
  rw [if_neg c3] at h
  by_cases c4 : (l == [109, 111, 108]) = true
  · rw [if_pos c4] at h; simp only [Option.some.injEq, Prod.mk.injEq] at h; obtain ⟨-, rfl, -⟩ := h; simp
  rw [if_neg c4] at h
  by_cases c5 : (l == [65]) = true
  · rw [if_pos c5] at h; simp only [Option.some.injEq, Prod.mk.injEq] at h; obtain ⟨-, rfl, -⟩ := h; simp
  rw [if_neg c5] at h
  by_cases c6 : (l == [99, 100]) = true
  · rw [if_pos c6] at h; simp only [Option.some.injEq, Prod.mk.injEq] at h; obtain ⟨-, rfl, -⟩ := h; simp
  rw [if_neg c6] at h
  by_cases c7 : (l == [109, 105, 110]) = true
  · rw [if_pos c7] at h; simp only [Option.some.injEq, Prod.mk.injEq] at h; obtain ⟨-, rfl, -⟩ := h; simp
  rw [if_neg c7] at h
  by_cases c8 : (l == [104]) = true
  · rw [if_pos c8] at h; simp only [Option.some.injEq, Prod.mk.injEq] at h; obtain ⟨-, rfl, -⟩ := h; simp
  rw [if_neg c8] at h
  by_cases c9 : (l == [100]) = true
  · rw [if_pos c9] at h; simp only [Option.some.injEq, Prod.mk.injEq] at h; obtain ⟨-, rfl, -⟩ := h; simp
  rw [if_neg c9] at h
  by_cases c10 : (l == [116]) = true
  · rw [if_pos c10] at h; simp only [Option.some.injEq, Prod.mk.injEq] at h; obtain ⟨-, rfl, -⟩ := h; simp
  rw [if_neg c10] at h
  by_cases c11 : (l == [76]) = true
  · rw [if_pos c11] at h; simp only [Option.some.injEq, Prod.mk.injEq] at h; obtain ⟨-, rfl, -⟩ := h; simp
  rw [if_neg c11] at h
  by_cases c12 : (l == [72, 122]) = true
  · rw [if_pos c12] at h; simp only [Option.some.injEq, Prod.mk.injEq] at h; obtain ⟨-, rfl, -⟩ := h; simp
  rw [if_neg c12] at h
  by_cases c13 : (l == [78]) = true
  · rw [if_pos c13] at h; simp only [Option.some.injEq, Prod.mk.injEq] at h; obtain ⟨-, rfl, -⟩ := h; simp
  rw [if_neg c13] at h
  by_cases c14 : (l == [80, 97]) = true
  · rw [if_pos c14] at h; simp only [Option.some.injEq, Prod.mk.injEq] at h; obtain ⟨-, rfl, -⟩ := h; simp
  rw [if_neg c14] at h
  by_cases c15 : (l == [74]) = true
  · rw [if_pos c15] at h; simp only [Option.some.injEq, Prod.mk.injEq] at h; obtain ⟨-, rfl, -⟩ := h; simp
  rw [if_neg c15] at h
  by_cases c16 : (l == [87]) = true
  · rw [if_pos c16] at h; simp only [Option.some.injEq, Prod.mk.injEq] at h; obtain ⟨-, rfl, -⟩ := h; simp
  rw [if_neg c16] at h
  by_cases c17 : (l == [98, 97, 114]) = true
  · rw [if_pos c17] at h; simp only [Option.some.injEq, Prod.mk.injEq] at h; obtain ⟨-, rfl, -⟩ := h; simp
  rw [if_neg c17] at h
  cases h
theorem wordT_small {l : List UInt8} {v : Rat} {ps : List Int} (h : wordT l = some (v, ps)) : smallPs ps := by
  unfold wordT at h
  cases h1 : symT l with
  | some x =>
    obtain ⟨v', ps', b⟩ := x
    rw [h1] at h
    cases h
    exact symT_small h1
  | none =>
    rw [h1] at h
    simp only at h
    cases l with
    | nil => cases h
    | cons c t =>
      simp only at h
      cases h2 : symT t with
      | none => rw [h2] at h; cases h
      | some x =>
        obtain ⟨v', ps', b⟩ := x
        rw [h2] at h
        cases b with
        | false => cases h
        | true =>
          simp only at h
          split at h
          · cases h
          · cases h; exact symT_small h2
theorem factorT_small {l : List UInt8} {f : FacT} {n : Nat} (h : factorT l = some (f, n)) : smallPs f.ps := by
  unfold factorT at h
  split at h
  · unfold numberT at h
    split at h
    · cases h; exact ⟨rfl, (by decide : ∀ x ∈ noPs, -3 ≤ x ∧ x ≤ 3)⟩
    · cases h
  · unfold symbolT at h
    cases hw : wordT (l.take (cntL l)) with
    | none => rw [hw] at h; cases h
    | some x =>
      obtain ⟨v, ps⟩ := x
      rw [hw] at h
      simp only at h
      split at h
      · split at h
        · cases h
        · cases h; exact wordT_small hw
      · cases h; exact wordT_small hw
theorem factorsT_small {F : Nat} : ∀ {l : List UInt8} {dir : Int} {acc fs : List FacT}, (∀ f ∈ acc, smallPs f.ps) → factorsT l dir acc F = some fs → ∀ f ∈ fs, smallPs f.ps := by
  induction F with
  | zero => intro l dir acc fs _ h; cases h
  | succ F ih =>
    intro l dir acc fs ha h
    cases hf : factorT l with
    | none => rw [factorsT_none hf] at h; cases h
    | some x =>
      obtain ⟨f, n⟩ := x
      have ha' : ∀ g ∈ acc ++ [{ f with e := f.e * dir }], smallPs g.ps := by
        intro g hg
        rcases List.mem_append.1 hg with hg | hg
        · exact ha g hg
        · simp only [List.mem_singleton] at hg
          subst hg; have := factorT_small hf; exact this
      by_cases hn : n = l.length
      · rw [factorsT_end hf hn] at h
        cases h; exact ha'
      · cases hd : l.drop n with
        | nil =>
          have h3 := congrArg List.length hd
          have := (factorT_spec hf).2.1
          rw [List.length_drop, List.length_nil] at h3
          omega
        | cons c t =>
          by_cases h1 : c = 32
          · subst h1; rw [factorsT_space hf hn hd] at h; exact ih ha' h
          · by_cases h2 : c = 47
            · subst h2; rw [factorsT_slash hf hn hd] at h; exact ih ha' h
            · rw [factorsT_other hf hn hd h1 h2] at h; cases h
theorem FacsIn.cells {W : World} {base : Nat} {v : Value} {css : List (List Value)} {fs : List FacT} (h : FacsIn W base v css fs) {k : Nat} (hk : k < fs.length) : ∃ g cap b p n c q m d p0 p1 p2 p3 p4 p5 p6, v = .slice (some ⟨g, 0, none⟩) fs.length cap ∧ g < W.heap.size ∧
    (∀ i u, ([.bool b, .slice p n c, .slice q m d, .int .i64 p0, .int .i64 p1, .int .i64 p2, .int .i64 p3, .int .i64 p4, .int .i64 p5, .int .i64 p6, .int .i64 fs[k].e] : List Value)[i]? = some u → W.cell? ⟨g, k * 11 + i, none⟩ = some u) ∧ RatIs W (.agg #[.bool b, .slice p n c, .slice q m d]) fs[k].v 40 ∧ [p0, p1, p2, p3, p4, p5, p6] = fs[k].ps := by
  have hk' : k < css.length := by rw [h.len]; exact hk
  obtain ⟨b, p, n, c, q, m, d, p0, p1, p2, p3, p4, p5, p6, hcs, hR, hps⟩ := h.each k hk' hk
  obtain ⟨⟨hl, hr⟩, -⟩ := h.row
  rcases hr with ⟨-, h0⟩ | ⟨g, cap, cur, hv, -, hg, hcap, -, hsz, htake⟩
  · omega
  · refine ⟨g, cap, b, p, n, c, q, m, d, p0, p1, p2, p3, p4, p5, p6, hv, (Array.getElem?_eq_some_iff.1 hg).1, ?_, hR, hps⟩
    intro i u hu
    have hi : i < 11 := by
      have := (List.getElem?_eq_some_iff.1 hu).1
      simpa using this
    rw [← hcs] at hu
    have hall : ∀ cs ∈ css, cs.length = 11 := by
      intro cs hc
      obtain ⟨j, hj, rfl⟩ := List.getElem_of_mem hc
      obtain ⟨_, _, _, _, _, _, _, _, _, _, _, _, _, _, e, -, -⟩ := h.each j hj (by rw [← h.len]; exact hj)
      rw [e]; rfl
    have hflat : ∀ (l : List (List Value)) (k : Nat) (hk : k < l.length), (∀ cs ∈ l, cs.length = 11) → ∀ i, i < 11 → l.flatten[k * 11 + i]? = l[k][i]? := by
      intro l
      induction l with
      | nil => intro k hk; simp at hk
      | cons x l ih =>
        intro k hk ha i hi
        have hx : x.length = 11 := ha x (List.mem_cons_self ..)
        cases k with
        | zero =>
          rw [List.flatten_cons, Nat.zero_mul, Nat.zero_add, List.getElem?_append_left (by omega)]
          rfl
        | succ k =>
          rw [List.flatten_cons, List.getElem?_append_right (by omega), hx, show (k + 1) * 11 + i - 11 = k * 11 + i from by omega]
          exact ih k (by simpa using hk) (fun cs hc => ha cs (List.mem_cons_of_mem _ hc)) i hi
    rw [ceh hg, ← hu, ← hflat css k hk' hall i hi, ← htake, List.getElem?_take_of_lt (by omega), Array.getElem?_toList]
theorem ResU.set_far {B : Nat} {w0 W : World} (h : ResU B w0 W) (g k : Nat) (v : Value) (hg : w0.heap.size ≤ g) (hne : B ≠ g) : ResU B w0 (W.setCell ⟨g, k, none⟩ v) := by
  obtain ⟨z0, z1, z2, z3, z4, z5, z6, z7, z8, hz⟩ := h.z
  exact ⟨by rw [World.size_setCell]; exact h.size, h.below.setCell hg _, z0, z1, z2, z3, z4, z5, z6, z7, z8, (Below.heap_setCell _ _ _ _ hne).trans hz⟩
theorem noU_i64c (l : List Int) : ∀ (i : Nat) v, (i64c l)[i]? = some v → NoU v := by
  intro i v hv
  unfold i64c at hv
  rw [List.getElem?_toArray, List.getElem?_map, Option.map_eq_some_iff] at hv
  obtain ⟨x, -, rfl⟩ := hv
  exact nui x
theorem noU_val (b : Bool) (p : Option Addr) (n c : Nat) (q : Option Addr) (m d : Nat) : ∀ (i : Nat) v, (#[.bool b, .slice p n c, .slice q m d] : Array Value)[i]? = some v → NoU v := by
  intro i v hv
  match i, hv with
  | 0, hv => simp at hv; exact hv ▸ nub b
  | 1, hv => simp at hv; exact hv ▸ nus p n c
  | 2, hv => simp at hv; exact hv ▸ nus q m d
  | k + 3, hv => simp at hv
structure PInv (w W : World) (B : Nat) (q : Rat) (K : Nat) (ps : List Int) (b1 : Bool) (q1 : Option Addr) (n1 c1 : Nat) (r1 : Option Addr) (m1 d1 : Nat) (L : List Blk) : Prop where
  keep : Keep w W ((B + 1, i64c ps, 51) :: (B, #[.bool b1, .slice q1 n1 c1, .slice r1 m1 d1], 66) :: L)
  res : ResU w.heap.size w W
  rat : RatIs W (.agg #[.bool b1, .slice q1 n1 c1, .slice r1 m1 d1]) q K
section
variable {w W W' : World} {B : Nat} {q : Rat} {K : Nat} {ps : List Int} {b1 : Bool} {q1 : Option Addr} {n1 c1 : Nat} {r1 : Option Addr} {m1 d1 : Nat} {L : List Blk}
theorem PInv.next (h : PInv w W B q K ps b1 q1 n1 c1 r1 m1 d1 L) (hb : Below W.heap.size W W') : PInv w W' B q K ps b1 q1 n1 c1 r1 m1 d1 L := ⟨h.keep.next hb, h.res.next hb, h.rat.below hb⟩
theorem PInv.drew (h : PInv w W B q K ps b1 q1 n1 c1 r1 m1 d1 L) : PInv w W.drew B q K ps b1 q1 n1 c1 r1 m1 d1 L := by
  exact ⟨h.keep.drew, h.res.drew, h.rat.below ((Below.refl _ _).drew)⟩
theorem PInv.put (h : PInv w W B q K ps b1 q1 n1 c1 r1 m1 d1 L) (hB : w.heap.size < B) (hL : ∀ x ∈ L, x.1 ≠ B + 1) (j : Nat) (x : Int) (_hj : j < ps.length) : PInv w (W.setCell ⟨B + 1, j, none⟩ (.int .i64 x)) B q K (ps.set j x) b1 q1 n1 c1 r1 m1 d1 L := by
  have hk := h.keep.put (by omega) (by
    intro y hy
    rcases List.mem_cons.1 hy with rfl | hy
    · dsimp only; omega
    · exact hL y hy) j (.int .i64 x)
  have e : (i64c ps).setIfInBounds j (.int .i64 x) = i64c (ps.set j x) := by
    unfold i64c
    apply Array.ext'
    simp [List.map_set]
  rw [e] at hk
  exact ⟨hk, h.res.set_far _ _ _ (by omega) (by omega), rat_setU (h.keep.one _ (List.mem_cons_self ..)) (noU_i64c ps) h.rat j _⟩
theorem PInv.store (h : PInv w W B q K ps b1 q1 n1 c1 r1 m1 d1 L) (hB : w.heap.size < B) (hL : ∀ x ∈ L, x.1 ≠ B) {q' : Rat} {K' : Nat} {b2 : Bool} {q2 : Option Addr} {n2 c2 : Nat} {r2 : Option Addr} {m2 d2 : Nat} (hx : RatIs W (.agg #[.bool b2, .slice q2 n2 c2, .slice r2 m2 d2]) q' K') :
    PInv w (((W.setCell ⟨B, 0, none⟩ (.bool b2)).setCell ⟨B, 1, none⟩ (.slice q2 n2 c2)).setCell ⟨B, 2, none⟩ (.slice r2 m2 d2)) B q' K' ps b2 q2 n2 c2 r2 m2 d2 L := by
  have hz := h.keep.one _ (List.mem_cons_of_mem _ (List.mem_cons_self ..))
  dsimp only at hz
  have h0 : (W.setCell ⟨B, 0, none⟩ (.bool b2)).heap[B]? = some (.cells #[.bool b2, .slice q1 n1 c1, .slice r1 m1 d1] 66 (0, 0)) := heap_set B 0 _ 66 (.bool b2) hz
  have h1 : ((W.setCell ⟨B, 0, none⟩ (.bool b2)).setCell ⟨B, 1, none⟩ (.slice q2 n2 c2)).heap[B]? = some (.cells #[.bool b2, .slice q2 n2 c2, .slice r1 m1 d1] 66 (0, 0)) := heap_set B 1 _ 66 (.slice q2 n2 c2) h0
  have h2 : (((W.setCell ⟨B, 0, none⟩ (.bool b2)).setCell ⟨B, 1, none⟩ (.slice q2 n2 c2)).setCell ⟨B, 2, none⟩ (.slice r2 m2 d2)).heap[B]? = some (.cells #[.bool b2, .slice q2 n2 c2, .slice r2 m2 d2] 66 (0, 0)) := heap_set B 2 _ 66 (.slice r2 m2 d2) h1
  have far : ∀ g, g ≠ B → (((W.setCell ⟨B, 0, none⟩ (.bool b2)).setCell ⟨B, 1, none⟩ (.slice q2 n2 c2)).setCell ⟨B, 2, none⟩ (.slice r2 m2 d2)).heap[g]? = W.heap[g]? := fun g hg => by
    rw [Below.heap_setCell _ _ _ _ hg, Below.heap_setCell _ _ _ _ hg, Below.heap_setCell _ _ _ _ hg]
  refine ⟨⟨((h.keep.below.setCell (Nat.le_of_lt hB) _).setCell (Nat.le_of_lt hB) _).setCell (Nat.le_of_lt hB) _, ?_⟩, ((h.res.set_far _ _ _ (by omega) (by omega)).set_far _ _ _ (by omega) (by omega)).set_far _ _ _ (by omega) (by omega), rat_setU h1 (noU_val _ _ _ _ _ _ _) (rat_setU h0 (noU_val _ _ _ _ _ _ _) (rat_setU hz (noU_val _ _ _ _ _ _ _) hx 0 _) 1 _) 2 _⟩
  intro x hx
  rcases List.mem_cons.1 hx with rfl | hx
  · rw [far _ (by dsimp only; omega)]
    exact h.keep.one _ (List.mem_cons_self ..)
  rcases List.mem_cons.1 hx with rfl | hx
  · exact h2
  · rw [far _ (hL x hx)]
    exact h.keep.one _ (List.mem_cons_of_mem _ (List.mem_cons_of_mem _ hx))
theorem PInv.more (h : PInv w W B q K ps b1 q1 n1 c1 r1 m1 d1 L) (c : Array Value) (T : TypeId) : PInv w (W.alloc (.cells c T)) B q K ps b1 q1 n1 c1 r1 m1 d1 ((W.heap.size, c, T) :: L) := by
  have h2 := h.next (bea W (.cells c T))
  refine ⟨⟨h2.keep.below, fun x hx => ?_⟩, h2.res, h2.rat⟩
  rcases List.mem_cons.1 hx with rfl | hx
  · exact h2.keep.one _ (List.mem_cons_self ..)
  rcases List.mem_cons.1 hx with rfl | hx
  · exact h2.keep.one _ (List.mem_cons_of_mem _ (List.mem_cons_self ..))
  rcases List.mem_cons.1 hx with rfl | hx
  · exact heap_new W _
  · exact h2.keep.one _ (List.mem_cons_of_mem _ (List.mem_cons_of_mem _ hx))
theorem PInv.less (h : PInv w W B q K ps b1 q1 n1 c1 r1 m1 d1 L) : PInv w W B q K ps b1 q1 n1 c1 r1 m1 d1 [] :=
  ⟨h.keep.sub (by intro x hx; rcases List.mem_cons.1 hx with rfl | hx; exact List.mem_cons_self ..; rcases List.mem_cons.1 hx with rfl | hx; exact List.mem_cons_of_mem _ (List.mem_cons_self ..); cases hx), h.res, h.rat⟩
theorem PInv.val (h : PInv w W B q K ps b1 q1 n1 c1 r1 m1 d1 L) : W.heap[B]? = some (.cells #[.bool b1, .slice q1 n1 c1, .slice r1 m1 d1] 66 (0, 0)) := h.keep.one _ (List.mem_cons_of_mem _ (List.mem_cons_self ..))
theorem PInv.pws (h : PInv w W B q K ps b1 q1 n1 c1 r1 m1 d1 L) : W.heap[B + 1]? = some (.cells (i64c ps) 51 (0, 0)) := h.keep.one _ (List.mem_cons_self ..)
end
theorem prodT_cons_no {q : Rat} {ps : List Int} {f : FacT} {l : List FacT} (h : isPow f.e = false) : prodT q ps (f :: l) = (zeroU, 4) := by
  show (if isPow f.e then _ else _) = _
  rw [h]; rfl
theorem prodT_cons_yes {q : Rat} {ps : List Int} {f : FacT} {l : List FacT} (h : isPow f.e = true) : prodT q ps (f :: l) = prodT (q * f.v ^ f.e) (List.zipWith (fun p r => p + r * f.e) ps f.ps) l := by
  show (if isPow f.e then _ else _) = _
  rw [h]; rfl
structure ProdInv (w wr : World) (B : Nat) (fs : List FacT) (k : Nat) (q : Rat) (ps : List Int) (b1 : Bool) (q1 : Option Addr) (n1 c1 : Nat) (r1 : Option Addr) (m1 d1 : Nat) : Prop where
  inv : PInv w wr B q (1 + 961 * k) ps b1 q1 n1 c1 r1 m1 d1 []
  len : ps.length = 7
  bd : ∀ x ∈ ps, -(36 * k : Int) ≤ x ∧ x ≤ 36 * k
  eq : prodT 1 noPs fs = prodT q ps (fs.drop k)
theorem fac_all {w W : World} {B : Nat} {bf : Bool} {pf : Option Addr} {nf cf : Nat} {qf : Option Addr} {mf df : Nat} {p0 p1 p2 p3 p4 p5 p6 ef : Int} (h : Keep w W [(B, #[.bool bf, .slice pf nf cf, .slice qf mf df, .int .i64 p0, .int .i64 p1, .int .i64 p2, .int .i64 p3, .int .i64 p4, .int .i64 p5, .int .i64 p6, .int .i64 ef], 157)]) : Keep w W [(B, #[.bool bf, .slice pf nf cf, .slice qf mf df, .int .i64 p0, .int .i64 p1, .int .i64 p2, .int .i64 p3, .int .i64 p4, .int .i64 p5, .int .i64 p6, .int .i64 ef], 157)] ∧ W.cell? ⟨B, 0, none⟩ = some (.bool bf) ∧ W.cell? ⟨B, 1, none⟩ = some (.slice pf nf cf) ∧ W.cell? ⟨B, 2, none⟩ = some (.slice qf mf df) ∧ W.cell? ⟨B, 10, none⟩ = some (.int .i64 ef) :=
  ⟨h, ceh (h.one _ (List.mem_cons_self ..)) 0, ceh (h.one _ (List.mem_cons_self ..)) 1, ceh (h.one _ (List.mem_cons_self ..)) 2, ceh (h.one _ (List.mem_cons_self ..)) 10⟩
theorem Keep.put3_far {w0 W : World} {L : List Blk} {B : Nat} (h : Keep w0 W L) (hB : w0.heap.size ≤ B) (hne : ∀ x ∈ L, x.1 ≠ B) (a0 a1 a2 : Value) : Keep w0 (((W.setCell ⟨B, 0, none⟩ a0).setCell ⟨B, 1, none⟩ a1).setCell ⟨B, 2, none⟩ a2) L :=
  have one : ∀ {W : World} (k : Nat) (v : Value), Keep w0 W L → Keep w0 (W.setCell ⟨B, k, none⟩ v) L := fun _k _v h => ⟨h.below.setCell hB _, fun x hx => (Below.heap_setCell _ _ _ _ (hne x hx)).trans (h.all x hx)⟩
  one 2 a2 (one 1 a1 (one 0 a0 h))
theorem PInv.tail {w W : World} {B : Nat} {q : Rat} {K : Nat} {ps : List Int} {b1 : Bool} {q1 : Option Addr} {n1 c1 : Nat} {r1 : Option Addr} {m1 d1 : Nat} {L : List Blk} (h : PInv w W B q K ps b1 q1 n1 c1 r1 m1 d1 L) : Keep w W L := h.keep.sub fun _ hx => List.mem_cons_of_mem _ (List.mem_cons_of_mem _ hx)
theorem small_mul {p e : Int} (hp : -3 ≤ p ∧ p ≤ 3) (he : -12 ≤ e ∧ e ≤ 12) : -36 ≤ p * e ∧ p * e ≤ 36 := by
  have h : p = -3 ∨ p = -2 ∨ p = -1 ∨ p = 0 ∨ p = 1 ∨ p = 2 ∨ p = 3 := by omega
  rcases h with rfl | rfl | rfl | rfl | rfl | rfl | rfl <;> omega
theorem mixL_get {ps rs : List Int} {n : Int} {j : Nat} (h : ps.length = rs.length) (hj : j < ps.length) : (i64c (mixL ps rs n j))[j]? = some (.int .i64 (ps.getD j 0)) := by
  unfold i64c mixL
  rw [List.getElem?_toArray, List.getElem?_map, List.getElem?_append_right (by simp; omega)]
  have : j - (List.take j (List.zipWith (fun p r => p + r * n) ps rs)).length = 0 := by simp; omega
  rw [this, List.getElem?_drop, Nat.add_zero, List.getD_eq_getElem?_getD, List.getElem?_eq_getElem hj]; rfl
theorem mixL_set {ps rs : List Int} {n : Int} {j : Nat} (h : ps.length = rs.length) (hj : j < ps.length) : (mixL ps rs n j).set j (ps.getD j 0 + rs.getD j 0 * n) = mixL ps rs n (j + 1) := by
  have hz : j < (List.zipWith (fun p r => p + r * n) ps rs).length := by simp; omega
  unfold mixL
  rw [List.set_append_right _ _ (by simp; omega), List.take_succ_eq_append_getElem hz, List.append_assoc]
  congr 1
  have h0 : j - (List.take j (List.zipWith (fun p r => p + r * n) ps rs)).length = 0 := by simp; omega
  rw [h0, List.drop_eq_getElem_cons hj, List.set_cons_zero]
  rw [List.getElem_zipWith, List.getD_eq_getElem?_getD, List.getElem?_eq_getElem hj, List.getD_eq_getElem?_getD, List.getElem?_eq_getElem (by omega)]
  rfl
theorem mixL_len {ps rs : List Int} {n : Int} {j : Nat} (h : ps.length = rs.length) (hj : j ≤ ps.length) : (mixL ps rs n j).length = ps.length := by
  unfold mixL; simp; omega
theorem product_any (v : Value) (css : List (List Value)) (fs : List FacT) (base : Nat) (w : World) (hfs : FacsIn w base v css fs) (hlen : fs.length ≤ 12) (hsm : ∀ f ∈ fs, smallPs f.ps) (hpos : ∀ f ∈ fs, f.v ≠ 0) (htab : Tab w) : Calls Tryz.prog 123 #[v] w (UnitPost (prodT 1 noPs fs) w) := by
  have Hfs := hiD hfs
  have Htab := hiD htab
  have Hsm := hiD hsm
  have Hpos := hiD hpos
  obtain ⟨po, cap, hv⟩ : ∃ po cap, v = .slice po fs.length cap := by
    rcases hfs.row.1.2 with ⟨h1, h2⟩ | ⟨g, cap, cur, h1, -⟩
    · exact ⟨none, 0, by rw [h1, h2]⟩
    · exact ⟨_, _, h1⟩
  subst hv
  have hres0 := hiD (ResU.start w)
  clear hfs htab hsm hpos
  have hl12 : (fs.length : Int) ≤ 12 := by omega
  go_enter Tryz.func123, Tryz.ntmps123
  go_wp2_with fail
  refine (one_is _).mono ?_
  rintro e w2 ⟨x0, rfl, hx0, hb2⟩
  obtain ⟨b0, q0, n0, k0, r0, m0, d0, rfl⟩ := hx0.agg
  have hBlt : Hid (w.heap.size < w2.heap.size) := hiD (hres0.out.next hb2).size
  have hst : Hid (ProdInv w ((w2.alloc (.cells #[.bool b0, .slice q0 n0 k0, .slice r0 m0 d0] 66)).alloc (.cells #[.int .i64 0, .int .i64 0, .int .i64 0, .int .i64 0, .int .i64 0, .int .i64 0, .int .i64 0] 51)) w2.heap.size fs 0 1 noPs b0 q0 n0 k0 r0 m0 d0) := hiD (by
    have hr2 := hres0.out.next hb2
    have hk2 : Keep w w2 [] := ⟨hr2.below, fun _ h => by cases h⟩
    have hk4 := (hk2.more #[.bool b0, .slice q0 n0 k0, .slice r0 m0 d0] 66).more (i64c noPs) 51
    rw [show (w2.alloc (.cells #[.bool b0, .slice q0 n0 k0, .slice r0 m0 d0] 66)).heap.size = w2.heap.size + 1 from by simp] at hk4
    exact ⟨⟨hk4, (hr2.next (bea _ _)).next (bea _ _), (hx0.below (bea _ _)).below (bea _ _)⟩, rfl, by intro x hx; have : x ∈ noPs := hx; simp [noPs] at this; omega, rfl⟩)
  clear hx0 hb2
  go_wp2_with fail
  go_loopw [13] (fun i wr => ∃ (k : Nat), k ≤ fs.length ∧ i = .int .i64 k ∧ Hid (∃ q ps b1 q1 n1 c1 r1 m1 d1, ProdInv w wr w2.heap.size fs k q ps b1 q1 n1 c1 r1 m1 d1)) (fun i _ => fs.length - (intOf i).toNat)
  case atStart => exact ⟨0, Nat.zero_le _, rfl, hiD ⟨_, _, _, _, _, _, _, _, _, hst.out⟩⟩
  case round =>
    obtain ⟨k, hk, rfl, hinv0⟩ := hrel
    obtain ⟨q, ps, b1, q1, n1, c1, r1, m1, d1, hinv⟩ := hinv0.out
    have Hinv := hiD hinv
    clear hinv0
    obtain ⟨x0, x1, x2, x3, x4, x5, x6, hps7⟩ : ∃ x0 x1 x2 x3 x4 x5 x6, ps = [x0, x1, x2, x3, x4, x5, x6] := by
      match ps, hinv.len with
      | [y0, y1, y2, y3, y4, y5, y6], _ => exact ⟨_, _, _, _, _, _, _, rfl⟩
    subst hps7
    clear hinv
    by_cases hlt : k < fs.length
    · obtain ⟨g, cap', bf, pf, nf, cf, qf, mf, df, p0, p1, p2, p3, p4, p5, p6, hv, hglt, hcells, hRf, hpsf⟩ := (Hfs.out.below Hinv.out.inv.keep.below).cells hlt
      cases hv
      have hsmk := Hsm.out _ (List.getElem_mem hlt)
      have hposk := hiD (Hpos.out _ (List.getElem_mem hlt))
      have hdropk : Hid (fs.drop k = fs[k] :: fs.drop (k + 1)) := hiD (List.drop_eq_getElem_cons hlt)
      have Hsmk := hiD hsmk
      have HRf := hiD hRf
      have Hpsf := hiD hpsf
      clear hsmk hRf hpsf
      obtain ⟨f, hf⟩ : ∃ f, Hid (fs[k] = f) := ⟨_, hiD rfl⟩
      rw [hf.out] at hcells HRf Hpsf hposk hdropk Hsmk
      have e0 := hcells 0 _ rfl
      have e1 := hcells 1 _ rfl
      have e2 := hcells 2 _ rfl
      have e3 := hcells 3 _ rfl
      have e4 := hcells 4 _ rfl
      have e5 := hcells 5 _ rfl
      have e6 := hcells 6 _ rfl
      have e7 := hcells 7 _ rfl
      have e8 := hcells 8 _ rfl
      have e9 := hcells 9 _ rfl
      have e10 := hcells 10 _ rfl
      rw [Nat.add_zero] at e0
      clear hcells
      obtain ⟨ef, hef⟩ : ∃ ef, Hid (f.e = ef) := ⟨_, hiD rfl⟩
      rw [hef.out] at e10
      by_cases hpw : isPow ef = false
      · have Hz : Hid (prodT 1 noPs fs = (zeroU, 4)) := hiD (by rw [Hinv.out.eq, hdropk.out, prodT_cons_no (by rw [hef.out]; exact hpw)])
        have Hres2 := hiD (Hinv.out.inv.res.next (bea wr (.cells #[.bool bf, .slice pf nf cf, .slice qf mf df, .int .i64 p0, .int .i64 p1, .int .i64 p2, .int .i64 p3, .int .i64 p4, .int .i64 p5, .int .i64 p6, .int .i64 ef] 157)))
        obtain ⟨z0, z1, z2, z3, z4, z5, z6, z7, z8, ⟨l0, l1, l2, l3, l4, l5, l6, l7, l8⟩, ⟨f0, f1, f2, f3, f4, f5, f6, f7, f8⟩⟩ := Hres2.out.slots
        have hfin : Hid (∀ W, W = ((((((((((wr.alloc (.cells #[.bool bf, .slice pf nf cf, .slice qf mf df, .int .i64 p0, .int .i64 p1, .int .i64 p2, .int .i64 p3, .int .i64 p4, .int .i64 p5, .int .i64 p6, .int .i64 ef] 157)).setCell ⟨w.heap.size, 0, none⟩ (.string ⟨#[]⟩)).setCell ⟨w.heap.size, 1, none⟩ (.string ⟨#[]⟩)).setCell ⟨w.heap.size, 2, none⟩ (.int .i64 0)).setCell ⟨w.heap.size, 3, none⟩ (.int .i64 0)).setCell ⟨w.heap.size, 4, none⟩ (.int .i64 0)).setCell ⟨w.heap.size, 5, none⟩ (.int .i64 0)).setCell ⟨w.heap.size, 6, none⟩ (.int .i64 0)).setCell ⟨w.heap.size, 7, none⟩ (.int .i64 0)).setCell ⟨w.heap.size, 8, none⟩ (.int .i64 0)) → UnitPost (prodT 1 noPs fs) w (.returned (.tuple #[.agg #[.string ⟨#[]⟩, .string ⟨#[]⟩, .int .i64 0, .int .i64 0, .int .i64 0, .int .i64 0, .int .i64 0, .int .i64 0, .int .i64 0], .int .i64 4])) W) := hiD (by
          rintro W rfl
          rw [Hz.out]
          exact ⟨_, _, _, _, _, _, _, _, _, rfl, rfl, Hres2.out.put9 (Nat.le_refl _) (.string ⟨#[]⟩) (.string ⟨#[]⟩) (.int .i64 0) (.int .i64 0) (.int .i64 0) (.int .i64 0) (.int .i64 0) (.int .i64 0) (.int .i64 0)⟩)
        go_wp2_with fail
        refine (isPower_any _ _).mono ?_
        rintro e w1 ⟨rfl, rfl⟩
        rw [hpw]
        go_wp2_with fail
        have hcells := Hres2.out.put9_heap (.string ⟨#[]⟩) (.string ⟨#[]⟩) (.int .i64 0) (.int .i64 0) (.int .i64 0) (.int .i64 0) (.int .i64 0) (.int .i64 0) (.int .i64 0)
        generalize (((((((((wr.alloc (.cells #[.bool bf, .slice pf nf cf, .slice qf mf df, .int .i64 p0, .int .i64 p1, .int .i64 p2, .int .i64 p3, .int .i64 p4, .int .i64 p5, .int .i64 p6, .int .i64 ef] 157)).setCell ⟨w.heap.size, 0, none⟩ (.string ⟨#[]⟩)).setCell ⟨w.heap.size, 1, none⟩ (.string ⟨#[]⟩)).setCell ⟨w.heap.size, 2, none⟩ (.int .i64 0)).setCell ⟨w.heap.size, 3, none⟩ (.int .i64 0)).setCell ⟨w.heap.size, 4, none⟩ (.int .i64 0)).setCell ⟨w.heap.size, 5, none⟩ (.int .i64 0)).setCell ⟨w.heap.size, 6, none⟩ (.int .i64 0)).setCell ⟨w.heap.size, 7, none⟩ (.int .i64 0)).setCell ⟨w.heap.size, 8, none⟩ (.int .i64 0) = WW at hcells hfin ⊢
        have c0 := ceh hcells 0
        have c1 := ceh hcells 1
        have c2 := ceh hcells 2
        have c3 := ceh hcells 3
        have c4 := ceh hcells 4
        have c5 := ceh hcells 5
        have c6 := ceh hcells 6
        have c7 := ceh hcells 7
        have c8 := ceh hcells 8
        refine bodyPost_ret (v := .tuple #[.agg #[.string ⟨#[]⟩, .string ⟨#[]⟩, .int .i64 0, .int .i64 0, .int .i64 0, .int .i64 0, .int .i64 0, .int .i64 0, .int .i64 0], .int .i64 4]) (by simp [results, Tryz.results123, go_sem, c0, c1, c2, c3, c4, c5, c6, c7, c8]) rfl ?_
        exact hfin.out _ rfl
      rw [Bool.not_eq_false] at hpw
      have hefb : -12 ≤ ef ∧ ef ≤ 12 := by
        unfold isPow at hpw
        rw [Bool.and_eq_true, decide_eq_true_iff, decide_eq_true_iff] at hpw; exact hpw
      have hk12 : k < 12 := by omega
      have hxb : Hid (-(36 * (k : Int)) ≤ x0 ∧ x0 ≤ 36 * (k : Int) ∧ -(36 * (k : Int)) ≤ x1 ∧ x1 ≤ 36 * (k : Int) ∧ -(36 * (k : Int)) ≤ x2 ∧ x2 ≤ 36 * (k : Int) ∧ -(36 * (k : Int)) ≤ x3 ∧ x3 ≤ 36 * (k : Int) ∧ -(36 * (k : Int)) ≤ x4 ∧ x4 ≤ 36 * (k : Int) ∧ -(36 * (k : Int)) ≤ x5 ∧ x5 ≤ 36 * (k : Int) ∧ -(36 * (k : Int)) ≤ x6 ∧ x6 ≤ 36 * (k : Int)) := hiD ⟨(Hinv.out.bd x0 (by simp)).1, (Hinv.out.bd x0 (by simp)).2, (Hinv.out.bd x1 (by simp)).1, (Hinv.out.bd x1 (by simp)).2, (Hinv.out.bd x2 (by simp)).1, (Hinv.out.bd x2 (by simp)).2, (Hinv.out.bd x3 (by simp)).1, (Hinv.out.bd x3 (by simp)).2, (Hinv.out.bd x4 (by simp)).1, (Hinv.out.bd x4 (by simp)).2, (Hinv.out.bd x5 (by simp)).1, (Hinv.out.bd x5 (by simp)).2, (Hinv.out.bd x6 (by simp)).1, (Hinv.out.bd x6 (by simp)).2⟩
      have hpb : Hid (-36 ≤ p0 * ef ∧ p0 * ef ≤ 36 ∧ -36 ≤ p1 * ef ∧ p1 * ef ≤ 36 ∧ -36 ≤ p2 * ef ∧ p2 * ef ≤ 36 ∧ -36 ≤ p3 * ef ∧ p3 * ef ≤ 36 ∧ -36 ≤ p4 * ef ∧ p4 * ef ≤ 36 ∧ -36 ≤ p5 * ef ∧ p5 * ef ≤ 36 ∧ -36 ≤ p6 * ef ∧ p6 * ef ≤ 36) := hiD (by
        have := Hsmk.out.2
        rw [← Hpsf.out] at this
        exact ⟨(small_mul (this p0 (by simp)) hefb).1, (small_mul (this p0 (by simp)) hefb).2, (small_mul (this p1 (by simp)) hefb).1, (small_mul (this p1 (by simp)) hefb).2, (small_mul (this p2 (by simp)) hefb).1, (small_mul (this p2 (by simp)) hefb).2, (small_mul (this p3 (by simp)) hefb).1, (small_mul (this p3 (by simp)) hefb).2, (small_mul (this p4 (by simp)) hefb).1, (small_mul (this p4 (by simp)) hefb).2, (small_mul (this p5 (by simp)) hefb).1, (small_mul (this p5 (by simp)) hefb).2, (small_mul (this p6 (by simp)) hefb).1, (small_mul (this p6 (by simp)) hefb).2⟩)
      have hw : Hid (∀ j, j < 7 → IntKind.i64.wrap ([p0, p1, p2, p3, p4, p5, p6].getD j 0 * ef) = [p0, p1, p2, p3, p4, p5, p6].getD j 0 * ef ∧ IntKind.i64.wrap ([x0, x1, x2, x3, x4, x5, x6].getD j 0 + [p0, p1, p2, p3, p4, p5, p6].getD j 0 * ef) = [x0, x1, x2, x3, x4, x5, x6].getD j 0 + [p0, p1, p2, p3, p4, p5, p6].getD j 0 * ef) := hiD (by
        have h1 := hxb.out
        have h2 := hpb.out
        have hk' : (k : Int) < 12 := by omega
        intro j hj
        match j, hj with
        | 0, _ => exact ⟨IntWalk.i64_in (p0 * ef) (by omega), IntWalk.i64_in (x0 + p0 * ef) (by omega)⟩
        | 1, _ => exact ⟨IntWalk.i64_in (p1 * ef) (by omega), IntWalk.i64_in (x1 + p1 * ef) (by omega)⟩
        | 2, _ => exact ⟨IntWalk.i64_in (p2 * ef) (by omega), IntWalk.i64_in (x2 + p2 * ef) (by omega)⟩
        | 3, _ => exact ⟨IntWalk.i64_in (p3 * ef) (by omega), IntWalk.i64_in (x3 + p3 * ef) (by omega)⟩
        | 4, _ => exact ⟨IntWalk.i64_in (p4 * ef) (by omega), IntWalk.i64_in (x4 + p4 * ef) (by omega)⟩
        | 5, _ => exact ⟨IntWalk.i64_in (p5 * ef) (by omega), IntWalk.i64_in (x5 + p5 * ef) (by omega)⟩
        | 6, _ => exact ⟨IntWalk.i64_in (p6 * ef) (by omega), IntWalk.i64_in (x6 + p6 * ef) (by omega)⟩)
      have hbd : Hid (∀ x ∈ ([x0 + p0 * ef, x1 + p1 * ef, x2 + p2 * ef, x3 + p3 * ef, x4 + p4 * ef, x5 + p5 * ef, x6 + p6 * ef] : List Int), -(36 * ((k + 1 : Nat) : Int)) ≤ x ∧ x ≤ 36 * ((k + 1 : Nat) : Int)) := hiD (by
        have h1 := hxb.out
        have h2 := hpb.out
        intro x hx
        simp only [List.mem_cons, List.not_mem_nil, or_false] at hx
        rcases hx with rfl | rfl | rfl | rfl | rfl | rfl | rfl <;> omega)
      have heq : Hid (prodT 1 noPs fs = prodT (q * f.v ^ ef) [x0 + p0 * ef, x1 + p1 * ef, x2 + p2 * ef, x3 + p3 * ef, x4 + p4 * ef, x5 + p5 * ef, x6 + p6 * ef] (fs.drop (k + 1))) := hiD (by
        rw [Hinv.out.eq, hdropk.out, prodT_cons_yes (by rw [hef.out]; exact hpw), hef.out, ← Hpsf.out]; rfl)
      have ii : Hid (∀ j, j < 7 → ∀ W, (Instr.index 51 (.agg #[.int .i64 p0, .int .i64 p1, .int .i64 p2, .int .i64 p3, .int .i64 p4, .int .i64 p5, .int .i64 p6]) (.int .i64 (j : Nat))).run Tryz.prog W = .ok (.int .i64 ([p0, p1, p2, p3, p4, p5, p6].getD j 0)) W) := hiD (by
        intro j hj
        match j, hj with
        | 0, _ => exact fun _ => by kernel_rfl
        | 1, _ => exact fun _ => by kernel_rfl
        | 2, _ => exact fun _ => by kernel_rfl
        | 3, _ => exact fun _ => by kernel_rfl
        | 4, _ => exact fun _ => by kernel_rfl
        | 5, _ => exact fun _ => by kernel_rfl
        | 6, _ => exact fun _ => by kernel_rfl)
      have hpow : Hid (∀ W x, RatIs W x f.v 40 → Calls Tryz.prog 102 #[x, .int .i64 ef] W (IsPost (f.v ^ ef) 961 W)) := hiD fun W x hx => by
        refine (pow_is x f.v ef 40 W (by omega) (by omega) (by omega) (by omega) (fun _ => hposk.out) hx).mono ?_
        rintro e w' ⟨z, rfl, hz, hb⟩
        exact ⟨z, rfl, hz.more (by omega), hb⟩
      have hmul : Hid (∀ W x y, RatIs W x q (1 + 961 * k) → RatIs W y (f.v ^ ef) 961 → Calls Tryz.prog 81 #[x, y] W (IsPost (q * f.v ^ ef) (1 + 961 * (k + 1)) W)) := hiD fun W x y hx hy => by
        refine (mul_is2 x y q (f.v ^ ef) (1 + 961 * k) 961 W (by omega) hx hy).mono ?_
        rintro e w' ⟨z, rfl, hz, hb⟩
        exact ⟨z, rfl, hz.more (by omega), hb⟩
      have hP := hiD (Hinv.out.inv.more #[.bool bf, .slice pf nf cf, .slice qf mf df, .int .i64 p0, .int .i64 p1, .int .i64 p2, .int .i64 p3, .int .i64 p4, .int .i64 p5, .int .i64 p6, .int .i64 ef] 157)
      have hRf0 := hiD (HRf.out.below (bea wr (.cells #[.bool bf, .slice pf nf cf, .slice qf mf df, .int .i64 p0, .int .i64 p1, .int .i64 p2, .int .i64 p3, .int .i64 p4, .int .i64 p5, .int .i64 p6, .int .i64 ef] 157)))
      have hwrB : Hid (w2.heap.size + 1 < wr.heap.size) := hiD (Hinv.out.inv.keep.lt (List.mem_cons_self ..))
      have hneB : Hid (∀ x ∈ ([(wr.heap.size, #[.bool bf, .slice pf nf cf, .slice qf mf df, .int .i64 p0, .int .i64 p1, .int .i64 p2, .int .i64 p3, .int .i64 p4, .int .i64 p5, .int .i64 p6, .int .i64 ef], 157)] : List Blk), x.1 ≠ w2.heap.size) := hiD (by
        have := hwrB.out
        intro x hx
        simp only [List.mem_cons, List.not_mem_nil, or_false] at hx
        subst hx; dsimp only; omega)
      have hneB1 : Hid (∀ x ∈ ([(wr.heap.size, #[.bool bf, .slice pf nf cf, .slice qf mf df, .int .i64 p0, .int .i64 p1, .int .i64 p2, .int .i64 p3, .int .i64 p4, .int .i64 p5, .int .i64 p6, .int .i64 ef], 157)] : List Blk), x.1 ≠ w2.heap.size + 1) := hiD (by
        have := hwrB.out
        intro x hx
        simp only [List.mem_cons, List.not_mem_nil, or_false] at hx
        subst hx; dsimp only; omega)
      have hleB : Hid (w.heap.size ≤ w2.heap.size) := hiD (Nat.le_of_lt hBlt.out)
      go_wp2_with fail
      refine (isPower_any _ _).mono ?_
      rintro e w1 ⟨rfl, rfl⟩
      rw [hpw]
      clear hpw e0 e1 e2 e3 e4 e5 e6 e7 e8 e9 e10
      go_wp2_with fail
      have v0 := ceh hP.out.drew.val 0
      have v1 := ceh hP.out.drew.val 1
      have v2 := ceh hP.out.drew.val 2
      refine wp_region_held_drew (S := fun w' => Keep w w' [(wr.heap.size, #[.bool bf, .slice pf nf cf, .slice qf mf df, .int .i64 p0, .int .i64 p1, .int .i64 p2, .int .i64 p3, .int .i64 p4, .int .i64 p5, .int .i64 p6, .int .i64 ef], 157)] ∧ w'.cell? ⟨wr.heap.size, 0, none⟩ = some (.bool bf) ∧ w'.cell? ⟨wr.heap.size, 1, none⟩ = some (.slice pf nf cf) ∧ w'.cell? ⟨wr.heap.size, 2, none⟩ = some (.slice qf mf df) ∧ w'.cell? ⟨wr.heap.size, 10, none⟩ = some (.int .i64 ef)) (by kernel_rfl) (fac_all hP.out.drew.tail) (fun hHeld => ?_)
      refine wpAnyH_take (i := 1) (v := (.pointer (some ⟨wr.heap.size, 0, none⟩))) rfl (by kernel_rfl) (by kernel_rfl) (by kernel_rfl) (fun _ _ _ h => h) (Or.inl ⟨by rfl, by intro W hSw; clear hHeld; go_split_ands; go_simp⟩) (by assumption) ?_
      simp only [Act.put, List.setIfInBounds_toArray]
      refine wpAnyH_take (i := 3) (v := (.pointer (some ⟨wr.heap.size, 10, none⟩))) rfl (by kernel_rfl) (by kernel_rfl) (by kernel_rfl) (fun _ _ _ h => h) (Or.inl ⟨by rfl, by intro W hSw; clear hHeld; go_split_ands; go_simp⟩) (by assumption) ?_
      simp only [Act.put]
      refine wpAnyH_take (i := 2) (v := (.agg #[.bool bf, .slice pf nf cf, .slice qf mf df])) rfl (by kernel_rfl) (by kernel_rfl) (by kernel_rfl) (fun _ _ _ h => h) (Or.inl ⟨by rfl, by intro W hSw; clear hHeld; go_split_ands; go_simp⟩) (by assumption) ?_
      simp only [Act.put]
      refine wpAnyH_take (i := 4) (v := (.int .i64 ef)) rfl (by kernel_rfl) (by kernel_rfl) (by kernel_rfl) (fun _ _ _ h => h) (Or.inl ⟨by rfl, by intro W hSw; clear hHeld; go_split_ands; go_simp⟩) (by assumption) ?_
      simp only [Act.put]
      refine wpAnyH_ready (rs := [0, 5]) (by kernel_rfl) (by simp) ?_
      refine AllReadyH.cons (i := 0) rfl (fun K hK => ?_) (AllReadyH.cons (i := 5) rfl (fun K hK => ?_) AllReadyH.nil)
      · go_simp
        refine hK.out _ _ (fac_all hP.out.drew.tail) (fun hHeld => ?_)
        clear hK K
        refine wpAnyH_ready (rs := [5]) (by kernel_rfl) (by simp) ?_
        refine AllReadyH.cons (i := 5) rfl (fun K hK => ?_) AllReadyH.nil
        go_simp
        refine (hpow.out _ _ (hRf0.out.below ((Below.refl _ _).drew))).mono ?_
        rintro e w4 ⟨xp, rfl, hxp, hb4⟩
        have hP4 := hiD (hP.out.drew.next hb4)
        go_simp
        refine hK.out _ _ (fac_all hP4.out.tail) (fun hHeld => ?_)
        clear hK K
        refine wpAnyH_ready (rs := [6]) (by kernel_rfl) (by simp) ?_
        refine AllReadyH.cons (i := 6) rfl (fun K hK => ?_) AllReadyH.nil
        go_simp
        refine (hmul.out _ _ _ hP4.out.rat hxp).mono ?_
        rintro e w5 ⟨xm, rfl, hxm, hb5⟩
        obtain ⟨b2, q2, n2, c2, r2, m2, d2, rfl⟩ := hxm.agg
        have hP5 := hiD (hP4.out.next hb5)
        have t0 := ceh hP5.out.val 0
        have t1 := ceh hP5.out.val 1
        have t2 := ceh hP5.out.val 2
        have g0 := foh hP5.out.val 0
        have g1 := foh hP5.out.val 1
        have g2 := foh hP5.out.val 2
        go_simp
        refine hK.out _ _ (fac_all hP5.out.tail) (fun hHeld => ?_)
        clear hK K
        refine wpAnyH_ready (rs := [7]) (by kernel_rfl) (by simp) ?_
        refine AllReadyH.cons (i := 7) rfl (fun K hK => ?_) AllReadyH.nil
        go_simp
        refine hK.out _ _ (fac_all (Keep.put3_far hP5.out.tail hleB.out hneB.out _ _ _)) (fun hHeld => ?_)
        clear hK K
        refine wpAnyH_done (by kernel_rfl) ?_ _
        have hPS := hiD (hP5.out.store hBlt.out hneB.out hxm)
        clear hHeld t0 t1 t2 g0 g1 g2 v0 v1 v2 hb4 hb5 hxp hxm
        generalize ((w5.setCell ⟨w2.heap.size, 0, none⟩ (.bool b2)).setCell ⟨w2.heap.size, 1, none⟩ (.slice q2 n2 c2)).setCell ⟨w2.heap.size, 2, none⟩ (.slice r2 m2 d2) = W6 at hPS ⊢
        have hx6 := hPS.out.tail.one _ (List.mem_cons_self ..)
        dsimp only at hx6
        have h3 := ceh hx6 3
        have h4 := ceh hx6 4
        have h5 := ceh hx6 5
        have h6 := ceh hx6 6
        have h7 := ceh hx6 7
        have h8 := ceh hx6 8
        have h9 := ceh hx6 9
        clear hx6 hP4 hP5 hP hRf0 HRf Hpsf hposk hdropk Hsmk hpow hmul hxb hpb Hinv hef hf
        go_wp2_with fail
        clear h3 h4 h5 h6 h7 h8 h9
        obtain ⟨XS, hXS⟩ : ∃ XS : List Int, Hid ([x0, x1, x2, x3, x4, x5, x6] = XS) := ⟨_, hiD rfl⟩
        obtain ⟨PS, hPSl⟩ : ∃ PS : List Int, Hid ([p0, p1, p2, p3, p4, p5, p6] = PS) := ⟨_, hiD rfl⟩
        have hlen7 : Hid (XS.length = 7 ∧ PS.length = 7) := hiD ⟨by rw [← hXS.out]; rfl, by rw [← hPSl.out]; rfl⟩
        rw [hXS.out] at hPS
        rw [hXS.out, hPSl.out] at hw
        rw [hPSl.out] at ii
        go_loopw [31] (fun i wi => ∃ j : Nat, j ≤ 7 ∧ i = .int .i64 j ∧ Hid (PInv w wi w2.heap.size (q * f.v ^ ef) (1 + 961 * (k + 1)) (mixL XS PS ef j) b2 q2 n2 c2 r2 m2 d2 [(wr.heap.size, #[.bool bf, .slice pf nf cf, .slice qf mf df, .int .i64 p0, .int .i64 p1, .int .i64 p2, .int .i64 p3, .int .i64 p4, .int .i64 p5, .int .i64 p6, .int .i64 ef], 157)])) (fun i _ => 7 - (intOf i).toNat)
        case atStart => exact ⟨0, by omega, rfl, hPS⟩
        case round =>
          obtain ⟨j, hj, rfl, hpj⟩ := hrel
          by_cases hj7 : j < 7
          · have hj7' : (j : Int) < 7 := by omega
            have eg := (ceh hpj.out.pws j).trans (mixL_get (hlen7.out.1.trans hlen7.out.2.symm) (by rw [hlen7.out.1]; exact hj7))
            have fg := foh hpj.out.pws j
            have hxb := hpj.out.tail.one _ (List.mem_cons_self ..)
            dsimp only at hxb
            have eb := ceh hxb 10
            obtain ⟨hw1, hw2⟩ := hw.out j hj7
            have hi := ii.out j hj7
            obtain ⟨X, hX⟩ : ∃ X, Hid (XS.getD j 0 = X) := ⟨_, hiD rfl⟩
            obtain ⟨Y, hY⟩ : ∃ Y, Hid (PS.getD j 0 = Y) := ⟨_, hiD rfl⟩
            rw [hX.out] at eg
            rw [hY.out] at hi hw1
            rw [hX.out, hY.out] at hw2
            have hnx : Hid ((mixL XS PS ef j).set j (X + Y * ef) = mixL XS PS ef (j + 1)) := hiD (by
              rw [← hX.out, ← hY.out]; exact mixL_set (hlen7.out.1.trans hlen7.out.2.symm) (by rw [hlen7.out.1]; exact hj7))
            have hjl : Hid (j < (mixL XS PS ef j).length) := hiD (by rw [mixL_len (hlen7.out.1.trans hlen7.out.2.symm) (by rw [hlen7.out.1]; exact hj), hlen7.out.1]; exact hj7)
            clear hxb
            go_wp2_with fail
            go_region
            go_wp2_with fail
            go_roundw
            case rel => exact ⟨j + 1, by omega, by go_num, hiD (by rw [← hnx.out]; exact hpj.out.drew.put hBlt.out hneB1.out j (X + Y * ef) hjl.out)⟩
            case measure => simp [intOf]; omega
          · obtain rfl : j = 7 := by omega
            have hnext : Hid (∃ q ps b1 q1 n1 c1 r1 m1 d1, ProdInv w wr w2.heap.size fs (k + 1) q ps b1 q1 n1 c1 r1 m1 d1) := hiD (by
              have h1 := hpj.out.less
              rw [← hXS.out, ← hPSl.out] at h1
              exact ⟨_, _, _, _, _, _, _, _, _, h1, rfl, hbd.out, heq.out⟩)
            go_wp2_with fail
            go_roundw
            case rel => exact ⟨k + 1, by omega, by go_num, hnext⟩
            case measure => simp [intOf]; omega
      · go_simp
        refine (hpow.out _ _ (hRf0.out.below ((Below.refl _ _).drew))).mono ?_
        rintro e w4 ⟨xp, rfl, hxp, hb4⟩
        have hP4 := hiD (hP.out.drew.next hb4)
        go_simp
        refine hK.out _ _ (fac_all hP4.out.tail) (fun hHeld => ?_)
        clear hK K
        have s0 := ceh hP4.out.val 0
        have s1 := ceh hP4.out.val 1
        have s2 := ceh hP4.out.val 2
        refine wpAnyH_ready (rs := [0]) (by kernel_rfl) (by simp) ?_
        refine AllReadyH.cons (i := 0) rfl (fun K hK => ?_) AllReadyH.nil
        go_simp
        refine hK.out _ _ (fac_all hP4.out.tail) (fun hHeld => ?_)
        clear hK K s0 s1 s2
        refine wpAnyH_ready (rs := [6]) (by kernel_rfl) (by simp) ?_
        refine AllReadyH.cons (i := 6) rfl (fun K hK => ?_) AllReadyH.nil
        go_simp
        refine (hmul.out _ _ _ hP4.out.rat hxp).mono ?_
        rintro e w5 ⟨xm, rfl, hxm, hb5⟩
        obtain ⟨b2, q2, n2, c2, r2, m2, d2, rfl⟩ := hxm.agg
        have hP5 := hiD (hP4.out.next hb5)
        have t0 := ceh hP5.out.val 0
        have t1 := ceh hP5.out.val 1
        have t2 := ceh hP5.out.val 2
        have g0 := foh hP5.out.val 0
        have g1 := foh hP5.out.val 1
        have g2 := foh hP5.out.val 2
        go_simp
        refine hK.out _ _ (fac_all hP5.out.tail) (fun hHeld => ?_)
        clear hK K
        refine wpAnyH_ready (rs := [7]) (by kernel_rfl) (by simp) ?_
        refine AllReadyH.cons (i := 7) rfl (fun K hK => ?_) AllReadyH.nil
        go_simp
        refine hK.out _ _ (fac_all (Keep.put3_far hP5.out.tail hleB.out hneB.out _ _ _)) (fun hHeld => ?_)
        clear hK K
        refine wpAnyH_done (by kernel_rfl) ?_ _
        have hPS := hiD (hP5.out.store hBlt.out hneB.out hxm)
        clear hHeld t0 t1 t2 g0 g1 g2 v0 v1 v2 hb4 hb5 hxp hxm
        generalize ((w5.setCell ⟨w2.heap.size, 0, none⟩ (.bool b2)).setCell ⟨w2.heap.size, 1, none⟩ (.slice q2 n2 c2)).setCell ⟨w2.heap.size, 2, none⟩ (.slice r2 m2 d2) = W6 at hPS ⊢
        have hx6 := hPS.out.tail.one _ (List.mem_cons_self ..)
        dsimp only at hx6
        have h3 := ceh hx6 3
        have h4 := ceh hx6 4
        have h5 := ceh hx6 5
        have h6 := ceh hx6 6
        have h7 := ceh hx6 7
        have h8 := ceh hx6 8
        have h9 := ceh hx6 9
        clear hx6 hP4 hP5 hP hRf0 HRf Hpsf hposk hdropk Hsmk hpow hmul hxb hpb Hinv hef hf
        go_wp2_with fail
        clear h3 h4 h5 h6 h7 h8 h9
        obtain ⟨XS, hXS⟩ : ∃ XS : List Int, Hid ([x0, x1, x2, x3, x4, x5, x6] = XS) := ⟨_, hiD rfl⟩
        obtain ⟨PS, hPSl⟩ : ∃ PS : List Int, Hid ([p0, p1, p2, p3, p4, p5, p6] = PS) := ⟨_, hiD rfl⟩
        have hlen7 : Hid (XS.length = 7 ∧ PS.length = 7) := hiD ⟨by rw [← hXS.out]; rfl, by rw [← hPSl.out]; rfl⟩
        rw [hXS.out] at hPS
        rw [hXS.out, hPSl.out] at hw
        rw [hPSl.out] at ii
        go_loopw [31] (fun i wi => ∃ j : Nat, j ≤ 7 ∧ i = .int .i64 j ∧ Hid (PInv w wi w2.heap.size (q * f.v ^ ef) (1 + 961 * (k + 1)) (mixL XS PS ef j) b2 q2 n2 c2 r2 m2 d2 [(wr.heap.size, #[.bool bf, .slice pf nf cf, .slice qf mf df, .int .i64 p0, .int .i64 p1, .int .i64 p2, .int .i64 p3, .int .i64 p4, .int .i64 p5, .int .i64 p6, .int .i64 ef], 157)])) (fun i _ => 7 - (intOf i).toNat)
        case atStart => exact ⟨0, by omega, rfl, hPS⟩
        case round =>
          obtain ⟨j, hj, rfl, hpj⟩ := hrel
          by_cases hj7 : j < 7
          · have hj7' : (j : Int) < 7 := by omega
            have eg := (ceh hpj.out.pws j).trans (mixL_get (hlen7.out.1.trans hlen7.out.2.symm) (by rw [hlen7.out.1]; exact hj7))
            have fg := foh hpj.out.pws j
            have hxb := hpj.out.tail.one _ (List.mem_cons_self ..)
            dsimp only at hxb
            have eb := ceh hxb 10
            obtain ⟨hw1, hw2⟩ := hw.out j hj7
            have hi := ii.out j hj7
            obtain ⟨X, hX⟩ : ∃ X, Hid (XS.getD j 0 = X) := ⟨_, hiD rfl⟩
            obtain ⟨Y, hY⟩ : ∃ Y, Hid (PS.getD j 0 = Y) := ⟨_, hiD rfl⟩
            rw [hX.out] at eg
            rw [hY.out] at hi hw1
            rw [hX.out, hY.out] at hw2
            have hnx : Hid ((mixL XS PS ef j).set j (X + Y * ef) = mixL XS PS ef (j + 1)) := hiD (by
              rw [← hX.out, ← hY.out]; exact mixL_set (hlen7.out.1.trans hlen7.out.2.symm) (by rw [hlen7.out.1]; exact hj7))
            have hjl : Hid (j < (mixL XS PS ef j).length) := hiD (by rw [mixL_len (hlen7.out.1.trans hlen7.out.2.symm) (by rw [hlen7.out.1]; exact hj), hlen7.out.1]; exact hj7)
            clear hxb
            go_wp2_with fail
            go_region
            go_wp2_with fail
            go_roundw
            case rel => exact ⟨j + 1, by omega, by go_num, hiD (by rw [← hnx.out]; exact hpj.out.drew.put hBlt.out hneB1.out j (X + Y * ef) hjl.out)⟩
            case measure => simp [intOf]; omega
          · obtain rfl : j = 7 := by omega
            have hnext : Hid (∃ q ps b1 q1 n1 c1 r1 m1 d1, ProdInv w wr w2.heap.size fs (k + 1) q ps b1 q1 n1 c1 r1 m1 d1) := hiD (by
              have h1 := hpj.out.less
              rw [← hXS.out, ← hPSl.out] at h1
              exact ⟨_, _, _, _, _, _, _, _, _, h1, rfl, hbd.out, heq.out⟩)
            go_wp2_with fail
            go_roundw
            case rel => exact ⟨k + 1, by omega, by go_num, hnext⟩
            case measure => simp [intOf]; omega
    · obtain rfl : k = fs.length := by omega
      have hval := Hinv.out.inv.val
      have u0 := ceh hval 0
      have u1 := ceh hval 1
      have u2' := ceh hval 2
      have hpw : wr.heap[w2.heap.size + 1]? = some (.cells #[.int .i64 x0, .int .i64 x1, .int .i64 x2, .int .i64 x3, .int .i64 x4, .int .i64 x5, .int .i64 x6] 51 (0, 0)) := Hinv.out.inv.pws
      have e0 := ceh hpw 0
      have e1 := ceh hpw 1
      have e2 := ceh hpw 2
      have e3 := ceh hpw 3
      have e4 := ceh hpw 4
      have e5 := ceh hpw 5
      have e6 := ceh hpw 6
      have hpl : Hid (Calls Tryz.prog 100 #[.agg #[.bool b1, .slice q1 n1 c1, .slice r1 m1 d1], .agg #[.int .i64 x0, .int .i64 x1, .int .i64 x2, .int .i64 x3, .int .i64 x4, .int .i64 x5, .int .i64 x6]] wr (UnitPost (prodT 1 noPs fs) wr)) := hiD (by
        rw [Hinv.out.eq, List.drop_eq_nil_of_le (Nat.le_refl _)]
        exact plain_is _ x0 x1 x2 x3 x4 x5 x6 q (1 + 961 * fs.length) wr (by omega) (Htab.out.below Hinv.out.inv.keep.below) Hinv.out.inv.rat)
      have hres := hiD Hinv.out.inv.res
      clear hval hpw
      obtain ⟨res, hrs⟩ : ∃ res, Hid (prodT 1 noPs fs = res) := ⟨_, hiD rfl⟩
      rw [hrs.out] at hpl
      go_wp2_with fail
      refine hpl.out.mono ?_
      rintro e w8 ⟨fr, orr, y0, y1, y2, y3, y4, y5, y6, rfl, htU, hb8⟩
      have Hres2 := hiD (hres.out.next hb8)
      obtain ⟨z0, z1, z2, z3, z4, z5, z6, z7, z8, ⟨l0, l1, l2, l3, l4, l5, l6, l7, l8⟩, ⟨f0, f1, f2, f3, f4, f5, f6, f7, f8⟩⟩ := Hres2.out.slots
      have hfin : Hid (∀ W, W = ((((((((((w8).setCell ⟨w.heap.size, 0, none⟩ (.string fr)).setCell ⟨w.heap.size, 1, none⟩ (.string orr)).setCell ⟨w.heap.size, 2, none⟩ (.int .i64 y0)).setCell ⟨w.heap.size, 3, none⟩ (.int .i64 y1)).setCell ⟨w.heap.size, 4, none⟩ (.int .i64 y2)).setCell ⟨w.heap.size, 5, none⟩ (.int .i64 y3)).setCell ⟨w.heap.size, 6, none⟩ (.int .i64 y4)).setCell ⟨w.heap.size, 7, none⟩ (.int .i64 y5)).setCell ⟨w.heap.size, 8, none⟩ (.int .i64 y6)) → UnitPost res w (.returned (.tuple #[.agg #[.string fr, .string orr, .int .i64 y0, .int .i64 y1, .int .i64 y2, .int .i64 y3, .int .i64 y4, .int .i64 y5, .int .i64 y6], .int .i64 res.2])) W) := hiD (by
        rintro W rfl
        exact ⟨_, _, _, _, _, _, _, _, _, rfl, htU, Hres2.out.put9 (Nat.le_refl _) (.string fr) (.string orr) (.int .i64 y0) (.int .i64 y1) (.int .i64 y2) (.int .i64 y3) (.int .i64 y4) (.int .i64 y5) (.int .i64 y6)⟩)
      clear hb8
      go_wp2_with fail
      have hcells := Hres2.out.put9_heap (.string fr) (.string orr) (.int .i64 y0) (.int .i64 y1) (.int .i64 y2) (.int .i64 y3) (.int .i64 y4) (.int .i64 y5) (.int .i64 y6)
      generalize (((((((((w8).setCell ⟨w.heap.size, 0, none⟩ (.string fr)).setCell ⟨w.heap.size, 1, none⟩ (.string orr)).setCell ⟨w.heap.size, 2, none⟩ (.int .i64 y0)).setCell ⟨w.heap.size, 3, none⟩ (.int .i64 y1)).setCell ⟨w.heap.size, 4, none⟩ (.int .i64 y2)).setCell ⟨w.heap.size, 5, none⟩ (.int .i64 y3)).setCell ⟨w.heap.size, 6, none⟩ (.int .i64 y4)).setCell ⟨w.heap.size, 7, none⟩ (.int .i64 y5)).setCell ⟨w.heap.size, 8, none⟩ (.int .i64 y6) = WW at hcells hfin ⊢
      have c0 := ceh hcells 0
      have c1 := ceh hcells 1
      have c2 := ceh hcells 2
      have c3 := ceh hcells 3
      have c4 := ceh hcells 4
      have c5 := ceh hcells 5
      have c6 := ceh hcells 6
      have c7 := ceh hcells 7
      have c8 := ceh hcells 8
      refine bodyPost_ret (v := .tuple #[.agg #[.string fr, .string orr, .int .i64 y0, .int .i64 y1, .int .i64 y2, .int .i64 y3, .int .i64 y4, .int .i64 y5, .int .i64 y6], .int .i64 res.2]) (by simp [results, Tryz.results123, go_sem, c0, c1, c2, c3, c4, c5, c6, c7, c8]) rfl ?_
      rw [hrs.out]
      exact hfin.out _ rfl
end Go.Proofs.YtoegbjmoecbjdaaGreatDoor
