/- Total of no numbers. -/
import Derived.Test.YtoegbjmoecbjdaaGreatDoorVG
import Derived.Deep.RegionHeld3
import Derived.OwnWalk
set_option maxHeartbeats 4000000
set_option maxRecDepth 100000
namespace Go.Proofs.YtoegbjmoecbjdaaGreatDoor
open Go.RowKit Big
open Go.Lib Go.Shelf
theorem clone_zero (b off c : Nat) (W : World) : Calls Tryz.prog 139 #[.slice (some ⟨b, off, none⟩) 0 c] W fun e w' => e = .returned (.slice (some ⟨W.heap.size, 0, none⟩) 0 0) ∧ W.grownBy w' none ∧ W.heap.size < w'.heap.size := by
  have hq : ∀ (w : World), (binOp .eql 91 (.slice (some ⟨b, off, none⟩) 0 c) (.slice none 0 0)).run Tryz.prog w = .ok (.bool false) w := fun w => Lib.run_eql_slice_nil w 91 (Tryz.prog.elem 91) (some ⟨b, off, none⟩) 0 c 0 0 elem91
  go_enter Tryz.func139, Tryz.ntmps139
  go_wp2_with fail
  go_ret
  exact ⟨rfl, World.grownBy_alloc W _ none, by simp⟩
theorem sort_zero (V cap : Nat) (w : World) (hVw : V < w.heap.size) : Calls Tryz.prog 140 #[.slice (some ⟨V, 0, none⟩) 0 cap, .func (.func 141) #[] #[]] w fun e w' => e = .returned (.tuple #[]) ∧ w.grownBy w' (some V) := by
  have eg : ∀ args w, (callFunc 141 args).run Tryz.prog w = .ok (.enter 141 args) w := enters_of Tryz.func141 (by kernel_rfl) rfl
  have hcl : CmpLays Tryz.prog 141 #[] (fun _ : Fin 1 => encC (false, none, 0, 0, none, 0, 0)) 3 (fun _ _ => cmp3 0 0) V 0 (#[] : Array (Fin 1)).size w := by
    intro m os dk hdk x y
    exact bottoms_any (false, none, 0, 0, none, 0, 0) (false, none, 0, 0, none, 0, 0) 0 0 1 _ (by unfold most; omega) (by decide) (by decide) (NatAt.zero _) (NatAt.zero _)
  have hhold : Go.Sort.HoldsK (fun _ : Fin 1 => encC (false, none, 0, 0, none, 0, 0)) 3 w V 0 (#[] : Array (Fin 1)) := by
    intro j hj
    rw [Go.Sort.size_flatK] at hj
    simp at hj
  have hcon := AnyQ.slices_SortFunc Tryz.sortRat 3 Tryz.isAgg66 Tryz.sizeOf66 (fun _ : Fin 1 => encC (false, none, 0, 0, none, 0, 0)) (fun _ => rfl) (fun x v hv => by simp [encC] at hv; rcases hv with rfl | rfl | rfl <;> rfl) (fun _ _ => cmp3 0 0) (cmp_swo (fun _ => 0)) 141 #[] V 0 cap (#[] : Array (Fin 1)) w eg hcl hhold hVw (by simp)
  refine hcon.mono ?_
  rintro e w' ⟨rfl, d', m, os, hp, -, rfl⟩
  exact ⟨rfl, sortWorld_grown _ _ _ _ _ _ _ _⟩
theorem total_zero (b off c : Nat) (w : World) : Calls Tryz.prog 93 #[.slice (some ⟨b, off, none⟩) 0 c] w (IsPost 0 1 w) := by
  have HRES := hiD (Res.start w)
  have HCL := hiD (clone_zero b off c)
  have HSO := hiD sort_zero
  have HHV := hiD (halves_zero)
  go_enter Tryz.func93, Tryz.ntmps93
  go_wp2_with fail
  obtain ⟨W1, HW1⟩ : ∃ W1, Hid (w.alloc (.cells #[.bool false, .slice none 0 0, .slice none 0 0] 66) = W1) := ⟨_, hiD rfl⟩
  rw [HW1.out] at HRES ⊢
  refine (HCL.out W1).mono ?_
  rintro e w2 ⟨rfl, hg2, hs2⟩
  have HB2 : Hid (Below W1.heap.size W1 w2) := hiD ((Below.refl _ _).grown hg2 (Nat.le_refl _) (fun k hk => by cases hk))
  obtain ⟨V, HV⟩ : ∃ V, Hid (W1.heap.size = V) := ⟨_, hiD rfl⟩
  rw [HV.out] at hs2 ⊢
  have HS2 := hiD hs2
  clear hg2 hs2
  go_wp2_with fail
  refine (HSO.out V 0 w2 HS2.out).mono ?_
  rintro e w3 ⟨rfl, hg3⟩
  have HB3 : Hid (Below W1.heap.size W1 w3) := hiD (HB2.out.grown hg3 HB2.out.size (fun k hk => by injection hk with hk; have := HV.out; omega))
  clear hg3
  go_wp2_with fail
  go_loopw [4, 16] (fun pv iv wr => ∃ p c, pv = .slice p 0 c ∧ iv = .int .i64 0 ∧ wr = w3) (fun _ _ _ => 0)
  case atStart => exact ⟨_, _, rfl, rfl, rfl⟩
  case round =>
    obtain ⟨p, c', rfl, rfl, rfl⟩ := hrel
    have HRA := hiD (HRES.out.next HB3.out)
    go_wp2_with fail
    refine (HHV.out _ _ _).mono ?_
    rintro e wz ⟨z, rfl, hz, hbz⟩
    obtain ⟨bx, px, nx, cx, rx, mx, dx, rfl⟩ := hz.agg
    have HRC := hiD (HRA.out.next hbz)
    obtain ⟨z0, z1, z2, l0, l1, l2, f0, f1, f2⟩ := HRC.out.slots
    have HEN : Hid (∀ W9, W9 = (((wz.setCell ⟨w.heap.size, 0, none⟩ (.bool bx)).setCell ⟨w.heap.size, 1, none⟩ (.slice px nx cx)).setCell ⟨w.heap.size, 2, none⟩ (.slice rx mx dx)) → IsPost 0 1 w (.returned (.agg #[.bool bx, .slice px nx cx, .slice rx mx dx])) W9) := hiD (by
      rintro W9 rfl
      exact ⟨_, rfl, HRC.out.rat3 (Nat.le_refl _) hz _ _ _ _ _ _ _, (HRC.out.put3 (Nat.le_refl _) _ _ _ _ _ _ _).below⟩)
    clear hz hbz
    go_wp2_with fail
    refine bodyPost_ret (v := .agg #[.bool bx, .slice px nx cx, .slice rx mx dx]) (by simp [results, Tryz.results93, go_sem, l0, l1, l2]) rfl ?_
    exact HEN.out _ rfl
end Go.Proofs.YtoegbjmoecbjdaaGreatDoor
namespace Go.Proofs.YtoegbjmoecbjdaaGreatDoor
open Go.RowKit Big
open Go.Lib Go.Shelf
theorem mem_madeCells {z : Array Value} {k : Nat} {u : Value} (hz : 0 < z.size) (h : u ∈ madeCells z k) : u ∈ z.toList := by
  unfold madeCells at h
  rw [Array.mem_map] at h
  obtain ⟨i, -, rfl⟩ := h
  have hm : i % z.size < z.size := Nat.mod_lt _ hz
  rw [getElem!_pos z (i % z.size) hm]
  simp
theorem wpList_make_N (w : World) {ops : Array Oper} {rest : List Oper} {o : Oper} {a : Act} {Q : Exit → Act → World → Prop}
    (hg : o.guard = none) (l c : Operand) (t : TypeId) (hop : o.op = Op.makeSlice t l c)
    (e : TypeId) (i : TypeInfo) (z : Value) (size : Nat) (h1 : Tryz.prog.underlying t = some (.slice e)) (h2 : Tryz.prog.info? e = some i) (h3 : i.zero = some z) (h4 : i.size = size) (hzs : 0 < z.cells.size) (hzN : ∀ u ∈ z.cells.toList, NoU u)
    (kl kc : IntKind) (n : Nat) (hl : a.eval l = .int kl 0) (hc : a.eval c = .int kc (n : Int)) (b2 : i.bytes * n ≤ 281474976710656) (b3 : n ≤ maxLen)
    (hK : ∀ w', NRow w' w.heap.size e size (.slice (some ⟨w.heap.size, 0, none⟩) 0 n) 0 [] → w.grownBy w' none → wpList Tryz.prog ops Q rest (a.put o.dst (.slice (some ⟨w.heap.size, 0, none⟩) 0 n)) w') :
    wpList Tryz.prog ops Q (o :: rest) a w := by
  refine wpList_plain hg fun K hK' => ?_
  subst h4
  have h63' : (n : Int) ≤ 9223372036854775807 := by
    have h := b3
    simp [maxLen] at h
    omega
  have hb' : (i.bytes : Int) * (n : Int) ≤ 281474976710656 := by
    have h : ((i.bytes * n : Nat) : Int) ≤ 281474976710656 := by omega
    rwa [Int.natCast_mul] at h
  have hr := run_make (P := Tryz.prog) w t e i z h1 h2 h3 kl kc 0 n (Int.le_refl _) (by omega) hb' h63'
  simp only [Int.toNat_zero, Int.toNat_natCast] at hr
  unfold Oper.wp
  simp [execOp, hop, hl, hc, hr, Result.andThen]
  refine hK' _ _ (hK _ ⟨World.ownsRow_made w _ n (Nat.le_refl _) b3 (size_madeCells _ _), fun g k cap h cur t' f hh u hu => ?_⟩ (World.grownBy_alloc w _ none))
  cases h
  rw [heap_new] at hh
  cases hh
  exact hzN _ (mem_madeCells hzs (Array.mem_toList_iff.1 hu))
def nilC : C7 := (false, none, 0, 0, none, 0, 0)
structure NumsIn (W : World) (base : Nat) (v : Value) (xs : List C7) (qs : List Rat) : Prop where
  row : NRow W base 66 3 v qs.length (xs.flatMap encC)
  len : xs.length = qs.length
  all : ∀ j, j < qs.length → RatIs W (valC (xs.getD j nilC)) (qs.getD j 0) 20
theorem NumsIn.below {W W' : World} {base : Nat} {v : Value} {xs : List C7} {qs : List Rat} (h : NumsIn W base v xs qs) (hb : Below W.heap.size W W') : NumsIn W' base v xs qs :=
  ⟨h.row.below hb, h.len, fun j hj => (h.all j hj).below hb⟩
theorem NumsIn.more {W W' : World} {base : Nat} {v v' : Value} {xs : List C7} {qs : List Rat} {x : C7} {q : Rat} (h : NumsIn W base v xs qs) (hq : RatIs W (valC x) q 20) (hr : NRow W' base 66 3 v' (qs.length + 1) (xs.flatMap encC ++ encC x)) (hg : W.grownBy W' v.ownBlock) : NumsIn W' base v' (xs ++ [x]) (qs ++ [q]) := by
  refine ⟨by simpa using hr, by simp [h.len], fun j hj => ?_⟩
  have hlen := h.len
  by_cases hjk : j < qs.length
  · rw [List.getD_eq_getElem?_getD, List.getElem?_append_left (by omega), ← List.getD_eq_getElem?_getD, List.getD_eq_getElem?_getD (l := qs ++ [q]), List.getElem?_append_left hjk, ← List.getD_eq_getElem?_getD]
    exact rat_grown h.row hg (h.all j hjk)
  · have e : j = qs.length := by simp at hj; omega
    subst e
    rw [List.getD_eq_getElem?_getD, List.getElem?_append_right (by omega), hlen, Nat.sub_self, List.getD_eq_getElem?_getD, List.getElem?_append_right (by omega), Nat.sub_self]
    exact rat_grown h.row hg hq
theorem flat_at : ∀ (xs : List C7) (j c : Nat), j < xs.length → c < 3 → (xs.flatMap encC)[j * 3 + c]? = (encC (xs.getD j nilC))[c]? := by
  intro xs
  induction xs with
  | nil => intro j c h; simp at h
  | cons x xs ih =>
    intro j c hj hc
    rw [List.flatMap_cons]
    cases j with
    | zero => rw [List.getElem?_append_left (by rw [encC_len]; omega)]; simp
    | succ j =>
      rw [List.getElem?_append_right (by rw [encC_len]; omega), encC_len, show (j + 1) * 3 + c - 3 = j * 3 + c by omega, ih j c (by simpa using hj) hc]
      simp
theorem NumsIn.rd {W : World} {base : Nat} {v : Value} {xs : List C7} {qs : List Rat} (h : NumsIn W base v xs qs) (hv : v ≠ .slice none 0 0) : ∃ g c, v = .slice (some ⟨g, 0, none⟩) qs.length c ∧ qs.length ≤ c ∧ RdQ W (some ⟨g, 0, none⟩) qs 20 := by
  obtain ⟨⟨-, hr⟩, -⟩ := h.row
  rcases hr with hr | ⟨g, cap, cur, rfl, -, hg, hn, -, hs, ht⟩
  · exact absurd hr.1 hv
  · refine ⟨g, cap, rfl, hn, .inr ⟨g, 0, rfl, (Array.getElem?_eq_some_iff.1 hg).1, fun j hj => ⟨_, ?_, h.all j hj⟩⟩⟩
    have hc : ∀ c, c < 3 → W.cell? ⟨g, 0 + j * 3 + c, none⟩ = (encC (xs.getD j nilC))[c]? := fun c hc => by
      rw [← flat_at xs j c (by rw [h.len]; exact hj) hc, ← ht, List.getElem?_take_of_lt (by omega), ceh hg, Nat.zero_add, Array.getElem?_toList]
    have h0 := hc 0 (by omega)
    have h1 := hc 1 (by omega)
    have h2 := hc 2 (by omega)
    revert h0 h1 h2
    obtain ⟨s, p, n, c, r, m, d⟩ := xs.getD j nilC
    intro h0 h1 h2
    exact ⟨s, p, n, c, r, m, d, rfl, h0, h1, h2⟩
theorem KK_one : 1 ≤ KK 21 10 := by unfold KK; omega
theorem total_q (g m c : Nat) (qs : List Rat) (w : World) (hl : qs.length = m) (hm : m ≤ 1000) (h : RdQ w (some ⟨g, 0, none⟩) qs 20) : Calls Tryz.prog 93 #[.slice (some ⟨g, 0, none⟩) m c] w (IsPost (sumQ qs) (KK 21 10) w) := by
  rcases Nat.eq_zero_or_pos m with h0 | h0
  · subst h0
    rw [List.length_eq_zero_iff] at hl
    subst hl
    exact (total_zero g 0 c w).mono fun e w' ⟨x, he, hx, hb⟩ => ⟨x, he, hx.more KK_one, hb⟩
  · exact total_any g 0 m c qs w hl h0 hm h
def RdS (W : World) (p : Option Addr) (ss : List (List UInt8)) : Prop := ss = [] ∨ ∃ b off, p = some ⟨b, off, none⟩ ∧ b < W.heap.size ∧ ∀ j, j < ss.length → W.cell? ⟨b, off + j, none⟩ = some (.string ⟨(ss.getD j []).toArray⟩)
theorem RdS.below {W W' : World} {p : Option Addr} {ss : List (List UInt8)} (h : RdS W p ss) (hB : Below W.heap.size W W') : RdS W' p ss := by
  rcases h with h | ⟨b, off, h1, h2, h3⟩
  · exact .inl h
  · exact .inr ⟨b, off, h1, Nat.lt_of_lt_of_le h2 hB.size, fun j hj => (hB.cell (p := ⟨b, off + j, none⟩) h2).trans (h3 j hj)⟩
def numsL (ss : List (List UInt8)) : List Rat := ss.filterMap num
theorem numsL_le (ss : List (List UInt8)) : (numsL ss).length ≤ ss.length := List.length_filterMap_le _ _
theorem numsL_take {ss : List (List UInt8)} {i : Nat} (h : i < ss.length) : numsL (ss.take (i + 1)) = numsL (ss.take i) ++ (num (ss.getD i [])).toList := by
  rw [List.take_succ_eq_append_getElem h, numsL, List.filterMap_append, List.getD_eq_getElem?_getD, List.getElem?_eq_getElem h]
  simp only [Option.getD_some, List.filterMap_cons, List.filterMap_nil]
  cases num ss[i] <;> rfl
def sumT (ss : List (List UInt8)) : List UInt8 := txt (sumQ (numsL ss))
end Go.Proofs.YtoegbjmoecbjdaaGreatDoor
