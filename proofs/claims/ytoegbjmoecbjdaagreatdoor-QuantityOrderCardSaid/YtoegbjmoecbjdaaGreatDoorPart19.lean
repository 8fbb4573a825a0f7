/- Texts of units: ParseUnit. awake, equal, missing. The law QuantityField: its walk. -/
import Derived.Test.YtoegbjmoecbjdaaGreatDoorPart18
set_option maxHeartbeats 1600000
set_option maxRecDepth 100000
namespace Go.Proofs.YtoegbjmoecbjdaaGreatDoor
open Go.RowKit Go.Lib Big
theorem readR_ne {l : List UInt8} {n d : Nat} (h : readL l = some (false, n, d)) (hn : 0 < n) (hd : 0 < d) : readR l ≠ 0 := by
  unfold readR
  rw [h]
  simp only
  rw [Ne, ratv_zero_iff hd]; omega
theorem symT_ne {l v : List UInt8} {ps : List Int} {b : Bool} (h : symT l = some (v, ps, b)) : readR v ≠ 0 := by
  have key : ∀ v' : List UInt8, v' ∈ ([[49], [49, 47, 49, 48, 48, 48], [54, 48], [51, 54, 48, 48], [56, 54, 52, 48, 48], [49, 48, 48, 48], [49, 48, 48, 48, 48, 48]] : List (List UInt8)) → readR v' ≠ 0 := by
    intro v' hv
    simp only [List.mem_cons, List.not_mem_nil, or_false] at hv
    rcases hv with rfl | rfl | rfl | rfl | rfl | rfl | rfl
    · exact readR_ne (n := 1) (d := 1) rfl (by omega) (by omega)
    · exact readR_ne (n := 1) (d := 1000) rfl (by omega) (by omega)
    · exact readR_ne (n := 60) (d := 1) rfl (by omega) (by omega)
    · exact readR_ne (n := 3600) (d := 1) rfl (by omega) (by omega)
    · exact readR_ne (n := 86400) (d := 1) rfl (by omega) (by omega)
    · exact readR_ne (n := 1000) (d := 1) rfl (by omega) (by omega)
    · exact readR_ne (n := 100000) (d := 1) rfl (by omega) (by omega)
  apply key
  unfold symT at h
  by_cases c0 : (l == [109]) = true
  · rw [if_pos c0] at h; simp only [Option.some.injEq, Prod.mk.injEq] at h; obtain ⟨rfl, -, -⟩ := h; simp
  rw [if_neg c0] at h
  by_cases c1 : (l == [103]) = true
  · rw [if_pos c1] at h; simp only [Option.some.injEq, Prod.mk.injEq] at h; obtain ⟨rfl, -, -⟩ := h; simp
  rw [if_neg c1] at h
  by_cases c2 : (l == [115]) = true
  · rw [if_pos c2] at h; simp only [Option.some.injEq, Prod.mk.injEq] at h; obtain ⟨rfl, -, -⟩ := h; simp
  rw [if_neg c2] at h
  by_cases c3 : (l == [75]) = true
  · rw [if_pos c3] at h; simp only [Option.some.injEq, Prod.mk.injEq] at h; obtain ⟨rfl, -, -⟩ := h; simp
  rw [if_neg c3] at h
  by_cases c4 : (l == [109, 111, 108]) = true
  · rw [if_pos c4] at h; simp only [Option.some.injEq, Prod.mk.injEq] at h; obtain ⟨rfl, -, -⟩ := h; simp
  rw [if_neg c4] at h
  by_cases c5 : (l == [65]) = true
  · rw [if_pos c5] at h; simp only [Option.some.injEq, Prod.mk.injEq] at h; obtain ⟨rfl, -, -⟩ := h; simp
  rw [if_neg c5] at h
  by_cases c6 : (l == [99, 100]) = true
  · rw [if_pos c6] at h; simp only [Option.some.injEq, Prod.mk.injEq] at h; obtain ⟨rfl, -, -⟩ := h; simp
  rw [if_neg c6] at h
  by_cases c7 : (l == [109, 105, 110]) = true
  · rw [if_pos c7] at h; simp only [Option.some.injEq, Prod.mk.injEq] at h; obtain ⟨rfl, -, -⟩ := h; simp
  rw [if_neg c7] at h
  by_cases c8 : (l == [104]) = true
  · rw [if_pos c8] at h; simp only [Option.some.injEq, Prod.mk.injEq] at h; obtain ⟨rfl, -, -⟩ := h; simp
  rw [if_neg c8] at h
  by_cases c9 : (l == [100]) = true
  · rw [if_pos c9] at h; simp only [Option.some.injEq, Prod.mk.injEq] at h; obtain ⟨rfl, -, -⟩ := h; simp
  rw [if_neg c9] at h
  by_cases c10 : (l == [116]) = true
  · rw [if_pos c10] at h; simp only [Option.some.injEq, Prod.mk.injEq] at h; obtain ⟨rfl, -, -⟩ := h; simp
  rw [if_neg c10] at h
  by_cases c11 : (l == [76]) = true
  · rw [if_pos c11] at h; simp only [Option.some.injEq, Prod.mk.injEq] at h; obtain ⟨rfl, -, -⟩ := h; simp
  rw [if_neg c11] at h
  by_cases c12 : (l == [72, 122]) = true
  · rw [if_pos c12] at h; simp only [Option.some.injEq, Prod.mk.injEq] at h; obtain ⟨rfl, -, -⟩ := h; simp
  rw [if_neg c12] at h
  by_cases c13 : (l == [78]) = true
  · rw [if_pos c13] at h; simp only [Option.some.injEq, Prod.mk.injEq] at h; obtain ⟨rfl, -, -⟩ := h; simp
  rw [if_neg c13] at h
  by_cases c14 : (l == [80, 97]) = true
  · rw [if_pos c14] at h; simp only [Option.some.injEq, Prod.mk.injEq] at h; obtain ⟨rfl, -, -⟩ := h; simp
  rw [if_neg c14] at h
  by_cases c15 : (l == [74]) = true
  · rw [if_pos c15] at h; simp only [Option.some.injEq, Prod.mk.injEq] at h; obtain ⟨rfl, -, -⟩ := h; simp
  rw [if_neg c15] at h
  by_cases c16 : (l == [87]) = true
  · rw [if_pos c16] at h; simp only [Option.some.injEq, Prod.mk.injEq] at h; obtain ⟨rfl, -, -⟩ := h; simp
  rw [if_neg c16] at h
  by_cases c17 : (l == [98, 97, 114]) = true
  · rw [if_pos c17] at h; simp only [Option.some.injEq, Prod.mk.injEq] at h; obtain ⟨rfl, -, -⟩ := h; simp
  rw [if_neg c17] at h
  cases h
theorem preT_ne {c : UInt8} (h : preT c ≠ []) : readR (preT c) ≠ 0 := by
  unfold preT at h ⊢
  split
  · exact readR_ne (n := 1) (d := 1000000000) rfl (by omega) (by omega)
  split
  · exact readR_ne (n := 1) (d := 1000000) rfl (by omega) (by omega)
  split
  · exact readR_ne (n := 1) (d := 1000) rfl (by omega) (by omega)
  split
  · exact readR_ne (n := 1) (d := 100) rfl (by omega) (by omega)
  split
  · exact readR_ne (n := 1) (d := 10) rfl (by omega) (by omega)
  split
  · exact readR_ne (n := 100) (d := 1) rfl (by omega) (by omega)
  split
  · exact readR_ne (n := 1000) (d := 1) rfl (by omega) (by omega)
  split
  · exact readR_ne (n := 1000000) (d := 1) rfl (by omega) (by omega)
  split
  · exact readR_ne (n := 1000000000) (d := 1) rfl (by omega) (by omega)
  · simp_all
theorem wordT_ne {l : List UInt8} {v : Rat} {ps : List Int} (h : wordT l = some (v, ps)) : v ≠ 0 := by
  unfold wordT at h
  cases h1 : symT l with
  | some x =>
    obtain ⟨v', ps', b⟩ := x
    rw [h1] at h
    cases h
    exact symT_ne h1
  | none =>
    rw [h1] at h
    simp only at h
    cases l with
    | nil => cases h
    | cons c t =>
      simp only at h
      cases h2 : symT t with
      | none => rw [h2] at h; cases h
      | some x =>
        obtain ⟨v', ps', b⟩ := x
        rw [h2] at h
        cases b with
        | false => cases h
        | true =>
          simp only at h
          split at h
          · cases h
          · rename_i hp
            cases h
            have h3 := preT_ne hp
            have h4 := symT_ne h2
            intro h5
            rcases Rat.mul_eq_zero.1 h5 with h5 | h5
            · exact h3 h5
            · exact h4 h5
theorem readR_num {x : List UInt8} {q : Rat} (h : num x = some q) : readR x = q := by
  unfold num at h
  rw [Option.map_eq_some_iff] at h
  obtain ⟨⟨s, n, d⟩, h1, rfl⟩ := h
  unfold readQ at h1
  split at h1
  · cases h1
  · split at h1
    · rename_i s0 n0 d0 hr
      split at h1
      · cases h1
        unfold readR
        rw [hr]
        simp only
        rw [ratv_drop]
      · cases h1
    · cases h1
theorem factorT_ne {l : List UInt8} {f : FacT} {n : Nat} (h : factorT l = some (f, n)) : f.v ≠ 0 := by
  unfold factorT at h
  split at h
  · unfold numberT at h
    split at h
    · rename_i hc
      cases h
      obtain ⟨q, hq⟩ := parseT_num hc.1
      simp only
      rw [readR_num hq]
      rintro rfl
      exact hc.2 (num_zero_iff.1 hq)
    · cases h
  · unfold symbolT at h
    cases hw : wordT (l.take (cntL l)) with
    | none => rw [hw] at h; cases h
    | some x =>
      obtain ⟨v, ps⟩ := x
      rw [hw] at h
      simp only at h
      split at h
      · split at h
        · cases h
        · cases h; exact wordT_ne hw
      · cases h; exact wordT_ne hw
theorem factorsT_ne {F : Nat} : ∀ {l : List UInt8} {dir : Int} {acc fs : List FacT}, (∀ f ∈ acc, f.v ≠ 0) → factorsT l dir acc F = some fs → ∀ f ∈ fs, f.v ≠ 0 := by
  induction F with
  | zero => intro l dir acc fs _ h; cases h
  | succ F ih =>
    intro l dir acc fs ha h
    cases hf : factorT l with
    | none => rw [factorsT_none hf] at h; cases h
    | some x =>
      obtain ⟨f, n⟩ := x
      have ha' : ∀ g ∈ acc ++ [{ f with e := f.e * dir }], g.v ≠ 0 := by
        intro g hg
        rcases List.mem_append.1 hg with hg | hg
        · exact ha g hg
        · simp only [List.mem_singleton] at hg
          subst hg; have := factorT_ne hf; exact this
      by_cases hn : n = l.length
      · rw [factorsT_end hf hn] at h
        cases h; exact ha'
      · cases hd : l.drop n with
        | nil =>
          have h3 := congrArg List.length hd
          have := (factorT_spec hf).2.1
          rw [List.length_drop, List.length_nil] at h3
          omega
        | cons c t =>
          by_cases h1 : c = 32
          · subst h1; rw [factorsT_space hf hn hd] at h; exact ih ha' h
          · by_cases h2 : c = 47
            · subst h2; rw [factorsT_slash hf hn hd] at h; exact ih ha' h
            · rw [factorsT_other hf hn hd h1 h2] at h; cases h
theorem unit_long (s : ByteArray) (w : World) (hl : (1000 : Int) < s.size) : Calls Tryz.prog 71 #[.string s] w (UnitPost (zeroU, 4) w) := by
  go_enter Tryz.func71, Tryz.ntmps71
  go_wp2_with fail
  refine bodyPost_ret (v := .tuple #[.agg #[.string ⟨#[]⟩, .string ⟨#[]⟩, .int .i64 0, .int .i64 0, .int .i64 0, .int .i64 0, .int .i64 0, .int .i64 0, .int .i64 0], .int .i64 4]) (by simp [results, Tryz.results71, go_sem]) rfl ?_
  exact ⟨_, _, _, _, _, _, _, _, _, rfl, rfl, bea _ _⟩
theorem unit_degC (s : ByteArray) (w : World) (hl : (s.size : Int) ≤ 1000) (hc : (s.toList == [100, 101, 103, 67]) = true) : Calls Tryz.prog 71 #[.string s] w (UnitPost (⟨[49], [53, 52, 54, 51, 47, 50, 48], one7⟩, 0) w) := by
  go_enter Tryz.func71, Tryz.ntmps71
  go_wp2_with fail
  refine bodyPost_ret (v := .tuple #[.agg #[.string ⟨#[49]⟩, .string ⟨#[53, 52, 54, 51, 47, 50, 48]⟩, .int .i64 0, .int .i64 0, .int .i64 0, .int .i64 1, .int .i64 0, .int .i64 0, .int .i64 0], .int .i64 0]) (by simp [results, Tryz.results71, go_sem]) rfl ?_
  exact ⟨_, _, _, _, _, _, _, _, _, rfl, rfl, bea _ _⟩
theorem unit_degF (s : ByteArray) (w : World) (hl : (s.size : Int) ≤ 1000) (hc : (s.toList == [100, 101, 103, 67]) = false) (hf : (s.toList == [100, 101, 103, 70]) = true) : Calls Tryz.prog 71 #[.string s] w (UnitPost (⟨[53, 47, 57], [52, 53, 57, 54, 55, 47, 49, 56, 48], one7⟩, 0) w) := by
  go_enter Tryz.func71, Tryz.ntmps71
  go_wp2_with fail
  refine bodyPost_ret (v := .tuple #[.agg #[.string ⟨#[53, 47, 57]⟩, .string ⟨#[52, 53, 57, 54, 55, 47, 49, 56, 48]⟩, .int .i64 0, .int .i64 0, .int .i64 0, .int .i64 1, .int .i64 0, .int .i64 0, .int .i64 0], .int .i64 0]) (by simp [results, Tryz.results71, go_sem]) rfl ?_
  exact ⟨_, _, _, _, _, _, _, _, _, rfl, rfl, bea _ _⟩
theorem unit_none (s : ByteArray) (w : World) (hl : (s.size : Int) ≤ 1000) (hc : (s.toList == [100, 101, 103, 67]) = false) (hf : (s.toList == [100, 101, 103, 70]) = false) (hsf : ∀ W, Below w.heap.size w W → Hid (Calls Tryz.prog 122 #[.string s] W (FacsPost none W))) : Calls Tryz.prog 71 #[.string s] w (UnitPost (zeroU, 10) w) := by
  have hres := hiD (ResU.start w)
  have hsf1 := hsf _ hres.out.below
  clear hsf
  go_enter Tryz.func71, Tryz.ntmps71
  go_wp2_with fail
  refine hsf1.out.mono ?_
  rintro e w2 ⟨hb2, rfl⟩
  have Hres2 := hiD (hres.out.next hb2)
  obtain ⟨z0, z1, z2, z3, z4, z5, z6, z7, z8, ⟨l0, l1, l2, l3, l4, l5, l6, l7, l8⟩, ⟨f0, f1, f2, f3, f4, f5, f6, f7, f8⟩⟩ := Hres2.out.slots
  have hfin : Hid (∀ W, W = ((((((((((w2).setCell ⟨w.heap.size, 0, none⟩ (.string ⟨#[]⟩)).setCell ⟨w.heap.size, 1, none⟩ (.string ⟨#[]⟩)).setCell ⟨w.heap.size, 2, none⟩ (.int .i64 0)).setCell ⟨w.heap.size, 3, none⟩ (.int .i64 0)).setCell ⟨w.heap.size, 4, none⟩ (.int .i64 0)).setCell ⟨w.heap.size, 5, none⟩ (.int .i64 0)).setCell ⟨w.heap.size, 6, none⟩ (.int .i64 0)).setCell ⟨w.heap.size, 7, none⟩ (.int .i64 0)).setCell ⟨w.heap.size, 8, none⟩ (.int .i64 0)) → UnitPost (zeroU, 10) w (.returned (.tuple #[.agg #[.string ⟨#[]⟩, .string ⟨#[]⟩, .int .i64 0, .int .i64 0, .int .i64 0, .int .i64 0, .int .i64 0, .int .i64 0, .int .i64 0], .int .i64 10])) W) := hiD (by
    rintro W rfl
    exact ⟨_, _, _, _, _, _, _, _, _, rfl, rfl, Hres2.out.put9 (Nat.le_refl _) (.string ⟨#[]⟩) (.string ⟨#[]⟩) (.int .i64 0) (.int .i64 0) (.int .i64 0) (.int .i64 0) (.int .i64 0) (.int .i64 0) (.int .i64 0)⟩)
  clear hb2
  go_wp2_with fail
  have hcells := Hres2.out.put9_heap (.string ⟨#[]⟩) (.string ⟨#[]⟩) (.int .i64 0) (.int .i64 0) (.int .i64 0) (.int .i64 0) (.int .i64 0) (.int .i64 0) (.int .i64 0)
  generalize (((((((((w2).setCell ⟨w.heap.size, 0, none⟩ (.string ⟨#[]⟩)).setCell ⟨w.heap.size, 1, none⟩ (.string ⟨#[]⟩)).setCell ⟨w.heap.size, 2, none⟩ (.int .i64 0)).setCell ⟨w.heap.size, 3, none⟩ (.int .i64 0)).setCell ⟨w.heap.size, 4, none⟩ (.int .i64 0)).setCell ⟨w.heap.size, 5, none⟩ (.int .i64 0)).setCell ⟨w.heap.size, 6, none⟩ (.int .i64 0)).setCell ⟨w.heap.size, 7, none⟩ (.int .i64 0)).setCell ⟨w.heap.size, 8, none⟩ (.int .i64 0) = WW at hcells hfin ⊢
  have c0 := ceh hcells 0
  have c1 := ceh hcells 1
  have c2 := ceh hcells 2
  have c3 := ceh hcells 3
  have c4 := ceh hcells 4
  have c5 := ceh hcells 5
  have c6 := ceh hcells 6
  have c7 := ceh hcells 7
  have c8 := ceh hcells 8
  refine bodyPost_ret (v := .tuple #[.agg #[.string ⟨#[]⟩, .string ⟨#[]⟩, .int .i64 0, .int .i64 0, .int .i64 0, .int .i64 0, .int .i64 0, .int .i64 0, .int .i64 0], .int .i64 10]) (by simp [results, Tryz.results71, go_sem, c0, c1, c2, c3, c4, c5, c6, c7, c8]) rfl ?_
  exact hfin.out _ rfl
theorem unit_many (s : ByteArray) (fs : List FacT) (w : World) (hl : (s.size : Int) ≤ 1000) (hc : (s.toList == [100, 101, 103, 67]) = false) (hf : (s.toList == [100, 101, 103, 70]) = false) (hm : (12 : Int) < fs.length) (hsf : ∀ W, Below w.heap.size w W → Hid (Calls Tryz.prog 122 #[.string s] W (FacsPost (some fs) W))) : Calls Tryz.prog 71 #[.string s] w (UnitPost (zeroU, 4) w) := by
  have hres := hiD (ResU.start w)
  have hsf1 := hsf _ hres.out.below
  clear hsf
  go_enter Tryz.func71, Tryz.ntmps71
  go_wp2_with fail
  refine hsf1.out.mono ?_
  rintro e w2 ⟨hb2, v, css, rfl, hfs⟩
  have Hfs := hiD hfs
  obtain ⟨po, cap, hv⟩ : ∃ po cap, v = .slice po fs.length cap := by
    rcases hfs.row.1.2 with ⟨h1, h2⟩ | ⟨g, cap, cur, h1, -⟩
    · exact ⟨none, 0, by rw [h1, h2]⟩
    · exact ⟨_, _, h1⟩
  subst hv
  have hres2 := hiD (hres.out.next hb2)
  have Hres2 := hres2
  obtain ⟨z0, z1, z2, z3, z4, z5, z6, z7, z8, ⟨l0, l1, l2, l3, l4, l5, l6, l7, l8⟩, ⟨f0, f1, f2, f3, f4, f5, f6, f7, f8⟩⟩ := Hres2.out.slots
  have hfin : Hid (∀ W, W = ((((((((((w2).setCell ⟨w.heap.size, 0, none⟩ (.string ⟨#[]⟩)).setCell ⟨w.heap.size, 1, none⟩ (.string ⟨#[]⟩)).setCell ⟨w.heap.size, 2, none⟩ (.int .i64 0)).setCell ⟨w.heap.size, 3, none⟩ (.int .i64 0)).setCell ⟨w.heap.size, 4, none⟩ (.int .i64 0)).setCell ⟨w.heap.size, 5, none⟩ (.int .i64 0)).setCell ⟨w.heap.size, 6, none⟩ (.int .i64 0)).setCell ⟨w.heap.size, 7, none⟩ (.int .i64 0)).setCell ⟨w.heap.size, 8, none⟩ (.int .i64 0)) → UnitPost (zeroU, 4) w (.returned (.tuple #[.agg #[.string ⟨#[]⟩, .string ⟨#[]⟩, .int .i64 0, .int .i64 0, .int .i64 0, .int .i64 0, .int .i64 0, .int .i64 0, .int .i64 0], .int .i64 4])) W) := hiD (by
    rintro W rfl
    exact ⟨_, _, _, _, _, _, _, _, _, rfl, rfl, Hres2.out.put9 (Nat.le_refl _) (.string ⟨#[]⟩) (.string ⟨#[]⟩) (.int .i64 0) (.int .i64 0) (.int .i64 0) (.int .i64 0) (.int .i64 0) (.int .i64 0) (.int .i64 0)⟩)
  clear hb2 hfs
  go_wp2_with fail
  have hcells := Hres2.out.put9_heap (.string ⟨#[]⟩) (.string ⟨#[]⟩) (.int .i64 0) (.int .i64 0) (.int .i64 0) (.int .i64 0) (.int .i64 0) (.int .i64 0) (.int .i64 0)
  generalize (((((((((w2).setCell ⟨w.heap.size, 0, none⟩ (.string ⟨#[]⟩)).setCell ⟨w.heap.size, 1, none⟩ (.string ⟨#[]⟩)).setCell ⟨w.heap.size, 2, none⟩ (.int .i64 0)).setCell ⟨w.heap.size, 3, none⟩ (.int .i64 0)).setCell ⟨w.heap.size, 4, none⟩ (.int .i64 0)).setCell ⟨w.heap.size, 5, none⟩ (.int .i64 0)).setCell ⟨w.heap.size, 6, none⟩ (.int .i64 0)).setCell ⟨w.heap.size, 7, none⟩ (.int .i64 0)).setCell ⟨w.heap.size, 8, none⟩ (.int .i64 0) = WW at hcells hfin ⊢
  have c0 := ceh hcells 0
  have c1 := ceh hcells 1
  have c2 := ceh hcells 2
  have c3 := ceh hcells 3
  have c4 := ceh hcells 4
  have c5 := ceh hcells 5
  have c6 := ceh hcells 6
  have c7 := ceh hcells 7
  have c8 := ceh hcells 8
  refine bodyPost_ret (v := .tuple #[.agg #[.string ⟨#[]⟩, .string ⟨#[]⟩, .int .i64 0, .int .i64 0, .int .i64 0, .int .i64 0, .int .i64 0, .int .i64 0, .int .i64 0], .int .i64 4]) (by simp [results, Tryz.results71, go_sem, c0, c1, c2, c3, c4, c5, c6, c7, c8]) rfl ?_
  exact hfin.out _ rfl
theorem unit_some (s : ByteArray) (fs : List FacT) (r : UnitT × Int) (w : World) (hl : (s.size : Int) ≤ 1000) (hc : (s.toList == [100, 101, 103, 67]) = false) (hf : (s.toList == [100, 101, 103, 70]) = false) (hm : (fs.length : Int) ≤ 12) (hsf : ∀ W, Below w.heap.size w W → Hid (Calls Tryz.prog 122 #[.string s] W (FacsPost (some fs) W))) (hpr : ∀ W v css base, Below w.heap.size w W → FacsIn W base v css fs → Hid (Calls Tryz.prog 123 #[v] W (UnitPost r W))) : Calls Tryz.prog 71 #[.string s] w (UnitPost r w) := by
  have hres := hiD (ResU.start w)
  have hsf1 := hsf _ hres.out.below
  clear hsf
  go_enter Tryz.func71, Tryz.ntmps71
  go_wp2_with fail
  refine hsf1.out.mono ?_
  rintro e w2 ⟨hb2, v, css, rfl, hfs⟩
  have Hfs := hiD hfs
  obtain ⟨po, cap, hv⟩ : ∃ po cap, v = .slice po fs.length cap := by
    rcases hfs.row.1.2 with ⟨h1, h2⟩ | ⟨g, cap, cur, h1, -⟩
    · exact ⟨none, 0, by rw [h1, h2]⟩
    · exact ⟨_, _, h1⟩
  subst hv
  have hres2 := hiD (hres.out.next hb2)
  have hpr1 := hpr _ _ _ _ hres2.out.below hfs
  clear hb2 hfs hpr
  go_wp2_with fail
  refine hpr1.out.mono ?_
  rintro e w3 ⟨fr, orr, y0, y1, y2, y3, y4, y5, y6, rfl, htU, hb3⟩
  have HtU := hiD htU
  have Hres2 := hiD (hres2.out.next hb3)
  obtain ⟨z0, z1, z2, z3, z4, z5, z6, z7, z8, ⟨l0, l1, l2, l3, l4, l5, l6, l7, l8⟩, ⟨f0, f1, f2, f3, f4, f5, f6, f7, f8⟩⟩ := Hres2.out.slots
  have hfin : Hid (∀ W, W = ((((((((((w3).setCell ⟨w.heap.size, 0, none⟩ (.string fr)).setCell ⟨w.heap.size, 1, none⟩ (.string orr)).setCell ⟨w.heap.size, 2, none⟩ (.int .i64 y0)).setCell ⟨w.heap.size, 3, none⟩ (.int .i64 y1)).setCell ⟨w.heap.size, 4, none⟩ (.int .i64 y2)).setCell ⟨w.heap.size, 5, none⟩ (.int .i64 y3)).setCell ⟨w.heap.size, 6, none⟩ (.int .i64 y4)).setCell ⟨w.heap.size, 7, none⟩ (.int .i64 y5)).setCell ⟨w.heap.size, 8, none⟩ (.int .i64 y6)) → UnitPost r w (.returned (.tuple #[.agg #[.string fr, .string orr, .int .i64 y0, .int .i64 y1, .int .i64 y2, .int .i64 y3, .int .i64 y4, .int .i64 y5, .int .i64 y6], .int .i64 r.2])) W) := hiD (by
    rintro W rfl
    exact ⟨_, _, _, _, _, _, _, _, _, rfl, HtU.out, Hres2.out.put9 (Nat.le_refl _) (.string fr) (.string orr) (.int .i64 y0) (.int .i64 y1) (.int .i64 y2) (.int .i64 y3) (.int .i64 y4) (.int .i64 y5) (.int .i64 y6)⟩)
  clear hb3 htU
  go_wp2_with fail
  have hcells := Hres2.out.put9_heap (.string fr) (.string orr) (.int .i64 y0) (.int .i64 y1) (.int .i64 y2) (.int .i64 y3) (.int .i64 y4) (.int .i64 y5) (.int .i64 y6)
  generalize (((((((((w3).setCell ⟨w.heap.size, 0, none⟩ (.string fr)).setCell ⟨w.heap.size, 1, none⟩ (.string orr)).setCell ⟨w.heap.size, 2, none⟩ (.int .i64 y0)).setCell ⟨w.heap.size, 3, none⟩ (.int .i64 y1)).setCell ⟨w.heap.size, 4, none⟩ (.int .i64 y2)).setCell ⟨w.heap.size, 5, none⟩ (.int .i64 y3)).setCell ⟨w.heap.size, 6, none⟩ (.int .i64 y4)).setCell ⟨w.heap.size, 7, none⟩ (.int .i64 y5)).setCell ⟨w.heap.size, 8, none⟩ (.int .i64 y6) = WW at hcells hfin ⊢
  have c0 := ceh hcells 0
  have c1 := ceh hcells 1
  have c2 := ceh hcells 2
  have c3 := ceh hcells 3
  have c4 := ceh hcells 4
  have c5 := ceh hcells 5
  have c6 := ceh hcells 6
  have c7 := ceh hcells 7
  have c8 := ceh hcells 8
  refine bodyPost_ret (v := .tuple #[.agg #[.string fr, .string orr, .int .i64 y0, .int .i64 y1, .int .i64 y2, .int .i64 y3, .int .i64 y4, .int .i64 y5, .int .i64 y6], .int .i64 r.2]) (by simp [results, Tryz.results71, go_sem, c0, c1, c2, c3, c4, c5, c6, c7, c8]) rfl ?_
  exact hfin.out _ rfl
theorem parseUnit_any (s : ByteArray) (w : World) (htab : Tab w) : Calls Tryz.prog 71 #[.string s] w (UnitPost (unitT s.data.toList) w) := by
  have hlen : s.data.toList.length = s.size := by simp
  have hc := toList_beq s [100, 101, 103, 67]
  have hf := toList_beq s [100, 101, 103, 70]
  unfold unitT
  by_cases h : 1000 < s.size
  · rw [if_pos (by omega)]
    exact unit_long s w (by omega)
  · rw [if_neg (by omega)]
    by_cases h2 : s.data.toList = [100, 101, 103, 67]
    · rw [if_pos (by rw [beq_iff_eq]; exact h2)]
      rw [decide_eq_true h2] at hc
      exact unit_degC s w (by omega) hc
    · rw [if_neg (by rw [beq_iff_eq]; exact h2)]
      rw [decide_eq_false h2] at hc
      by_cases h3 : s.data.toList = [100, 101, 103, 70]
      · rw [if_pos (by rw [beq_iff_eq]; exact h3)]
        rw [decide_eq_true h3] at hf
        exact unit_degF s w (by omega) hc hf
      · rw [if_neg (by rw [beq_iff_eq]; exact h3)]
        rw [decide_eq_false h3] at hf
        have hsf : ∀ W, Below w.heap.size w W → Calls Tryz.prog 122 #[.string s] W (FacsPost (factorsT s.data.toList 1 [] (s.data.toList.length + 1)) W) := fun W hb => by
          rw [hlen]; exact scanFactors_any s W (by omega) (htab.below hb)
        cases ho : factorsT s.data.toList 1 [] (s.data.toList.length + 1) with
        | none =>
          rw [ho] at hsf
          exact unit_none s w (by omega) hc hf fun W hb => hiD (hsf W hb)
        | some fs =>
          rw [ho] at hsf
          simp only
          by_cases hm : 12 < fs.length
          · rw [if_pos hm]
            exact unit_many s fs w (by omega) hc hf (by omega) fun W hb => hiD (hsf W hb)
          · rw [if_neg hm]
            exact unit_some s fs _ w (by omega) hc hf (by omega) (fun W hb => hiD (hsf W hb)) fun W v css base hb hfs => hiD (product_any v css fs base W hfs (by omega) (factorsT_small (fun _ h => by cases h) ho) (factorsT_ne (fun _ h => by cases h) ho) (htab.below hb))
theorem array_of_list {a : ByteArray} {l : List UInt8} (h : a.data.toList = l) : a = ⟨l.toArray⟩ := by
  rw [← h]
theorem kmh_any (w : World) (htab : Tab w) : Calls Tryz.prog 71 #[.string ⟨#[107, 109, 47, 104]⟩] w fun e w' => e = .returned (.tuple #[.agg #[.string ⟨#[53, 47, 49, 56]⟩, .string ⟨#[48]⟩, .int .i64 1, .int .i64 0, .int .i64 (-1), .int .i64 0, .int .i64 0, .int .i64 0, .int .i64 0], .int .i64 0]) ∧ Below w.heap.size w w' := by
  have h := parseUnit_any ⟨#[107, 109, 47, 104]⟩ w htab
  have e : unitT (⟨#[107, 109, 47, 104]⟩ : ByteArray).data.toList = (⟨[53, 47, 49, 56], [48], [1, 0, -1, 0, 0, 0, 0]⟩, 0) := kmh
  rw [e] at h
  refine h.mono ?_
  rintro e w' ⟨f, o, p0, p1, p2, p3, p4, p5, p6, rfl, htU, hb⟩
  unfold tU at htU
  simp only [UnitT.mk.injEq, List.cons.injEq, and_true] at htU
  obtain ⟨hf, ho, rfl, rfl, rfl, rfl, rfl, rfl, rfl⟩ := htU
  rw [array_of_list hf, array_of_list ho]
  exact ⟨rfl, hb⟩
theorem awake_any (w : World) (htab : Tab w) : Calls Tryz.prog 21 #[] w fun e w' => e = .returned (.bool true) ∧ Below w.heap.size w w' := by
  have hk := hiD (kmh_any w htab)
  have ha : ∀ W, Below w.heap.size w W → Hid (Calls Tryz.prog 26 #[.string ⟨#[49, 47, 51]⟩, .string ⟨#[49, 47, 54]⟩] W fun e w' => e = .returned (.string ⟨#[49, 47, 50]⟩) ∧ Below W.heap.size W w') := fun W hb => hiD (by
    have := add_q ⟨#[49, 47, 51]⟩ ⟨#[49, 47, 54]⟩ W (htab.below hb)
    rw [show opT (· + ·) (⟨#[49, 47, 51]⟩ : ByteArray).data.toList (⟨#[49, 47, 54]⟩ : ByteArray).data.toList = [49, 47, 50] from awake_sum] at this
    exact this)
  have heq : ∀ W, (binOp .eql 53 (.agg #[.string ⟨#[53, 47, 49, 56]⟩, .string ⟨#[48]⟩, .int .i64 1, .int .i64 0, .int .i64 (-1), .int .i64 0, .int .i64 0, .int .i64 0, .int .i64 0]) (.agg #[.string ⟨#[53, 47, 49, 56]⟩, .string ⟨#[48]⟩, .int .i64 1, .int .i64 0, .int .i64 (-1), .int .i64 0, .int .i64 0, .int .i64 0, .int .i64 0])).run Tryz.prog W = .ok (.bool true) W := fun _ => by kernel_rfl
  go_enter Tryz.func21, Tryz.ntmps21
  go_wp2_with fail
  refine hk.out.mono ?_
  rintro e w2 ⟨rfl, hb2⟩
  have hbw := hiD (hb2.trans ((bea w2 (.cells #[.string ⟨#[53, 47, 49, 56]⟩, .string ⟨#[48]⟩, .int .i64 1, .int .i64 0, .int .i64 (-1), .int .i64 0, .int .i64 0, .int .i64 0, .int .i64 0] 53)).mono hb2.size))
  have hx0 := hiD (heap_new w2 (.cells #[.string ⟨#[53, 47, 49, 56]⟩, .string ⟨#[48]⟩, .int .i64 1, .int .i64 0, .int .i64 (-1), .int .i64 0, .int .i64 0, .int .i64 0, .int .i64 0] 53))
  have ha2 := ha _ hbw.out
  clear hb2 ha
  go_wp2_with fail
  refine ha2.out.mono ?_
  rintro e w3 ⟨rfl, hb3⟩
  have Hb3 := hiD (hbw.out.trans (hb3.mono hbw.out.size))
  have hx := (hb3.block w2.heap.size (by simp)).trans hx0.out
  have e0 := ceh hx 0
  have e1 := ceh hx 1
  have e2 := ceh hx 2
  have e3 := ceh hx 3
  have e4 := ceh hx 4
  have e5 := ceh hx 5
  have e6 := ceh hx 6
  have e7 := ceh hx 7
  have e8 := ceh hx 8
  clear hb3 hx
  go_wp2_with fail
  go_ret
  exact ⟨rfl, Hb3.out⟩
end Go.Proofs.YtoegbjmoecbjdaaGreatDoor
