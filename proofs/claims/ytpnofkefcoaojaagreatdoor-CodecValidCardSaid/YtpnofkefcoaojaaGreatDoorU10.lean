/- Units as texts and powers: products, powers and conversions; the units of texts. The contracts of the numbers in terms of rational numbers; the closure of onTexts; Add, Sub, Mul, Div. Add, Sub, Mul, Div, Compare on texts. Compare, isPositive, Floor on texts. Power of a rational number. -/
import Derived.Test.YtpnofkefcoaojaaGreatDoorV01
import Derived.Outline
import Derived.Test.YtpnofkefcoaojaaGreatDoorU05
import Derived.Test.YtpnofkefcoaojaaGreatDoorU09
set_option maxHeartbeats 1600000
set_option maxRecDepth 100000
namespace Go.Proofs.YtpnofkefcoaojaaGreatDoor
open Go.Lib Big
/-! Convert -/
end Go.Proofs.YtpnofkefcoaojaaGreatDoor
namespace Go.Proofs.YtpnofkefcoaojaaGreatDoor
open Go.Lib Big
end Go.Proofs.YtpnofkefcoaojaaGreatDoor
namespace Go.Proofs.YtpnofkefcoaojaaGreatDoor
open Go.Lib Big
end Go.Proofs.YtpnofkefcoaojaaGreatDoor
namespace Go.Proofs.YtpnofkefcoaojaaGreatDoor
open Go.RowKit Go.Lib Big
theorem sub_is (x y : Value) (p q : Rat) (K : Nat) (w : World) (hK : 2 * K + 1 ≤ 1073741824) (hx : RatIs w x p K) (hy : RatIs w y q K) : Calls Tryz.prog 134 #[x, y] w (IsPost (p - q) (2 * K + 1) w) := by
  obtain ⟨s, a, b, h1, rfl, h3, h4, h5⟩ := hx
  obtain ⟨t, c, d, k1, rfl, k3, k4, k5⟩ := hy
  refine (sub_any x y s t a b c d K w hK h4 h5 k4 k5 h3 k3 h1 k1).mono ?_
  rintro e w' ⟨z, r, n, m, rfl, hz, hb, hm, hv, hn, hm2⟩
  exact ⟨z, rfl, ⟨r, n, m, hz, hv, hm, hn, hm2⟩, hb⟩
theorem closure_is (x y : ByteArray) (g : Nat) (f : FuncId) (p q r : Rat) (K : Nat) (w : World) (hg : g < w.heap.size) (hcl : w.cell? ⟨g, 0, none⟩ = some (.func (.func f) #[] #[])) (hx : Hid (Calls Tryz.prog 130 #[.string x] w (NumPost (some p) w))) (hy : ∀ W, Below w.heap.size w W → Hid (Calls Tryz.prog 130 #[.string y] W (NumPost (some q) W)))
    (hent : ∀ args W, (callFunc f args).run Tryz.prog W = .ok (.enter f args) W) (hop : ∀ W u v, Below w.heap.size w W → RatIs W u p 20 → RatIs W v q 20 → Hid (Calls Tryz.prog f #[u, v] W (IsPost r K W)))
    (ht : ∀ W z, Below w.heap.size w W → RatIs W z r K → Hid (Calls Tryz.prog 131 #[z] W fun e w' => e = .returned (.string ⟨(txt r).toArray⟩) ∧ Below W.heap.size W w')) : Calls Tryz.prog 129 #[.string x, .string y, .pointer (some ⟨g, 0, none⟩)] w fun e w' => e = .returned (.string ⟨(txt r).toArray⟩) ∧ Below w.heap.size w w' := by
  have Hcl := hiD hcl
  have Hg := hiD hg
  clear hcl hg
  go_enter Tryz.func129, Tryz.ntmps129
  go_wp2_with fail
  refine hx.out.mono ?_
  rintro e w2 ⟨hb2, b1, p1, n1, c1, q1, m1, d1, rfl, hr1⟩
  have hbw := hiD (hb2.trans ((bea w2 (.cells #[.bool b1, .slice p1 n1 c1, .slice q1 m1 d1] 98)).mono hb2.size))
  have hR1 := hiD ((hr1 _ rfl).below (bea w2 (.cells #[.bool b1, .slice p1 n1 c1, .slice q1 m1 d1] 98)))
  have hb1 := hiD (heap_new w2 (.cells #[.bool b1, .slice p1 n1 c1, .slice q1 m1 d1] 98))
  have hy2 := hy _ hbw.out
  clear hb2 hy hr1
  go_wp2_with fail
  refine hy2.out.mono ?_
  rintro e w3 ⟨hb3, b', p', n', c', q', m', d', rfl, hr3⟩
  have hbw3 := hiD (hbw.out.trans (hb3.mono hbw.out.size))
  have hbw4 := hiD (hbw3.out.trans ((bea w3 (.cells #[.bool b', .slice p' n' c', .slice q' m' d'] 98)).mono hbw3.out.size))
  have hA := hiD (bea w3 (.cells #[.bool b', .slice p' n' c', .slice q' m' d'] 98))
  have hR3 := hiD ((hr3 _ rfl).below hA.out)
  have hR2 := hiD ((hR1.out.below hb3).below hA.out)
  have hbox := (hb3.trans (hA.out.mono hb3.size)).block w2.heap.size (by simp)
  have hbx := hbox.trans hb1.out
  have e0 := ceh hbx 0
  have e1 := ceh hbx 1
  have e2 := ceh hbx 2
  have hcl4 := (hbw4.out.cell (p := ⟨g, 0, none⟩) Hg.out).trans Hcl.out
  have hop4 := hop _ _ _ hbw4.out hR2.out hR3.out
  clear hb3 hy2 hr3 hbox hbx hop
  go_wp2_with fail
  refine hop4.out.mono ?_
  rintro e w5 ⟨z, rfl, hz, hb5⟩
  have hbw5 := hiD (hbw4.out.trans (hb5.mono hbw4.out.size))
  have ht5 := ht _ _ hbw5.out hz
  clear hb5 hz ht hop4
  go_wp2_with fail
  refine ht5.out.mono ?_
  rintro e w6 ⟨rfl, hb6⟩
  have hbw6 := hiD (hbw5.out.trans (hb6.mono hbw5.out.size))
  clear hb6
  go_wp2_with fail
  go_ret
  exact ⟨rfl, hbw6.out⟩
theorem closure_any (x y : ByteArray) (g : Nat) (f : FuncId) (F : Rat → Rat → Rat) (K : Nat) (w : World) (hK : K ≤ 1000000) (hg : g < w.heap.size) (hcl : w.cell? ⟨g, 0, none⟩ = some (.func (.func f) #[] #[])) (htab : Tab w)
    (hent : ∀ args W, (callFunc f args).run Tryz.prog W = .ok (.enter f args) W) (hop : ∀ W u v p q, num x.data.toList = some p → num y.data.toList = some q → Below w.heap.size w W → RatIs W u p 20 → RatIs W v q 20 → Calls Tryz.prog f #[u, v] W (IsPost (F p q) K W)) :
    Calls Tryz.prog 129 #[.string x, .string y, .pointer (some ⟨g, 0, none⟩)] w fun e w' => e = .returned (.string ⟨(opT F x.data.toList y.data.toList).toArray⟩) ∧ Below w.heap.size w w' := by
  have hx := qread_c x w htab
  have hx' := qread_is x w htab
  have hy := fun W (hb : Below w.heap.size w W) => qread_c y W (htab.below hb)
  have hy' := fun W (hb : Below w.heap.size w W) => qread_is y W (htab.below hb)
  cases hnx : num x.data.toList with
  | none =>
    have hr : readQ x.data.toList = none := by unfold num at hnx; simpa using hnx
    rw [hr] at hx
    rw [opT_none1 hnx]
    exact closure_bad1 x y _ w (hiD hx)
  | some p =>
    cases hny : num y.data.toList with
    | none =>
      have hr : readQ y.data.toList = none := by unfold num at hny; simpa using hny
      obtain ⟨t, ht⟩ : ∃ t, readQ x.data.toList = some t := by
        unfold num at hnx
        rw [Option.map_eq_some_iff] at hnx
        obtain ⟨t, h, -⟩ := hnx; exact ⟨t, h⟩
      rw [ht] at hx
      rw [opT_none2 hny]
      refine closure_bad2 x y _ t w (hiD hx) fun W hb => hiD ?_
      have := hy W hb
      rwa [hr] at this
    | some q =>
      rw [opT_some hnx hny]
      rw [hnx] at hx'
      refine closure_is x y g f p q (F p q) K w hg hcl (hiD hx') (fun W hb => hiD ?_) hent (fun W u v hb hu hv => hiD (hop W u v p q hnx hny hb hu hv)) fun W z hb hz => hiD (qtext_is z _ K W hK hz (htab.below hb))
      have := hy' W hb
      rwa [hny] at this
end Go.Proofs.YtpnofkefcoaojaaGreatDoor
namespace Go.Proofs.YtpnofkefcoaojaaGreatDoor
open Go.RowKit Go.Lib Big
theorem closure_from (x y : ByteArray) (f : FuncId) (F : Rat → Rat → Rat) (K : Nat) (w : World) (hK : K ≤ 1000000) (htab : Tab w)
    (hent : ∀ args W, (callFunc f args).run Tryz.prog W = .ok (.enter f args) W) (hop : ∀ W u v p q, num x.data.toList = some p → num y.data.toList = some q → Below w.heap.size w W → RatIs W u p 20 → RatIs W v q 20 → Calls Tryz.prog f #[u, v] W (IsPost (F p q) K W)) :
    Calls Tryz.prog 129 #[.string x, .string y, .pointer (some ⟨w.heap.size, 0, none⟩)] (w.alloc (.cells #[.func (.func f) #[] #[]] 94)) (TxtPost (opT F x.data.toList y.data.toList) w) := by
  have hb := bea w (.cells #[.func (.func f) #[] #[]] 94)
  refine (closure_any x y w.heap.size f F K (w.alloc (.cells #[.func (.func f) #[] #[]] 94)) hK (by simp) ?_ (htab.below hb) hent fun W u v p q h1 h2 h3 h4 h5 => hop W u v p q h1 h2 (hb.trans (h3.mono hb.size)) h4 h5).mono ?_
  · exact ceh (heap_new w _) 0
  · rintro e w' ⟨he, hb2⟩
    exact ⟨he, hb.trans (hb2.mono hb.size)⟩
theorem div_zero_q (x y : ByteArray) (w : World) (h : (y.toList == [48]) = true) : Calls Tryz.prog 36 #[.string x, .string y] w (TxtPost [] w) := by
  go_enter Tryz.func36, Tryz.ntmps36
  go_wp2_with fail
  go_ret
  exact ⟨rfl, Below.refl _ _⟩
theorem div_other_q (x y : ByteArray) (w : World) (htab : Tab w) (h : (y.toList == [48]) = false) (hy : num y.data.toList ≠ some 0) : Calls Tryz.prog 36 #[.string x, .string y] w (TxtPost (opT (· / ·) x.data.toList y.data.toList) w) := by
  have hcl := hiD (closure_from x y 79 (· / ·) 40 w (by omega) htab (fun args W => by kernel_rfl) fun W u v p q _ hq _ hu hv => quo_is u v p q 20 W (by omega) (by rintro rfl; exact hy hq) hu hv)
  generalize opT (· / ·) x.data.toList y.data.toList = l at hcl ⊢
  clear htab hy
  go_enter Tryz.func36, Tryz.ntmps36
  go_wp2_with fail
  refine (onTexts_any 79 w).mono ?_
  rintro e w1 ⟨rfl, rfl⟩
  go_wp2_with fail
  refine hcl.out.mono ?_
  rintro e w2 ⟨rfl, hb⟩
  have Hb := hiD hb
  clear hb
  go_wp2_with fail
  go_ret
  exact ⟨rfl, Hb.out⟩
theorem toList_beq (y : ByteArray) (l : List UInt8) : (y.toList == l) = decide (y.data.toList = l) := by
  rw [Lib.toList_data]
  by_cases h : y.data.toList = l
  · rw [decide_eq_true h]; simpa using h
  · rw [decide_eq_false h, beq_eq_false_iff_ne]; simpa using h
theorem div_q (x y : ByteArray) (w : World) (htab : Tab w) : Calls Tryz.prog 36 #[.string x, .string y] w (TxtPost (divT x.data.toList y.data.toList) w) := by
  unfold divT
  have he := toList_beq y [48]
  by_cases h : y.data.toList = [48]
  · rw [if_pos h]
    rw [decide_eq_true h] at he
    exact div_zero_q x y w he
  · rw [if_neg h]
    rw [decide_eq_false h] at he
    exact div_other_q x y w htab he fun h2 => h (num_zero_iff.1 h2)
end Go.Proofs.YtpnofkefcoaojaaGreatDoor
namespace Go.Proofs.YtpnofkefcoaojaaGreatDoor
open Go.RowKit Go.Lib Big
def CmpTPost (c : Int × Bool) (w : World) (e : Ending) (w' : World) : Prop := e = .returned (.tuple #[.int .i64 c.1, .bool c.2]) ∧ Below w.heap.size w w'
theorem compare_bad1 (x y : ByteArray) (w : World) (hx : Hid (Calls Tryz.prog 130 #[.string x] w (NumPost none w))) : Calls Tryz.prog 85 #[.string x, .string y] w (CmpTPost (0, false) w) := by
  go_enter Tryz.func85, Tryz.ntmps85
  go_wp2_with fail
  refine hx.out.mono ?_
  rintro e w2 ⟨hb2, b, p, n, c, q, m, d, rfl, -⟩
  have hbw := hiD (hb2.trans ((bea w2 (.cells #[.bool b, .slice p n c, .slice q m d] 98)).mono hb2.size))
  clear hb2
  go_wp2_with fail
  go_ret2
  exact ⟨rfl, hbw.out⟩
theorem compare_bad2 (x y : ByteArray) (r : Rat) (w : World) (hx : Hid (Calls Tryz.prog 130 #[.string x] w (NumPost (some r) w))) (hy : ∀ W, Below w.heap.size w W → Hid (Calls Tryz.prog 130 #[.string y] W (NumPost none W))) : Calls Tryz.prog 85 #[.string x, .string y] w (CmpTPost (0, false) w) := by
  go_enter Tryz.func85, Tryz.ntmps85
  go_wp2_with fail
  refine hx.out.mono ?_
  rintro e w2 ⟨hb2, b, p, n, c, q, m, d, rfl, -⟩
  have hbw := hiD (hb2.trans ((bea w2 (.cells #[.bool b, .slice p n c, .slice q m d] 98)).mono hb2.size))
  have hy2 := hy _ hbw.out
  clear hb2 hy
  go_wp2_with fail
  refine hy2.out.mono ?_
  rintro e w3 ⟨hb3, b', p', n', c', q', m', d', rfl, -⟩
  have hbw3 := hiD (hbw.out.trans (hb3.mono hbw.out.size))
  have hbw4 := hiD (hbw3.out.trans ((bea w3 (.cells #[.bool b', .slice p' n' c', .slice q' m' d'] 98)).mono hbw3.out.size))
  clear hb3
  go_wp2_with fail
  go_ret2
  exact ⟨rfl, hbw4.out⟩
theorem compare_ok (x y : ByteArray) (p q : Rat) (w : World) (hx : Hid (Calls Tryz.prog 130 #[.string x] w (NumPost (some p) w))) (hy : ∀ W, Below w.heap.size w W → Hid (Calls Tryz.prog 130 #[.string y] W (NumPost (some q) W))) : Calls Tryz.prog 85 #[.string x, .string y] w (CmpTPost (sgnR (p - q), true) w) := by
  have hop : Hid (∀ W u v, RatIs W u p 20 → RatIs W v q 20 → Calls Tryz.prog 134 #[u, v] W (IsPost (p - q) 41 W)) := hiD fun W u v hu hv => sub_is u v p q 20 W (by omega) hu hv
  have hsg : Hid (∀ W z, RatIs W z (p - q) 41 → Calls Tryz.prog 135 #[z] W fun e w' => e = .returned (.int .i64 (sgnR (p - q))) ∧ Below W.heap.size W w') := hiD fun W z hz => sign_is z (p - q) 41 W hz
  generalize sgnR (p - q) = c at hsg ⊢
  go_enter Tryz.func85, Tryz.ntmps85
  go_wp2_with fail
  refine hx.out.mono ?_
  rintro e w2 ⟨hb2, b1, p1, n1, c1, q1, m1, d1, rfl, hr1⟩
  have hbw := hiD (hb2.trans ((bea w2 (.cells #[.bool b1, .slice p1 n1 c1, .slice q1 m1 d1] 98)).mono hb2.size))
  have hR1 := hiD ((hr1 _ rfl).below (bea w2 (.cells #[.bool b1, .slice p1 n1 c1, .slice q1 m1 d1] 98)))
  have hb1 := hiD (heap_new w2 (.cells #[.bool b1, .slice p1 n1 c1, .slice q1 m1 d1] 98))
  have hy2 := hy _ hbw.out
  clear hb2 hy hr1
  go_wp2_with fail
  refine hy2.out.mono ?_
  rintro e w3 ⟨hb3, b', p', n', c', q', m', d', rfl, hr3⟩
  have hbw3 := hiD (hbw.out.trans (hb3.mono hbw.out.size))
  have hbw4 := hiD (hbw3.out.trans ((bea w3 (.cells #[.bool b', .slice p' n' c', .slice q' m' d'] 98)).mono hbw3.out.size))
  have hA := hiD (bea w3 (.cells #[.bool b', .slice p' n' c', .slice q' m' d'] 98))
  have hR3 := hiD ((hr3 _ rfl).below hA.out)
  have hR2 := hiD ((hR1.out.below hb3).below hA.out)
  have hbox := (hb3.trans (hA.out.mono hb3.size)).block w2.heap.size (by simp)
  have hbx := hbox.trans hb1.out
  have e0 := ceh hbx 0
  have e1 := ceh hbx 1
  have e2 := ceh hbx 2
  have hop4 := hiD (hop.out _ _ _ hR2.out hR3.out)
  clear hb3 hy2 hr3 hbox hbx
  go_wp2_with fail
  refine hop4.out.mono ?_
  rintro e w5 ⟨z, rfl, hz, hb5⟩
  have hbw5 := hiD (hbw4.out.trans (hb5.mono hbw4.out.size))
  have ht5 := hiD (hsg.out _ _ hz)
  clear hb5 hz hop4
  go_wp2_with fail
  refine ht5.out.mono ?_
  rintro e w6 ⟨rfl, hb6⟩
  have hbw6 := hiD (hbw5.out.trans (hb6.mono hbw5.out.size))
  clear hb6
  go_wp2_with fail
  go_ret2
  exact ⟨rfl, hbw6.out⟩
theorem compare_q (x y : ByteArray) (w : World) (htab : Tab w) : Calls Tryz.prog 85 #[.string x, .string y] w (CmpTPost (cmpT x.data.toList y.data.toList) w) := by
  have hx := qread_is x w htab
  have hy := fun W (hb : Below w.heap.size w W) => qread_is y W (htab.below hb)
  unfold cmpT
  cases hnx : num x.data.toList with
  | none => rw [hnx] at hx; exact compare_bad1 x y w (hiD hx)
  | some p =>
    rw [hnx] at hx
    cases hny : num y.data.toList with
    | none => rw [hny] at hy; exact compare_bad2 x y p w (hiD hx) fun W hb => hiD (hy W hb)
    | some q => rw [hny] at hy; exact compare_ok x y p q w (hiD hx) fun W hb => hiD (hy W hb)
/-! isPositive -/
end Go.Proofs.YtpnofkefcoaojaaGreatDoor
namespace Go.Proofs.YtpnofkefcoaojaaGreatDoor
open Go.RowKit Go.Lib Big
end Go.Proofs.YtpnofkefcoaojaaGreatDoor
