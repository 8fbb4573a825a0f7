/- The document's Bottom. -/
import Derived.Test.YtpnofkefcoaojaaGreatDoorYD
import Derived.Test.YtpnofkefcoaojaaGreatDoorT9SE
set_option maxHeartbeats 3200000
set_option maxRecDepth 100000
namespace Go.Proofs.YtpnofkefcoaojaaGreatDoor
open Go.RowKit Big
open Go.Lib
structure BR (B : Nat) (c : Array Value) (w0 W : World) : Prop where
  bx : Bx B c w0 W
  rs : Resa (B + 1) w0 W
theorem BR.start (w : World) (c : Array Value) : BR w.heap.size c w ((w.alloc (.cells c 59)).alloc (.cells #[.bool false, .slice none 0 0, .slice none 0 0] 59)) :=
  ⟨(Bx.start w c).next (below_alloc9 _ _), ⟨by simp, (below_alloc9 w _).trans ((below_alloc9 _ _).mono (by simp)), .bool false, .slice none 0 0, .slice none 0 0, by rw [show w.heap.size + 1 = (w.alloc (.cells c 59)).heap.size from by simp]; exact heap_new _ _, noInt_bool _, noInt_slice _ _ _, noInt_slice _ _ _⟩⟩
theorem BR.next {B : Nat} {c : Array Value} {w0 W W' : World} (h : BR B c w0 W) (hb : Below W.heap.size W W') : BR B c w0 W' := ⟨h.bx.next hb, h.rs.next hb⟩
theorem BR.drew {B : Nat} {c : Array Value} {w0 W : World} (h : BR B c w0 W) : BR B c w0 W.drew := ⟨h.bx.drew, h.rs.next (Below.refl _ _).drew⟩
theorem BR.all {B : Nat} {a b c : Value} {w0 W : World} (h : BR B #[a, b, c] w0 W) : BR B #[a, b, c] w0 W ∧ W.cell? ⟨B, 0, none⟩ = some a ∧ W.cell? ⟨B, 1, none⟩ = some b ∧ W.cell? ⟨B, 2, none⟩ = some c :=
  ⟨h, h.bx.all.2⟩
theorem BR.put3 {B : Nat} {c : Array Value} {w0 W : World} (h : BR B c w0 W) (hB : w0.heap.size ≤ B) (a : Bool) (p q : Option Addr) (n k m d : Nat) : BR B c w0 (((W.setCell ⟨B + 1, 0, none⟩ (.bool a)).setCell ⟨B + 1, 1, none⟩ (.slice p n k)).setCell ⟨B + 1, 2, none⟩ (.slice q m d)) :=
  ⟨⟨by rw [World.size_setCell, World.size_setCell, World.size_setCell]; exact h.bx.size, ((h.bx.below.setCell (by simp; omega) _).setCell (by simp; omega) _).setCell (by simp; omega) _, ((Below.heap_setCell _ _ _ _ (by simp)).trans (Below.heap_setCell _ _ _ _ (by simp))).trans ((Below.heap_setCell _ _ _ _ (by simp)).trans h.bx.x)⟩, h.rs.put3 (by omega) a p q n k m d⟩
theorem BR.below {B : Nat} {c : Array Value} {w0 W : World} (h : BR B c w0 W) : Below w0.heap.size w0 W := h.bx.below
theorem bottom_up (u1 v1 : Value) (d0 A R K : Nat) (f : Rat) (sb : Bool) (w : World) (hK : K + 1 ≤ 900000) (hA9 : A < B9 ^ K) (hden : Hid (∀ W, Below w.heap.size w W → Calls Tryz.prog 71 #[.agg #[.bool true, u1, v1]] W (Some9 d0 W))) (hdiv : Hid (∀ W v, Below w.heap.size w W → Nat9 W v d0 → Calls Tryz.prog 122 #[u1, v] W fun e w' => ∃ v r, e = .returned (.tuple #[v, r]) ∧ Nat9 w' v A ∧ Nat9 w' r R ∧ Below W.heap.size W w')) (hrest : 0 < R) (hf : Hid (ratv true (A + 1) 1 = f)) (hsb : Hid (sb = decide (f.num < 0))) :
    Calls Tryz.prog 143 #[.agg #[.bool true, u1, v1]] w (QPost f w) := by
  have hone : Hid (∀ W, Calls Tryz.prog 67 #[] W (Post9 1 W)) := hiD fun W => one_any W
  have h19 : 1 < B9 ^ (K + 1) := pow9_mono (K := 1) (by rw [Nat.pow_one, B9_eq]; omega) (by omega)
  have hAK : A + 1 < B9 ^ (K + 1) := by
    have : B9 ^ (K + 1) = B9 ^ K * 1000000000 := by rw [Nat.pow_succ, B9_eq]
    omega
  have hadd : Hid (∀ W u v, Nat9 W u A → Nat9 W v 1 → Calls Tryz.prog 72 #[u, v] W (Post9 (A + 1) W)) := hiD fun W u v hu hv => natAdd_nat u v A 1 (K + 1) W (by unfold most; omega) (by omega) h19 hu hv
  have hmk : Hid (∀ W u v, Nat9 W u (A + 1) → Nat9 W v 1 → Calls Tryz.prog 65 #[.bool true, u, v] W (QPostB f sb W)) := hiD fun W u v hu hv => by
    have h := make_any true u v (A + 1) 1 (K + 1) W hK (by omega) h19 hu hv
    rw [hf.out] at h
    exact h.mono fun e w' h => h.b hsb.out
  have hbr := BR.start w #[.bool true, u1, v1]
  have Hbr := hiD hbr
  obtain ⟨-, c0, c1, c2⟩ := hbr.all
  clear hbr hA9 h19 hAK
  go_enter Tryz.func143, Tryz.ntmps143
  go_wp2_with fail
  go_region_held3 (fun w' => BR w.heap.size #[.bool true, u1, v1] w w' ∧ w'.cell? ⟨w.heap.size, 0, none⟩ = some (.bool true) ∧ w'.cell? ⟨w.heap.size, 1, none⟩ = some u1 ∧ w'.cell? ⟨w.heap.size, 2, none⟩ = some v1)
    (first | exact BR.all (BR.drew Hbr.out) | exact BR.all Hbr.out | (go_split_ands; exact BR.all (BR.next (by assumption) hb1)) | (go_split_ands; exact BR.all (BR.next (by assumption) hb2)) | (go_split_ands; exact BR.all (BR.put3 (by assumption) (Nat.le_refl _) _ _ _ _ _ _ _)) | go_keep)
    (first | (go_at_call 71; go_split_ands; refine (hden.out _ (BR.below (by assumption))).mono ?_; rintro e w1 ⟨px, nx, cx, rfl, hvx, hb1⟩) | (go_at_call 122; go_split_ands; refine (hdiv.out _ _ (BR.below (by assumption)) hvx).mono ?_; rintro e w2 ⟨vA, vR, rfl, hvA, hvR, hb2⟩; obtain ⟨pA, nA, cA, rfl⟩ := hvA.slice; obtain ⟨pR, nR, cR, rfl⟩ := hvR.slice; have htw := BR.next (by assumption) hb2))
  have HA := hiD hvA
  have Htw := hiD htw
  obtain ⟨-, c0, c1, c2⟩ := htw.all
  have hR0 : (0 : Int) < nR := by have := hvR.zero_iff (n := nR); omega
  clear hb1 hb2 hvx hvA hvR htw
  go_wp2_with fail
  refine (hone.out _).mono ?_
  rintro e w3 ⟨v3, rfl, hv3, hb3, -⟩
  obtain ⟨p3, n3, c3, rfl⟩ := hv3.slice
  have ha3 := hiD (hadd.out w3 _ _ (HA.out.below hb3) hv3)
  have Htw3 := hiD (Htw.out.next hb3)
  clear hv3 hb3
  go_wp2_with fail
  refine ha3.out.mono ?_
  rintro e w4 ⟨v4, rfl, hv4, hb4, -⟩
  obtain ⟨p4, n4, c4, rfl⟩ := hv4.slice
  have HN := hiD hv4
  have HT := hiD (Htw3.out.next hb4)
  obtain ⟨-, c0, c1, c2⟩ := HT.out.all
  clear hv4 hb4
  go_wp2_with fail
  go_region_held3 (fun w' => BR w.heap.size #[.bool true, u1, v1] w w' ∧ w'.cell? ⟨w.heap.size, 0, none⟩ = some (.bool true) ∧ w'.cell? ⟨w.heap.size, 1, none⟩ = some u1 ∧ w'.cell? ⟨w.heap.size, 2, none⟩ = some v1)
    (first | exact BR.all (BR.drew HT.out) | exact BR.all HT.out | (go_split_ands; exact BR.all (BR.next (by assumption) hb5)) | (go_split_ands; exact BR.all (BR.next (by assumption) hb6)) | (go_split_ands; exact BR.all (BR.put3 (by assumption) (Nat.le_refl _) _ _ _ _ _ _ _)) | go_keep)
    (first | (go_at_call 67; go_split_ands; refine (hone.out _).mono ?_; rintro e w5 ⟨v5, rfl, hv5, hb5, -⟩; obtain ⟨p5, n5, c5, rfl⟩ := hv5.slice) | (go_at_call 65; go_split_ands; refine (hmk.out _ _ _ (HN.out.dr.below hb5) hv5).mono ?_; rintro e w6 ⟨pr, nr, cr, pq, nq, cq, rfl, hr1, hr2, hb6⟩; have htw := BR.next (by assumption) hb6; obtain ⟨z0, z1, z2, k0, k1, k2, f0, f1, f2⟩ := htw.rs.slots))
  go_wp2_with fail
  have hfin := hiD (htw.rs.fin (by omega) hsb.out hr1 hr2)
  refine bodyPost_ret (v := .agg #[.bool sb, .slice pr nr cr, .slice pq nq cq]) ?h1 rfl ?h2
  case h1 => simp [results, Tryz.results143, go_sem, k0, k1, k2]
  exact hfin.out
theorem bottom_neg (u1 v1 : Value) (d0 A R K : Nat) (f : Rat) (sb : Bool) (w : World) (hK : K + 1 ≤ 900000) (hA9 : A < B9 ^ K) (hden : Hid (∀ W, Below w.heap.size w W → Calls Tryz.prog 71 #[.agg #[.bool true, u1, v1]] W (Some9 d0 W))) (hdiv : Hid (∀ W v, Below w.heap.size w W → Nat9 W v d0 → Calls Tryz.prog 122 #[u1, v] W fun e w' => ∃ v r, e = .returned (.tuple #[v, r]) ∧ Nat9 w' v A ∧ Nat9 w' r R ∧ Below W.heap.size W w')) (hrest : R = 0) (hf : Hid (ratv true A 1 = f)) (hsb : Hid (sb = decide (f.num < 0))) :
    Calls Tryz.prog 143 #[.agg #[.bool true, u1, v1]] w (QPost f w) := by
  have hone : Hid (∀ W, Calls Tryz.prog 67 #[] W (Post9 1 W)) := hiD fun W => one_any W
  have h19 : 1 < B9 ^ (K + 1) := pow9_mono (K := 1) (by rw [Nat.pow_one, B9_eq]; omega) (by omega)
  have hAK : A + 1 < B9 ^ (K + 1) := by
    have : B9 ^ (K + 1) = B9 ^ K * 1000000000 := by rw [Nat.pow_succ, B9_eq]
    omega
  have hadd : Hid (∀ W u v, Nat9 W u A → Nat9 W v 1 → Calls Tryz.prog 72 #[u, v] W (Post9 (A + 1) W)) := hiD fun W u v hu hv => natAdd_nat u v A 1 (K + 1) W (by unfold most; omega) (by omega) h19 hu hv
  have hmk : Hid (∀ W u v, Nat9 W u A → Nat9 W v 1 → Calls Tryz.prog 65 #[.bool true, u, v] W (QPostB f sb W)) := hiD fun W u v hu hv => by
    have h := make_any true u v A 1 (K + 1) W hK (by omega) h19 hu hv
    rw [hf.out] at h
    exact h.mono fun e w' h => h.b hsb.out
  have hbr := BR.start w #[.bool true, u1, v1]
  have Hbr := hiD hbr
  obtain ⟨-, c0, c1, c2⟩ := hbr.all
  clear hbr hA9 h19 hAK
  go_enter Tryz.func143, Tryz.ntmps143
  go_wp2_with fail
  go_region_held3 (fun w' => BR w.heap.size #[.bool true, u1, v1] w w' ∧ w'.cell? ⟨w.heap.size, 0, none⟩ = some (.bool true) ∧ w'.cell? ⟨w.heap.size, 1, none⟩ = some u1 ∧ w'.cell? ⟨w.heap.size, 2, none⟩ = some v1)
    (first | exact BR.all (BR.drew Hbr.out) | exact BR.all Hbr.out | (go_split_ands; exact BR.all (BR.next (by assumption) hb1)) | (go_split_ands; exact BR.all (BR.next (by assumption) hb2)) | (go_split_ands; exact BR.all (BR.put3 (by assumption) (Nat.le_refl _) _ _ _ _ _ _ _)) | go_keep)
    (first | (go_at_call 71; go_split_ands; refine (hden.out _ (BR.below (by assumption))).mono ?_; rintro e w1 ⟨px, nx, cx, rfl, hvx, hb1⟩) | (go_at_call 122; go_split_ands; refine (hdiv.out _ _ (BR.below (by assumption)) hvx).mono ?_; rintro e w2 ⟨vA, vR, rfl, hvA, hvR, hb2⟩; obtain ⟨pA, nA, cA, rfl⟩ := hvA.slice; obtain ⟨pR, nR, cR, rfl⟩ := hvR.slice; have htw := BR.next (by assumption) hb2))
  have HA := hiD hvA
  have Htw := hiD htw
  obtain ⟨-, c0, c1, c2⟩ := htw.all
  have hR0 : nR = 0 := hvR.zero_iff.2 hrest
  subst hR0
  have HN := HA
  have HT := Htw
  clear hb1 hb2 hvx hvA hvR htw
  go_wp2_with fail
  go_region_held3 (fun w' => BR w.heap.size #[.bool true, u1, v1] w w' ∧ w'.cell? ⟨w.heap.size, 0, none⟩ = some (.bool true) ∧ w'.cell? ⟨w.heap.size, 1, none⟩ = some u1 ∧ w'.cell? ⟨w.heap.size, 2, none⟩ = some v1)
    (first | exact BR.all (BR.drew HT.out) | exact BR.all HT.out | (go_split_ands; exact BR.all (BR.next (by assumption) hb5)) | (go_split_ands; exact BR.all (BR.next (by assumption) hb6)) | (go_split_ands; exact BR.all (BR.put3 (by assumption) (Nat.le_refl _) _ _ _ _ _ _ _)) | go_keep)
    (first | (go_at_call 67; go_split_ands; refine (hone.out _).mono ?_; rintro e w5 ⟨v5, rfl, hv5, hb5, -⟩; obtain ⟨p5, n5, c5, rfl⟩ := hv5.slice) | (go_at_call 65; go_split_ands; refine (hmk.out _ _ _ (HN.out.dr.below hb5) hv5).mono ?_; rintro e w6 ⟨pr, nr, cr, pq, nq, cq, rfl, hr1, hr2, hb6⟩; have htw := BR.next (by assumption) hb6; obtain ⟨z0, z1, z2, k0, k1, k2, f0, f1, f2⟩ := htw.rs.slots))
  go_wp2_with fail
  have hfin := hiD (htw.rs.fin (by omega) hsb.out hr1 hr2)
  refine bodyPost_ret (v := .agg #[.bool sb, .slice pr nr cr, .slice pq nq cq]) ?h1 rfl ?h2
  case h1 => simp [results, Tryz.results143, go_sem, k0, k1, k2]
  exact hfin.out
theorem bottom_pos (u1 v1 : Value) (d0 A R K : Nat) (f : Rat) (sb : Bool) (w : World) (hK : K + 1 ≤ 900000) (hA9 : A < B9 ^ K) (hden : Hid (∀ W, Below w.heap.size w W → Calls Tryz.prog 71 #[.agg #[.bool false, u1, v1]] W (Some9 d0 W))) (hdiv : Hid (∀ W v, Below w.heap.size w W → Nat9 W v d0 → Calls Tryz.prog 122 #[u1, v] W fun e w' => ∃ v r, e = .returned (.tuple #[v, r]) ∧ Nat9 w' v A ∧ Nat9 w' r R ∧ Below W.heap.size W w'))  (hf : Hid (ratv false A 1 = f)) (hsb : Hid (sb = decide (f.num < 0))) :
    Calls Tryz.prog 143 #[.agg #[.bool false, u1, v1]] w (QPost f w) := by
  have hone : Hid (∀ W, Calls Tryz.prog 67 #[] W (Post9 1 W)) := hiD fun W => one_any W
  have h19 : 1 < B9 ^ (K + 1) := pow9_mono (K := 1) (by rw [Nat.pow_one, B9_eq]; omega) (by omega)
  have hAK : A + 1 < B9 ^ (K + 1) := by
    have : B9 ^ (K + 1) = B9 ^ K * 1000000000 := by rw [Nat.pow_succ, B9_eq]
    omega
  have hadd : Hid (∀ W u v, Nat9 W u A → Nat9 W v 1 → Calls Tryz.prog 72 #[u, v] W (Post9 (A + 1) W)) := hiD fun W u v hu hv => natAdd_nat u v A 1 (K + 1) W (by unfold most; omega) (by omega) h19 hu hv
  have hmk : Hid (∀ W u v, Nat9 W u A → Nat9 W v 1 → Calls Tryz.prog 65 #[.bool false, u, v] W (QPostB f sb W)) := hiD fun W u v hu hv => by
    have h := make_any false u v A 1 (K + 1) W hK (by omega) h19 hu hv
    rw [hf.out] at h
    exact h.mono fun e w' h => h.b hsb.out
  have hbr := BR.start w #[.bool false, u1, v1]
  have Hbr := hiD hbr
  obtain ⟨-, c0, c1, c2⟩ := hbr.all
  clear hbr hA9 h19 hAK
  go_enter Tryz.func143, Tryz.ntmps143
  go_wp2_with fail
  go_region_held3 (fun w' => BR w.heap.size #[.bool false, u1, v1] w w' ∧ w'.cell? ⟨w.heap.size, 0, none⟩ = some (.bool false) ∧ w'.cell? ⟨w.heap.size, 1, none⟩ = some u1 ∧ w'.cell? ⟨w.heap.size, 2, none⟩ = some v1)
    (first | exact BR.all (BR.drew Hbr.out) | exact BR.all Hbr.out | (go_split_ands; exact BR.all (BR.next (by assumption) hb1)) | (go_split_ands; exact BR.all (BR.next (by assumption) hb2)) | (go_split_ands; exact BR.all (BR.put3 (by assumption) (Nat.le_refl _) _ _ _ _ _ _ _)) | go_keep)
    (first | (go_at_call 71; go_split_ands; refine (hden.out _ (BR.below (by assumption))).mono ?_; rintro e w1 ⟨px, nx, cx, rfl, hvx, hb1⟩) | (go_at_call 122; go_split_ands; refine (hdiv.out _ _ (BR.below (by assumption)) hvx).mono ?_; rintro e w2 ⟨vA, vR, rfl, hvA, hvR, hb2⟩; obtain ⟨pA, nA, cA, rfl⟩ := hvA.slice; obtain ⟨pR, nR, cR, rfl⟩ := hvR.slice; have htw := BR.next (by assumption) hb2))
  have HA := hiD hvA
  have Htw := hiD htw
  obtain ⟨-, c0, c1, c2⟩ := htw.all
  have HN := HA
  have HT := Htw
  clear hb1 hb2 hvx hvA hvR htw
  go_wp2_with fail
  go_region_held3 (fun w' => BR w.heap.size #[.bool false, u1, v1] w w' ∧ w'.cell? ⟨w.heap.size, 0, none⟩ = some (.bool false) ∧ w'.cell? ⟨w.heap.size, 1, none⟩ = some u1 ∧ w'.cell? ⟨w.heap.size, 2, none⟩ = some v1)
    (first | exact BR.all (BR.drew HT.out) | exact BR.all HT.out | (go_split_ands; exact BR.all (BR.next (by assumption) hb5)) | (go_split_ands; exact BR.all (BR.next (by assumption) hb6)) | (go_split_ands; exact BR.all (BR.put3 (by assumption) (Nat.le_refl _) _ _ _ _ _ _ _)) | go_keep)
    (first | (go_at_call 67; go_split_ands; refine (hone.out _).mono ?_; rintro e w5 ⟨v5, rfl, hv5, hb5, -⟩; obtain ⟨p5, n5, c5, rfl⟩ := hv5.slice) | (go_at_call 65; go_split_ands; refine (hmk.out _ _ _ (HN.out.dr.below hb5) hv5).mono ?_; rintro e w6 ⟨pr, nr, cr, pq, nq, cq, rfl, hr1, hr2, hb6⟩; have htw := BR.next (by assumption) hb6; obtain ⟨z0, z1, z2, k0, k1, k2, f0, f1, f2⟩ := htw.rs.slots))
  go_wp2_with fail
  have hfin := hiD (htw.rs.fin (by omega) hsb.out hr1 hr2)
  refine bodyPost_ret (v := .agg #[.bool sb, .slice pr nr cr, .slice pq nq cq]) ?h1 rfl ?h2
  case h1 => simp [results, Tryz.results143, go_sem, k0, k1, k2]
  exact hfin.out
theorem bottom_any (x : Value) (q : Rat) (K : Nat) (w : World) (hK : K + 1 ≤ 900000) (hq : QLt K q) (hx : QAt w x q) : Calls Tryz.prog 143 #[x] w (QPost (floQ q) w) := by
  have hden0 := fun W (hW : Below w.heap.size w W) => den_any x q W (hx.below hW)
  obtain ⟨u1, v1, rfl, hu, hv⟩ := hx
  have hdiv : Hid (∀ W v, Below w.heap.size w W → Nat9 W v q.den → Calls Tryz.prog 122 #[u1, v] W fun e w' => ∃ v r, e = .returned (.tuple #[v, r]) ∧ Nat9 w' v (q.num.natAbs / q.den) ∧ Nat9 w' r (q.num.natAbs % q.den) ∧ Below W.heap.size W w') := hiD fun W v hW hv => natDiv_nat u1 v q.num.natAbs q.den K W (by omega) hq.1 hq.2 q.den_pos (hu.below hW) hv
  have hA9 : q.num.natAbs / q.den < B9 ^ K := Nat.lt_of_le_of_lt (Nat.div_le_self _ _) hq.1
  unfold floQ
  by_cases hs : q.num < 0
  · have hd : decide (q.num < 0) = true := by simpa using hs
    rw [hd] at hden0 ⊢
    by_cases h0 : q.num.natAbs % q.den = 0
    · have e : floorN true q.num.natAbs q.den = q.num.natAbs / q.den := by unfold floorN; rw [h0]; rfl
      rw [e]
      exact bottom_neg u1 v1 q.den _ _ K _ _ w hK hA9 (hiD hden0) hdiv h0 (hiD rfl) (hiD rfl)
    · have e : floorN true q.num.natAbs q.den = q.num.natAbs / q.den + 1 := by
        unfold floorN
        have : (q.num.natAbs % q.den == 0) = false := by simpa using h0
        rw [this]; rfl
      rw [e]
      exact bottom_up u1 v1 q.den _ _ K _ _ w hK hA9 (hiD hden0) hdiv (by omega) (hiD rfl) (hiD rfl)
  · have hd : decide (q.num < 0) = false := by simpa using hs
    rw [hd] at hden0 ⊢
    have e : floorN false q.num.natAbs q.den = q.num.natAbs / q.den := rfl
    rw [e]
    exact bottom_pos u1 v1 q.den _ _ K _ _ w hK hA9 (hiD hden0) hdiv (hiD rfl) (hiD rfl)
end Go.Proofs.YtpnofkefcoaojaaGreatDoor
namespace Go.Proofs.YtpnofkefcoaojaaGreatDoor
open Go.RowKit Go.Lib Big
theorem QLt.flo {K : Nat} {q : Rat} (h : QLt K q) : QLt (K + 1) (floQ q) := by
  have h1 : q.num.natAbs / q.den < B9 ^ K := Nat.lt_of_le_of_lt (Nat.div_le_self _ _) h.1
  have e : B9 ^ (K + 1) = B9 ^ K * 1000000000 := by rw [Nat.pow_succ, B9_eq]
  have hp : 0 < B9 ^ K := Nat.lt_of_le_of_lt (Nat.zero_le _) h1
  have h2 : floorN (decide (q.num < 0)) q.num.natAbs q.den ≤ q.num.natAbs / q.den + 1 := by
    unfold floorN
    split <;> omega
  exact lt_of_ratv (b := 1) rfl (by omega) (by omega) (by omega)
end Go.Proofs.YtpnofkefcoaojaaGreatDoor
namespace Go.Proofs.YtpnofkefcoaojaaGreatDoor
open Go.RowKit Big
open Go.Lib
theorem half_lt : QLt 4 halfQ := by
  have hl : ∀ z : Int, -1000000000 ≤ z ∧ z ≤ 1000000000 → QLt 2 (z : Rat) := fun z h => ⟨by rw [Rat.num_intCast, B9_eq]; omega, by rw [Rat.den_intCast, B9_eq]; omega⟩
  exact (hl 1 (by omega)).quo (hl 2 (by omega))
theorem QLt.rnd {K L : Nat} {a b : Rat} (ha : QLt K a) (hb : QLt L b) : QLt (K + L + 6 + L) (rndQ a b) := ((ha.quo hb).add half_lt).flo.mul hb
theorem rounded_any (x y : Value) (a b : Rat) (K L : Nat) (w : World) (hK : K + L + 6 + L ≤ 900000) (hab : QLt K a) (hbb : QLt L b) (hx : QAt w x a) (hy : QAt w y b) : Calls Tryz.prog 95 #[x, y] w (QPost (rndQ a b) w) := by
  obtain ⟨f1, hf1⟩ : ∃ f, Hid (f = a / b) := ⟨_, hiD rfl⟩
  obtain ⟨f2, hf2⟩ : ∃ f, Hid (f = f1 + halfQ) := ⟨_, hiD rfl⟩
  obtain ⟨f3, hf3⟩ : ∃ f, Hid (f = floQ f2) := ⟨_, hiD rfl⟩
  obtain ⟨f4, hf4⟩ : ∃ f, Hid (f = f3 * b) := ⟨_, hiD rfl⟩
  obtain ⟨f5, hf5⟩ : ∃ f, Hid (f = halfQ) := ⟨_, hiD rfl⟩
  have he : rndQ a b = f4 := by rw [hf4.out, hf3.out, hf2.out, hf1.out]; rfl
  rw [he]
  obtain ⟨s1, hs1⟩ : ∃ s, Hid (s = decide (f1.num < 0)) := ⟨_, hiD rfl⟩
  obtain ⟨s2, hs2⟩ : ∃ s, Hid (s = decide (f2.num < 0)) := ⟨_, hiD rfl⟩
  obtain ⟨s3, hs3⟩ : ∃ s, Hid (s = decide (f3.num < 0)) := ⟨_, hiD rfl⟩
  obtain ⟨s4, hs4⟩ : ∃ s, Hid (s = decide (f4.num < 0)) := ⟨_, hiD rfl⟩
  obtain ⟨s5, hs5⟩ : ∃ s, Hid (s = decide (f5.num < 0)) := ⟨_, hiD rfl⟩
  have l1 : QLt (K + L) f1 := by rw [hf1.out]; exact hab.quo hbb
  have l2 : QLt (K + L + 4 + 1) f2 := by rw [hf2.out]; exact l1.add half_lt
  have l3 : QLt (K + L + 4 + 1 + 1) f3 := by rw [hf3.out]; exact l2.flo
  have hq1 : Hid (∀ W, Below w.heap.size w W → Calls Tryz.prog 83 #[x, y] W (QPostB f1 s1 W)) := hiD fun W hW => by
    rw [hf1.out]
    exact (quot_any x y a b K L W (by omega) hab hbb (hx.below hW) (hy.below hW)).mono fun e w' h => h.b (by rw [hs1.out, hf1.out])
  have hq2 : Hid (∀ W, Calls Tryz.prog 144 #[.int .i64 1, .int .i64 2] W (QPostB f5 s5 W)) := hiD fun W => by
    rw [hf5.out]
    exact (frac_any 1 2 W (by omega) (by omega)).mono fun e w' h => QPost.b (q := halfQ) h (by rw [hs5.out, hf5.out])
  have hq3 : Hid (∀ W u v, QAt W u f1 → QAt W v f5 → Calls Tryz.prog 32 #[u, v] W (QPostB f2 s2 W)) := hiD fun W u v hu hv => by
    rw [hf5.out] at hv
    rw [hf2.out]
    exact (plus_any u v f1 halfQ (K + L) 4 W (by omega) l1 half_lt hu hv).mono fun e w' h => h.b (by rw [hs2.out, hf2.out])
  have hq4 : Hid (∀ W u, QAt W u f2 → Calls Tryz.prog 143 #[u] W (QPostB f3 s3 W)) := hiD fun W u hu => by
    rw [hf3.out]
    exact (bottom_any u f2 (K + L + 4 + 1) W (by omega) l2 hu).mono fun e w' h => h.b (by rw [hs3.out, hf3.out])
  have hq5 : Hid (∀ W u, Below w.heap.size w W → QAt W u f3 → Calls Tryz.prog 142 #[u, y] W (QPostB f4 s4 W)) := hiD fun W u hW hu => by
    rw [hf4.out]
    exact (prod_any u y f3 b (K + L + 4 + 1 + 1) L W (by omega) l3 hbb hu (hy.below hW)).mono fun e w' h => h.b (by rw [hs4.out, hf4.out])
  obtain ⟨u1, v1, rfl, hu1, hv1⟩ := hx
  obtain ⟨u2, v2, rfl, hu2, hv2⟩ := hy
  obtain ⟨s, hs⟩ : ∃ s, Hid (s = decide (a.num < 0)) := ⟨_, hiD rfl⟩
  obtain ⟨t, ht⟩ : ∃ t, Hid (t = decide (b.num < 0)) := ⟨_, hiD rfl⟩
  rw [← hs.out, ← ht.out] at hq1
  rw [← ht.out] at hq5
  rw [← hs.out, ← ht.out]
  have htwo := Twa.start w s u1 v1 t u2 v2
  have Htwo := hiD htwo
  obtain ⟨-, c0, c1, c2, c3, c4, c5⟩ := htwo.all
  clear htwo hv1 hv2 hab hbb hu1 hu2 l1 l2 l3 he
  go_enter Tryz.func95, Tryz.ntmps95
  go_wp2_with fail
  go_region_held3 (fun w' => Twa w.heap.size s u1 v1 t u2 v2 w w' ∧ w'.cell? ⟨w.heap.size, 0, none⟩ = some (.bool s) ∧ w'.cell? ⟨w.heap.size, 1, none⟩ = some u1 ∧ w'.cell? ⟨w.heap.size, 2, none⟩ = some v1 ∧ w'.cell? ⟨w.heap.size + 1, 0, none⟩ = some (.bool t) ∧ w'.cell? ⟨w.heap.size + 1, 1, none⟩ = some u2 ∧ w'.cell? ⟨w.heap.size + 1, 2, none⟩ = some v2)
    (first | exact Twa.all (Twa.drew Htwo.out) | exact Twa.all Htwo.out | (go_split_ands; exact Twa.all (Twa.next (by assumption) hb1)) | (go_split_ands; exact Twa.all (Twa.next (by assumption) hb2)) | (go_split_ands; exact Twa.all (Twa.next (by assumption) hb3)) | (go_split_ands; exact Twa.all (Twa.next (by assumption) hb4)) | (go_split_ands; exact Twa.all (Twa.next (by assumption) hb5)) | (go_split_ands; exact Twa.all (Twa.put3 (by assumption) (Nat.le_refl _) _ _ _ _ _ _ _)) | go_keep)
    (first | (go_at_call 83; go_split_ands; refine (hq1.out _ (Twa.below (by assumption))).mono ?_; rintro e w1 ⟨p1, n1, c1, p2, n2, c2, rfl, ha1, ha2, hb1⟩) | (go_at_call 144; go_split_ands; refine (hq2.out _).mono ?_; rintro e w2 ⟨p3, n3, c3, p4, n4, c4, rfl, ha3, ha4, hb2⟩) | (go_at_call 32; go_split_ands; refine (hq3.out _ _ _ (QAt.below ⟨_, _, by rw [hs1.out], ha1, ha2⟩ hb2) ⟨_, _, by rw [hs5.out], ha3, ha4⟩).mono ?_; rintro e w3 ⟨p5, n5, c5, p6, n6, c6, rfl, ha5, ha6, hb3⟩) | (go_at_call 143; go_split_ands; refine (hq4.out _ _ ⟨_, _, by rw [hs2.out], ha5, ha6⟩).mono ?_; rintro e w4 ⟨p7, n7, c7, p8, n8, c8, rfl, ha7, ha8, hb4⟩) | (go_at_call 142; go_split_ands; refine (hq5.out _ _ (Twa.below (by assumption)) ⟨_, _, by rw [hs3.out], ha7, ha8⟩).mono ?_; rintro e w5 ⟨pr, nr, cr, pq, nq, cq, rfl, hr1, hr2, hb5⟩; have htw := Twa.next (by assumption) hb5; obtain ⟨z0, z1, z2, k0, k1, k2, f0, f1, f2⟩ := Twa.slots htw))
  go_wp2_with fail
  have hfin := hiD (htw.fin (Nat.le_refl _) hs4.out hr1 hr2)
  refine bodyPost_ret (v := .agg #[.bool s4, .slice pr nr cr, .slice pq nq cq]) (by simp [results, Tryz.results95, go_sem, k0, k1, k2]) rfl ?_
  exact hfin.out
end Go.Proofs.YtpnofkefcoaojaaGreatDoor
