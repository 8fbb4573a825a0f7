/-  -/
import Derived.Test.YtoegbjmoecbjdaaGreatDoorPart05
set_option maxHeartbeats 6400000
set_option maxRecDepth 100000
namespace Go.Proofs.YtoegbjmoecbjdaaGreatDoor
open Go.RowKit Big
def addB (a b c d : Nat) : Nat × Nat := if b = d then (a + c, b) else (a * d + c * b, b * d)
def AddPost (s : Bool) (a b : Nat) (t : Bool) (c d K : Nat) (w : World) (e : Ending) (w' : World) : Prop :=
  ∃ x r n m, e = .returned x ∧ RatAt w' x r n m ∧ Below w.heap.size w w' ∧ 0 < m ∧ ratv r n m = ratv s a b + ratv t c d ∧ n < B64 ^ (2 * K + 1) ∧ m < B64 ^ (2 * K + 1) ∧ n ≤ (addB a b c d).1 ∧ m = (addB a b c d).2
structure Common (s : Bool) (a b : Nat) (t : Bool) (c d K A B M : Nat) : Prop where
  pos : 0 < M
  eqA : ratv s A M = ratv s a b
  eqB : ratv t B M = ratv t c d
  ltA : A < B64 ^ (2 * K)
  ltB : B < B64 ^ (2 * K)
  ltM0 : M < B64 ^ (2 * K)
  eqS : A + B = (addB a b c d).1
  eqT : M = (addB a b c d).2
theorem pow_more (K : Nat) : B64 ^ (2 * K + 1) = B64 ^ (2 * K) * B64 := Nat.pow_succ _ _
theorem Common.ltM {s : Bool} {a b : Nat} {t : Bool} {c d K A B M : Nat} (h : Common s a b t c d K A B M) : M < B64 ^ (2 * K + 1) := by
  have := h.ltM0
  have h2 : B64 ^ (2 * K) ≤ B64 ^ (2 * K + 1) := Nat.pow_le_pow_right B64_pos (by omega)
  omega
theorem Common.ltP {s : Bool} {a b : Nat} {t : Bool} {c d K A B M : Nat} (h : Common s a b t c d K A B M) : A + B < B64 ^ (2 * K + 1) := by
  have h1 := h.ltA
  have h2 := h.ltB
  have h3 : B64 ^ (2 * K) * 2 ≤ B64 ^ (2 * K) * B64 := Nat.mul_le_mul_left _ (by rw [B64_eq]; omega)
  rw [pow_more]; omega
theorem Common.ltAm {s : Bool} {a b : Nat} {t : Bool} {c d K A B M : Nat} (h : Common s a b t c d K A B M) : A - B < B64 ^ (2 * K + 1) := by have := h.ltP; omega
theorem Common.ltBm {s : Bool} {a b : Nat} {t : Bool} {c d K A B M : Nat} (h : Common s a b t c d K A B M) : B - A < B64 ^ (2 * K + 1) := by have := h.ltP; omega
theorem Common.sumP {s : Bool} {a b : Nat} {t : Bool} {c d K A B M : Nat} (h : Common s a b t c d K A B M) (hst : s = t) : ratv s (A + B) M = ratv s a b + ratv t c d := by
  subst hst; rw [ratv_plus, h.eqA, h.eqB]
theorem Common.sumA {s : Bool} {a b : Nat} {t : Bool} {c d K A B M : Nat} (h : Common s a b t c d K A B M) (hst : s ≠ t) (hlt : ¬ A < B) : ratv s (A - B) M = ratv s a b + ratv t c d := by
  rw [ratv_minus hst (by omega), h.eqA, h.eqB]
theorem Common.sumB {s : Bool} {a b : Nat} {t : Bool} {c d K A B M : Nat} (h : Common s a b t c d K A B M) (hst : s ≠ t) (hlt : A < B) : ratv t (B - A) M = ratv s a b + ratv t c d := by
  rw [ratv_minus (Ne.symm hst) (by omega), h.eqA, h.eqB, Rat.add_comm]
theorem Common.same {s : Bool} {a b : Nat} {t : Bool} {c K : Nat} (ha : a < B64 ^ K) (hb : b < B64 ^ K) (hc : c < B64 ^ K) (hb0 : 0 < b) : Common s a b t c b K a c b := by
  have h2 : B64 ^ K ≤ B64 ^ (2 * K) := Nat.pow_le_pow_right B64_pos (by omega)
  exact ⟨hb0, rfl, rfl, by omega, by omega, by omega, by unfold addB; rw [if_pos rfl], by unfold addB; rw [if_pos rfl]⟩
theorem pow_two (K : Nat) : B64 ^ (2 * K) = B64 ^ K * B64 ^ K := by rw [Nat.two_mul, Nat.pow_add]
theorem Common.made {s : Bool} {a b : Nat} {t : Bool} {c d K : Nat} (ha : a < B64 ^ K) (hb : b < B64 ^ K) (hc : c < B64 ^ K) (hd : d < B64 ^ K) (hb0 : 0 < b) (hd0 : 0 < d) (hne : ¬ b = d) : Common s a b t c d K (a * d) (c * b) (b * d) := by
  refine ⟨Nat.mul_pos hb0 hd0, ratv_scale hb0 hd0, ?_, ?_, ?_, ?_, by unfold addB; rw [if_neg hne], by unfold addB; rw [if_neg hne]⟩
  · rw [Nat.mul_comm b d]; exact ratv_scale hd0 hb0
  · rw [pow_two]; exact Nat.mul_lt_mul'' ha hd
  · rw [pow_two]; exact Nat.mul_lt_mul'' hc hb
  · rw [pow_two]; exact Nat.mul_lt_mul'' hb hd
theorem add_any (x y : Value) (s t : Bool) (a b c d K : Nat) (w : World) (hK : 2 * K + 1 ≤ 1073741824) (ha : a < B64 ^ K) (hb : b < B64 ^ K) (hc : c < B64 ^ K) (hd : d < B64 ^ K) (hb0 : 0 < b) (hd0 : 0 < d) (hx : RatAt w x s a b) (hy : RatAt w y t c d) :
    Calls Tryz.prog 79 #[x, y] w (AddPost s a b t c d K w) := by
  obtain ⟨u1, v1, rfl, hu1, hv1, hs1⟩ := hx
  obtain ⟨u2, v2, rfl, hu2, hv2, hs2⟩ := hy
  obtain ⟨p1, n1, k1, rfl⟩ := hu1.slice
  obtain ⟨p2, n2, k2, rfl⟩ := hv1.slice
  obtain ⟨p3, n3, k3, rfl⟩ := hu2.slice
  obtain ⟨p4, n4, k4, rfl⟩ := hv2.slice
  have htwo := Two.start w s (.slice p1 n1 k1) (.slice p2 n2 k2) t (.slice p3 n3 k3) (.slice p4 n4 k4)
  obtain ⟨w0, hw0⟩ : ∃ w0, w0 = (((w.alloc (.cells #[.bool s, (.slice p1 n1 k1), (.slice p2 n2 k2)] 66)).alloc (.cells #[.bool t, (.slice p3 n3 k3), (.slice p4 n4 k4)] 66)).alloc (.cells #[.bool false, .slice none 0 0, .slice none 0 0] 66)) := ⟨_, rfl⟩
  rw [← hw0] at htwo
  have Htwo := hiD htwo
  obtain ⟨-, c0, c1, c2, c3, c4, c5⟩ := htwo.all
  have HU1 := hiD hu1
  have HV1 := hiD hv1
  have HU2 := hiD hu2
  have HV2 := hiD hv2
  have Hw0 := hiD hw0
  have htB := hiD Htwo.out.below
  clear hu1 hv1 hu2 hv2 hs1 hs2 htwo hw0
  go_enter Tryz.func79, Tryz.ntmps79
  go_wp2_with fail
  rw [← Hw0.out]
  go_quiet (fail)
  go_wp2_with fail
  refine (compare_nat (.slice p2 n2 k2) (.slice p4 n4 k4) b d K _ (by unfold most; omega) hb hd ((HV1.out.below htB.out).below (below_drewN _ _ _)) ((HV2.out.below htB.out).below (below_drewN _ _ _))).mono ?_
  rintro e w1 ⟨rfl, k, rfl⟩
  obtain ⟨W, hW⟩ : ∃ W, W = (w0.drewN nq).drewN k := ⟨_, rfl⟩
  have htw : Hid (Two w.heap.size s (.slice p1 n1 k1) (.slice p2 n2 k2) t (.slice p3 n3 k3) (.slice p4 n4 k4) w W) := hiD (by rw [hW]; exact (Htwo.out.next (below_drewN _ _ _)).next (below_drewN _ _ _))
  rw [← hW]
  have HUW := hiD (show NatAt W (.slice p1 n1 k1) a by rw [hW]; exact ((HU1.out.below htB.out).drewN _).drewN _)
  have HVW := hiD (show NatAt W (.slice p2 n2 k2) b by rw [hW]; exact ((HV1.out.below htB.out).drewN _).drewN _)
  have HUW2 := hiD (show NatAt W (.slice p3 n3 k3) c by rw [hW]; exact ((HU2.out.below htB.out).drewN _).drewN _)
  have HVW2 := hiD (show NatAt W (.slice p4 n4 k4) d by rw [hW]; exact ((HV2.out.below htB.out).drewN _).drewN _)
  clear hW c0 c1 c2 c3 c4 c5
  obtain ⟨-, c0, c1, c2, c3, c4, c5⟩ := htw.out.all
  by_cases hbd : b = d
  · subst hbd
    have hz : cmp3 b b = 0 := by simp [cmp3]
    rw [hz]
    have hF : Hid (Common s a b t c b K a c b) := hiD (Common.same ha hb hc hb0)
    obtain ⟨A, hAq⟩ : ∃ A, A = a := ⟨_, rfl⟩
    obtain ⟨B, hBq⟩ : ∃ B, B = c := ⟨_, rfl⟩
    obtain ⟨M, hMq⟩ : ∃ M, M = b := ⟨_, rfl⟩
    have hA : Hid (NatAt W (.slice p1 n1 k1) A) := hiD (by rw [hAq]; exact HUW.out)
    have hB : Hid (NatAt W (.slice p3 n3 k3) B) := hiD (by rw [hBq]; exact HUW2.out)
    have hM : Hid (NatAt W (.slice p2 n2 k2) M) := hiD (by rw [hMq]; exact HVW.out)
    have hF : Hid (Common s a b t c b K A B M) := hiD (by rw [hAq, hBq, hMq]; exact hF.out)
    clear hAq hBq hMq hz
    by_cases hst : s = t
    · subst hst
      have hst' : (s == s) = true := by simp
      go_wp2_with fail
      have hop : Hid (∀ W', Below W.heap.size W W' → Calls Tryz.prog 130 #[.slice p1 n1 k1, .slice p3 n3 k3] W' (NatPost (A + B) W')) := hiD fun W' h => plus_nat _ _ _ _ (2 * K) W' (by unfold most; omega) hF.out.ltA hF.out.ltB (hA.out.below h) (hB.out.below h)
      obtain ⟨-, c0, c1, c2, c3, c4, c5⟩ := htw.out.all
      go_region_held3 (fun w' => Two w.heap.size s (.slice p1 n1 k1) (.slice p2 n2 k2) s (.slice p3 n3 k3) (.slice p4 n4 k4) w w' ∧ w'.cell? ⟨w.heap.size, 0, none⟩ = some (.bool s) ∧ w'.cell? ⟨w.heap.size, 1, none⟩ = some (.slice p1 n1 k1) ∧ w'.cell? ⟨w.heap.size, 2, none⟩ = some (.slice p2 n2 k2) ∧ w'.cell? ⟨w.heap.size + 1, 0, none⟩ = some (.bool s) ∧ w'.cell? ⟨w.heap.size + 1, 1, none⟩ = some (.slice p3 n3 k3) ∧ w'.cell? ⟨w.heap.size + 1, 2, none⟩ = some (.slice p4 n4 k4))
        (first | exact Two.all (Two.drew htw.out) | exact Two.all htw.out | (go_split_ands; exact Two.all (Two.next (by assumption) hb1)) | (go_split_ands; exact Two.all (Two.next (by assumption) hb3)) | (go_split_ands; exact Two.all (Two.put3 (by assumption) (Nat.le_refl _) _ _ _ _ _ _ _)) | go_keep)
        (first | (go_at_call 130; go_split_ands; refine (hop.out _ (Below.drew (Below.refl _ _))).mono ?_; rintro e w1 ⟨vt, rfl, hvt, hb1⟩; obtain ⟨pt, nt, ct, rfl⟩ := hvt.slice) | (go_at_call 129; go_split_ands; refine (signed_nat _ _ _ _ _ _ hvt ((hM.out.below (Below.drew (Below.refl _ _))).below hb1)).mono ?_; rintro e w3 ⟨rfl, hb3⟩; have htw := Two.next (by assumption) hb3; obtain ⟨z0, z1, z2, l0, l1, l2, f0, f1, f2⟩ := Two.slots htw))
      go_wp2_with fail
      have q1 := htw.nat3 (Nat.le_refl _) (hvt.below hb3) (s && !((A + B) == 0)) pt p2 nt ct n2 k2
      have q2 := htw.nat3 (Nat.le_refl _) (((hM.out.below (Below.drew (Below.refl _ _))).below hb1).below hb3) (s && !((A + B) == 0)) pt p2 nt ct n2 k2
      have q3 := (htw.put3 (Nat.le_refl _) (s && !((A + B) == 0)) pt p2 nt ct n2 k2).below
      have hfin : Hid (∀ W', W' = (((w3.setCell ⟨w.heap.size + 1 + 1, 0, none⟩ (.bool (s && !((A + B) == 0)))).setCell ⟨w.heap.size + 1 + 1, 1, none⟩ (.slice pt nt ct)).setCell ⟨w.heap.size + 1 + 1, 2, none⟩ (.slice p2 n2 k2)) → AddPost s a b s c b K w (.returned (.agg #[.bool (s && !((A + B) == 0)), .slice pt nt ct, .slice p2 n2 k2])) W') := hiD (by
        rintro W' rfl
        refine ⟨_, _, _, _, rfl, ⟨_, _, rfl, q1, q2, by intro h; simp at h; omega⟩, q3, hF.out.pos, ?_, hF.out.ltP, hF.out.ltM, Nat.le_of_eq hF.out.eqS, hF.out.eqT⟩
        rw [ratv_drop]
        exact hF.out.sumP rfl)
      refine bodyPost_ret (v := .agg #[.bool (s && !((A + B) == 0)), .slice pt nt ct, .slice p2 n2 k2]) (by simp [results, Tryz.results79, go_sem, l0, l1, l2]) rfl ?_
      exact hfin.out _ rfl
    · have hst' : (s == t) = false := by simpa using hst
      have hcm : Hid (Calls Tryz.prog 127 #[.slice p1 n1 k1, .slice p3 n3 k3] W (CmpPost A B W)) := hiD (compare_nat _ _ _ _ (2 * K) _ (by unfold most; omega) hF.out.ltA hF.out.ltB hA.out hB.out)
      go_wp2_with fail
      refine hcm.out.mono ?_
      rintro e w5 ⟨rfl, k5, rfl⟩
      have htwd : Hid (Two w.heap.size s (.slice p1 n1 k1) (.slice p2 n2 k2) t (.slice p3 n3 k3) (.slice p4 n4 k4) w (W.drewN k5)) := hiD (htw.out.next (below_drewN _ _ _))
      have hMd : Hid (NatAt (W.drewN k5) (.slice p2 n2 k2) M) := hiD (hM.out.drewN _)
      by_cases hlt : A < B
      · have hz : cmp3 A B = -1 := cmp3_lt hlt
        rw [hz]
        have hlt' := hiD hlt
        clear hlt hz
        clear c0 c1 c2 c3 c4 c5
        have hM0 := hM
        have htw0 := htw
        clear hM htw
        have hM := hMd
        have htw := htwd
        clear hMd htwd
        obtain ⟨-, c0, c1, c2, c3, c4, c5⟩ := htw.out.all
        go_wp2_with fail
        have hop : Hid (∀ W', Below (W.drewN k5).heap.size (W.drewN k5) W' → Calls Tryz.prog 131 #[.slice p3 n3 k3, .slice p1 n1 k1] W' (NatPost (B - A) W')) := hiD fun W' h => minus_nat _ _ _ _ (2 * K) W' (by unfold most; omega) hF.out.ltB (by have := hlt'.out; omega) ((hB.out.drewN k5).below h) ((hA.out.drewN k5).below h)
        obtain ⟨-, c0, c1, c2, c3, c4, c5⟩ := htw.out.all
        go_region_held3 (fun w' => Two w.heap.size s (.slice p1 n1 k1) (.slice p2 n2 k2) t (.slice p3 n3 k3) (.slice p4 n4 k4) w w' ∧ w'.cell? ⟨w.heap.size, 0, none⟩ = some (.bool s) ∧ w'.cell? ⟨w.heap.size, 1, none⟩ = some (.slice p1 n1 k1) ∧ w'.cell? ⟨w.heap.size, 2, none⟩ = some (.slice p2 n2 k2) ∧ w'.cell? ⟨w.heap.size + 1, 0, none⟩ = some (.bool t) ∧ w'.cell? ⟨w.heap.size + 1, 1, none⟩ = some (.slice p3 n3 k3) ∧ w'.cell? ⟨w.heap.size + 1, 2, none⟩ = some (.slice p4 n4 k4))
          (first | exact Two.all (Two.drew htw.out) | exact Two.all htw.out | (go_split_ands; exact Two.all (Two.next (by assumption) hb1)) | (go_split_ands; exact Two.all (Two.next (by assumption) hb3)) | (go_split_ands; exact Two.all (Two.put3 (by assumption) (Nat.le_refl _) _ _ _ _ _ _ _)) | go_keep)
          (first | (go_at_call 131; go_split_ands; refine (hop.out _ (Below.drew (Below.refl _ _))).mono ?_; rintro e w1 ⟨vt, rfl, hvt, hb1⟩; obtain ⟨pt, nt, ct, rfl⟩ := hvt.slice) | (go_at_call 129; go_split_ands; refine (signed_nat _ _ _ _ _ _ hvt ((hM.out.below (Below.drew (Below.refl _ _))).below hb1)).mono ?_; rintro e w3 ⟨rfl, hb3⟩; have htw := Two.next (by assumption) hb3; obtain ⟨z0, z1, z2, l0, l1, l2, f0, f1, f2⟩ := Two.slots htw))
        go_wp2_with fail
        have q1 := htw.nat3 (Nat.le_refl _) (hvt.below hb3) (t && !((B - A) == 0)) pt p2 nt ct n2 k2
        have q2 := htw.nat3 (Nat.le_refl _) (((hM.out.below (Below.drew (Below.refl _ _))).below hb1).below hb3) (t && !((B - A) == 0)) pt p2 nt ct n2 k2
        have q3 := (htw.put3 (Nat.le_refl _) (t && !((B - A) == 0)) pt p2 nt ct n2 k2).below
        have hfin : Hid (∀ W', W' = (((w3.setCell ⟨w.heap.size + 1 + 1, 0, none⟩ (.bool (t && !((B - A) == 0)))).setCell ⟨w.heap.size + 1 + 1, 1, none⟩ (.slice pt nt ct)).setCell ⟨w.heap.size + 1 + 1, 2, none⟩ (.slice p2 n2 k2)) → AddPost s a b t c b K w (.returned (.agg #[.bool (t && !((B - A) == 0)), .slice pt nt ct, .slice p2 n2 k2])) W') := hiD (by
          rintro W' rfl
          refine ⟨_, _, _, _, rfl, ⟨_, _, rfl, q1, q2, by intro h; simp at h; omega⟩, q3, hF.out.pos, ?_, hF.out.ltBm, hF.out.ltM, by have := hF.out.eqS; omega, hF.out.eqT⟩
          rw [ratv_drop]
          exact hF.out.sumB hst hlt'.out)
        refine bodyPost_ret (v := .agg #[.bool (t && !((B - A) == 0)), .slice pt nt ct, .slice p2 n2 k2]) (by simp [results, Tryz.results79, go_sem, l0, l1, l2]) rfl ?_
        exact hfin.out _ rfl
      · obtain ⟨z, hz, hz0⟩ : ∃ z : Int, cmp3 A B = z ∧ (0 : Int) ≤ z := ⟨_, rfl, by rcases cmp3_ge hlt with h | h <;> rw [h] <;> omega⟩
        rw [hz]
        have hlt' := hiD hlt
        clear hlt hz
        clear c0 c1 c2 c3 c4 c5
        have hM0 := hM
        have htw0 := htw
        clear hM htw
        have hM := hMd
        have htw := htwd
        clear hMd htwd
        obtain ⟨-, c0, c1, c2, c3, c4, c5⟩ := htw.out.all
        go_wp2_with fail
        have hop : Hid (∀ W', Below (W.drewN k5).heap.size (W.drewN k5) W' → Calls Tryz.prog 131 #[.slice p1 n1 k1, .slice p3 n3 k3] W' (NatPost (A - B) W')) := hiD fun W' h => minus_nat _ _ _ _ (2 * K) W' (by unfold most; omega) hF.out.ltA (by have := hlt'.out; omega) ((hA.out.drewN k5).below h) ((hB.out.drewN k5).below h)
        obtain ⟨-, c0, c1, c2, c3, c4, c5⟩ := htw.out.all
        go_region_held3 (fun w' => Two w.heap.size s (.slice p1 n1 k1) (.slice p2 n2 k2) t (.slice p3 n3 k3) (.slice p4 n4 k4) w w' ∧ w'.cell? ⟨w.heap.size, 0, none⟩ = some (.bool s) ∧ w'.cell? ⟨w.heap.size, 1, none⟩ = some (.slice p1 n1 k1) ∧ w'.cell? ⟨w.heap.size, 2, none⟩ = some (.slice p2 n2 k2) ∧ w'.cell? ⟨w.heap.size + 1, 0, none⟩ = some (.bool t) ∧ w'.cell? ⟨w.heap.size + 1, 1, none⟩ = some (.slice p3 n3 k3) ∧ w'.cell? ⟨w.heap.size + 1, 2, none⟩ = some (.slice p4 n4 k4))
          (first | exact Two.all (Two.drew htw.out) | exact Two.all htw.out | (go_split_ands; exact Two.all (Two.next (by assumption) hb1)) | (go_split_ands; exact Two.all (Two.next (by assumption) hb3)) | (go_split_ands; exact Two.all (Two.put3 (by assumption) (Nat.le_refl _) _ _ _ _ _ _ _)) | go_keep)
          (first | (go_at_call 131; go_split_ands; refine (hop.out _ (Below.drew (Below.refl _ _))).mono ?_; rintro e w1 ⟨vt, rfl, hvt, hb1⟩; obtain ⟨pt, nt, ct, rfl⟩ := hvt.slice) | (go_at_call 129; go_split_ands; refine (signed_nat _ _ _ _ _ _ hvt ((hM.out.below (Below.drew (Below.refl _ _))).below hb1)).mono ?_; rintro e w3 ⟨rfl, hb3⟩; have htw := Two.next (by assumption) hb3; obtain ⟨z0, z1, z2, l0, l1, l2, f0, f1, f2⟩ := Two.slots htw))
        go_wp2_with fail
        have q1 := htw.nat3 (Nat.le_refl _) (hvt.below hb3) (s && !((A - B) == 0)) pt p2 nt ct n2 k2
        have q2 := htw.nat3 (Nat.le_refl _) (((hM.out.below (Below.drew (Below.refl _ _))).below hb1).below hb3) (s && !((A - B) == 0)) pt p2 nt ct n2 k2
        have q3 := (htw.put3 (Nat.le_refl _) (s && !((A - B) == 0)) pt p2 nt ct n2 k2).below
        have hfin : Hid (∀ W', W' = (((w3.setCell ⟨w.heap.size + 1 + 1, 0, none⟩ (.bool (s && !((A - B) == 0)))).setCell ⟨w.heap.size + 1 + 1, 1, none⟩ (.slice pt nt ct)).setCell ⟨w.heap.size + 1 + 1, 2, none⟩ (.slice p2 n2 k2)) → AddPost s a b t c b K w (.returned (.agg #[.bool (s && !((A - B) == 0)), .slice pt nt ct, .slice p2 n2 k2])) W') := hiD (by
          rintro W' rfl
          refine ⟨_, _, _, _, rfl, ⟨_, _, rfl, q1, q2, by intro h; simp at h; omega⟩, q3, hF.out.pos, ?_, hF.out.ltAm, hF.out.ltM, by have := hF.out.eqS; omega, hF.out.eqT⟩
          rw [ratv_drop]
          exact hF.out.sumA hst hlt'.out)
        refine bodyPost_ret (v := .agg #[.bool (s && !((A - B) == 0)), .slice pt nt ct, .slice p2 n2 k2]) (by simp [results, Tryz.results79, go_sem, l0, l1, l2]) rfl ?_
        exact hfin.out _ rfl
  · have hz : (cmp3 b d != 0) = true := by
      rw [bne_iff_ne]; unfold cmp3
      split
      · omega
      · split <;> omega
    have hF : Hid (Common s a b t c d K (a * d) (c * b) (b * d)) := hiD (Common.made ha hb hc hd hb0 hd0 hbd)
    have hm1 : Hid (Calls Tryz.prog 128 #[(.slice p1 n1 k1), (.slice p4 n4 k4)] W (NatPost (a * d) W)) := hiD (times_nat _ _ _ _ K W (by omega) ha hd HUW.out HVW2.out)
    go_wp2_with fail
    refine hm1.out.mono ?_
    rintro e Wa ⟨va, rfl, hva, hba⟩
    have htwa := htw.out.next hba
    obtain ⟨-, c0, c1, c2, c3, c4, c5⟩ := htwa.all
    have hm2 : Hid (Calls Tryz.prog 128 #[(.slice p3 n3 k3), (.slice p2 n2 k2)] Wa (NatPost (c * b) Wa)) := hiD (times_nat _ _ _ _ K Wa (by omega) hc hb (HUW2.out.below hba) (HVW.out.below hba))
    have Htwa := hiD htwa
    clear htwa
    go_wp2_with fail
    refine hm2.out.mono ?_
    rintro e Wb ⟨vb, rfl, hvb, hbb⟩
    have htwb := Htwa.out.next hbb
    obtain ⟨-, c0, c1, c2, c3, c4, c5⟩ := htwb.all
    have hab := hba.trans (hbb.mono hba.size)
    have hm3 : Hid (Calls Tryz.prog 128 #[(.slice p2 n2 k2), (.slice p4 n4 k4)] Wb (NatPost (b * d) Wb)) := hiD (times_nat _ _ _ _ K Wb (by omega) hb hd (HVW.out.below hab) (HVW2.out.below hab))
    have Htwb := hiD htwb
    clear htwb
    go_wp2_with fail
    refine hm3.out.mono ?_
    rintro e Wc ⟨vc, rfl, hvc, hbc⟩
    have htw : Hid (Two w.heap.size s (.slice p1 n1 k1) (.slice p2 n2 k2) t (.slice p3 n3 k3) (.slice p4 n4 k4) w Wc) := hiD (Htwb.out.next hbc)
    obtain ⟨-, c0, c1, c2, c3, c4, c5⟩ := htw.out.all
    obtain ⟨A, hAq⟩ : ∃ A, A = a * d := ⟨_, rfl⟩
    obtain ⟨B, hBq⟩ : ∃ B, B = c * b := ⟨_, rfl⟩
    obtain ⟨M, hMq⟩ : ∃ M, M = b * d := ⟨_, rfl⟩
    rw [← hAq, ← hBq, ← hMq] at hF
    have hA : Hid (NatAt Wc va A) := hiD (by rw [hAq]; exact (hva.below hbb).below hbc)
    have hB : Hid (NatAt Wc vb B) := hiD (by rw [hBq]; exact hvb.below hbc)
    have hM : Hid (NatAt Wc vc M) := hiD (by rw [hMq]; exact hvc)
    clear hAq hBq hMq hva hvb hvc hz
    obtain ⟨pa, na, ca, rfl⟩ := hA.out.slice
    obtain ⟨pb, nb, cb, rfl⟩ := hB.out.slice
    obtain ⟨pm, nm, cm, rfl⟩ := hM.out.slice
    by_cases hst : s = t
    · subst hst
      have hst' : (s == s) = true := by simp
      go_wp2_with fail
      have hop : Hid (∀ W', Below Wc.heap.size Wc W' → Calls Tryz.prog 130 #[.slice pa na ca, .slice pb nb cb] W' (NatPost (A + B) W')) := hiD fun W' h => plus_nat _ _ _ _ (2 * K) W' (by unfold most; omega) hF.out.ltA hF.out.ltB (hA.out.below h) (hB.out.below h)
      obtain ⟨-, c0, c1, c2, c3, c4, c5⟩ := htw.out.all
      go_region_held3 (fun w' => Two w.heap.size s (.slice p1 n1 k1) (.slice p2 n2 k2) s (.slice p3 n3 k3) (.slice p4 n4 k4) w w' ∧ w'.cell? ⟨w.heap.size, 0, none⟩ = some (.bool s) ∧ w'.cell? ⟨w.heap.size, 1, none⟩ = some (.slice p1 n1 k1) ∧ w'.cell? ⟨w.heap.size, 2, none⟩ = some (.slice p2 n2 k2) ∧ w'.cell? ⟨w.heap.size + 1, 0, none⟩ = some (.bool s) ∧ w'.cell? ⟨w.heap.size + 1, 1, none⟩ = some (.slice p3 n3 k3) ∧ w'.cell? ⟨w.heap.size + 1, 2, none⟩ = some (.slice p4 n4 k4))
        (first | exact Two.all (Two.drew htw.out) | exact Two.all htw.out | (go_split_ands; exact Two.all (Two.next (by assumption) hb1)) | (go_split_ands; exact Two.all (Two.next (by assumption) hb3)) | (go_split_ands; exact Two.all (Two.put3 (by assumption) (Nat.le_refl _) _ _ _ _ _ _ _)) | go_keep)
        (first | (go_at_call 130; go_split_ands; refine (hop.out _ (Below.drew (Below.refl _ _))).mono ?_; rintro e w1 ⟨vt, rfl, hvt, hb1⟩; obtain ⟨pt, nt, ct, rfl⟩ := hvt.slice) | (go_at_call 129; go_split_ands; refine (signed_nat _ _ _ _ _ _ hvt ((hM.out.below (Below.drew (Below.refl _ _))).below hb1)).mono ?_; rintro e w3 ⟨rfl, hb3⟩; have htw := Two.next (by assumption) hb3; obtain ⟨z0, z1, z2, l0, l1, l2, f0, f1, f2⟩ := Two.slots htw))
      go_wp2_with fail
      have q1 := htw.nat3 (Nat.le_refl _) (hvt.below hb3) (s && !((A + B) == 0)) pt pm nt ct nm cm
      have q2 := htw.nat3 (Nat.le_refl _) (((hM.out.below (Below.drew (Below.refl _ _))).below hb1).below hb3) (s && !((A + B) == 0)) pt pm nt ct nm cm
      have q3 := (htw.put3 (Nat.le_refl _) (s && !((A + B) == 0)) pt pm nt ct nm cm).below
      have hfin : Hid (∀ W', W' = (((w3.setCell ⟨w.heap.size + 1 + 1, 0, none⟩ (.bool (s && !((A + B) == 0)))).setCell ⟨w.heap.size + 1 + 1, 1, none⟩ (.slice pt nt ct)).setCell ⟨w.heap.size + 1 + 1, 2, none⟩ (.slice pm nm cm)) → AddPost s a b s c d K w (.returned (.agg #[.bool (s && !((A + B) == 0)), .slice pt nt ct, .slice pm nm cm])) W') := hiD (by
        rintro W' rfl
        refine ⟨_, _, _, _, rfl, ⟨_, _, rfl, q1, q2, by intro h; simp at h; omega⟩, q3, hF.out.pos, ?_, hF.out.ltP, hF.out.ltM, Nat.le_of_eq hF.out.eqS, hF.out.eqT⟩
        rw [ratv_drop]
        exact hF.out.sumP rfl)
      refine bodyPost_ret (v := .agg #[.bool (s && !((A + B) == 0)), .slice pt nt ct, .slice pm nm cm]) (by simp [results, Tryz.results79, go_sem, l0, l1, l2]) rfl ?_
      exact hfin.out _ rfl
    · have hst' : (s == t) = false := by simpa using hst
      have hcm : Hid (Calls Tryz.prog 127 #[.slice pa na ca, .slice pb nb cb] Wc (CmpPost A B Wc)) := hiD (compare_nat _ _ _ _ (2 * K) _ (by unfold most; omega) hF.out.ltA hF.out.ltB hA.out hB.out)
      go_wp2_with fail
      refine hcm.out.mono ?_
      rintro e w5 ⟨rfl, k5, rfl⟩
      have htwd : Hid (Two w.heap.size s (.slice p1 n1 k1) (.slice p2 n2 k2) t (.slice p3 n3 k3) (.slice p4 n4 k4) w (Wc.drewN k5)) := hiD (htw.out.next (below_drewN _ _ _))
      have hMd : Hid (NatAt (Wc.drewN k5) (.slice pm nm cm) M) := hiD (hM.out.drewN _)
      by_cases hlt : A < B
      · have hz : cmp3 A B = -1 := cmp3_lt hlt
        rw [hz]
        have hlt' := hiD hlt
        clear hlt hz
        clear c0 c1 c2 c3 c4 c5
        have hM0 := hM
        have htw0 := htw
        clear hM htw
        have hM := hMd
        have htw := htwd
        clear hMd htwd
        obtain ⟨-, c0, c1, c2, c3, c4, c5⟩ := htw.out.all
        go_wp2_with fail
        have hop : Hid (∀ W', Below (Wc.drewN k5).heap.size (Wc.drewN k5) W' → Calls Tryz.prog 131 #[.slice pb nb cb, .slice pa na ca] W' (NatPost (B - A) W')) := hiD fun W' h => minus_nat _ _ _ _ (2 * K) W' (by unfold most; omega) hF.out.ltB (by have := hlt'.out; omega) ((hB.out.drewN k5).below h) ((hA.out.drewN k5).below h)
        obtain ⟨-, c0, c1, c2, c3, c4, c5⟩ := htw.out.all
        go_region_held3 (fun w' => Two w.heap.size s (.slice p1 n1 k1) (.slice p2 n2 k2) t (.slice p3 n3 k3) (.slice p4 n4 k4) w w' ∧ w'.cell? ⟨w.heap.size, 0, none⟩ = some (.bool s) ∧ w'.cell? ⟨w.heap.size, 1, none⟩ = some (.slice p1 n1 k1) ∧ w'.cell? ⟨w.heap.size, 2, none⟩ = some (.slice p2 n2 k2) ∧ w'.cell? ⟨w.heap.size + 1, 0, none⟩ = some (.bool t) ∧ w'.cell? ⟨w.heap.size + 1, 1, none⟩ = some (.slice p3 n3 k3) ∧ w'.cell? ⟨w.heap.size + 1, 2, none⟩ = some (.slice p4 n4 k4))
          (first | exact Two.all (Two.drew htw.out) | exact Two.all htw.out | (go_split_ands; exact Two.all (Two.next (by assumption) hb1)) | (go_split_ands; exact Two.all (Two.next (by assumption) hb3)) | (go_split_ands; exact Two.all (Two.put3 (by assumption) (Nat.le_refl _) _ _ _ _ _ _ _)) | go_keep)
          (first | (go_at_call 131; go_split_ands; refine (hop.out _ (Below.drew (Below.refl _ _))).mono ?_; rintro e w1 ⟨vt, rfl, hvt, hb1⟩; obtain ⟨pt, nt, ct, rfl⟩ := hvt.slice) | (go_at_call 129; go_split_ands; refine (signed_nat _ _ _ _ _ _ hvt ((hM.out.below (Below.drew (Below.refl _ _))).below hb1)).mono ?_; rintro e w3 ⟨rfl, hb3⟩; have htw := Two.next (by assumption) hb3; obtain ⟨z0, z1, z2, l0, l1, l2, f0, f1, f2⟩ := Two.slots htw))
        go_wp2_with fail
        have q1 := htw.nat3 (Nat.le_refl _) (hvt.below hb3) (t && !((B - A) == 0)) pt pm nt ct nm cm
        have q2 := htw.nat3 (Nat.le_refl _) (((hM.out.below (Below.drew (Below.refl _ _))).below hb1).below hb3) (t && !((B - A) == 0)) pt pm nt ct nm cm
        have q3 := (htw.put3 (Nat.le_refl _) (t && !((B - A) == 0)) pt pm nt ct nm cm).below
        have hfin : Hid (∀ W', W' = (((w3.setCell ⟨w.heap.size + 1 + 1, 0, none⟩ (.bool (t && !((B - A) == 0)))).setCell ⟨w.heap.size + 1 + 1, 1, none⟩ (.slice pt nt ct)).setCell ⟨w.heap.size + 1 + 1, 2, none⟩ (.slice pm nm cm)) → AddPost s a b t c d K w (.returned (.agg #[.bool (t && !((B - A) == 0)), .slice pt nt ct, .slice pm nm cm])) W') := hiD (by
          rintro W' rfl
          refine ⟨_, _, _, _, rfl, ⟨_, _, rfl, q1, q2, by intro h; simp at h; omega⟩, q3, hF.out.pos, ?_, hF.out.ltBm, hF.out.ltM, by have := hF.out.eqS; omega, hF.out.eqT⟩
          rw [ratv_drop]
          exact hF.out.sumB hst hlt'.out)
        refine bodyPost_ret (v := .agg #[.bool (t && !((B - A) == 0)), .slice pt nt ct, .slice pm nm cm]) (by simp [results, Tryz.results79, go_sem, l0, l1, l2]) rfl ?_
        exact hfin.out _ rfl
      · obtain ⟨z, hz, hz0⟩ : ∃ z : Int, cmp3 A B = z ∧ (0 : Int) ≤ z := ⟨_, rfl, by rcases cmp3_ge hlt with h | h <;> rw [h] <;> omega⟩
        rw [hz]
        have hlt' := hiD hlt
        clear hlt hz
        clear c0 c1 c2 c3 c4 c5
        have hM0 := hM
        have htw0 := htw
        clear hM htw
        have hM := hMd
        have htw := htwd
        clear hMd htwd
        obtain ⟨-, c0, c1, c2, c3, c4, c5⟩ := htw.out.all
        go_wp2_with fail
        have hop : Hid (∀ W', Below (Wc.drewN k5).heap.size (Wc.drewN k5) W' → Calls Tryz.prog 131 #[.slice pa na ca, .slice pb nb cb] W' (NatPost (A - B) W')) := hiD fun W' h => minus_nat _ _ _ _ (2 * K) W' (by unfold most; omega) hF.out.ltA (by have := hlt'.out; omega) ((hA.out.drewN k5).below h) ((hB.out.drewN k5).below h)
        obtain ⟨-, c0, c1, c2, c3, c4, c5⟩ := htw.out.all
        go_region_held3 (fun w' => Two w.heap.size s (.slice p1 n1 k1) (.slice p2 n2 k2) t (.slice p3 n3 k3) (.slice p4 n4 k4) w w' ∧ w'.cell? ⟨w.heap.size, 0, none⟩ = some (.bool s) ∧ w'.cell? ⟨w.heap.size, 1, none⟩ = some (.slice p1 n1 k1) ∧ w'.cell? ⟨w.heap.size, 2, none⟩ = some (.slice p2 n2 k2) ∧ w'.cell? ⟨w.heap.size + 1, 0, none⟩ = some (.bool t) ∧ w'.cell? ⟨w.heap.size + 1, 1, none⟩ = some (.slice p3 n3 k3) ∧ w'.cell? ⟨w.heap.size + 1, 2, none⟩ = some (.slice p4 n4 k4))
          (first | exact Two.all (Two.drew htw.out) | exact Two.all htw.out | (go_split_ands; exact Two.all (Two.next (by assumption) hb1)) | (go_split_ands; exact Two.all (Two.next (by assumption) hb3)) | (go_split_ands; exact Two.all (Two.put3 (by assumption) (Nat.le_refl _) _ _ _ _ _ _ _)) | go_keep)
          (first | (go_at_call 131; go_split_ands; refine (hop.out _ (Below.drew (Below.refl _ _))).mono ?_; rintro e w1 ⟨vt, rfl, hvt, hb1⟩; obtain ⟨pt, nt, ct, rfl⟩ := hvt.slice) | (go_at_call 129; go_split_ands; refine (signed_nat _ _ _ _ _ _ hvt ((hM.out.below (Below.drew (Below.refl _ _))).below hb1)).mono ?_; rintro e w3 ⟨rfl, hb3⟩; have htw := Two.next (by assumption) hb3; obtain ⟨z0, z1, z2, l0, l1, l2, f0, f1, f2⟩ := Two.slots htw))
        go_wp2_with fail
        have q1 := htw.nat3 (Nat.le_refl _) (hvt.below hb3) (s && !((A - B) == 0)) pt pm nt ct nm cm
        have q2 := htw.nat3 (Nat.le_refl _) (((hM.out.below (Below.drew (Below.refl _ _))).below hb1).below hb3) (s && !((A - B) == 0)) pt pm nt ct nm cm
        have q3 := (htw.put3 (Nat.le_refl _) (s && !((A - B) == 0)) pt pm nt ct nm cm).below
        have hfin : Hid (∀ W', W' = (((w3.setCell ⟨w.heap.size + 1 + 1, 0, none⟩ (.bool (s && !((A - B) == 0)))).setCell ⟨w.heap.size + 1 + 1, 1, none⟩ (.slice pt nt ct)).setCell ⟨w.heap.size + 1 + 1, 2, none⟩ (.slice pm nm cm)) → AddPost s a b t c d K w (.returned (.agg #[.bool (s && !((A - B) == 0)), .slice pt nt ct, .slice pm nm cm])) W') := hiD (by
          rintro W' rfl
          refine ⟨_, _, _, _, rfl, ⟨_, _, rfl, q1, q2, by intro h; simp at h; omega⟩, q3, hF.out.pos, ?_, hF.out.ltAm, hF.out.ltM, by have := hF.out.eqS; omega, hF.out.eqT⟩
          rw [ratv_drop]
          exact hF.out.sumA hst hlt'.out)
        refine bodyPost_ret (v := .agg #[.bool (s && !((A - B) == 0)), .slice pt nt ct, .slice pm nm cm]) (by simp [results, Tryz.results79, go_sem, l0, l1, l2]) rfl ?_
        exact hfin.out _ rfl
structure One (B : Nat) (s : Bool) (u1 v1 : Value) (w0 W : World) : Prop where
  size : B + 2 ≤ W.heap.size
  below : Below w0.heap.size w0 W
  x : W.heap[B]? = some (.cells #[.bool s, u1, v1] 66 (0, 0))
  z : ∃ z0 z1 z2, W.heap[B + 1]? = some (.cells #[z0, z1, z2] 66 (0, 0)) ∧ NoInt z0 ∧ NoInt z1 ∧ NoInt z2
section
variable {B : Nat} {s : Bool} {u1 v1 : Value} {w0 W W' : World}
theorem One.next (h : One B s u1 v1 w0 W) (hb : Below W.heap.size W W') : One B s u1 v1 w0 W' := by
  have hs := h.size
  exact ⟨Nat.le_trans hs hb.size, h.below.trans (hb.mono h.below.size), (hb.block _ (by omega)).trans h.x, h.z.elim fun z0 k => k.elim fun z1 k => k.elim fun z2 k => ⟨z0, z1, z2, (hb.block _ (by omega)).trans k.1, k.2⟩⟩
theorem One.start (w : World) (s : Bool) (u1 v1 : Value) : One w.heap.size s u1 v1 w ((w.alloc (.cells #[.bool s, u1, v1] 66)).alloc (.cells #[.bool false, .slice none 0 0, .slice none 0 0] 66)) := by
  have hb : ∀ (W : World) (o : Obj), Below W.heap.size W (W.alloc o) := fun W o => (Below.refl _ _).alloc (Nat.le_refl _) o
  refine ⟨by simp, (hb _ _).trans ((hb _ _).mono (by simp)), ?_, ⟨.bool false, .slice none 0 0, .slice none 0 0, ?_, noInt_bool _, noInt_slice _ _ _, noInt_slice _ _ _⟩⟩
  · rw [heap_old _ _ _ (by simp), heap_new]
  · rw [show w.heap.size + 1 = (w.alloc (.cells #[.bool s, u1, v1] 66)).heap.size from by simp, heap_new]
theorem One.cells (h : One B s u1 v1 w0 W) : W.cell? ⟨B, 0, none⟩ = some (.bool s) ∧ W.cell? ⟨B, 1, none⟩ = some u1 ∧ W.cell? ⟨B, 2, none⟩ = some v1 := ⟨ceh h.x 0, ceh h.x 1, ceh h.x 2⟩
theorem One.slots (h : One B s u1 v1 w0 W) : ∃ z0 z1 z2, W.cell? ⟨B + 1, 0, none⟩ = some z0 ∧ W.cell? ⟨B + 1, 1, none⟩ = some z1 ∧ W.cell? ⟨B + 1, 2, none⟩ = some z2 ∧
    W.frozen? ⟨B + 1, 0, none⟩ = false ∧ W.frozen? ⟨B + 1, 1, none⟩ = false ∧ W.frozen? ⟨B + 1, 2, none⟩ = false := by
  obtain ⟨z0, z1, z2, hz, -⟩ := h.z
  exact ⟨z0, z1, z2, ceh hz 0, ceh hz 1, ceh hz 2, foh hz 0, foh hz 1, foh hz 2⟩
theorem One.put1 (h : One B s u1 v1 w0 W) (hB : w0.heap.size ≤ B) (k : Nat) (hk : k < 3) (a : Value) (ha : NoInt a) : One B s u1 v1 w0 (W.setCell ⟨B + 1, k, none⟩ a) := by
  obtain ⟨z0, z1, z2, hz, n0, n1, n2⟩ := h.z
  refine ⟨by rw [World.size_setCell]; exact h.size, h.below.setCell (by simp; omega) _, (Below.heap_setCell _ _ _ _ (by simp)).trans h.x, ?_⟩
  have h1 := heap_set (B + 1) k _ 66 a hz
  match k, hk with
  | 0, _ => exact ⟨_, _, _, h1, ha, n1, n2⟩
  | 1, _ => exact ⟨_, _, _, h1, n0, ha, n2⟩
  | 2, _ => exact ⟨_, _, _, h1, n0, n1, ha⟩
theorem One.put3 (h : One B s u1 v1 w0 W) (hB : w0.heap.size ≤ B) (a : Bool) (p q : Option Addr) (n c m d : Nat) : One B s u1 v1 w0 (((W.setCell ⟨B + 1, 0, none⟩ (.bool a)).setCell ⟨B + 1, 1, none⟩ (.slice p n c)).setCell ⟨B + 1, 2, none⟩ (.slice q m d)) :=
  ((h.put1 hB 0 (by omega) _ (noInt_bool _)).put1 hB 1 (by omega) _ (noInt_slice _ _ _)).put1 hB 2 (by omega) _ (noInt_slice _ _ _)
theorem nat_set {g : Nat} {z0 z1 z2 : Value} (hz : W.heap[g]? = some (.cells #[z0, z1, z2] 66 (0, 0))) (n0 : NoInt z0) (n1 : NoInt z1) (n2 : NoInt z2) {v : Value} {x : Nat} (hx : NatAt W v x) (k : Nat) (a : Value) : NatAt (W.setCell ⟨g, k, none⟩ a) v x := by
  obtain ⟨p, n, c, l, h1, h2, hr, h4⟩ := hx
  refine ⟨p, n, c, l, h1, h2, ⟨hr.len, ?_⟩, h4⟩
  rcases hr.cell with h0 | ⟨b, off, hp, hlt, hc⟩
  · exact .inl h0
  · by_cases hn : n = 0
    · exact .inl hn
    refine .inr ⟨b, off, hp, by rw [World.size_setCell]; exact hlt, fun j hj => ?_⟩
    have hne : b ≠ g := by
      rintro rfl
      have h1 := hc 0 (by omega)
      rw [ceh hz] at h1
      match hoff : off + 0, h1 with
      | 0, h1 => simp at h1; exact n0 _ _ h1
      | 1, h1 => simp at h1; exact n1 _ _ h1
      | 2, h1 => simp at h1; exact n2 _ _ h1
      | k + 3, h1 => simp at h1
    rw [← hc j hj]
    exact World.cell?_of_block (w := W) (Below.heap_setCell _ _ _ _ hne)
theorem One.nat1 (h : One B s u1 v1 w0 W) {v : Value} {x : Nat} (hx : NatAt W v x) (k : Nat) (a : Value) : NatAt (W.setCell ⟨B + 1, k, none⟩ a) v x := by
  obtain ⟨z0, z1, z2, hz, n0, n1, n2⟩ := h.z
  exact nat_set hz n0 n1 n2 hx k a
theorem One.nat3 (h : One B s u1 v1 w0 W) (hB : w0.heap.size ≤ B) {v : Value} {x : Nat} (hx : NatAt W v x) (a : Bool) (p q : Option Addr) (n c m d : Nat) : NatAt (((W.setCell ⟨B + 1, 0, none⟩ (.bool a)).setCell ⟨B + 1, 1, none⟩ (.slice p n c)).setCell ⟨B + 1, 2, none⟩ (.slice q m d)) v x :=
  ((h.put1 hB 0 (by omega) _ (noInt_bool _)).put1 hB 1 (by omega) _ (noInt_slice _ _ _)).nat1 ((h.put1 hB 0 (by omega) _ (noInt_bool _)).nat1 (h.nat1 hx _ _) _ _) _ _
end
theorem negated_any (x : Value) (s : Bool) (a b : Nat) (w : World) (hx : RatAt w x s a b) : Calls Tryz.prog 125 #[x] w (RatPost (!s) a b w) := by
  obtain ⟨u1, v1, rfl, hu1, hv1, hs1⟩ := hx
  obtain ⟨p1, n1, k1, rfl⟩ := hu1.slice
  obtain ⟨p2, n2, k2, rfl⟩ := hv1.slice
  have hone := One.start w s (.slice p1 n1 k1) (.slice p2 n2 k2)
  obtain ⟨c0, c1, c2⟩ := hone.cells
  have Hone := hiD hone
  have HU := hiD hu1
  have HV := hiD hv1
  clear hone hu1 hv1 hs1
  go_enter Tryz.func125, Tryz.ntmps125
  go_wp2_with fail
  refine (signed_nat _ _ _ a b _ (HU.out.below Hone.out.below) (HV.out.below Hone.out.below)).mono ?_
  rintro e w3 ⟨rfl, hb3⟩
  have htw := Hone.out.next hb3
  obtain ⟨z0, z1, z2, l0, l1, l2, f0, f1, f2⟩ := htw.slots
  have Htw := hiD htw
  clear htw
  go_wp2_with fail
  have q1 := Htw.out.nat3 (Nat.le_refl _) ((HU.out.below Hone.out.below).below hb3) (!s && !(a == 0)) p1 p2 n1 k1 n2 k2
  have q2 := Htw.out.nat3 (Nat.le_refl _) ((HV.out.below Hone.out.below).below hb3) (!s && !(a == 0)) p1 p2 n1 k1 n2 k2
  have q3 := (Htw.out.put3 (Nat.le_refl _) (!s && !(a == 0)) p1 p2 n1 k1 n2 k2).below
  refine bodyPost_ret (v := .agg #[.bool (!s && !(a == 0)), .slice p1 n1 k1, .slice p2 n2 k2]) (by simp [results, Tryz.results125, go_sem, l0, l1, l2]) rfl ?_
  exact ⟨_, rfl, ⟨_, _, rfl, q1, q2, by intro h; simp at h; omega⟩, q3⟩
def SubPost (s : Bool) (a b : Nat) (t : Bool) (c d K : Nat) (w : World) (e : Ending) (w' : World) : Prop :=
  ∃ x r n m, e = .returned x ∧ RatAt w' x r n m ∧ Below w.heap.size w w' ∧ 0 < m ∧ ratv r n m = ratv s a b - ratv t c d ∧ n < B64 ^ (2 * K + 1) ∧ m < B64 ^ (2 * K + 1)
theorem sub_any (x y : Value) (s t : Bool) (a b c d K : Nat) (w : World) (hK : 2 * K + 1 ≤ 1073741824) (ha : a < B64 ^ K) (hb : b < B64 ^ K) (hc : c < B64 ^ K) (hd : d < B64 ^ K) (hb0 : 0 < b) (hd0 : 0 < d) (hx : RatAt w x s a b) (hy : RatAt w y t c d) :
    Calls Tryz.prog 75 #[x, y] w (SubPost s a b t c d K w) := by
  have hx0 := hiD hx
  have hy0 := hiD hy
  obtain ⟨u1, v1, rfl, hu1, hv1, hs1⟩ := hx
  obtain ⟨u2, v2, rfl, hu2, hv2, hs2⟩ := hy
  obtain ⟨p1, n1, k1, rfl⟩ := hu1.slice
  obtain ⟨p2, n2, k2, rfl⟩ := hv1.slice
  obtain ⟨p3, n3, k3, rfl⟩ := hu2.slice
  obtain ⟨p4, n4, k4, rfl⟩ := hv2.slice
  have htwo := Two.start w s (.slice p1 n1 k1) (.slice p2 n2 k2) t (.slice p3 n3 k3) (.slice p4 n4 k4)
  have Htwo := hiD htwo
  obtain ⟨-, c0, c1, c2, c3, c4, c5⟩ := htwo.all
  have hneg : Hid (∀ W, Below w.heap.size w W → Calls Tryz.prog 125 #[.agg #[.bool t, .slice p3 n3 k3, .slice p4 n4 k4]] W (RatPost (!t) c d W)) := hiD fun W h => negated_any _ t c d W (hy0.out.below h)
  have hadd : Hid (∀ W z, Below w.heap.size w W → RatAt W z ((!t) && !(c == 0)) c d → Calls Tryz.prog 79 #[.agg #[.bool s, .slice p1 n1 k1, .slice p2 n2 k2], z] W (AddPost s a b ((!t) && !(c == 0)) c d K W)) :=
    hiD fun W z h hz => add_any _ _ s _ a b c d K W hK ha hb hc hd hb0 hd0 (hx0.out.below h) hz
  clear hu1 hv1 hu2 hv2 hs1 hs2 htwo
  go_enter Tryz.func75, Tryz.ntmps75
  go_wp2_with fail
  go_region_held3 (fun w' => Two w.heap.size s (.slice p1 n1 k1) (.slice p2 n2 k2) t (.slice p3 n3 k3) (.slice p4 n4 k4) w w' ∧ w'.cell? ⟨w.heap.size, 0, none⟩ = some (.bool s) ∧ w'.cell? ⟨w.heap.size, 1, none⟩ = some (.slice p1 n1 k1) ∧ w'.cell? ⟨w.heap.size, 2, none⟩ = some (.slice p2 n2 k2) ∧ w'.cell? ⟨w.heap.size + 1, 0, none⟩ = some (.bool t) ∧ w'.cell? ⟨w.heap.size + 1, 1, none⟩ = some (.slice p3 n3 k3) ∧ w'.cell? ⟨w.heap.size + 1, 2, none⟩ = some (.slice p4 n4 k4))
    (first | exact Two.all (Two.drew Htwo.out) | exact Two.all Htwo.out | (go_split_ands; exact Two.all (Two.next (by assumption) hb1)) | (go_split_ands; exact Two.all (Two.next (by assumption) hb3)) | (go_split_ands; exact Two.all (Two.put3 (by assumption) (Nat.le_refl _) _ _ _ _ _ _ _)) | go_keep)
    (first | (go_at_call 125; go_split_ands; refine (hneg.out _ (Two.below (by assumption))).mono ?_; rintro e w1 ⟨xn, rfl, hxn, hb1⟩) | (go_at_call 79; go_split_ands; refine (hadd.out _ _ (Two.below (by assumption)) hxn).mono ?_; rintro e w3 ⟨xr, r, nn, mm, rfl, hxr, hb3, hpos, hval, hn1, hm1, -⟩; have htw := Two.next (by assumption) hb3; obtain ⟨ur, vr, rfl, hur, hvr, hsr⟩ := hxr; obtain ⟨pr, nr, cr, rfl⟩ := hur.slice; obtain ⟨pv, nv, cv, rfl⟩ := hvr.slice; obtain ⟨z0, z1, z2, l0, l1, l2, f0, f1, f2⟩ := Two.slots htw))
  go_wp2_with fail
  have q1 := htw.nat3 (Nat.le_refl _) hur r pr pv nr cr nv cv
  have q2 := htw.nat3 (Nat.le_refl _) hvr r pr pv nr cr nv cv
  have q3 := (htw.put3 (Nat.le_refl _) r pr pv nr cr nv cv).below
  refine bodyPost_ret (v := .agg #[.bool r, .slice pr nr cr, .slice pv nv cv]) (by simp [results, Tryz.results75, go_sem, l0, l1, l2]) rfl ?_
  refine ⟨_, r, nn, mm, rfl, ⟨_, _, rfl, q1, q2, hsr⟩, q3, hpos, ?_, hn1, hm1⟩
  rw [hval, ratv_drop, ratv_neg, Rat.sub_eq_add_neg]
def sgn (s : Bool) (a : Nat) : Int := if s then -1 else if a = 0 then 0 else 1
theorem sign_any (x : Value) (s : Bool) (a b : Nat) (w : World) (hx : RatAt w x s a b) : Calls Tryz.prog 76 #[x] w fun e w' => e = .returned (.int .i64 (sgn s a)) ∧ Below w.heap.size w w' := by
  obtain ⟨u1, v1, rfl, hu1, hv1, hs1⟩ := hx
  obtain ⟨p1, n1, k1, rfl⟩ := hu1.slice
  have hz := natAt_zero_iff hu1
  clear hu1 hv1 hs1
  cases s with
  | true =>
    have h : sgn true a = -1 := rfl
    rw [h]
    go_enter Tryz.func76, Tryz.ntmps76
    go_wp2_with fail
    go_ret
    exact ⟨rfl, (Below.refl _ _).alloc (Nat.le_refl _) _⟩
  | false =>
    by_cases h0 : a = 0
    · have hn : n1 = 0 := hz.2 h0
      subst hn
      have h : sgn false a = 0 := by simp [sgn, h0]
      rw [h]
      clear hz h0 h
      go_enter Tryz.func76, Tryz.ntmps76
      go_wp2_with fail
      refine (isZero_any _ _ _ _).mono ?_
      rintro e w1 ⟨rfl, rfl⟩
      go_wp2_with fail
      go_ret
      exact ⟨rfl, (Below.refl _ _).alloc (Nat.le_refl _) _⟩
    · have hn : ((n1 : Int) == 0) = false := by rw [beq_eq_false_iff_ne]; omega
      have h : sgn false a = 1 := by simp [sgn, h0]
      rw [h]
      clear hz h0 h
      go_enter Tryz.func76, Tryz.ntmps76
      go_wp2_with fail
      refine (isZero_any _ _ _ _).mono ?_
      rintro e w1 ⟨rfl, rfl⟩
      rw [hn]
      go_wp2_with fail
      go_ret
      exact ⟨rfl, (Below.refl _ _).alloc (Nat.le_refl _) _⟩
def Own (base : Nat) (W : World) (v : Value) (og : Option Nat) : Prop :=
  (v = .slice none 0 0 ∧ og = none) ∨ ∃ g k c L, og = some g ∧ v = .slice (some ⟨g, 0, none⟩) k c ∧ base ≤ g ∧ Row W g 76 L ∧ L.length = c ∧ k ≤ c ∧ c ≤ most
theorem pow_lt {x K : Nat} (h : x < B64 ^ K) (i : Nat) : x ^ i < B64 ^ (K * i + 1) := by
  have h1 : x ^ i ≤ (B64 ^ K) ^ i := Nat.pow_le_pow_left (Nat.le_of_lt h) i
  rw [← Nat.pow_mul] at h1
  have h2 : B64 ^ (K * i) < B64 ^ (K * i + 1) := Nat.pow_lt_pow_right (by rw [B64_eq]; omega) (by omega)
  omega
theorem own_row_nat {W : World} {g k c : Nat} {L : List Nat} (hr : Row W g 76 L) (hl : L.length = c) (hk : k ≤ c) (hc : Canon B64 (L.take k)) : NatAt W (.slice (some ⟨g, 0, none⟩) k c) (val B64 (L.take k)) := by
  refine ⟨_, k, c, L.take k, rfl, hk, ?_, hc, rfl⟩
  have := hr.rd 0 k (by omega)
  simpa using this
theorem own_keep {base : Nat} {W W' : World} {v : Value} {og : Option Nat} {a : Nat} (h : Own base W v og) (ha : NatAt W v a) (hsz : W.heap.size ≤ W'.heap.size) (hk : ∀ g, og = some g → W'.heap[g]? = W.heap[g]?) : Own base W' v og ∧ NatAt W' v a := by
  obtain ⟨p, n, c, l, hv, h2, h3, h4⟩ := ha
  rcases h with ⟨h1, h5⟩ | ⟨g, k, c', L, h5, h6, h7, h8, h9⟩
  · refine ⟨.inl ⟨h1, h5⟩, p, n, c, l, hv, h2, ?_, h4⟩
    rw [h1] at hv; cases hv
    exact ⟨h3.len, .inl rfl⟩
  · have hg := hk g h5
    refine ⟨.inr ⟨g, k, c', L, h5, h6, h7, hg.trans h8, h9⟩, p, n, c, l, hv, h2, ?_, h4⟩
    rw [h6] at hv; cases hv
    refine ⟨h3.len, ?_⟩
    rcases h3.cell with h0 | ⟨b, off, hp, hlt, hc⟩
    · exact .inl h0
    · cases hp
      exact .inr ⟨_, _, rfl, Nat.lt_of_lt_of_le hlt hsz, fun j hj => (World.cell?_of_block (w := W) hg).trans (hc j hj)⟩
theorem own_block {base : Nat} {W : World} {p : Option Addr} {n c : Nat} {og : Option Nat} (h : Own base W (.slice p n c) og) : ∀ b o, p = some ⟨b, o, none⟩ → og = some b := by
  intro b o hp
  rcases h with ⟨h1, h5⟩ | ⟨g, k, c', L, h5, h6, h7, h8, h9⟩
  · cases h1; cases hp
  · cases h6; cases hp; exact h5
theorem mul_round (w wr : World) (vs vz : Value) (gs gz : Option Nat) (p : Option Addr) (n c : Nat) (X : List Nat) (a : Nat) (hb : Below w.heap.size w wr) (hs : Own w.heap.size wr vs gs) (hz : Own w.heap.size wr vz gz) (hne : gs = none ∨ gs ≠ gz)
    (hnz : gs = none → a ≠ 0 ∨ n ≠ 0) (hza : NatAt wr vz a) (hx : Rd w p n X) (cX : Canon B64 X) (k : Nat) (hak : a < B64 ^ k) (hsz : n + k ≤ most) :
    Calls Tryz.prog 166 #[vs, vz, .slice p n c] wr fun e w' => ∃ v g, e = .returned v ∧ Own w.heap.size w' v g ∧ Own w.heap.size w' vz gz ∧ (gz = none ∨ gz ≠ g) ∧ NatAt w' v (a * val B64 X) ∧ NatAt w' vz a ∧ Below w.heap.size w w' ∧ g ≠ none := by
  obtain ⟨pz, nz, cz, lz, rfl, hzc, hrz, cz', hvz⟩ := id hza
  have hnk : nz ≤ k := pow_most cz' hvz hak hrz
  have hxr : Rd wr p n X := hx.below hb
  have hxb : ∀ g, w.heap.size ≤ g → n = 0 ∨ ∀ b o, p = some ⟨b, o, none⟩ → b ≠ g := by
    intro g hg
    rcases hx.cell with h | ⟨b, off, h1, h2, _⟩
    · exact .inl h
    · refine .inr fun b' o' h => ?_
      rw [h1] at h; cases h; omega
  have hfin : ∀ g cz2 e w', w.heap.size ≤ g → cz2 ≤ most → (gz = none ∨ gz ≠ some g) → MulPost (val B64 lz * val B64 X) g cz2 w wr e w' → ∃ v g, e = .returned v ∧ Own w.heap.size w' v g ∧ Own w.heap.size w' (.slice pz nz cz) gz ∧ (gz = none ∨ gz ≠ g) ∧ NatAt w' v (a * val B64 X) ∧ NatAt w' (.slice pz nz cz) a ∧ Below w.heap.size w w' ∧ g ≠ none := by
    rintro g cz2 e w' hg hcm hgz ⟨j, L, rfl, hj, hr, hl, hc, hv, hbw, hsz', hblk⟩
    have hkeep := own_keep hz hza hsz' (fun g' hg' => by
      rcases hz with ⟨h1, h5⟩ | ⟨g2, k2, c2, L2, h5, h6, h7, h8, h9⟩
      · rw [h5] at hg'; cases hg'
      · rw [h5] at hg'; cases hg'
        refine hblk _ h8.lt ?_
        rcases hgz with h | h
        · rw [h5] at h; cases h
        · intro e2; apply h; rw [h5, e2])
    refine ⟨_, some g, rfl, .inr ⟨g, j, cz2, L, rfl, rfl, hg, hr, hl, hj, hcm⟩, hkeep.1, hgz, ?_, hkeep.2, hbw, by simp⟩
    rw [← hvz, ← hv]; exact own_row_nat hr hl hj hc
  rcases hs with ⟨rfl, rfl⟩ | ⟨g, ks, cs, Ls, rfl, rfl, hg, hrs, hls, hks, hcs⟩
  · have hpos : 0 < nz + n := by
      rcases hnz rfl with h | h
      · have : nz ≠ 0 := by
          rintro rfl
          have : lz = [] := List.eq_nil_of_length_eq_zero hrz.len
          rw [this] at hvz; simp [val] at hvz; omega
        omega
      · omega
    have hnew := multiply_new none 0 0 pz nz cz lz p n c X w wr (by omega) hpos hpos hrz hxr cz'.1 cX.1 hb
    refine hnew.mono fun e w' h => hfin _ _ e w' hb.size (by omega) ?_ h
    rcases hz with ⟨h1, h5⟩ | ⟨g2, k2, c2, L2, h5, h6, h7, h8, h9⟩
    · exact .inl h5
    · refine .inr fun e2 => ?_
      rw [h5] at e2; cases e2; exact absurd h8.lt (Nat.lt_irrefl _)
  · have hgz : gz = none ∨ gz ≠ some g := by
      rcases hne with h | h
      · cases h
      · exact .inr (fun e => h e.symm)
    have hzb : nz = 0 ∨ ∀ b o, pz = some ⟨b, o, none⟩ → b ≠ g := by
      refine .inr fun b o h e => ?_
      have := own_block hz b o h
      rcases hgz with h2 | h2
      · rw [h2] at this; cases this
      · apply h2; rw [this, e]
    by_cases h0 : nz + n = 0
    · obtain rfl : nz = 0 := by omega
      obtain rfl : n = 0 := by omega
      have hl0 : lz = [] := List.eq_nil_of_length_eq_zero hrz.len
      have ha0 : a = 0 := by rw [← hvz, hl0]; rfl
      refine (multiply_none (some ⟨g, 0, none⟩) ks cs pz cz p c wr (by unfold most at hcs; omega)).mono ?_
      rintro e w' ⟨rfl, rfl⟩
      refine ⟨_, some g, rfl, .inr ⟨g, 0, cs, Ls, rfl, rfl, hg, hrs, hls, Nat.zero_le _, hcs⟩, hz, hgz, ?_, hza, hb, by simp⟩
      rw [ha0, Nat.zero_mul]
      exact ⟨_, 0, cs, [], rfl, Nat.zero_le _, ⟨rfl, .inl rfl⟩, Canon.nil _, rfl⟩
    · by_cases hfit : nz + n ≤ cs
      · have hsp := multiply_spare g ks cs Ls pz nz cz lz p n c X w wr hcs hfit (by omega) hrs hls hrz hxr cz'.1 cX.1 hzb (hxb g hg) hb hg
        exact hsp.mono fun e w' h => hfin g cs e w' hg hcs hgz h
      · have hnew := multiply_new (some ⟨g, 0, none⟩) ks cs pz nz cz lz p n c X w wr (by omega) (by omega) (by omega) hrz hxr cz'.1 cX.1 hb
        refine hnew.mono fun e w' h => hfin _ _ e w' hb.size (by omega) ?_ h
        rcases hz with ⟨h1, h5⟩ | ⟨g2, k2, c2, L2, h5, h6, h7, h8, h9⟩
        · exact .inl h5
        · refine .inr fun e2 => ?_
          rw [h5] at e2; cases e2; exact absurd h8.lt (Nat.lt_irrefl _)
theorem power_any (u : Value) (x E K : Nat) (w : World) (hK : K * E + 1 + K ≤ most) (hE : E ≤ 1000000) (hx : x < B64 ^ K) (hu : NatAt w u x) : Calls Tryz.prog 146 #[u, .int .i64 E] w (NatPost (x ^ E) w) := by
  obtain ⟨p, n, c, X, rfl, hnc, hX, cX, hv⟩ := hu
  have hn : n ≤ K := pow_most cX hv hx hX
  have HX := hiD hX
  have HK := hiD hK
  have HC := hiD cX
  have HV := hiD hv
  have HN := hiD hn
  have HE : (E : Int) ≤ 1000000 := by omega
  have hst : Hid (∃ (i : Nat) (gz gs : Option Nat), i ≤ E ∧ Value.int .i64 0 = .int .i64 i ∧ Hid (Own w.heap.size (w.alloc (Obj.cells #[Value.int IntKind.u64 1] 76)) (.slice (some ⟨w.heap.size, 0, none⟩) 1 1) gz ∧ Own w.heap.size (w.alloc (Obj.cells #[Value.int IntKind.u64 1] 76)) (.slice none 0 0) gs ∧ (gs = none ∨ gs ≠ gz) ∧ (gs = none → x ^ i ≠ 0) ∧ gz ≠ none ∧
      NatAt (w.alloc (Obj.cells #[Value.int IntKind.u64 1] 76)) (.slice (some ⟨w.heap.size, 0, none⟩) 1 1) (x ^ i) ∧ Below w.heap.size w (w.alloc (Obj.cells #[Value.int IntKind.u64 1] 76)))) := hiD (by
    have hB1 : 1 < B64 := by rw [B64_eq]; omega
    refine ⟨0, some w.heap.size, none, Nat.zero_le _, rfl, hiD ⟨.inr ⟨_, 1, 1, [1], rfl, rfl, Nat.le_refl _, ?_, rfl, Nat.le_refl _, by unfold most; omega⟩, .inl ⟨rfl, rfl⟩, .inl rfl, by simp, by simp, ?_, (Below.refl _ _).alloc (Nat.le_refl _) _⟩⟩
    · unfold Row; rw [heap_new]; rfl
    · rw [Nat.pow_zero]; exact natAt_box w 1 76 (by omega) hB1)
  clear hX cX hv hn hnc hK hx
  go_enter Tryz.func146, Tryz.ntmps146
  go_wp2_with fail
  go_loopw [5, 6, 10] (fun zv sv iv wr => ∃ (i : Nat) (gz gs : Option Nat), i ≤ E ∧ iv = .int .i64 i ∧ Hid (Own w.heap.size wr zv gz ∧ Own w.heap.size wr sv gs ∧ (gs = none ∨ gs ≠ gz) ∧ (gs = none → x ^ i ≠ 0) ∧ gz ≠ none ∧ NatAt wr zv (x ^ i) ∧ Below w.heap.size w wr)) (fun _ _ iv _ => E - (intOf iv).toNat)
  case atStart => exact hst.out
  case round =>
    obtain ⟨i, gz, gs, hi, rfl, hinv⟩ := hrel
    by_cases hlt : i < E
    · have hlt' : (i : Int) < E := by omega
      have hpw : Hid (x ^ i < B64 ^ (K * i + 1)) := hiD (pow_lt (by rw [← HV.out]; have := val_lt X HC.out.1; rw [HX.out.len] at this; exact Nat.lt_of_lt_of_le this (Nat.pow_le_pow_right B64_pos HN.out)) i)
      have hsz : Hid (n + (K * i + 1) ≤ most) := hiD (by
        have h1 : K * i ≤ K * E := Nat.mul_le_mul_left _ hi
        have := HK.out
        have := HN.out
        omega)
      have hcall : Hid (Calls Tryz.prog 166 #[u6, u5, .slice p n c] wr fun e w' => ∃ v g, e = .returned v ∧ Own w.heap.size w' v g ∧ Own w.heap.size w' u5 gz ∧ (gz = none ∨ gz ≠ g) ∧ NatAt w' v (x ^ i * val B64 X) ∧ NatAt w' u5 (x ^ i) ∧ Below w.heap.size w w' ∧ g ≠ none) :=
        hiD (mul_round w wr u6 u5 gs gz p n c X (x ^ i) hinv.out.2.2.2.2.2.2 hinv.out.2.1 hinv.out.1 hinv.out.2.2.1 (fun h => .inl (hinv.out.2.2.2.1 h)) hinv.out.2.2.2.2.2.1 HX.out HC.out _ hpw.out hsz.out)
      clear hlt
      go_wp2_with fail
      refine hcall.out.mono ?_
      rintro e w2 ⟨v, g, rfl, h1, h2, h3, h4, h5, h6, h7⟩
      have hinv2 : Hid (Own w.heap.size w2 v g ∧ Own w.heap.size w2 u5 gz ∧ (gz = none ∨ gz ≠ g) ∧ (gz = none → x ^ (i + 1) ≠ 0) ∧ g ≠ none ∧ NatAt w2 v (x ^ (i + 1)) ∧ Below w.heap.size w w2) := hiD (by
        refine ⟨h1, h2, h3, fun hgz => absurd hgz hinv.out.2.2.2.2.1, h7, by rw [Nat.pow_succ, ← HV.out]; rw [HV.out] at h4 ⊢; exact h4, h6⟩)
      clear h1 h2 h3 h4 h5 h6 h7
      go_wp2_with fail
      go_roundw
      case rel => exact ⟨i + 1, g, gz, by omega, by go_num, hinv2⟩
      case measure => simp [intOf]; omega
    · obtain rfl : i = E := by omega
      have hfin : Hid (NatPost (x ^ i) w (.returned u5) wr) := hiD ⟨_, rfl, hinv.out.2.2.2.2.2.1, hinv.out.2.2.2.2.2.2⟩
      go_wp2_with fail
      go_ret
      exact hfin.out
structure Res (B : Nat) (w0 W : World) : Prop where
  size : B + 1 ≤ W.heap.size
  below : Below w0.heap.size w0 W
  z : ∃ z0 z1 z2, W.heap[B]? = some (.cells #[z0, z1, z2] 66 (0, 0)) ∧ NoInt z0 ∧ NoInt z1 ∧ NoInt z2
section
variable {B : Nat} {w0 W W' : World}
theorem Res.next (h : Res B w0 W) (hb : Below W.heap.size W W') : Res B w0 W' := by
  have hs := h.size
  exact ⟨Nat.le_trans hs hb.size, h.below.trans (hb.mono h.below.size), h.z.elim fun z0 k => k.elim fun z1 k => k.elim fun z2 k => ⟨z0, z1, z2, (hb.block _ (by omega)).trans k.1, k.2⟩⟩
theorem Res.slots (h : Res B w0 W) : ∃ z0 z1 z2, W.cell? ⟨B, 0, none⟩ = some z0 ∧ W.cell? ⟨B, 1, none⟩ = some z1 ∧ W.cell? ⟨B, 2, none⟩ = some z2 ∧ W.frozen? ⟨B, 0, none⟩ = false ∧ W.frozen? ⟨B, 1, none⟩ = false ∧ W.frozen? ⟨B, 2, none⟩ = false := by
  obtain ⟨z0, z1, z2, hz, -⟩ := h.z
  exact ⟨z0, z1, z2, ceh hz 0, ceh hz 1, ceh hz 2, foh hz 0, foh hz 1, foh hz 2⟩
theorem Res.put1 (h : Res B w0 W) (hB : w0.heap.size ≤ B) (k : Nat) (hk : k < 3) (a : Value) (ha : NoInt a) : Res B w0 (W.setCell ⟨B, k, none⟩ a) := by
  obtain ⟨z0, z1, z2, hz, n0, n1, n2⟩ := h.z
  refine ⟨by rw [World.size_setCell]; exact h.size, h.below.setCell (by simp; omega) _, ?_⟩
  have h1 := heap_set B k _ 66 a hz
  match k, hk with
  | 0, _ => exact ⟨_, _, _, h1, ha, n1, n2⟩
  | 1, _ => exact ⟨_, _, _, h1, n0, ha, n2⟩
  | 2, _ => exact ⟨_, _, _, h1, n0, n1, ha⟩
theorem Res.put3 (h : Res B w0 W) (hB : w0.heap.size ≤ B) (a : Bool) (p q : Option Addr) (n c m d : Nat) : Res B w0 (((W.setCell ⟨B, 0, none⟩ (.bool a)).setCell ⟨B, 1, none⟩ (.slice p n c)).setCell ⟨B, 2, none⟩ (.slice q m d)) :=
  ((h.put1 hB 0 (by omega) _ (noInt_bool _)).put1 hB 1 (by omega) _ (noInt_slice _ _ _)).put1 hB 2 (by omega) _ (noInt_slice _ _ _)
theorem Res.nat1 (h : Res B w0 W) {v : Value} {x : Nat} (hx : NatAt W v x) (k : Nat) (a : Value) : NatAt (W.setCell ⟨B, k, none⟩ a) v x := by
  obtain ⟨z0, z1, z2, hz, n0, n1, n2⟩ := h.z
  exact nat_set hz n0 n1 n2 hx k a
theorem Res.nat3 (h : Res B w0 W) (hB : w0.heap.size ≤ B) {v : Value} {x : Nat} (hx : NatAt W v x) (a : Bool) (p q : Option Addr) (n c m d : Nat) : NatAt (((W.setCell ⟨B, 0, none⟩ (.bool a)).setCell ⟨B, 1, none⟩ (.slice p n c)).setCell ⟨B, 2, none⟩ (.slice q m d)) v x :=
  ((h.put1 hB 0 (by omega) _ (noInt_bool _)).put1 hB 1 (by omega) _ (noInt_slice _ _ _)).nat1 ((h.put1 hB 0 (by omega) _ (noInt_bool _)).nat1 (h.nat1 hx _ _) _ _) _ _
theorem Res.start (w : World) : Res w.heap.size w (w.alloc (.cells #[.bool false, .slice none 0 0, .slice none 0 0] 66)) :=
  ⟨by simp, (Below.refl _ _).alloc (Nat.le_refl _) _, .bool false, .slice none 0 0, .slice none 0 0, heap_new _ _, noInt_bool _, noInt_slice _ _ _, noInt_slice _ _ _⟩
end
theorem bea (W : World) (o : Obj) : Below W.heap.size W (W.alloc o) := (Below.refl _ _).alloc (Nat.le_refl _) o
theorem int_any (n : Nat) (w : World) (hn : n ≤ 1000) : Calls Tryz.prog 84 #[.int .i64 n] w (RatPost false n 1 w) := by
  have h0 : (0 : Int) ≤ n := by omega
  have h1 : (n : Int) ≤ 1000 := by omega
  have hdec : decide ((n : Int) < 0) = false := by simp
  have hres := hiD (Res.start w)
  have hnB : n < B64 := by rw [B64_eq]; omega
  have ht : ∀ (W : World) T B, B = W.heap.size → Hid (Calls Tryz.prog 134 #[.slice (some ⟨B, 0, none⟩) 1 1] (W.alloc (.cells #[.int .u64 (n : Int)] T)) (NatPost (val B64 [n]) (W.alloc (.cells #[.int .u64 (n : Int)] T)))) := fun W T B hB =>
    hiD (hB ▸ trimmed_nat _ 1 1 [n] _ _ (by unfold maxLen; omega) (by omega) (rd_box W n T) (Dig.one hnB) (Below.refl _ _))
  have hval : Hid (val B64 [n] = n) := hiD (by simp [val])
  clear hnB
  go_enter Tryz.func84, Tryz.ntmps84
  go_wp2_with fail
  refine (ht (w.alloc (.cells #[.bool false, .slice none 0 0, .slice none 0 0] 66)) _ (w.heap.size + 1) (by simp)).out.mono ?_
  rintro e w2 ⟨v2, rfl, hv2, hb2⟩
  rw [hval.out] at hv2
  obtain ⟨p2, n2, k2, rfl⟩ := hv2.slice
  have hr2 := hiD ((hres.out.next (bea _ _)).next hb2)
  have hB1 : 1 < B64 := by rw [B64_eq]; omega
  have hone : ∀ T, Hid (NatAt (w2.alloc (.cells #[.int .u64 1] T)) (.slice (some ⟨w2.heap.size, 0, none⟩) 1 1) 1) := fun T => hiD (natAt_box w2 1 T (by omega) hB1)
  have hv2' : ∀ T, Hid (NatAt (w2.alloc (.cells #[.int .u64 1] T)) (.slice p2 n2 k2) n) := fun T => hiD (hv2.below (bea _ _))
  have hsg : ∀ T, Hid (Calls Tryz.prog 129 #[.bool false, .slice p2 n2 k2, .slice (some ⟨w2.heap.size, 0, none⟩) 1 1] (w2.alloc (.cells #[.int .u64 1] T)) fun e w' => e = .returned (.agg #[.bool (false && !(n == 0)), .slice p2 n2 k2, .slice (some ⟨w2.heap.size, 0, none⟩) 1 1]) ∧ Below (w2.alloc (.cells #[.int .u64 1] T)).heap.size (w2.alloc (.cells #[.int .u64 1] T)) w') := fun T =>
    hiD (signed_nat false _ _ n 1 _ (hv2' T).out (hone T).out)
  clear hv2 hb2 hB1
  go_wp2_with fail
  refine (hsg _).out.mono ?_
  rintro e w3 ⟨rfl, hb3⟩
  have htw := (hr2.out.next (bea _ _)).next hb3
  obtain ⟨z0, z1, z2, l0, l1, l2, f0, f1, f2⟩ := htw.slots
  have Htw := hiD htw
  have q1 := Htw.out.nat3 (Nat.le_refl _) ((hv2' _).out.below hb3) false p2 (some ⟨w2.heap.size, 0, none⟩) n2 k2 1 1
  have q2 := Htw.out.nat3 (Nat.le_refl _) ((hone _).out.below hb3) false p2 (some ⟨w2.heap.size, 0, none⟩) n2 k2 1 1
  have q3 := (Htw.out.put3 (Nat.le_refl _) false p2 (some ⟨w2.heap.size, 0, none⟩) n2 k2 1 1).below
  have hfin : Hid (∀ W, W = (((w3.setCell ⟨w.heap.size, 0, none⟩ (.bool false)).setCell ⟨w.heap.size, 1, none⟩ (.slice p2 n2 k2)).setCell ⟨w.heap.size, 2, none⟩ (.slice (some ⟨w2.heap.size, 0, none⟩) 1 1)) → RatPost false n 1 w (.returned (.agg #[.bool false, .slice p2 n2 k2, .slice (some ⟨w2.heap.size, 0, none⟩) 1 1])) W) := hiD (by
    rintro W rfl
    exact ⟨_, rfl, ⟨_, _, rfl, q1, q2, by intro h; simp at h⟩, q3⟩)
  clear htw q1 q2 q3
  go_wp2_with fail
  refine bodyPost_ret (v := .agg #[.bool false, .slice p2 n2 k2, .slice (some ⟨w2.heap.size, 0, none⟩) 1 1]) (by simp [results, Tryz.results84, go_sem, l0, l1, l2]) rfl ?_
  exact hfin.out _ rfl
end Go.Proofs.YtoegbjmoecbjdaaGreatDoor
