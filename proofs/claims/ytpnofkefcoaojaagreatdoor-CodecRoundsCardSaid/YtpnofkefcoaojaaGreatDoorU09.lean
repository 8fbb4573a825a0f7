/- Fractions with a sign, and the rational numbers that they stand for. -/
import Derived.Test.YtpnofkefcoaojaaGreatDoorVSc
import Derived.Deep.LoopGhost
import Derived.Deep.RegionHeld3
import Derived.Deep.RegionWith
namespace Go.Proofs.YtpnofkefcoaojaaGreatDoor
open Go.RowKit Big
end Go.Proofs.YtpnofkefcoaojaaGreatDoor
namespace Go.Proofs.YtpnofkefcoaojaaGreatDoor
open Go.RowKit Big
variable {B : Nat} {s : Bool} {u1 v1 : Value} {t : Bool} {u2 v2 : Value} {w0 W W' : World}
end Go.Proofs.YtpnofkefcoaojaaGreatDoor
namespace Go.Proofs.YtpnofkefcoaojaaGreatDoor
open Go.RowKit Big
end Go.Proofs.YtpnofkefcoaojaaGreatDoor
namespace Big
theorem ratv_neg (s : Bool) (a b : Nat) : ratv (!s) a b = - ratv s a b := by
  unfold ratv
  cases s <;> simp <;> grind
end Big
set_option maxHeartbeats 3200000
set_option maxRecDepth 100000
namespace Go.Proofs.YtpnofkefcoaojaaGreatDoor
open Go.RowKit Big
end Go.Proofs.YtpnofkefcoaojaaGreatDoor
namespace Go.Proofs.YtpnofkefcoaojaaGreatDoor
open Go.RowKit Big
section
variable {B : Nat} {s : Bool} {u1 v1 : Value} {w0 W W' : World}
end
theorem negated_any (x : Value) (s : Bool) (a b : Nat) (w : World) (hx : RatAt w x s a b) : Calls Tryz.prog 178 #[x] w (RatPost (!s) a b w) := by
  obtain ⟨u1, v1, rfl, hu1, hv1, hs1⟩ := hx
  obtain ⟨p1, n1, k1, rfl⟩ := hu1.slice
  obtain ⟨p2, n2, k2, rfl⟩ := hv1.slice
  have hone := One.start w s (.slice p1 n1 k1) (.slice p2 n2 k2)
  obtain ⟨c0, c1, c2⟩ := hone.cells
  have Hone := hiD hone
  have HU := hiD hu1
  have HV := hiD hv1
  clear hone hu1 hv1 hs1
  go_enter Tryz.func178, Tryz.ntmps178
  go_wp2_with fail
  refine (signed_nat _ _ _ a b _ (HU.out.below Hone.out.below) (HV.out.below Hone.out.below)).mono ?_
  rintro e w3 ⟨rfl, hb3⟩
  have htw := Hone.out.next hb3
  obtain ⟨z0, z1, z2, l0, l1, l2, f0, f1, f2⟩ := htw.slots
  have Htw := hiD htw
  clear htw
  go_wp2_with fail
  have q1 := Htw.out.nat3 (Nat.le_refl _) ((HU.out.below Hone.out.below).below hb3) (!s && !(a == 0)) p1 p2 n1 k1 n2 k2
  have q2 := Htw.out.nat3 (Nat.le_refl _) ((HV.out.below Hone.out.below).below hb3) (!s && !(a == 0)) p1 p2 n1 k1 n2 k2
  have q3 := (Htw.out.put3 (Nat.le_refl _) (!s && !(a == 0)) p1 p2 n1 k1 n2 k2).below
  refine bodyPost_ret (v := .agg #[.bool (!s && !(a == 0)), .slice p1 n1 k1, .slice p2 n2 k2]) (by simp [results, Tryz.results178, go_sem, l0, l1, l2]) rfl ?_
  exact ⟨_, rfl, ⟨_, _, rfl, q1, q2, by intro h; simp at h; omega⟩, q3⟩
end Go.Proofs.YtpnofkefcoaojaaGreatDoor
namespace Go.Proofs.YtpnofkefcoaojaaGreatDoor
open Go.RowKit Big
def SubPost (s : Bool) (a b : Nat) (t : Bool) (c d K : Nat) (w : World) (e : Ending) (w' : World) : Prop :=
  ∃ x r n m, e = .returned x ∧ RatAt w' x r n m ∧ Below w.heap.size w w' ∧ 0 < m ∧ ratv r n m = ratv s a b - ratv t c d ∧ n < B64 ^ (2 * K + 1) ∧ m < B64 ^ (2 * K + 1)
theorem sub_any (x y : Value) (s t : Bool) (a b c d K : Nat) (w : World) (hK : 2 * K + 1 ≤ 1073741824) (ha : a < B64 ^ K) (hb : b < B64 ^ K) (hc : c < B64 ^ K) (hd : d < B64 ^ K) (hb0 : 0 < b) (hd0 : 0 < d) (hx : RatAt w x s a b) (hy : RatAt w y t c d) :
    Calls Tryz.prog 134 #[x, y] w (SubPost s a b t c d K w) := by
  have hx0 := hiD hx
  have hy0 := hiD hy
  obtain ⟨u1, v1, rfl, hu1, hv1, hs1⟩ := hx
  obtain ⟨u2, v2, rfl, hu2, hv2, hs2⟩ := hy
  obtain ⟨p1, n1, k1, rfl⟩ := hu1.slice
  obtain ⟨p2, n2, k2, rfl⟩ := hv1.slice
  obtain ⟨p3, n3, k3, rfl⟩ := hu2.slice
  obtain ⟨p4, n4, k4, rfl⟩ := hv2.slice
  have htwo := Two.start w s (.slice p1 n1 k1) (.slice p2 n2 k2) t (.slice p3 n3 k3) (.slice p4 n4 k4)
  have Htwo := hiD htwo
  obtain ⟨-, c0, c1, c2, c3, c4, c5⟩ := htwo.all
  have hneg : Hid (∀ W, Below w.heap.size w W → Calls Tryz.prog 178 #[.agg #[.bool t, .slice p3 n3 k3, .slice p4 n4 k4]] W (RatPost (!t) c d W)) := hiD fun W h => negated_any _ t c d W (hy0.out.below h)
  have hadd : Hid (∀ W z, Below w.heap.size w W → RatAt W z ((!t) && !(c == 0)) c d → Calls Tryz.prog 89 #[.agg #[.bool s, .slice p1 n1 k1, .slice p2 n2 k2], z] W (AddPost s a b ((!t) && !(c == 0)) c d K W)) :=
    hiD fun W z h hz => add_any _ _ s _ a b c d K W hK ha hb hc hd hb0 hd0 (hx0.out.below h) hz
  clear hu1 hv1 hu2 hv2 hs1 hs2 htwo
  go_enter Tryz.func134, Tryz.ntmps134
  go_wp2_with fail
  go_region_held3 (fun w' => Two w.heap.size s (.slice p1 n1 k1) (.slice p2 n2 k2) t (.slice p3 n3 k3) (.slice p4 n4 k4) w w' ∧ w'.cell? ⟨w.heap.size, 0, none⟩ = some (.bool s) ∧ w'.cell? ⟨w.heap.size, 1, none⟩ = some (.slice p1 n1 k1) ∧ w'.cell? ⟨w.heap.size, 2, none⟩ = some (.slice p2 n2 k2) ∧ w'.cell? ⟨w.heap.size + 1, 0, none⟩ = some (.bool t) ∧ w'.cell? ⟨w.heap.size + 1, 1, none⟩ = some (.slice p3 n3 k3) ∧ w'.cell? ⟨w.heap.size + 1, 2, none⟩ = some (.slice p4 n4 k4))
    (first | exact Two.all (Two.drew Htwo.out) | exact Two.all Htwo.out | (go_split_ands; exact Two.all (Two.next (by assumption) hb1)) | (go_split_ands; exact Two.all (Two.next (by assumption) hb3)) | (go_split_ands; exact Two.all (Two.put3 (by assumption) (Nat.le_refl _) _ _ _ _ _ _ _)) | go_keep)
    (first | (go_at_call 178; go_split_ands; refine (hneg.out _ (Two.below (by assumption))).mono ?_; rintro e w1 ⟨xn, rfl, hxn, hb1⟩) | (go_at_call 89; go_split_ands; refine (hadd.out _ _ (Two.below (by assumption)) hxn).mono ?_; rintro e w3 ⟨xr, r, nn, mm, rfl, hxr, hb3, hpos, hval, hn1, hm1⟩; have htw := Two.next (by assumption) hb3; obtain ⟨ur, vr, rfl, hur, hvr, hsr⟩ := hxr; obtain ⟨pr, nr, cr, rfl⟩ := hur.slice; obtain ⟨pv, nv, cv, rfl⟩ := hvr.slice; obtain ⟨z0, z1, z2, l0, l1, l2, f0, f1, f2⟩ := Two.slots htw))
  go_wp2_with fail
  have q1 := htw.nat3 (Nat.le_refl _) hur r pr pv nr cr nv cv
  have q2 := htw.nat3 (Nat.le_refl _) hvr r pr pv nr cr nv cv
  have q3 := (htw.put3 (Nat.le_refl _) r pr pv nr cr nv cv).below
  refine bodyPost_ret (v := .agg #[.bool r, .slice pr nr cr, .slice pv nv cv]) (by simp [results, Tryz.results134, go_sem, l0, l1, l2]) rfl ?_
  refine ⟨_, r, nn, mm, rfl, ⟨_, _, rfl, q1, q2, hsr⟩, q3, hpos, ?_, hn1, hm1⟩
  rw [hval, ratv_drop, ratv_neg, Rat.sub_eq_add_neg]
end Go.Proofs.YtpnofkefcoaojaaGreatDoor
namespace Go.Proofs.YtpnofkefcoaojaaGreatDoor
open Go.RowKit Big
end Go.Proofs.YtpnofkefcoaojaaGreatDoor
namespace Go.Proofs.YtpnofkefcoaojaaGreatDoor
open Go.RowKit Big
section
variable {B : Nat} {w0 W W' : World}
end
end Go.Proofs.YtpnofkefcoaojaaGreatDoor
namespace Go.Proofs.YtpnofkefcoaojaaGreatDoor
open Go.RowKit Go.Lib Big
end Go.Proofs.YtpnofkefcoaojaaGreatDoor
namespace Go.Proofs.YtpnofkefcoaojaaGreatDoor
open Go.RowKit Go.Lib Big
end Go.Proofs.YtpnofkefcoaojaaGreatDoor
namespace Go.Proofs.YtpnofkefcoaojaaGreatDoor
open Go.RowKit Go.Lib Big
end Go.Proofs.YtpnofkefcoaojaaGreatDoor
namespace Go.Proofs.YtpnofkefcoaojaaGreatDoor
open Go.RowKit Go.Lib Big
end Go.Proofs.YtpnofkefcoaojaaGreatDoor
namespace Go.Proofs.YtpnofkefcoaojaaGreatDoor
open Go.RowKit Go.Lib Big
end Go.Proofs.YtpnofkefcoaojaaGreatDoor
namespace Go.Proofs.YtpnofkefcoaojaaGreatDoor
open Go.RowKit Go.Lib Big
end Go.Proofs.YtpnofkefcoaojaaGreatDoor
namespace Go.Proofs.YtpnofkefcoaojaaGreatDoor
open Go.RowKit Go.Lib Big
end Go.Proofs.YtpnofkefcoaojaaGreatDoor
namespace Go.Proofs.YtpnofkefcoaojaaGreatDoor
open Go.RowKit Go.Lib Big
end Go.Proofs.YtpnofkefcoaojaaGreatDoor
namespace Go.Proofs.YtpnofkefcoaojaaGreatDoor
open Go.Lib Big
/-! Digits -/
theorem dec_allDig (u : Nat) : allDig (decDigits u) = true := by
  unfold allDig
  rw [(dec_all u).1]
  simp [dec_ne u]
theorem dec_head (u : Nat) (x : List UInt8) : Lib.hasPrefix (decDigits u ++ x) [45] = false := by
  cases h : decDigits u with
  | nil => exact absurd h (dec_ne u)
  | cons b t =>
    have hb : isDig b = true := by
      have := (dec_all u).1
      rw [h, List.all_cons, Bool.and_eq_true] at this
      exact this.1
    have : ((45 : UInt8) == b) = false := by rw [beq_eq_false_iff_ne]; rintro rfl; revert hb; decide
    simp [Lib.hasPrefix, List.isPrefixOf, this]
theorem readAbs_wrote {n d : Nat} (hd : 0 < d) : readAbs (decDigits n ++ (if d = 1 then [] else 47 :: decDigits d)) = some (n, d) := by
  have k1 : isDig 46 = false := by decide
  have k2 : isDig 47 = false := by decide
  have a1 := isDig_ne (dec_all n).1 k1
  have a2 := isDig_ne (dec_all n).1 k2
  have b1 := isDig_ne (dec_all d).1 k1
  unfold readAbs
  by_cases h : d = 1
  · rw [if_pos h, List.append_nil, cut_none a1, cut_none a2]
    simp only [Bool.false_eq_true, if_false]
    rw [if_pos (dec_allDig n), (dec_all n).2, h]
  · rw [if_neg h, cut_none (by simp [a1, b1]), cut_at a2]
    simp only [Bool.false_eq_true, if_false, if_true]
    rw [dec_allDig n, dec_allDig d, (dec_all n).2, (dec_all d).2]
    have : (d == 0) = false := by rw [beq_eq_false_iff_ne]; omega
    simp [this]
theorem readL_wrote {s : Bool} {n d : Nat} (hd : 0 < d) : readL (wrote s n d) = some (s, n, d) := by
  unfold readL wrote
  cases s
  · simp only [Bool.false_eq_true, if_false, List.nil_append]
    rw [dec_head]
    unfold Lib.trimPrefix
    rw [dec_head]
    simp only [Bool.false_eq_true, if_false]
    rw [readAbs_wrote hd]; rfl
  · simp only [if_true]
    have h : Lib.hasPrefix ([45] ++ decDigits n ++ (if d = 1 then [] else 47 :: decDigits d)) [45] = true := by simp [Lib.hasPrefix, List.isPrefixOf]
    unfold Lib.trimPrefix
    rw [h]
    simp only [if_true]
    have : ([45] ++ decDigits n ++ (if d = 1 then [] else 47 :: decDigits d)).drop [(45 : UInt8)].length = decDigits n ++ (if d = 1 then [] else 47 :: decDigits d) := by simp
    rw [this, readAbs_wrote hd]; rfl
theorem wrote_len (s : Bool) (n d : Nat) : (wrote s n d).length ≤ 2 + nDigits n + nDigits d := by
  unfold wrote
  rw [List.length_append, List.length_append, decDigits_length]
  split <;> split <;> simp [decDigits_length] <;> omega
theorem num_txt {q : Rat} (h : txt q ≠ []) : num (txt q) = some q := by
  have hs := txt_ne.1 h
  have e := txt_eq q
  unfold short at hs
  rw [if_pos hs] at e
  have hself := ratv_self q
  have hr : readQ (txt q) = some (decide (q.num < 0), q.num.natAbs, q.den) := by
    unfold readQ
    rw [e]
    have hl := wrote_len (decide (q.num < 0)) q.num.natAbs q.den
    rw [if_neg (by omega), readL_wrote q.den_pos]
    have hsg : (decide (q.num < 0) && !(q.num.natAbs == 0)) = decide (q.num < 0) := by
      by_cases h : q.num < 0
      · have : (q.num.natAbs == 0) = false := by rw [beq_eq_false_iff_ne]; omega
        simp [h, this]
      · simp [h]
    simp only [hsg]
    rw [if_pos]
    exact e
  unfold num
  rw [hr, Option.map_some]
  simp only [hself]
end Go.Proofs.YtpnofkefcoaojaaGreatDoor
namespace Go.Proofs.YtpnofkefcoaojaaGreatDoor
open Go.Lib Big
theorem num_zero : num [48] = some 0 := by
  have h : txt 0 = [48] := by
    rw [txt_eq]
    have : nDigits (0 : Rat).num.natAbs = 1 := nDigits_small (by decide)
    have h2 : nDigits (0 : Rat).den = 1 := nDigits_small (by decide)
    rw [if_pos (by omega)]
    unfold wrote
    rw [show decDigits (0 : Rat).num.natAbs = [48] from decDigits_one (by decide)]
    rfl
  have := num_txt (q := 0) (by rw [h]; decide)
  rwa [h] at this
/-! Compare -/
def cmpT (x y : List UInt8) : Int × Bool :=
  match num x, num y with
  | some a, some b => (sgnR (a - b), true)
  | _, _ => (0, false)
end Go.Proofs.YtpnofkefcoaojaaGreatDoor
namespace Go.Proofs.YtpnofkefcoaojaaGreatDoor
open Go.Lib Big
end Go.Proofs.YtpnofkefcoaojaaGreatDoor
