/- Fractions with a sign, and the rational numbers that they stand for. -/
import Derived.Test.YtpnofkefcoaojaaGreatDoorVSc
import Derived.Deep.LoopGhost
import Derived.Deep.RegionHeld3
import Derived.Deep.RegionWith
import Derived.Outline
import Derived.Test.YtpnofkefcoaojaaGreatDoorKC
import Derived.Test.YtpnofkefcoaojaaGreatDoorCE
import Derived.Test.YtpnofkefcoaojaaGreatDoorYA
import Derived.BigQuiet
namespace Go.Proofs.YtpnofkefcoaojaaGreatDoor
open Go.RowKit Big
end Go.Proofs.YtpnofkefcoaojaaGreatDoor
namespace Go.Proofs.YtpnofkefcoaojaaGreatDoor
open Go.RowKit Big
variable {B : Nat} {s : Bool} {u1 v1 : Value} {t : Bool} {u2 v2 : Value} {w0 W W' : World}
end Go.Proofs.YtpnofkefcoaojaaGreatDoor
namespace Go.Proofs.YtpnofkefcoaojaaGreatDoor
open Go.RowKit Big
end Go.Proofs.YtpnofkefcoaojaaGreatDoor
namespace Big
theorem ratv_neg (s : Bool) (a b : Nat) : ratv (!s) a b = - ratv s a b := by
  unfold ratv
  cases s <;> simp <;> grind
end Big
set_option maxHeartbeats 3200000
set_option maxRecDepth 100000
namespace Go.Proofs.YtpnofkefcoaojaaGreatDoor
open Go.RowKit Big
end Go.Proofs.YtpnofkefcoaojaaGreatDoor
namespace Go.Proofs.YtpnofkefcoaojaaGreatDoor
open Go.RowKit Big
section
variable {B : Nat} {s : Bool} {u1 v1 : Value} {w0 W W' : World}
end
theorem negated_any (x : Value) (s : Bool) (a b : Nat) (w : World) (hx : RatAt w x s a b) : Calls Tryz.prog 178 #[x] w (RatPost (!s) a b w) := by
  obtain ⟨u1, v1, rfl, hu1, hv1, hs1⟩ := hx
  obtain ⟨p1, n1, k1, rfl⟩ := hu1.slice
  obtain ⟨p2, n2, k2, rfl⟩ := hv1.slice
  have hone := One.start w s (.slice p1 n1 k1) (.slice p2 n2 k2)
  obtain ⟨c0, c1, c2⟩ := hone.cells
  have Hone := hiD hone
  have HU := hiD hu1
  have HV := hiD hv1
  clear hone hu1 hv1 hs1
  go_enter Tryz.func178, Tryz.ntmps178
  go_wp2_with fail
  refine (signed_nat _ _ _ a b _ (HU.out.below Hone.out.below) (HV.out.below Hone.out.below)).mono ?_
  rintro e w3 ⟨rfl, hb3⟩
  have htw := Hone.out.next hb3
  obtain ⟨z0, z1, z2, l0, l1, l2, f0, f1, f2⟩ := htw.slots
  have Htw := hiD htw
  clear htw
  go_wp2_with fail
  have q1 := Htw.out.nat3 (Nat.le_refl _) ((HU.out.below Hone.out.below).below hb3) (!s && !(a == 0)) p1 p2 n1 k1 n2 k2
  have q2 := Htw.out.nat3 (Nat.le_refl _) ((HV.out.below Hone.out.below).below hb3) (!s && !(a == 0)) p1 p2 n1 k1 n2 k2
  have q3 := (Htw.out.put3 (Nat.le_refl _) (!s && !(a == 0)) p1 p2 n1 k1 n2 k2).below
  refine bodyPost_ret (v := .agg #[.bool (!s && !(a == 0)), .slice p1 n1 k1, .slice p2 n2 k2]) (by simp [results, Tryz.results178, go_sem, l0, l1, l2]) rfl ?_
  exact ⟨_, rfl, ⟨_, _, rfl, q1, q2, by intro h; simp at h; omega⟩, q3⟩
end Go.Proofs.YtpnofkefcoaojaaGreatDoor
namespace Go.Proofs.YtpnofkefcoaojaaGreatDoor
open Go.RowKit Big
def SubPost (s : Bool) (a b : Nat) (t : Bool) (c d K : Nat) (w : World) (e : Ending) (w' : World) : Prop :=
  ∃ x r n m, e = .returned x ∧ RatAt w' x r n m ∧ Below w.heap.size w w' ∧ 0 < m ∧ ratv r n m = ratv s a b - ratv t c d ∧ n < B64 ^ (2 * K + 1) ∧ m < B64 ^ (2 * K + 1)
theorem sub_any (x y : Value) (s t : Bool) (a b c d K : Nat) (w : World) (hK : 2 * K + 1 ≤ 1073741824) (ha : a < B64 ^ K) (hb : b < B64 ^ K) (hc : c < B64 ^ K) (hd : d < B64 ^ K) (hb0 : 0 < b) (hd0 : 0 < d) (hx : RatAt w x s a b) (hy : RatAt w y t c d) :
    Calls Tryz.prog 134 #[x, y] w (SubPost s a b t c d K w) := by
  have hx0 := hiD hx
  have hy0 := hiD hy
  obtain ⟨u1, v1, rfl, hu1, hv1, hs1⟩ := hx
  obtain ⟨u2, v2, rfl, hu2, hv2, hs2⟩ := hy
  obtain ⟨p1, n1, k1, rfl⟩ := hu1.slice
  obtain ⟨p2, n2, k2, rfl⟩ := hv1.slice
  obtain ⟨p3, n3, k3, rfl⟩ := hu2.slice
  obtain ⟨p4, n4, k4, rfl⟩ := hv2.slice
  have htwo := Two.start w s (.slice p1 n1 k1) (.slice p2 n2 k2) t (.slice p3 n3 k3) (.slice p4 n4 k4)
  have Htwo := hiD htwo
  obtain ⟨-, c0, c1, c2, c3, c4, c5⟩ := htwo.all
  have hneg : Hid (∀ W, Below w.heap.size w W → Calls Tryz.prog 178 #[.agg #[.bool t, .slice p3 n3 k3, .slice p4 n4 k4]] W (RatPost (!t) c d W)) := hiD fun W h => negated_any _ t c d W (hy0.out.below h)
  have hadd : Hid (∀ W z, Below w.heap.size w W → RatAt W z ((!t) && !(c == 0)) c d → Calls Tryz.prog 89 #[.agg #[.bool s, .slice p1 n1 k1, .slice p2 n2 k2], z] W (AddPost s a b ((!t) && !(c == 0)) c d K W)) :=
    hiD fun W z h hz => add_any _ _ s _ a b c d K W hK ha hb hc hd hb0 hd0 (hx0.out.below h) hz
  clear hu1 hv1 hu2 hv2 hs1 hs2 htwo
  go_enter Tryz.func134, Tryz.ntmps134
  go_wp2_with fail
  go_region_held3 (fun w' => Two w.heap.size s (.slice p1 n1 k1) (.slice p2 n2 k2) t (.slice p3 n3 k3) (.slice p4 n4 k4) w w' ∧ w'.cell? ⟨w.heap.size, 0, none⟩ = some (.bool s) ∧ w'.cell? ⟨w.heap.size, 1, none⟩ = some (.slice p1 n1 k1) ∧ w'.cell? ⟨w.heap.size, 2, none⟩ = some (.slice p2 n2 k2) ∧ w'.cell? ⟨w.heap.size + 1, 0, none⟩ = some (.bool t) ∧ w'.cell? ⟨w.heap.size + 1, 1, none⟩ = some (.slice p3 n3 k3) ∧ w'.cell? ⟨w.heap.size + 1, 2, none⟩ = some (.slice p4 n4 k4))
    (first | exact Two.all (Two.drew Htwo.out) | exact Two.all Htwo.out | (go_split_ands; exact Two.all (Two.next (by assumption) hb1)) | (go_split_ands; exact Two.all (Two.next (by assumption) hb3)) | (go_split_ands; exact Two.all (Two.put3 (by assumption) (Nat.le_refl _) _ _ _ _ _ _ _)) | go_keep)
    (first | (go_at_call 178; go_split_ands; refine (hneg.out _ (Two.below (by assumption))).mono ?_; rintro e w1 ⟨xn, rfl, hxn, hb1⟩) | (go_at_call 89; go_split_ands; refine (hadd.out _ _ (Two.below (by assumption)) hxn).mono ?_; rintro e w3 ⟨xr, r, nn, mm, rfl, hxr, hb3, hpos, hval, hn1, hm1⟩; have htw := Two.next (by assumption) hb3; obtain ⟨ur, vr, rfl, hur, hvr, hsr⟩ := hxr; obtain ⟨pr, nr, cr, rfl⟩ := hur.slice; obtain ⟨pv, nv, cv, rfl⟩ := hvr.slice; obtain ⟨z0, z1, z2, l0, l1, l2, f0, f1, f2⟩ := Two.slots htw))
  go_wp2_with fail
  have q1 := htw.nat3 (Nat.le_refl _) hur r pr pv nr cr nv cv
  have q2 := htw.nat3 (Nat.le_refl _) hvr r pr pv nr cr nv cv
  have q3 := (htw.put3 (Nat.le_refl _) r pr pv nr cr nv cv).below
  refine bodyPost_ret (v := .agg #[.bool r, .slice pr nr cr, .slice pv nv cv]) (by simp [results, Tryz.results134, go_sem, l0, l1, l2]) rfl ?_
  refine ⟨_, r, nn, mm, rfl, ⟨_, _, rfl, q1, q2, hsr⟩, q3, hpos, ?_, hn1, hm1⟩
  rw [hval, ratv_drop, ratv_neg, Rat.sub_eq_add_neg]
end Go.Proofs.YtpnofkefcoaojaaGreatDoor
namespace Go.Proofs.YtpnofkefcoaojaaGreatDoor
open Go.RowKit Big
end Go.Proofs.YtpnofkefcoaojaaGreatDoor
namespace Go.Proofs.YtpnofkefcoaojaaGreatDoor
open Go.RowKit Big
section
variable {B : Nat} {w0 W W' : World}
end
end Go.Proofs.YtpnofkefcoaojaaGreatDoor
namespace Go.Proofs.YtpnofkefcoaojaaGreatDoor
open Go.RowKit Go.Lib Big
end Go.Proofs.YtpnofkefcoaojaaGreatDoor
namespace Go.Proofs.YtpnofkefcoaojaaGreatDoor
open Go.RowKit Go.Lib Big
end Go.Proofs.YtpnofkefcoaojaaGreatDoor
namespace Go.Proofs.YtpnofkefcoaojaaGreatDoor
open Go.RowKit Go.Lib Big
end Go.Proofs.YtpnofkefcoaojaaGreatDoor
namespace Go.Proofs.YtpnofkefcoaojaaGreatDoor
open Go.RowKit Go.Lib Big
end Go.Proofs.YtpnofkefcoaojaaGreatDoor
namespace Go.Proofs.YtpnofkefcoaojaaGreatDoor
open Go.RowKit Go.Lib Big
end Go.Proofs.YtpnofkefcoaojaaGreatDoor
namespace Go.Proofs.YtpnofkefcoaojaaGreatDoor
open Go.RowKit Go.Lib Big
end Go.Proofs.YtpnofkefcoaojaaGreatDoor
namespace Go.Proofs.YtpnofkefcoaojaaGreatDoor
open Go.RowKit Go.Lib Big
end Go.Proofs.YtpnofkefcoaojaaGreatDoor
namespace Go.Proofs.YtpnofkefcoaojaaGreatDoor
open Go.RowKit Go.Lib Big
end Go.Proofs.YtpnofkefcoaojaaGreatDoor
namespace Go.Proofs.YtpnofkefcoaojaaGreatDoor
open Go.Lib Big
/-! Digits -/
end Go.Proofs.YtpnofkefcoaojaaGreatDoor
namespace Go.Proofs.YtpnofkefcoaojaaGreatDoor
open Go.Lib Big
/-! Compare -/
def cmpT (x y : List UInt8) : Int × Bool :=
  match num x, num y with
  | some a, some b => (sgnR (a - b), true)
  | _, _ => (0, false)
end Go.Proofs.YtpnofkefcoaojaaGreatDoor
namespace Go.Proofs.YtpnofkefcoaojaaGreatDoor
open Go.Lib Big
end Go.Proofs.YtpnofkefcoaojaaGreatDoor
set_option maxHeartbeats 1600000
set_option maxRecDepth 100000
namespace Go.Proofs.YtpnofkefcoaojaaGreatDoor
open Go.Lib Big
/-! Convert -/
end Go.Proofs.YtpnofkefcoaojaaGreatDoor
namespace Go.Proofs.YtpnofkefcoaojaaGreatDoor
open Go.Lib Big
end Go.Proofs.YtpnofkefcoaojaaGreatDoor
namespace Go.Proofs.YtpnofkefcoaojaaGreatDoor
open Go.Lib Big
end Go.Proofs.YtpnofkefcoaojaaGreatDoor
namespace Go.Proofs.YtpnofkefcoaojaaGreatDoor
open Go.RowKit Go.Lib Big
theorem sub_is (x y : Value) (p q : Rat) (K : Nat) (w : World) (hK : 2 * K + 1 ≤ 1073741824) (hx : RatIs w x p K) (hy : RatIs w y q K) : Calls Tryz.prog 134 #[x, y] w (IsPost (p - q) (2 * K + 1) w) := by
  obtain ⟨s, a, b, h1, rfl, h3, h4, h5⟩ := hx
  obtain ⟨t, c, d, k1, rfl, k3, k4, k5⟩ := hy
  refine (sub_any x y s t a b c d K w hK h4 h5 k4 k5 h3 k3 h1 k1).mono ?_
  rintro e w' ⟨z, r, n, m, rfl, hz, hb, hm, hv, hn, hm2⟩
  exact ⟨z, rfl, ⟨r, n, m, hz, hv, hm, hn, hm2⟩, hb⟩
end Go.Proofs.YtpnofkefcoaojaaGreatDoor
namespace Go.Proofs.YtpnofkefcoaojaaGreatDoor
open Go.RowKit Go.Lib Big
end Go.Proofs.YtpnofkefcoaojaaGreatDoor
namespace Go.Proofs.YtpnofkefcoaojaaGreatDoor
open Go.RowKit Go.Lib Big
def CmpTPost (c : Int × Bool) (w : World) (e : Ending) (w' : World) : Prop := e = .returned (.tuple #[.int .i64 c.1, .bool c.2]) ∧ Below w.heap.size w w'
theorem compare_bad1 (x y : ByteArray) (w : World) (hx : Hid (Calls Tryz.prog 130 #[.string x] w (NumPost none w))) : Calls Tryz.prog 85 #[.string x, .string y] w (CmpTPost (0, false) w) := by
  go_enter Tryz.func85, Tryz.ntmps85
  go_wp2_with fail
  refine hx.out.mono ?_
  rintro e w2 ⟨hb2, b, p, n, c, q, m, d, rfl, -⟩
  have hbw := hiD (hb2.trans ((bea w2 (.cells #[.bool b, .slice p n c, .slice q m d] 98)).mono hb2.size))
  clear hb2
  go_wp2_with fail
  go_ret2
  exact ⟨rfl, hbw.out⟩
theorem compare_bad2 (x y : ByteArray) (r : Rat) (w : World) (hx : Hid (Calls Tryz.prog 130 #[.string x] w (NumPost (some r) w))) (hy : ∀ W, Below w.heap.size w W → Hid (Calls Tryz.prog 130 #[.string y] W (NumPost none W))) : Calls Tryz.prog 85 #[.string x, .string y] w (CmpTPost (0, false) w) := by
  go_enter Tryz.func85, Tryz.ntmps85
  go_wp2_with fail
  refine hx.out.mono ?_
  rintro e w2 ⟨hb2, b, p, n, c, q, m, d, rfl, -⟩
  have hbw := hiD (hb2.trans ((bea w2 (.cells #[.bool b, .slice p n c, .slice q m d] 98)).mono hb2.size))
  have hy2 := hy _ hbw.out
  clear hb2 hy
  go_wp2_with fail
  refine hy2.out.mono ?_
  rintro e w3 ⟨hb3, b', p', n', c', q', m', d', rfl, -⟩
  have hbw3 := hiD (hbw.out.trans (hb3.mono hbw.out.size))
  have hbw4 := hiD (hbw3.out.trans ((bea w3 (.cells #[.bool b', .slice p' n' c', .slice q' m' d'] 98)).mono hbw3.out.size))
  clear hb3
  go_wp2_with fail
  go_ret2
  exact ⟨rfl, hbw4.out⟩
theorem compare_ok (x y : ByteArray) (p q : Rat) (w : World) (hx : Hid (Calls Tryz.prog 130 #[.string x] w (NumPost (some p) w))) (hy : ∀ W, Below w.heap.size w W → Hid (Calls Tryz.prog 130 #[.string y] W (NumPost (some q) W))) : Calls Tryz.prog 85 #[.string x, .string y] w (CmpTPost (sgnR (p - q), true) w) := by
  have hop : Hid (∀ W u v, RatIs W u p 20 → RatIs W v q 20 → Calls Tryz.prog 134 #[u, v] W (IsPost (p - q) 41 W)) := hiD fun W u v hu hv => sub_is u v p q 20 W (by omega) hu hv
  have hsg : Hid (∀ W z, RatIs W z (p - q) 41 → Calls Tryz.prog 135 #[z] W fun e w' => e = .returned (.int .i64 (sgnR (p - q))) ∧ Below W.heap.size W w') := hiD fun W z hz => sign_is z (p - q) 41 W hz
  generalize sgnR (p - q) = c at hsg ⊢
  go_enter Tryz.func85, Tryz.ntmps85
  go_wp2_with fail
  refine hx.out.mono ?_
  rintro e w2 ⟨hb2, b1, p1, n1, c1, q1, m1, d1, rfl, hr1⟩
  have hbw := hiD (hb2.trans ((bea w2 (.cells #[.bool b1, .slice p1 n1 c1, .slice q1 m1 d1] 98)).mono hb2.size))
  have hR1 := hiD ((hr1 _ rfl).below (bea w2 (.cells #[.bool b1, .slice p1 n1 c1, .slice q1 m1 d1] 98)))
  have hb1 := hiD (heap_new w2 (.cells #[.bool b1, .slice p1 n1 c1, .slice q1 m1 d1] 98))
  have hy2 := hy _ hbw.out
  clear hb2 hy hr1
  go_wp2_with fail
  refine hy2.out.mono ?_
  rintro e w3 ⟨hb3, b', p', n', c', q', m', d', rfl, hr3⟩
  have hbw3 := hiD (hbw.out.trans (hb3.mono hbw.out.size))
  have hbw4 := hiD (hbw3.out.trans ((bea w3 (.cells #[.bool b', .slice p' n' c', .slice q' m' d'] 98)).mono hbw3.out.size))
  have hA := hiD (bea w3 (.cells #[.bool b', .slice p' n' c', .slice q' m' d'] 98))
  have hR3 := hiD ((hr3 _ rfl).below hA.out)
  have hR2 := hiD ((hR1.out.below hb3).below hA.out)
  have hbox := (hb3.trans (hA.out.mono hb3.size)).block w2.heap.size (by simp)
  have hbx := hbox.trans hb1.out
  have e0 := ceh hbx 0
  have e1 := ceh hbx 1
  have e2 := ceh hbx 2
  have hop4 := hiD (hop.out _ _ _ hR2.out hR3.out)
  clear hb3 hy2 hr3 hbox hbx
  go_wp2_with fail
  refine hop4.out.mono ?_
  rintro e w5 ⟨z, rfl, hz, hb5⟩
  have hbw5 := hiD (hbw4.out.trans (hb5.mono hbw4.out.size))
  have ht5 := hiD (hsg.out _ _ hz)
  clear hb5 hz hop4
  go_wp2_with fail
  refine ht5.out.mono ?_
  rintro e w6 ⟨rfl, hb6⟩
  have hbw6 := hiD (hbw5.out.trans (hb6.mono hbw5.out.size))
  clear hb6
  go_wp2_with fail
  go_ret2
  exact ⟨rfl, hbw6.out⟩
theorem compare_q (x y : ByteArray) (w : World) (htab : Tab w) : Calls Tryz.prog 85 #[.string x, .string y] w (CmpTPost (cmpT x.data.toList y.data.toList) w) := by
  have hx := qread_is x w htab
  have hy := fun W (hb : Below w.heap.size w W) => qread_is y W (htab.below hb)
  unfold cmpT
  cases hnx : num x.data.toList with
  | none => rw [hnx] at hx; exact compare_bad1 x y w (hiD hx)
  | some p =>
    rw [hnx] at hx
    cases hny : num y.data.toList with
    | none => rw [hny] at hy; exact compare_bad2 x y p w (hiD hx) fun W hb => hiD (hy W hb)
    | some q => rw [hny] at hy; exact compare_ok x y p q w (hiD hx) fun W hb => hiD (hy W hb)
/-! isPositive -/
end Go.Proofs.YtpnofkefcoaojaaGreatDoor
namespace Go.Proofs.YtpnofkefcoaojaaGreatDoor
open Go.RowKit Go.Lib Big
end Go.Proofs.YtpnofkefcoaojaaGreatDoor
namespace Go.Proofs.YtpnofkefcoaojaaGreatDoor
def colU (l : List UInt8) (n j : Nat) : Nat → List UInt8
  | 0 => []
  | m + 1 => colU l n j m ++ [l.getD (m * n + j) 0]
def colsU (l : List UInt8) (n k : Nat) : Nat → List UInt8
  | 0 => []
  | m + 1 => colsU l n k m ++ colU l n m k
def shufL (l : List UInt8) (n : Nat) : List UInt8 := colsU l n (l.length / n) n ++ l.drop (l.length / n * n)
theorem colU_length (l : List UInt8) (n j : Nat) : ∀ m, (colU l n j m).length = m
  | 0 => rfl
  | m + 1 => by rw [colU, List.length_append, colU_length l n j m]; rfl
theorem colsU_length (l : List UInt8) (n k : Nat) : ∀ m, (colsU l n k m).length = m * k
  | 0 => by simp [colsU]
  | m + 1 => by rw [colsU, List.length_append, colsU_length l n k m, colU_length, Nat.succ_mul]
theorem colU_get (l : List UInt8) (n j : Nat) : ∀ m i, i < m → (colU l n j m).getD i 0 = l.getD (i * n + j) 0
  | m + 1, i, h => by
    rw [colU, List.getD_eq_getElem?_getD]
    by_cases hi : i < m
    · rw [List.getElem?_append_left (by rw [colU_length]; exact hi), ← List.getD_eq_getElem?_getD, colU_get l n j m i hi]
    · obtain rfl : i = m := by omega
      rw [List.getElem?_append_right (by rw [colU_length]; omega), colU_length]; simp
theorem colsU_get (l : List UInt8) (n k : Nat) : ∀ m j i, j < m → i < k → (colsU l n k m).getD (j * k + i) 0 = l.getD (i * n + j) 0
  | m + 1, j, i, hj, hi => by
    rw [colsU, List.getD_eq_getElem?_getD]
    by_cases h : j < m
    · have hlt : j * k + i < m * k := by
        have h1 : (j + 1) * k ≤ m * k := Nat.mul_le_mul_right _ h
        rw [Nat.succ_mul] at h1; omega
      rw [List.getElem?_append_left (by rw [colsU_length]; exact hlt), ← List.getD_eq_getElem?_getD, colsU_get l n k m j i h hi]
    · obtain rfl : j = m := by omega
      rw [List.getElem?_append_right (by rw [colsU_length]; omega), colsU_length, show j * k + i - j * k = i by omega, ← List.getD_eq_getElem?_getD, colU_get l n j k i hi]
theorem shufL_length (l : List UInt8) {n : Nat} : (shufL l n).length = l.length := by
  unfold shufL
  rw [List.length_append, colsU_length, List.length_drop, Nat.mul_comm n]
  have := Nat.div_mul_le_self l.length n
  omega
theorem cell_lt {n k i j : Nat} (hi : i < k) (hj : j < n) : i * n + j < k * n := by
  have h1 : (i + 1) * n ≤ k * n := Nat.mul_le_mul_right _ hi
  rw [Nat.succ_mul] at h1; omega
theorem shufL_get (l : List UInt8) {n i j : Nat} (hi : i < l.length / n) (hj : j < n) : (shufL l n).getD (j * (l.length / n) + i) 0 = l.getD (i * n + j) 0 := by
  unfold shufL
  rw [List.getD_eq_getElem?_getD, List.getElem?_append_left (by rw [colsU_length]; exact cell_lt hj hi), ← List.getD_eq_getElem?_getD]
  exact colsU_get l n _ n j i hj hi
theorem shufL_rest (l : List UInt8) {n t : Nat} (h : l.length / n * n ≤ t) : (shufL l n).getD t 0 = l.getD t 0 := by
  unfold shufL
  rw [List.getD_eq_getElem?_getD, List.getElem?_append_right (by rw [colsU_length, Nat.mul_comm n]; exact h), colsU_length, List.getElem?_drop, Nat.mul_comm n, show l.length / n * n + (t - l.length / n * n) = t by omega, ← List.getD_eq_getElem?_getD]
theorem ext_getD {a b : List UInt8} (h : a.length = b.length) (hg : ∀ t, t < a.length → a.getD t 0 = b.getD t 0) : a = b := by
  refine List.ext_getElem h fun t h1 h2 => ?_
  have := hg t h1
  simpa [List.getD_eq_getElem?_getD, h1, h2] using this
theorem split_cell {n k t : Nat} (h : t < k * n) (hn : 0 < n) : ∃ i j, i < k ∧ j < n ∧ t = i * n + j :=
  ⟨t / n, t % n, (Nat.div_lt_iff_lt_mul hn).2 h, Nat.mod_lt _ hn, by rw [Nat.mul_comm]; exact (Nat.div_add_mod t n).symm⟩
end Go.Proofs.YtpnofkefcoaojaaGreatDoor
set_option maxHeartbeats 1600000
set_option maxRecDepth 100000
namespace Go.Proofs.YtpnofkefcoaojaaGreatDoor
open Go.RowKit
open Go.Lib
def nb (l : List UInt8) : Nat := l.foldl (fun x c => x * 256 + c.toNat) 0
theorem nb_snoc (l : List UInt8) (c : UInt8) : nb (l ++ [c]) = nb l * 256 + c.toNat := by unfold nb; rw [List.foldl_append]; rfl
theorem nb_fold (l : List UInt8) : ∀ x, l.foldl (fun x (c : UInt8) => x * 256 + c.toNat) x < (x + 1) * 256 ^ l.length := by
  induction l with
  | nil => intro x; simp
  | cons c l ih =>
    intro x
    have h := ih (x * 256 + c.toNat)
    have h2 := c.toNat_lt
    rw [List.foldl_cons, List.length_cons, Nat.pow_succ]
    refine Nat.lt_of_lt_of_le h ?_
    rw [Nat.mul_comm (256 ^ l.length) 256, ← Nat.mul_assoc]
    exact Nat.mul_le_mul_right _ (by omega)
theorem nb_lt (l : List UInt8) : nb l < 256 ^ l.length := by
  have := nb_fold l 0
  unfold nb; omega
theorem nb_lt8 {l : List UInt8} (h : l.length ≤ 8) : nb l < 18446744073709551616 :=
  Nat.lt_of_lt_of_le (nb_lt l) (Nat.le_trans (Nat.pow_le_pow_right (by omega) h) (by decide))
theorem shl_or {S d : Nat} (hS : S * 256 + 255 < 18446744073709551616) (hd : (d : Int) ≤ 255) : bits .or .u64 (IntKind.u64.wrap ((S : Int) * 256)) (d : Int) = ((S * 256 + d : Nat) : Int) := by
  have h1 : IntKind.u64.wrap ((S : Int) * 256) = ((S * 256 : Nat) : Int) := by rw [IntKind.wrap_u64]; omega
  rw [h1, u64_or_nat _ _ (by omega) (by omega), nat_join 8 (S * 256) d (by omega) (by omega)]
theorem nb_take {l : List UInt8} {k : Nat} (hk : k < l.length) (hl : l.length ≤ 8) : nb (l.take k) * 256 + 255 < 18446744073709551616 := by
  have h1 := nb_lt (l.take k)
  rw [List.length_take, Nat.min_eq_left (by omega)] at h1
  have h2 : 256 ^ k ≤ 256 ^ 7 := Nat.pow_le_pow_right (by omega) (by omega)
  have h3 : (256 : Nat) ^ 7 = 72057594037927936 := by decide
  omega
theorem bnumber_any (p : Option Addr) (c : Nat) (l : List UInt8) (w : World) (hn : l.length ≤ 8) (hb : Bs w p l) :
    Calls Tryz.prog 197 #[.slice p l.length c] w fun e w' => e = .returned (.int .u64 (nb l : Int)) ∧ w = w' := by
  have HB := Lib.hid hb
  clear hb
  obtain ⟨n, HN⟩ : ∃ n, Hid (n = l.length) := ⟨_, rfl⟩
  rw [← HN.out] at hn ⊢
  have hni : (n : Int) ≤ 8 := by omega
  go_enter Tryz.func197, Tryz.ntmps197
  go_wp2_with fail
  go_loop [3, 8] (fun s i => ∃ k S : Nat, k ≤ n ∧ i = .int .i64 k ∧ s = .int .u64 (S : Int) ∧ Hid (S = nb (l.take k))) (fun _ i => n - (intOf i).toNat)
  case atStart => exact ⟨0, 0, Nat.zero_le _, rfl, rfl, rfl⟩
  case round =>
    obtain ⟨k, S, hk, rfl, rfl, HS⟩ := hrel
    by_cases hlt : k < n
    · obtain ⟨b1, o1, d, rfl, hb1, hc1, hd, hd2⟩ := HB.out.at (k := k) (by rw [← HN.out]; exact hlt)
      go_wp2_with fail
      go_round
      case rel => exact ⟨k + 1, S * 256 + d, by omega, by go_num, by rw [shl_or (by rw [HS.out]; exact nb_take (by rw [← HN.out]; exact hlt) (by rw [← HN.out]; exact hn)) hd2], Lib.hid (by rw [HS.out, ← hd.out, snoc_take (by rw [← HN.out]; exact hlt), nb_snoc])⟩
      case measure => simp [intOf]; omega
    · obtain rfl : k = n := by omega
      go_wp2_with fail
      go_ret
      refine ⟨?_, rfl⟩
      show Ending.returned (.int .u64 (S : Int)) = _
      rw [HS.out, HN.out, List.take_length]
end Go.Proofs.YtpnofkefcoaojaaGreatDoor
namespace Go.Proofs.YtpnofkefcoaojaaGreatDoor
open Go.RowKit
open Go.Lib
theorem bs_sub {w : World} {b off n : Nat} {l : List UInt8} (h : Bs w (some ⟨b, off, none⟩) l) (k m : Nat) (hk : k + m ≤ l.length) (hn : n = off + k) : Bs w (some ⟨b, n, none⟩) ((l.drop k).take m) := by
  subst hn
  rcases h with h0 | ⟨b1, o1, h1, h2, h3⟩
  · exact .inl (by simp; omega)
  · cases h1
    refine .inr ⟨b, off + k, rfl, h2, fun j hj => ?_⟩
    have hj2 : j < m := by simp at hj; omega
    rw [Nat.add_assoc, h3 (k + j) (by omega)]
    simp [List.getD_eq_getElem?_getD, hj2]
theorem bs_tail {w : World} {b off n : Nat} {l : List UInt8} (h : Bs w (some ⟨b, off, none⟩) l) (k : Nat) (hk : k ≤ l.length) (hn : n = off + k) : Bs w (some ⟨b, n, none⟩) (l.drop k) := by
  have := bs_sub h k (l.length - k) (by omega) hn
  rwa [List.take_of_length_le (by simp)] at this
end Go.Proofs.YtpnofkefcoaojaaGreatDoor
set_option maxRecDepth 100000
namespace Go.Proofs.YtpnofkefcoaojaaGreatDoor
open Go.RowKit
open Go.Lib
def RowPost (L : List UInt8) (w : World) (e : Ending) (w' : World) : Prop := Below w.heap.size w w' ∧ ∃ v, e = .returned (.tuple #[v, .int .i64 0]) ∧ w'.ownsRow w.heap.size 5 1 v L.length (ubs L)
theorem size_bad (n : Int) (w : World) (h : n < 1 ∨ 8 < n) : Calls Tryz.prog 84 #[.int .i64 n] w fun e w' => e = .returned (.bool false) ∧ w = w' := by
  by_cases h1 : n < 1
  · have h1' : decide (1 ≤ n) = false := by simp; omega
    clear h
    go_enter Tryz.func84, Tryz.ntmps84
    go_wp2_with fail
    go_ret
    exact ⟨rfl, rfl⟩
  · have h2 : decide (n ≤ 8) = false := by simp; omega
    clear h
    go_enter Tryz.func84, Tryz.ntmps84
    go_wp2_with fail
    go_ret
    exact ⟨rfl, rfl⟩
theorem size_ok (n : Nat) (w : World) (h1 : 1 ≤ n) (h2 : n ≤ 8) : Calls Tryz.prog 84 #[.int .i64 (n : Int)] w fun e w' => e = .returned (.bool true) ∧ w = w' := by
  have h1' : decide (1 ≤ (n : Int)) = true := by simp; omega
  have h2' : decide ((n : Int) ≤ 8) = true := by simp; omega
  clear h1 h2
  go_enter Tryz.func84, Tryz.ntmps84
  go_wp2_with fail
  go_ret
  exact ⟨rfl, rfl⟩
theorem check_ok (p : Option Addr) (k c n : Nat) (w : World) (h1 : 1 ≤ n) (h2 : n ≤ 8) (hk : k ≤ 20000) : Calls Tryz.prog 147 #[.slice p k c, .int .i64 (n : Int)] w fun e w' => e = .returned (.int .i64 0) ∧ w = w' := by
  have H := Lib.hid (size_ok n w h1 h2)
  have hk' : (k : Int) ≤ 20000 := by omega
  clear h1 h2 hk
  go_enter Tryz.func147, Tryz.ntmps147
  go_wp2_with fail
  refine (H.out).mono ?_
  rintro e w' ⟨rfl, rfl⟩
  go_wp2_with fail
  go_ret
  exact ⟨rfl, rfl⟩
end Go.Proofs.YtpnofkefcoaojaaGreatDoor
