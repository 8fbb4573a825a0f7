/- Plain arithmetic: one digit of a quotient, by a guess from the highest digits that is then lowered. -/
import Derived.Test.YtpnofkefcoaojaaGreatDoorKA
import Derived.Test.YtpnofkefcoaojaaGreatDoorV01
import Derived.Deep.QuietTactic
import Derived.BigQuiet
import Derived.Laws.BitsAllLaws
import Derived.Deep.LoopGhost
import Derived.Deep.RegionHeld3
import Derived.Deep.RegionWith
set_option maxHeartbeats 1600000
set_option maxRecDepth 100000
namespace Go.Proofs.YtpnofkefcoaojaaGreatDoor
open Go.RowKit Big
end Go.Proofs.YtpnofkefcoaojaaGreatDoor
namespace Go.Proofs.YtpnofkefcoaojaaGreatDoor
open Go.RowKit Big
theorem no_borrow {B n s c a b : Nat} (h : s + b = a + B ^ n * c) (hs : s < B ^ n) (hle : b ≤ a) : s = a - b := by
  have h2 : c = 0 := by
    apply Nat.eq_zero_of_not_pos; intro hc
    have : B ^ n * 1 ≤ B ^ n * c := Nat.mul_le_mul_left _ hc
    omega
  subst h2; omega
theorem minus_any0 (p : Option Addr) (n c : Nat) (x : List Nat) (q : Option Addr) (m d : Nat) (y : List Nat) (w : World) (hn0 : n ≤ most) (hmn : m ≤ n) (hx : Rd w p n x) (hy : Rd w q m y) (dx : Dig B64 x) (dy : Dig B64 y) (hle : val B64 y ≤ val B64 x) :
    Calls Tryz.prog 139 #[.slice p n c, .slice q m d] w (NatPost (val B64 x - val B64 y) w) := by
  obtain ⟨i0, hi, hz0, hz1, hz2⟩ := info_parts info79
  have hn : (n : Int) ≤ 4294967296 := by unfold most at hn0; omega
  go_enter Tryz.func139, Tryz.ntmps139
  go_wp2_with (at_make; refine wpList_make_full _ rfl _ _ 96 rfl w.heap.size 86 i0 (.int .u64 0) 1 Tryz.underlying96 hi hz0 hz1 _ _ _ _ (n) rfl rfl (by omega) (by omega) ?b2 ?b3 (Nat.le_refl _) ?_)
  case b2 => rw [hz2]; unfold most at hn0; omega
  case b3 => unfold maxLen; unfold most at hn0; omega
  intro w1 hown hgrow
  have hr1 : Row w1 w.heap.size 86 (List.replicate (n) 0) := row_of_made hown
  have hb1 : Below w.heap.size w w1 := (Below.refl _ _).grown hgrow (Nat.le_refl _) (fun k h => by cases h)
  have hx1 := hx.below hb1
  clear hown hgrow
  go_wp2_with (refine wpList_copy_splice (o := ⟨some 11, _, _, _, _, _⟩) rfl (.tmp 9) (.tmp 10) 96 96 rfl 86 Tryz.underlying96 (by kernel_rfl) _ _ _ _ _ _ rfl rfl w.heap.size 0 (u64s (List.replicate (n) 0)) 86 hr1 (u64s x) ?c1 ?c2 ?c3 (u64s_one x) w.heap.size w hb1 (Nat.le_refl _) ?_)
  case c1 => rw [u64s_length, hx.len]; exact (Nat.min_eq_left (by omega)).symm
  case c2 => exact fun h => hx1.cells h
  case c3 => rw [u64s_length, u64s_length, hx.len, List.length_replicate]; omega
  intro w2 hr2 hb2
  have hr : Row w2 w.heap.size 86 (x ++ List.replicate (n - n) 0) := by
    have := hr2.out
    rw [u64s_splice _ x _ _ rfl, splice_head x (n) (by rw [hx.len]; omega), hx.len] at this
    exact this
  have hlen : (x ++ List.replicate (n - n) 0).length = n := by rw [List.length_append, List.length_replicate, hx.len]; omega
  have hdig : Dig B64 (x ++ List.replicate (n - n) 0) := dx.append (Dig.zeros B64_pos _)
  have hval : val B64 (x ++ List.replicate (n - n) 0) = val B64 x := by rw [val_append, val_zeros]; omega
  obtain ⟨L, hL⟩ : ∃ L, Hid (L = x ++ List.replicate (n - n) 0) := ⟨_, hiD rfl⟩
  rw [← hL.out] at hr hlen hdig hval
  have Hlen := hiD hlen
  have Hval := hiD hval
  have hq : m = 0 ∨ ∀ b o, q = some ⟨b, o, none⟩ → b ≠ w.heap.size := by
    rcases hy.cell with h | ⟨b, o, h1, h2, _⟩
    · exact .inl h
    · refine .inr fun b' o' h => ?_
      rw [h1] at h; cases h; omega
  have hsegL : seg L 0 (n) = L := seg_all L (n) hlen.symm
  have hsegd : Dig B64 (seg L 0 (n)) := by rw [hsegL]; exact hdig
  have HsegL := hiD hsegL
  clear hr2 hlen hval hsegL
  have hbn : n ≤ maxLen := by unfold maxLen; omega
  go_wp2_with fail
  refine (subtractFrom_any w.heap.size 0 (n) (n) 86 L q m d y _ hbn (by rw [Hlen.out]; omega) (by omega) hr (hy.below hb2) hq hsegd dy).mono ?_
  rintro e w3 ⟨L', cy, hput, hd', hc1, hv', rfl, ho, hr'⟩
  have hl' : L'.length = n := by rw [hput.length]; exact Hlen.out
  rw [HsegL.out, Hval.out, seg_all L' (n) hl'.symm] at hv'
  rw [seg_all L' (n) hl'.symm] at hd'
  have hlx := val_lt (seg L' 0 n) (by rw [seg_all L' n hl'.symm]; exact hd')
  rw [seg_all L' n hl'.symm, hl'] at hlx
  have hs := no_borrow hv' hlx hle
  have hb3 := Only.below hb2 ho (Nat.le_refl _)
  have ht := trimmed_nat (some ⟨w.heap.size, 0, none⟩) (n) (n) L' w w3 hbn (Nat.le_refl _) (hr'.rd0 (n) hl'.symm) hd' hb3
  rw [hs] at ht
  have Ht := hiD ht
  clear ht hs hv' hl' hlx
  go_wp2_with fail
  refine Ht.out.mono ?_
  rintro e w4 ⟨v, rfl, hv⟩
  go_wp2_with fail
  go_ret
  exact ⟨v, rfl, hv⟩
end Go.Proofs.YtpnofkefcoaojaaGreatDoor
namespace Go.Proofs.YtpnofkefcoaojaaGreatDoor
open Go.RowKit Big
/-! ## The same for numbers in memory -/
theorem minus_nat (u v : Value) (a b K : Nat) (w : World) (hK : K ≤ most) (ha : a < B64 ^ K) (hle : b ≤ a) (hu : NatAt w u a) (hv : NatAt w v b) : Calls Tryz.prog 139 #[u, v] w (NatPost (a - b) w) := by
  obtain ⟨p, n, c, x, rfl, h1, h2, h3, h4⟩ := hu
  obtain ⟨q, m, d, y, rfl, g1, g2, g3, g4⟩ := hv
  have hn := pow_most h3 h4 ha h2
  have hm : m ≤ n := by
    have := Canon.length_le g3 h3.1 (by rw [h4, g4]; exact hle)
    rw [h2.len, g2.len] at this; exact this
  subst h4 g4
  exact minus_any0 p n c x q m d y w (by omega) hm h2 g2 h3.1 g3.1 hle
end Go.Proofs.YtpnofkefcoaojaaGreatDoor
namespace Big
end Big
namespace Go.Proofs.YtpnofkefcoaojaaGreatDoor
open Go.RowKit Big
end Go.Proofs.YtpnofkefcoaojaaGreatDoor
set_option maxHeartbeats 3200000
set_option maxRecDepth 100000
namespace Go.Proofs.YtpnofkefcoaojaaGreatDoor
open Go.RowKit Big
end Go.Proofs.YtpnofkefcoaojaaGreatDoor
namespace Go.Proofs.YtpnofkefcoaojaaGreatDoor
open Go.RowKit Big
variable {B : Nat} {s : Bool} {u1 v1 : Value} {t : Bool} {u2 v2 : Value} {w0 W W' : World}
theorem quo_any (x y : Value) (s t : Bool) (a b c d K : Nat) (w : World) (hK : K ≤ 1073741824) (ha : a < B64 ^ K) (hb : b < B64 ^ K) (hc : c < B64 ^ K) (hd : d < B64 ^ K) (hx : RatAt w x s a b) (hy : RatAt w y t c d) :
    Calls Tryz.prog 79 #[x, y] w (RatPost (s != t) (a * d) (b * c) w) := by
  obtain ⟨u1, v1, rfl, hu1, hv1, hs1⟩ := hx
  obtain ⟨u2, v2, rfl, hu2, hv2, hs2⟩ := hy
  have hm1 : Hid (∀ W, Below w.heap.size w W → Calls Tryz.prog 133 #[u1, v2] W (NatPost (a * d) W)) := hiD fun W h => times_nat _ _ _ _ K W (by omega) ha hd (hu1.below h) (hv2.below h)
  have hm2 : Hid (∀ W, Below w.heap.size w W → Calls Tryz.prog 133 #[v1, u2] W (NatPost (b * c) W)) := hiD fun W h => times_nat _ _ _ _ K W (by omega) hb hc (hv1.below h) (hu2.below h)
  have htwo := Two.start w s u1 v1 t u2 v2
  have Htwo := hiD htwo
  obtain ⟨-, c0, c1, c2, c3, c4, c5⟩ := htwo.all
  clear htwo
  clear hu1 hv1 hu2 hv2 hs1 hs2
  go_enter Tryz.func79, Tryz.ntmps79
  go_wp2_with fail
  go_region_held3 (fun w' => Two w.heap.size s u1 v1 t u2 v2 w w' ∧ w'.cell? ⟨w.heap.size, 0, none⟩ = some (.bool s) ∧ w'.cell? ⟨w.heap.size, 1, none⟩ = some u1 ∧ w'.cell? ⟨w.heap.size, 2, none⟩ = some v1 ∧
      w'.cell? ⟨w.heap.size + 1, 0, none⟩ = some (.bool t) ∧ w'.cell? ⟨w.heap.size + 1, 1, none⟩ = some u2 ∧ w'.cell? ⟨w.heap.size + 1, 2, none⟩ = some v2)
    (first | exact Two.all (Two.drew Htwo.out) | exact Two.all Htwo.out | (go_split_ands; exact Two.all (Two.next (by assumption) hb1)) | (go_split_ands; exact Two.all (Two.next (by assumption) hb2)) | (go_split_ands; exact Two.all (Two.next (by assumption) hb3)) | (go_split_ands; exact Two.all (Two.put3 (by assumption) (Nat.le_refl _) _ _ _ _ _ _ _)) | go_keep)
    (first | (go_at_call_of 133 u1; go_split_ands; refine (hm1.out _ (Two.below (by assumption))).mono ?_; rintro e w1 ⟨vt, rfl, hvt, hb1⟩; obtain ⟨pt, nt, ct, rfl⟩ := hvt.slice) | (go_at_call_of 133 v1; go_split_ands; refine (hm2.out _ (Two.below (by assumption))).mono ?_; rintro e w2 ⟨vb, rfl, hvb, hb2⟩; obtain ⟨pb, nb, cb, rfl⟩ := hvb.slice) | (go_at_call 132; go_split_ands; refine (signed_nat _ _ _ _ _ _ (NatAt.below (by assumption) (by assumption)) (by assumption)).mono ?_; rintro e w3 ⟨rfl, hb3⟩; have htw := Two.next (by assumption) hb3; obtain ⟨z0, z1, z2, k0, k1, k2, f0, f1, f2⟩ := Two.slots htw))
  go_wp2_with fail
  have q1 := htw.nat3 (Nat.le_refl _) ((hvt.below hb2).below hb3) ((s != t) && !(a * d == 0)) pt pb nt ct nb cb
  have q2 := htw.nat3 (Nat.le_refl _) (hvb.below hb3) ((s != t) && !(a * d == 0)) pt pb nt ct nb cb
  have q3 := (htw.put3 (Nat.le_refl _) ((s != t) && !(a * d == 0)) pt pb nt ct nb cb).below
  have hfin : Hid (∀ W, W = (((w3.setCell ⟨w.heap.size + 1 + 1, 0, none⟩ (.bool ((s != t) && !(a * d == 0)))).setCell ⟨w.heap.size + 1 + 1, 1, none⟩ (.slice pt nt ct)).setCell ⟨w.heap.size + 1 + 1, 2, none⟩ (.slice pb nb cb)) → RatPost (s != t) (a * d) (b * c) w (.returned (.agg #[.bool ((s != t) && !(a * d == 0)), .slice pt nt ct, .slice pb nb cb])) W) := hiD (by
    rintro W rfl
    exact ⟨_, rfl, ⟨_, _, rfl, q1, q2, by intro h; simp at h; omega⟩, q3⟩)
  refine bodyPost_ret (v := .agg #[.bool (!(s == t) && !(a * d == 0)), .slice pt nt ct, .slice pb nb cb]) (by simp [results, Tryz.results79, go_sem, k0, k1, k2]) rfl ?_
  exact hfin.out _ rfl
end Go.Proofs.YtpnofkefcoaojaaGreatDoor
namespace Go.Proofs.YtpnofkefcoaojaaGreatDoor
open Go.RowKit Big
theorem mul_any (x y : Value) (s t : Bool) (a b c d K : Nat) (w : World) (hK : K ≤ 1073741824) (ha : a < B64 ^ K) (hb : b < B64 ^ K) (hc : c < B64 ^ K) (hd : d < B64 ^ K) (hx : RatAt w x s a b) (hy : RatAt w y t c d) :
    Calls Tryz.prog 91 #[x, y] w (RatPost (s != t) (a * c) (b * d) w) := by
  obtain ⟨u1, v1, rfl, hu1, hv1, hs1⟩ := hx
  obtain ⟨u2, v2, rfl, hu2, hv2, hs2⟩ := hy
  have hm1 : Hid (∀ W, Below w.heap.size w W → Calls Tryz.prog 133 #[u1, u2] W (NatPost (a * c) W)) := hiD fun W h => times_nat _ _ _ _ K W (by omega) ha hc (hu1.below h) (hu2.below h)
  have hm2 : Hid (∀ W, Below w.heap.size w W → Calls Tryz.prog 133 #[v1, v2] W (NatPost (b * d) W)) := hiD fun W h => times_nat _ _ _ _ K W (by omega) hb hd (hv1.below h) (hv2.below h)
  have htwo := Two.start w s u1 v1 t u2 v2
  have Htwo := hiD htwo
  obtain ⟨-, c0, c1, c2, c3, c4, c5⟩ := htwo.all
  clear htwo
  clear hu1 hv1 hu2 hv2 hs1 hs2
  go_enter Tryz.func91, Tryz.ntmps91
  go_wp2_with fail
  go_region_held3 (fun w' => Two w.heap.size s u1 v1 t u2 v2 w w' ∧ w'.cell? ⟨w.heap.size, 0, none⟩ = some (.bool s) ∧ w'.cell? ⟨w.heap.size, 1, none⟩ = some u1 ∧ w'.cell? ⟨w.heap.size, 2, none⟩ = some v1 ∧
      w'.cell? ⟨w.heap.size + 1, 0, none⟩ = some (.bool t) ∧ w'.cell? ⟨w.heap.size + 1, 1, none⟩ = some u2 ∧ w'.cell? ⟨w.heap.size + 1, 2, none⟩ = some v2)
    (first | exact Two.all (Two.drew Htwo.out) | exact Two.all Htwo.out | (go_split_ands; exact Two.all (Two.next (by assumption) hb1)) | (go_split_ands; exact Two.all (Two.next (by assumption) hb2)) | (go_split_ands; exact Two.all (Two.next (by assumption) hb3)) | (go_split_ands; exact Two.all (Two.put3 (by assumption) (Nat.le_refl _) _ _ _ _ _ _ _)) | go_keep)
    (first | (go_at_call_of 133 u1; go_split_ands; refine (hm1.out _ (Two.below (by assumption))).mono ?_; rintro e w1 ⟨vt, rfl, hvt, hb1⟩; obtain ⟨pt, nt, ct, rfl⟩ := hvt.slice) | (go_at_call_of 133 v1; go_split_ands; refine (hm2.out _ (Two.below (by assumption))).mono ?_; rintro e w2 ⟨vb, rfl, hvb, hb2⟩; obtain ⟨pb, nb, cb, rfl⟩ := hvb.slice) | (go_at_call 132; go_split_ands; refine (signed_nat _ _ _ _ _ _ (NatAt.below (by assumption) (by assumption)) (by assumption)).mono ?_; rintro e w3 ⟨rfl, hb3⟩; have htw := Two.next (by assumption) hb3; obtain ⟨z0, z1, z2, k0, k1, k2, f0, f1, f2⟩ := Two.slots htw))
  go_wp2_with fail
  have q1 := htw.nat3 (Nat.le_refl _) ((hvt.below hb2).below hb3) ((s != t) && !(a * c == 0)) pt pb nt ct nb cb
  have q2 := htw.nat3 (Nat.le_refl _) (hvb.below hb3) ((s != t) && !(a * c == 0)) pt pb nt ct nb cb
  have q3 := (htw.put3 (Nat.le_refl _) ((s != t) && !(a * c == 0)) pt pb nt ct nb cb).below
  have hfin : Hid (∀ W, W = (((w3.setCell ⟨w.heap.size + 1 + 1, 0, none⟩ (.bool ((s != t) && !(a * c == 0)))).setCell ⟨w.heap.size + 1 + 1, 1, none⟩ (.slice pt nt ct)).setCell ⟨w.heap.size + 1 + 1, 2, none⟩ (.slice pb nb cb)) → RatPost (s != t) (a * c) (b * d) w (.returned (.agg #[.bool ((s != t) && !(a * c == 0)), .slice pt nt ct, .slice pb nb cb])) W) := hiD (by
    rintro W rfl
    exact ⟨_, rfl, ⟨_, _, rfl, q1, q2, by intro h; simp at h; omega⟩, q3⟩)
  refine bodyPost_ret (v := .agg #[.bool (!(s == t) && !(a * c == 0)), .slice pt nt ct, .slice pb nb cb]) (by simp [results, Tryz.results91, go_sem, k0, k1, k2]) rfl ?_
  exact hfin.out _ rfl
end Go.Proofs.YtpnofkefcoaojaaGreatDoor
namespace Big
theorem ratv_mul {s t : Bool} {a b c d : Nat} (hb : 0 < b) (hd : 0 < d) : ratv (s != t) (a * c) (b * d) = ratv s a b * ratv t c d := by
  have h1 := natCast_ne hb
  have h2 := natCast_ne hd
  unfold ratv
  rw [Rat.natCast_mul, Rat.natCast_mul]
  cases s <;> cases t <;> simp <;> grind
theorem ratv_quo {s t : Bool} {a b c d : Nat} (hb : 0 < b) (hd : 0 < d) (hc : 0 < c) : ratv (s != t) (a * d) (b * c) = ratv s a b / ratv t c d := by
  have h1 := natCast_ne hb
  have h2 := natCast_ne hd
  have h3 := natCast_ne hc
  unfold ratv
  rw [Rat.natCast_mul, Rat.natCast_mul]
  cases s <;> cases t <;> simp <;> grind
end Big
