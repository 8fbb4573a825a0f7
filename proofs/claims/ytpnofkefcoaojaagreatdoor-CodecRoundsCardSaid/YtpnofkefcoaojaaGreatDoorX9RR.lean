/- Lists of texts that grow. -/
import Derived.Test.YtpnofkefcoaojaaGreatDoorV01
import Derived.Maps.AppendAt
import Derived.Test.YtpnofkefcoaojaaGreatDoorYB
import Derived.Deep.RegionHeld3
import Derived.Deep.RegionWith
namespace Go.Proofs.YtpnofkefcoaojaaGreatDoor
open Go.RowKit
open Go.Lib
def strs (l : List (List UInt8)) : List Value := l.map (fun x => Value.string ⟨List.toArray x⟩)
theorem wpList_append_1s {w : World} {ops : Array Oper} {rest : List Oper} {o : Oper} {a : Act} {Q : Exit → Act → World → Prop} (hgd : o.guard = none) (s x : Operand)
    (ho : o.op = .call { callee := .builtin .append, args := #[s, x], argTypes := #[30, 30] })
    (B : Nat) (pv : Option Addr) (cv n : Nat) (X : List (List UInt8)) (hs : a.eval s = .slice pv n cv) (hown : w.ownsRow B 9 1 (.slice pv n cv) n (strs X))
    (g : Nat) (y : List UInt8) (hx : a.eval x = .slice (some ⟨g, 0, none⟩) 1 1) (hc : w.cell? ⟨g, 0, none⟩ = some (.string ⟨List.toArray y⟩)) (hlen : n ≤ 100000) (hB : B ≤ w.heap.size)
    (h : ∀ gv cv' w', w'.ownsRow B 9 1 (.slice (some ⟨gv, 0, none⟩) (n + 1) cv') (n + 1) (strs (X ++ [y])) → w.grownBy w' (Value.slice pv n cv).ownBlock → wpList Tryz.prog ops Q rest (a.put o.dst (.slice (some ⟨gv, 0, none⟩) (n + 1) cv')) w') : wpList Tryz.prog ops Q (o :: rest) a w := by
  obtain ⟨i0, hi, hz0, hz1, hz2⟩ := info_parts infoS9
  refine wpList_append_own_at _ hgd s x 30 ho B 9 i0 (.string ⟨#[]⟩) 1 16 Tryz.underlying30 hi hz0 hz1 hz2 rfl (by decide) _ _ _ hs hown ⟨g, 0, none⟩ 1 1 [.string ⟨List.toArray y⟩] hx rfl ?_ ?_ (by unfold maxLen; omega) (by omega) hB ?_
  · intro j u hj
    cases j with
    | zero => simp at hj; subst hj; exact hc
    | succ j => simp at hj
  · intro u hu
    obtain rfl := List.mem_singleton.1 hu
    rfl
  · intro v' w' h1 h2 _ _
    obtain ⟨gv, cv', rfl⟩ : ∃ g c, v' = .slice (some ⟨g, 0, none⟩) (n + 1) c := by
      obtain ⟨-, ⟨-, e⟩ | ⟨g, cap, _, e, -⟩⟩ := id h1
      · omega
      · exact ⟨g, cap, e⟩
    refine h gv cv' w' ?_ h2
    rw [strs, List.map_append]
    exact h1
theorem strs_reads {W : World} {B n cv : Nat} {pv : Option Addr} {X : List (List UInt8)} (h : W.ownsRow B 9 1 (.slice pv n cv) n (strs X)) (hx : X.length = n) : Ss W pv X := by
  obtain ⟨-, ⟨e, e2⟩ | ⟨g, cap, cur, e, hg, hh, -⟩⟩ := id h
  · exact .inl (by omega)
  · injection e with e _ e3
    subst e
    refine .inr ⟨g, 0, rfl, (Array.getElem?_eq_some_iff.1 hh).1, fun j hj => ?_⟩
    rw [Nat.zero_add, h.cellAt j (by omega)]
    unfold strs
    rw [List.getElem?_map, List.getD_eq_getElem?_getD, List.getElem?_eq_getElem hj]; rfl
theorem below_own9 {w U w9 : World} {pv : Option Addr} {cv n : Nat} {vals : List Value} (hb : Below w.heap.size w U) (ho : U.ownsRow w.heap.size 9 1 (.slice pv n cv) n vals) (hg : U.grownBy w9 (Value.slice pv n cv).ownBlock) : Below w.heap.size w w9 :=
  hb.grown hg hb.size (fun k e => by
    obtain ⟨-, ⟨hv, -⟩ | ⟨g, cap, cur, hv, hg, -⟩⟩ := ho
    · rw [hv] at e; cases e
    · rw [hv] at e; cases e; exact hg)
end Go.Proofs.YtpnofkefcoaojaaGreatDoor
namespace Go.Proofs.YtpnofkefcoaojaaGreatDoor
open Go.RowKit Go.Lib Big
end Go.Proofs.YtpnofkefcoaojaaGreatDoor
namespace Go.Proofs.YtpnofkefcoaojaaGreatDoor
open Go.RowKit Go.Lib Big
end Go.Proofs.YtpnofkefcoaojaaGreatDoor
namespace Go.Proofs.YtpnofkefcoaojaaGreatDoor
open Go.RowKit Go.Lib Big
end Go.Proofs.YtpnofkefcoaojaaGreatDoor
namespace Go.Proofs.YtpnofkefcoaojaaGreatDoor
open Go.RowKit Go.Lib Big
end Go.Proofs.YtpnofkefcoaojaaGreatDoor
namespace Go.Proofs.YtpnofkefcoaojaaGreatDoor
open Go.RowKit Go.Lib Big
end Go.Proofs.YtpnofkefcoaojaaGreatDoor
namespace Go.Proofs.YtpnofkefcoaojaaGreatDoor
open Go.RowKit Go.Lib Big
end Go.Proofs.YtpnofkefcoaojaaGreatDoor
namespace Go.Proofs.YtpnofkefcoaojaaGreatDoor
open Go.RowKit Go.Lib Big
end Go.Proofs.YtpnofkefcoaojaaGreatDoor
namespace Go.Proofs.YtpnofkefcoaojaaGreatDoor
open Go.RowKit Go.Lib Big
end Go.Proofs.YtpnofkefcoaojaaGreatDoor
namespace Go.Proofs.YtpnofkefcoaojaaGreatDoor
open Go.Lib Big
/-! Digits -/
end Go.Proofs.YtpnofkefcoaojaaGreatDoor
namespace Go.Proofs.YtpnofkefcoaojaaGreatDoor
open Go.Lib Big
/-! Compare -/
theorem cmpT_some {x y : List UInt8} {a b : Rat} (hx : num x = some a) (hy : num y = some b) : cmpT x y = (sgnR (a - b), true) := by unfold cmpT; rw [hx, hy]
end Go.Proofs.YtpnofkefcoaojaaGreatDoor
namespace Go.Proofs.YtpnofkefcoaojaaGreatDoor
open Go.Lib Big
end Go.Proofs.YtpnofkefcoaojaaGreatDoor
set_option maxHeartbeats 3200000
set_option maxRecDepth 100000
namespace Go.Proofs.YtpnofkefcoaojaaGreatDoor
open Go.RowKit Big
theorem quot_parts (a b : Rat) : ratv (decide (a.num < 0) != decide (b.num < 0)) (a.num.natAbs * b.den) (a.den * b.num.natAbs) = a / b := by
  by_cases h : b.num.natAbs = 0
  · have hb : b = 0 := Rat.num_eq_zero.1 (by omega)
    rw [h, Nat.mul_zero, ratv_den0, hb]; grind
  · rw [ratv_quo a.den_pos b.den_pos (by omega), ratv_self, ratv_self]
theorem quot_any (x y : Value) (a b : Rat) (K L : Nat) (w : World) (hK : K + L ≤ 900000) (hab : QLt K a) (hbb : QLt L b) (hx : QAt w x a) (hy : QAt w y b) : Calls Tryz.prog 83 #[x, y] w (QPost (a / b) w) := by
  have hdx0 : Hid (∀ W, Below w.heap.size w W → Calls Tryz.prog 71 #[x] W (Some9 a.den W)) := hiD fun W hW => den_any x a W (hx.below hW)
  have hdy0 : Hid (∀ W, Below w.heap.size w W → Calls Tryz.prog 71 #[y] W (Some9 b.den W)) := hiD fun W hW => den_any y b W (hy.below hW)
  obtain ⟨u1, v1, rfl, hu1, hv1⟩ := hx
  obtain ⟨u2, v2, rfl, hu2, hv2⟩ := hy
  obtain ⟨s, hs⟩ : ∃ s, Hid (s = decide (a.num < 0)) := ⟨_, hiD rfl⟩
  obtain ⟨t, ht⟩ : ∃ t, Hid (t = decide (b.num < 0)) := ⟨_, hiD rfl⟩
  rw [← hs.out] at hdx0 ⊢
  rw [← ht.out] at hdy0 ⊢
  have hdx := hdx0
  have hdy := hdy0
  clear hdx0 hdy0
  obtain ⟨sb, hsb⟩ : ∃ sb, Hid (sb = decide ((a / b).num < 0)) := ⟨_, hiD rfl⟩
  have hm1 : Hid (∀ W p q, Nat9 W p a.num.natAbs → Nat9 W q b.den → Calls Tryz.prog 70 #[p, q] W (Post9 (a.num.natAbs * b.den) W)) := hiD fun W p q h1 h2 => natMul_nat _ _ _ _ K L W (by unfold most; omega) (by unfold most; omega) hab.1 hbb.2 h1 h2
  have hm2 : Hid (∀ W p q, Nat9 W p a.den → Nat9 W q b.num.natAbs → Calls Tryz.prog 70 #[p, q] W (Post9 (a.den * b.num.natAbs) W)) := hiD fun W p q h1 h2 => natMul_nat _ _ _ _ K L W (by unfold most; omega) (by unfold most; omega) hab.2 hbb.1 h1 h2
  have hmk : Hid (∀ W f p q, f = (s != t) → Nat9 W p (a.num.natAbs * b.den) → Nat9 W q (a.den * b.num.natAbs) → Calls Tryz.prog 65 #[.bool f, p, q] W (QPostB (a / b) sb W)) := hiD fun W f p q hf h1 h2 => by
    have h := make_any f p q _ _ (K + L) W hK (pow9_mul hab.1 hbb.2) (pow9_mul hab.2 hbb.1) h1 h2
    have he : ratv f (a.num.natAbs * b.den) (a.den * b.num.natAbs) = a / b := by rw [hf, hs.out, ht.out]; exact quot_parts a b
    rw [he] at h
    exact h.mono fun e w' h => h.b hsb.out
  have htwo := Twa.start w s u1 v1 t u2 v2
  have Htwo := hiD htwo
  obtain ⟨-, c0, c1, c2, c3, c4, c5⟩ := htwo.all
  clear htwo hv1 hv2 hab hbb
  go_enter Tryz.func83, Tryz.ntmps83
  go_wp2_with fail
  go_region_held3 (fun w' => Twa w.heap.size s u1 v1 t u2 v2 w w' ∧ w'.cell? ⟨w.heap.size, 0, none⟩ = some (.bool s) ∧ w'.cell? ⟨w.heap.size, 1, none⟩ = some u1 ∧ w'.cell? ⟨w.heap.size, 2, none⟩ = some v1 ∧ w'.cell? ⟨w.heap.size + 1, 0, none⟩ = some (.bool t) ∧ w'.cell? ⟨w.heap.size + 1, 1, none⟩ = some u2 ∧ w'.cell? ⟨w.heap.size + 1, 2, none⟩ = some v2)
    (first | exact Twa.all (Twa.drew Htwo.out) | exact Twa.all Htwo.out | (go_split_ands; exact Twa.all (Twa.next (by assumption) hb1)) | (go_split_ands; exact Twa.all (Twa.next (by assumption) hb2)) | (go_split_ands; exact Twa.all (Twa.next (by assumption) hb3)) | (go_split_ands; exact Twa.all (Twa.next (by assumption) hb4)) | (go_split_ands; exact Twa.all (Twa.next (by assumption) hb5)) | (go_split_ands; exact Twa.all (Twa.put3 (by assumption) (Nat.le_refl _) _ _ _ _ _ _ _)) | go_keep)
    (first | (go_at_call_of 71 (Value.agg #[Value.bool t, u2, v2]); go_split_ands; refine (hdy.out _ (Twa.below (by assumption))).mono ?_; rintro e w1 ⟨py, ny, cy, rfl, hvy, hb1⟩) | (go_at_call_of 70 (u1); go_split_ands; refine (hm1.out _ _ _ (hu1.below (Twa.below (by assumption))) hvy).mono ?_; rintro e w2 ⟨vt, rfl, hvt, hb2, -⟩; obtain ⟨pt, nt, ct, rfl⟩ := hvt.slice) | (go_at_call_of 71 (Value.agg #[Value.bool s, u1, v1]); go_split_ands; refine (hdx.out _ (Twa.below (by assumption))).mono ?_; rintro e w3 ⟨px, nx, cx, rfl, hvx, hb3⟩) | (go_at_call_of 70 (Value.slice px nx cx); go_split_ands; refine (hm2.out _ _ _ hvx (hu2.below (Twa.below (by assumption)))).mono ?_; rintro e w4 ⟨vb, rfl, hvb, hb4, -⟩; obtain ⟨pb, nb, cb, rfl⟩ := hvb.slice) | (go_at_call 65; go_split_ands; refine (hmk.out _ _ _ _ rfl ((hvt.below hb3).below hb4) hvb).mono ?_; rintro e w5 ⟨pr, nr, cr, pq, nq, cq, rfl, hr1, hr2, hb5⟩; have htw := Twa.next (by assumption) hb5; obtain ⟨z0, z1, z2, k0, k1, k2, f0, f1, f2⟩ := Twa.slots htw))
  go_wp2_with fail
  have hfin := hiD (htw.fin (Nat.le_refl _) hsb.out hr1 hr2)
  refine bodyPost_ret (v := .agg #[.bool sb, .slice pr nr cr, .slice pq nq cq]) (by simp [results, Tryz.results83, go_sem, k0, k1, k2]) rfl ?_
  exact hfin.out
end Go.Proofs.YtpnofkefcoaojaaGreatDoor
set_option maxHeartbeats 3200000
set_option maxRecDepth 100000
namespace Go.Proofs.YtpnofkefcoaojaaGreatDoor
open Go.RowKit Big
open Go.Lib
theorem put_any (x : Value) (q : Rat) (K : Nat) (w : World) (hK : K ≤ 900000) (hq : QLt K q) (hx : QAt w x q) : Calls Tryz.prog 82 #[x] w fun e w' => e = .returned (.string ⟨(txt q).toArray⟩) ∧ Below w.heap.size w w' := by
  have htx := hiD (fun W (hW : Below w.heap.size w W) => text_q x q K W hK hq (hx.below hW))
  obtain ⟨p, n, c, p2, n2, c2, rfl, -, -⟩ := hx.slices
  obtain ⟨s, hs⟩ : ∃ s, Hid (s = decide (q.num < 0)) := ⟨_, hiD rfl⟩
  rw [← hs.out] at htx ⊢
  obtain ⟨y, hy⟩ : ∃ y : ByteArray, Hid (y = ⟨(txt q).toArray⟩) := ⟨_, hiD rfl⟩
  obtain ⟨f, hf⟩ : ∃ f, Hid (f = !(txt q).isEmpty) := ⟨_, hiD rfl⟩
  unfold TextPost9 at htx
  rw [← hy.out, ← hf.out] at htx
  rw [← hy.out]
  clear hx hq
  go_enter Tryz.func82, Tryz.ntmps82
  go_wp2_with fail
  refine (htx.out _ (below_alloc9 _ _)).mono ?_
  rintro e w1 ⟨rfl, hb1⟩
  have Hb1 := hiD ((below_alloc9 w _).trans (hb1.mono (below_alloc9 w _).size))
  clear hb1
  go_wp2_with fail
  go_ret
  exact ⟨rfl, Hb1.out⟩
end Go.Proofs.YtpnofkefcoaojaaGreatDoor
