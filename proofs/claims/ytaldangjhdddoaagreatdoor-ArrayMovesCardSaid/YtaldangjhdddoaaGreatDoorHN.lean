/- A slab of a slab is a slab. -/
import Derived.Test.YtaldangjhdddoaaGreatDoorQA
import Derived.Test.YtaldangjhdddoaaGreatDoorIA
import Derived.Test.YtaldangjhdddoaaGreatDoorIB
import Derived.Deep.RegionHeld3
namespace Go.Proofs.YtaldangjhdddoaaGreatDoor.Arr
open Go.RowKit Go.Shelf
open Go.Lib
theorem vs_of_shp {s : List Nat} (hs : Shp s) : vs (s.map Int.ofNat) = true := by
  unfold vs
  rw [decide_eq_true (show (s.map Int.ofNat).length ≤ 4 by rw [List.length_map]; exact hs.1), decide_eq_true (show prod ((s.map Int.ofNat).map Int.toNat) ≤ 4096 by rw [toNat_map]; exact hs.2.2), decide_eq_true]
  · rfl
  · intro z hz
    obtain ⟨x, hx, rfl⟩ := List.mem_map.1 hz
    have := hs.2.1 x hx
    exact ⟨by show (0 : Int) ≤ (x : Int); omega, by show (x : Int) ≤ 1024; omega⟩
end Go.Proofs.YtaldangjhdddoaaGreatDoor.Arr
namespace Go.Proofs.YtaldangjhdddoaaGreatDoor.Arr
open Go.RowKit Go.Shelf
open Go.Lib
attribute [local go_sem] Oper.semAt_some
theorem op_append_1s {w : World} {o : Oper} {a : Act} {K : Act → World → Prop} {Q : Exit → Act → World → Prop} (s x : Operand)
    (ho : o.op = .call { callee := .builtin .append, args := #[s, x], argTypes := #[23, 23] })
    (B : Nat) (pv : Option Addr) (cv n : Nat) (X : List (List UInt8)) (hs : a.eval s = .slice pv n cv) (hown : w.ownsRow B 9 1 (.slice pv n cv) n (strs X))
    (g : Nat) (y : List UInt8) (hx : a.eval x = .slice (some ⟨g, 0, none⟩) 1 1) (hc : w.cell? ⟨g, 0, none⟩ = some (.string ⟨List.toArray y⟩)) (hlen : n ≤ 100000) (hB : B ≤ w.heap.size)
    (h : ∀ gv cv' w', w'.ownsRow B 9 1 (.slice (some ⟨gv, 0, none⟩) (n + 1) cv') (n + 1) (strs (X ++ [y])) → w.grownBy w' (Value.slice pv n cv).ownBlock → K (a.put o.dst (.slice (some ⟨gv, 0, none⟩) (n + 1) cv')) w') : o.wp Tryz.prog a w K Q := by
  obtain ⟨i0, hi, hz0, hz1, hz2⟩ := info_parts info9
  obtain ⟨v', w', hr, h2, h3, h4, h5⟩ := run_append_own_at (P := Tryz.prog) w B 23 o.type 9 i0 (.string ⟨#[]⟩) 1 16 Tryz.underlying23 hi hz0 hz1 hz2 rfl (by decide) (.slice pv n cv) n (strs X) hown ⟨g, 0, none⟩ 1 1 [.string ⟨List.toArray y⟩] rfl (fun j u hj => by
    cases j with
    | zero => simp at hj; subst hj; exact hc
    | succ j => simp at hj) (fun u hu => by obtain rfl := List.mem_singleton.1 hu; rfl) (by unfold maxLen; omega) (by omega) hB
  obtain ⟨gv, cv', rfl⟩ : ∃ g c, v' = .slice (some ⟨g, 0, none⟩) (n + 1) c := by
    obtain ⟨-, ⟨-, e⟩ | ⟨g, cap, _, e, -⟩⟩ := id h2
    · omega
    · exact ⟨g, cap, e⟩
  unfold Oper.wp execOp
  simp only [ho, resolve, invoke, builtin, Sem.run_bind, Sem.run_pure, Result.andThen_ok, List.map_toArray, List.map_cons, List.map_nil, hs, hx, hr]
  refine h gv cv' w' ?_ h3
  rw [strs, List.map_append]
  exact h2
theorem OutI.of_set {W5 W : World} {G : Nat} {c0 u : Value} {l : List (List UInt8)} (h : OutI W5 G c0 l (W.setCell ⟨G, 1, none⟩ u)) : W5.grownBy W (some G) :=
  ⟨h.old.os, h.old.tape, h.old.output, Nat.le_trans h.old.size (Nat.le_of_eq (by simp)), fun k hk hne => by
    have := h.old.block k hk hne
    rwa [Below.heap_setCell _ _ _ _ (by intro e; exact hne (congrArg some e))] at this⟩
theorem OutI.box0 {W5 W : World} {G : Nat} {c0 : Value} {l : List (List UInt8)} (h : OutI W5 G c0 l W) : W.cell? ⟨G, 0, none⟩ = some c0 := by
  obtain ⟨pv, cv, h1, -⟩ := h.row
  simp [World.cell?, h1]
end Go.Proofs.YtaldangjhdddoaaGreatDoor.Arr
set_option maxRecDepth 100000
namespace Go.Proofs.YtaldangjhdddoaaGreatDoor.Arr
open Go.RowKit Go.Shelf
open Go.Lib
attribute [local go_sem] Oper.semAt_some
theorem samesh_any (p q : Option Addr) (c d n m : Nat) (s1 s2 : List Int) (w : World) (h1 : Hid (s1.length = n)) (h2 : Hid (s2.length = m)) (hn : n ≤ 1000) (hm : m ≤ 1000) (hp : Rd w p s1) (hq : Rd w q s2) :
    Calls Tryz.prog 68 #[.slice p n c, .slice q m d] w fun e w' => Below w.heap.size w w' ∧ e = .returned (.bool (decide (s1 = s2))) := by
  have H37 : Hid (Calls Tryz.prog 37 #[.agg #[.slice p n c, .slice none 0 0], .agg #[.slice q m d, .slice none 0 0]] w fun e w' => Below w.heap.size w w' ∧ e = .returned (.bool (decide (s1 = s2)))) := Lib.hid (by
    have := same_any p none q none c 0 d 0 n 0 m 0 s1 s2 [] [] w h1 (Lib.hid rfl) h2 (Lib.hid rfl) hn (by omega) hm (by omega) hp (.inl rfl) hq (.inl rfl)
    simpa using this)
  clear hp hq
  go_enter Tryz.func68, Tryz.ntmps68
  go_wp2_with fail
  refine (H37.out).mono ?_
  rintro e w1 ⟨hb, rfl⟩
  have HB := Lib.hid hb
  clear hb
  go_wp2_with fail
  go_ret
  exact ⟨HB.out, rfl⟩
end Go.Proofs.YtaldangjhdddoaaGreatDoor.Arr
