/- The program's build: its walk; a list's clone. -/
import Derived.Test.YtaldangjhdddoaaGreatDoorGJ
import Derived.Maps.AppendAt
namespace Go.Proofs.YtaldangjhdddoaaGreatDoor.Arr
open Go.RowKit Go.Shelf
open Go.Lib
attribute [local go_sem] Oper.semAt_some
theorem ixC_list (l : List Nat) : (ixC l).toList = l.map (fun x => Value.int .i64 ((x : Nat) : Int)) := rfl
theorem own_ge' {w : World} {B n k e size : Nat} {v : Value} {xs : List Value} (h : w.ownsRow B e size v n xs) (hk : v.ownBlock = some k) : B ≤ k := by
  obtain ⟨-, ⟨rfl, -⟩ | ⟨g, cap, cur, rfl, hg, -⟩⟩ := h
  · cases hk
  · cases hk; exact hg
/-- What a clone of a list of naturals leaves. -/
def ClonePost (n : Nat) (s : List Nat) (w : World) (e : Ending) (w' : World) : Prop := Below w.heap.size w w' ∧ ∃ q d, e = .returned (.slice q n d) ∧ RdN w' q s ∧ n ≤ d ∧ (q = none → d = 0) ∧ ∀ b off, q = some ⟨b, off, none⟩ → w.heap.size ≤ b
theorem rdn_own {w : World} {B n : Nat} {v : Value} {s : List Nat} (hs : s.length = n) (hb : ∀ x ∈ s, x ≤ 1024) (h : w.ownsRow B 3 1 v n (s.map (fun x => Value.int .i64 ((x : Nat) : Int)))) : ∃ q d, v = .slice q n d ∧ RdN w q s ∧ n ≤ d ∧ (q = none → d = 0) ∧ ∀ b off, q = some ⟨b, off, none⟩ → B ≤ b := by
  have hwf : ∀ z ∈ s.map Int.ofNat, -9223372036854775808 ≤ z ∧ z ≤ 9223372036854775807 := fun z hz => by
    obtain ⟨x, hx, rfl⟩ := List.mem_map.1 hz
    have := hb x hx
    exact ⟨by have := Int.natCast_nonneg x; show _ ≤ ((x : Nat) : Int); omega, by show ((x : Nat) : Int) ≤ _; omega⟩
  have ho := h
  obtain ⟨h1, ⟨rfl, h3⟩ | ⟨g, cap, cur, rfl, hg, hh, hn, hm, hz, hc⟩⟩ := h
  · exact ⟨none, 0, by rw [h3], ⟨hwf, .inl (by rw [List.length_map, hs]; exact h3)⟩, by omega, fun _ => rfl, fun b off e => by cases e⟩
  · refine ⟨_, cap, rfl, ⟨hwf, .inr ⟨g, 0, rfl, (Array.getElem?_eq_some_iff.1 hh).1, fun j hj => ?_⟩⟩, hn, (fun e => by cases e), fun b off e => by cases e; exact hg⟩
    rw [List.length_map] at hj
    have := ho.cellAt j (by omega)
    rw [Nat.zero_add, this, List.getElem?_map, List.getElem?_eq_getElem hj, List.getD_eq_getElem?_getD, List.getElem?_map, List.getElem?_eq_getElem hj]
    rfl
set_option maxRecDepth 100000 in
set_option maxHeartbeats 1600000 in
theorem clone_some (b0 off n c : Nat) (s : List Nat) (w : World) (hs : Hid (s.length = n)) (hn : n ≤ 4) (hb : Hid (∀ x ∈ s, x ≤ 1024)) (h : RdN w (some ⟨b0, off, none⟩) s) :
    Calls Tryz.prog 72 #[.slice (some ⟨b0, off, none⟩) n c] w (ClonePost n s w) := by
  have H := Lib.hid h
  obtain ⟨i0, hi, hz0, hz1, hz2⟩ := info_parts info3
  have heq : ∀ W : World, (binOp .eql 22 (.slice (some ⟨b0, off, none⟩) n c) (.slice none 0 0)).run Tryz.prog W = .ok (.bool false) W := fun W => by kernel_rfl
  have HBa : Hid (Below w.heap.size w (w.alloc (.cells #[] 3))) := Lib.hid ((Below.refl _ w).alloc (Nat.le_refl _) _)
  have hown : Hid ((w.alloc (.cells #[] 3)).ownsRow w.heap.size 3 1 (.slice (some ⟨w.heap.size, 0, none⟩) 0 0) 0 []) := Lib.hid ⟨rfl, .inr ⟨w.heap.size, 0, #[], rfl, Nat.le_refl _, World.alloc_heap_new w _, Nat.le_refl _, Nat.zero_le _, rfl, rfl⟩⟩
  have hnew : Hid (∀ j u, (s.map (fun x => Value.int .i64 ((x : Nat) : Int)))[j]? = some u → (w.alloc (.cells #[] 3)).cell? ((⟨b0, off, none⟩ : Addr).add j) = some u) := Lib.hid (fun j u hj => by
    have hjl : j < s.length := by
      have := (List.getElem?_eq_some_iff.1 hj).1
      rwa [List.length_map] at this
    obtain ⟨b1, o1, x, e1, -, hc, hx⟩ := (H.out.below HBa.out).at hjl
    cases e1
    rw [List.getElem?_map, List.getElem?_eq_getElem hjl] at hj
    obtain rfl : Value.int .i64 ((s[j] : Nat) : Int) = u := by simpa using hj
    have ex : x = s[j] := by rw [hx.out, List.getD_eq_getElem?_getD, List.getElem?_eq_getElem hjl]; rfl
    rw [← ex]
    have ea : (⟨b0, off, none⟩ : Addr).add j = ⟨b0, off + j, none⟩ := by
      unfold Addr.add; split <;> simp_all
    rw [ea]; exact hc)
  have hone : Hid (∀ u ∈ s.map (fun x => Value.int .i64 ((x : Nat) : Int)), u.oneCell' = true) := Lib.hid (fun u hu => by
    obtain ⟨x, _, rfl⟩ := List.mem_map.1 hu
    rfl)
  have hlen : Hid ((s.map (fun x => Value.int .i64 ((x : Nat) : Int))).length = n * 1) := Lib.hid (by rw [List.length_map, hs.out, Nat.mul_one])
  have hsz : Hid (w.heap.size ≤ (w.alloc (.cells #[] 3)).heap.size) := Lib.hid (by simp)
  clear h
  go_enter Tryz.func72, Tryz.ntmps72
  go_wp2_with (at_builtin; refine wpList_append_own_at _ rfl (.tmp 5) (.tmp 6) 22 rfl w.heap.size 3 i0 (.int .i64 0) 1 8 Tryz.underlying22 hi hz0 hz1 hz2 rfl (by decide) _ _ _ rfl hown.out ⟨b0, off, none⟩ n c (s.map (fun x => Value.int .i64 ((x : Nat) : Int))) rfl hlen.out hnew.out hone.out (by unfold maxLen; omega) (by omega) hsz.out ?_)
  intro v5 w5 hown5 hg5 _ _
  obtain ⟨q, d, rfl, hq1, hq2, hq3, hq4⟩ := rdn_own (s := s) (n := 0 + n) (by rw [hs.out, Nat.zero_add]) hb.out (by simpa using hown5)
  have hfin : Hid (ClonePost n s w (.returned (.slice q n d)) w5) := Lib.hid ⟨HBa.out.trans ((Below.refl _ _).grown hg5 hsz.out (fun k e => own_ge' hown.out e)), q, d, rfl, hq1, by omega, hq3, hq4⟩
  clear hown5 hg5 hq1 hq2 hq3 hq4
  simp only [Nat.zero_add]
  go_wp2_with fail
  go_ret
  exact hfin.out
set_option maxRecDepth 100000 in
theorem clone_nil (c : Nat) (w : World) : Calls Tryz.prog 72 #[.slice none 0 c] w (ClonePost 0 [] w) := by
  have heq : ∀ W : World, (binOp .eql 22 (.slice none 0 c) (.slice none 0 0)).run Tryz.prog W = .ok (.bool true) W := fun W => by kernel_rfl
  go_enter Tryz.func72, Tryz.ntmps72
  go_wp2_with fail
  go_ret
  exact ⟨Below.refl _ _, none, 0, rfl, ⟨(fun z hz => by cases hz), .inl rfl⟩, Nat.le_refl _, (fun _ => rfl), (fun b off e => by cases e)⟩
theorem clone_any (p : Option Addr) (n c : Nat) (s : List Nat) (w : World) (hs : Hid (s.length = n)) (hn : n ≤ 4) (hb : Hid (∀ x ∈ s, x ≤ 1024)) (hpa : ∀ a, p = some a → a.spot = none) (h : RdN w p s) : Calls Tryz.prog 72 #[.slice p n c] w (ClonePost n s w) := by
  cases p with
  | none =>
    have h0 : s = [] := by
      rcases h.cell with h0 | ⟨b, off, h1, _⟩
      · exact List.eq_nil_of_length_eq_zero (by simpa using h0)
      · cases h1
    subst h0
    obtain rfl : n = 0 := by rw [← hs.out]; rfl
    exact clone_nil c w
  | some a =>
    obtain ⟨b, off, sp⟩ := a
    obtain rfl : sp = none := hpa _ rfl
    exact clone_some b off n c s w hs hn hb h
end Go.Proofs.YtaldangjhdddoaaGreatDoor.Arr
