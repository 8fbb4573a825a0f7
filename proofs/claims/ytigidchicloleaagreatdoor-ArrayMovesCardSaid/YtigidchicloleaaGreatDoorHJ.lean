/- The program's Paste, where it is good. -/
import Derived.Test.YtigidchicloleaaGreatDoorHN
import Derived.Test.YtigidchicloleaaGreatDoorII
import Derived.Test.YtigidchicloleaaGreatDoorIA
import Derived.Test.YtigidchicloleaaGreatDoorIB
namespace Go.Proofs.YtigidchicloleaaGreatDoor.Arr
open Go.RowKit Go.Shelf
open Go.Lib
attribute [local go_sem] Oper.semAt_some
attribute [local go_sem] run_store_func
def pasF (pos : Nat → Nat) (bl : List (List UInt8)) (pre : List (Nat × Nat)) (l : List (List UInt8)) : List (List UInt8) := pre.foldl (fun L y => L.set (pos y.1) (bl.getD y.1 [])) l
structure PI (W3 : World) (B R n m : Nat) (qv : Option Addr) (dv : Nat) (pos : Nat → Nat) (bl l : List (List UInt8)) (pre : List (Nat × Nat)) (W : World) : Prop where
  so : W.os = W3.os
  st : W.tape = W3.tape
  sp : W.output = W3.output
  size : W3.heap.size ≤ W.heap.size
  blk : ∀ k, k < W3.heap.size → k ≠ R → (Value.slice qv m dv).ownBlock ≠ some k → W.heap[k]? = W3.heap[k]?
  row : ∃ r0 : List Nat, r0.length = n ∧ W.heap[R]? = some (.cells (ixC r0) 3 (0, 0))
  vals : W.ownsRow B 9 1 (.slice qv m dv) m (strs (pasF pos bl pre l))
theorem PI.above {W3 X Y : World} {B R n m : Nat} {qv : Option Addr} {dv : Nat} {pos : Nat → Nat} {bl l : List (List UInt8)} {pre : List (Nat × Nat)} {r : Option Nat} (h : PI W3 B R n m qv dv pos bl l pre X) (hg : X.grownBy Y r) (hr : ∀ k, r = some k → W3.heap.size ≤ k) (hR : R < W3.heap.size) (hV : ∀ k, (Value.slice qv m dv).ownBlock = some k → k < W3.heap.size) : PI W3 B R n m qv dv pos bl l pre Y := by
  obtain ⟨r0, h1, h2⟩ := h.row
  refine ⟨hg.os.trans h.so, hg.tape.trans h.st, hg.output.trans h.sp, Nat.le_trans h.size hg.size, fun k hk h3 h4 => (hg.block k (Nat.lt_of_lt_of_le hk h.size) (by intro e; have := hr k e.symm; omega)).trans (h.blk k hk h3 h4), ⟨r0, h1, (hg.block R (Array.getElem?_eq_some_iff.1 h2).1 (by intro e; have := hr R e.symm; omega)).trans h2⟩, ?_⟩
  refine h.vals.kept hg ?_
  rcases Option.eq_none_or_eq_some (Value.slice qv m dv).ownBlock with e | ⟨k, e⟩
  · exact .inl e
  · refine .inr ?_
    rw [e]; intro e2
    have := hr k e2.symm
    have := hV k e
    omega
end Go.Proofs.YtigidchicloleaaGreatDoor.Arr
namespace Go.Proofs.YtigidchicloleaaGreatDoor.Arr
open Go.RowKit Go.Shelf
open Go.Lib
theorem texts_eq {a b : List (List UInt8)} (h : a.length = b.length) (hk : ∀ k, k < a.length → a.getD k [] = b.getD k []) : a = b := by
  refine List.ext_getElem h (fun k h1 h2 => ?_)
  have := hk k h1
  rwa [List.getD_eq_getElem?_getD, List.getElem?_eq_getElem h1, List.getD_eq_getElem?_getD, List.getElem?_eq_getElem h2] at this
end Go.Proofs.YtigidchicloleaaGreatDoor.Arr
namespace Go.Proofs.YtigidchicloleaaGreatDoor.Arr
open Go.RowKit Go.Shelf
open Go.Lib
theorem sprV_len (s t axes : List Nat) (l : List (List UInt8)) : (sprV s t axes l).length = prod t := by rw [sprV, List.length_map, List.length_range]
theorem sprV_at {s t axes : List Nat} {l : List (List UInt8)} {i : Nat} (hi : i < prod t) : (sprV s t axes l).getD i [] = l.getD (plc s (pk (ixOf t i) axes) 0) [] := by
  unfold sprV
  rw [List.getD_eq_getElem?_getD, List.getElem?_map, List.getElem?_range hi]; rfl
theorem pk_is {t i ax : List Nat} (h : IsIx t i) (hb : ∀ x ∈ ax, x < t.length) : IsIx (pk t ax) (pk i ax) := by
  refine ⟨by rw [pk_len, pk_len], fun k hk => ?_⟩
  rw [pk_len] at hk
  rw [pk_at hk, pk_at hk]
  exact h.2 _ (hb _ (by rw [List.getD_eq_getElem?_getD, List.getElem?_eq_getElem hk]; exact List.getElem_mem _))
theorem spr_back {s ax : List Nat} {l : List (List UInt8)} (hnd : ax.Nodup) (hb : ∀ x ∈ ax, x < ax.length) (hs : s.length = ax.length) (hl : l.length = prod s) : sprV (pk s ax) s ax (sprV s (pk s ax) (inv ax) l) = l := by
  refine texts_eq (by rw [sprV_len, hl]) (fun k hk => ?_)
  rw [sprV_len] at hk
  obtain ⟨hi1, hi2⟩ := ixOf_is s k hk
  have h1 : IsIx (pk s ax) (pk (ixOf s k) ax) := pk_is hi1 (by rw [hs]; exact hb)
  have h2 : plc (pk s ax) (pk (ixOf s k) ax) 0 < prod (pk s ax) := by
    have := (plc_lt _ _ 0 h1).1
    omega
  rw [sprV_at hk, sprV_at h2, ixOf_plc _ _ h1, pk_inv hnd hb (by rw [ixOf_len]; exact hs), hi2]
theorem spr_all {s t axes : List Nat} {l : List (List UInt8)} (h : l.all isV = true) : (sprV s t axes l).all isV = true := by
  rw [List.all_eq_true]
  intro x hx
  unfold sprV at hx
  obtain ⟨i, -, rfl⟩ := List.mem_map.1 hx
  rw [List.getD_eq_getElem?_getD]
  cases he : l[plc s (pk (ixOf t i) axes) 0]? with
  | none => rfl
  | some x => exact List.all_eq_true.1 h x (List.mem_of_getElem? he)
theorem mvR_len {s axes : List Int} {l : List (List UInt8)} : (mvR s axes l).2.1.length ≤ 1000 ∧ (mvR s axes l).2.2.length ≤ 5000 := by
  unfold mvR
  by_cases hv : validA s l = false
  · rw [if_pos hv]; exact ⟨by simp, by simp⟩
  rw [if_neg hv]
  by_cases hu : axOk axes s.length s.length = false
  · rw [if_pos hu]; exact ⟨by simp, by simp⟩
  rw [if_neg hu]
  have hv2 : validA s l = true := by simpa using hv
  have hvs : vs s = true := by unfold validA at hv2; rw [Bool.and_eq_true] at hv2; exact hv2.1
  obtain ⟨s0, rfl, hsh⟩ := vs_yes hvs
  obtain ⟨ax, rfl, hal, hab, hnd⟩ := axOk_nat (by simpa using hu)
  have hab2 : ∀ x ∈ ax, x < ax.length := by rw [hal]; exact hab
  rw [toNat_map, toNat_map]
  have h5 := hsh.1
  have h6 := hsh.2.2
  refine ⟨by show (pk s0 ax).length ≤ 1000; rw [pk_len]; omega, ?_⟩
  show (sprV s0 (pk s0 ax) (inv ax) l).length ≤ 5000
  rw [sprV_len, prod_pk hnd hab2 hal.symm]; omega
theorem sprR_len {s t axes : List Int} {l : List (List UInt8)} : (sprR s t axes l).2.1.length ≤ 1000 ∧ (sprR s t axes l).2.2.length ≤ 5000 := by
  unfold sprR
  by_cases hv : validA s l = false
  · rw [if_pos hv]; exact ⟨by simp, by simp⟩
  rw [if_neg hv]
  by_cases ht : vs t = false
  · rw [if_pos ht]; exact ⟨by simp, by simp⟩
  rw [if_neg ht]
  by_cases hu : axOk axes s.length t.length = false
  · rw [if_pos hu]; exact ⟨by simp, by simp⟩
  rw [if_neg hu]
  by_cases hp : pk (t.map Int.toNat) (axes.map Int.toNat) ≠ s.map Int.toNat
  · rw [if_pos hp]; exact ⟨by simp, by simp⟩
  rw [if_neg hp]
  obtain ⟨t0, rfl, hsh⟩ := vs_yes (by simpa using ht : vs t = true)
  rw [toNat_map]
  have h5 := hsh.1
  have h6 := hsh.2.2
  refine ⟨by show t0.length ≤ 1000; omega, ?_⟩
  show (sprV _ t0 _ l).length ≤ 5000
  rw [sprV_len]; omega
theorem mv_zero {s axes : List Int} {l : List (List UInt8)} (h : (mvR s axes l).1 = 0) : ∃ s0 ax : List Nat, s = s0.map Int.ofNat ∧ axes = ax.map Int.ofNat ∧ Shp s0 ∧ s0.length = ax.length ∧ (∀ x ∈ ax, x < ax.length) ∧ ax.Nodup ∧ l.length = prod s0 ∧ validA s l = true ∧ mvR s axes l = (0, pk s0 ax, sprV s0 (pk s0 ax) (inv ax) l) := by
  unfold mvR at h ⊢
  by_cases hv : validA s l = false
  · rw [if_pos hv] at h; cases h
  rw [if_neg hv] at h ⊢
  by_cases hu : axOk axes s.length s.length = false
  · rw [if_pos hu] at h; cases h
  rw [if_neg hu]
  have hv2 : validA s l = true := by simpa using hv
  have hv3 := hv2
  unfold validA at hv3
  rw [Bool.and_eq_true, Bool.and_eq_true, decide_eq_true_eq] at hv3
  obtain ⟨s0, rfl, hsh⟩ := vs_yes hv3.1
  obtain ⟨ax, rfl, hal, hab, hnd⟩ := axOk_nat (by simpa using hu)
  have h3 := hv3.2.1
  rw [toNat_map] at h3
  rw [toNat_map, toNat_map]
  exact ⟨s0, ax, rfl, rfl, hsh, hal.symm, by rw [hal]; exact hab, hnd, h3, hv2, rfl⟩
theorem mv_back {s0 ax : List Nat} {l : List (List UInt8)} (hsh : Shp s0) (hs : s0.length = ax.length) (hb : ∀ x ∈ ax, x < ax.length) (hnd : ax.Nodup) (hl : l.length = prod s0) (hv : validA (s0.map Int.ofNat) l = true) :
    mvR ((pk s0 ax).map Int.ofNat) ((inv ax).map Int.ofNat) (sprV s0 (pk s0 ax) (inv ax) l) = (0, s0, l) := by
  have hp := prod_pk hnd hb hs
  have h1 : Shp (pk s0 ax) := ⟨by rw [pk_len, ← hs]; exact hsh.1, pk_le (by rw [hs]; exact hb) hsh.2.1, by rw [hp]; exact hsh.2.2⟩
  have h2 : validA ((pk s0 ax).map Int.ofNat) (sprV s0 (pk s0 ax) (inv ax) l) = true := by
    unfold validA at hv ⊢
    simp only [Bool.and_eq_true, decide_eq_true_eq] at hv ⊢
    exact ⟨vs_of_shp h1, by rw [toNat_map, sprV_len], spr_all hv.2.2⟩
  have h3 : axOk ((inv ax).map Int.ofNat) ((pk s0 ax).map Int.ofNat).length ((pk s0 ax).map Int.ofNat).length = true := by
    rw [List.length_map, pk_len]
    exact axOk_of (inv_len ax) (inv_lt hnd hb) (inv_nodup hnd hb)
  unfold mvR
  rw [if_neg (by rw [h2]; simp), if_neg (by rw [h3]; simp), toNat_map, toNat_map, pk_inv hnd hb hs, inv_inv hnd hb, spr_back hnd hb hs hl]
end Go.Proofs.YtigidchicloleaaGreatDoor.Arr
namespace Go.Proofs.YtigidchicloleaaGreatDoor.Arr
open Go.RowKit Go.Shelf
open Go.Lib
attribute [local go_sem] Oper.semAt_some
structure RO (B0 A n m c d : Nat) (p q : Option Addr) (s : List Nat) (l : List (List UInt8)) (v : List UInt8) (W : World) : Prop where
  box : W.heap[A]? = some (.cells #[.slice p n c, .slice q m d] 25 (0, 0))
  bv : W.heap[A + 1]? = some (.cells #[.string ⟨List.toArray v⟩] 9 (0, 0))
  sh : RdN W p s
  vals : RdS W q l
  lt : A + 1 < B0
  pb : ∀ b off, p = some ⟨b, off, none⟩ → 0 < s.length → b < B0
  qb : ∀ b off, q = some ⟨b, off, none⟩ → 0 < l.length → b < B0
theorem RO.above {B0 A n m c d : Nat} {p q : Option Addr} {s : List Nat} {l : List (List UInt8)} {v : List UInt8} {W W' : World} {r : Option Nat} (h : RO B0 A n m c d p q s l v W) (hg : W.grownBy W' r) (hr : ∀ k, r = some k → B0 ≤ k) : RO B0 A n m c d p q s l v W' := by
  have hk : ∀ b, b < W.heap.size → b < B0 → W'.heap[b]? = W.heap[b]? := fun b h1 h2 => hg.block b h1 (by intro e; have := hr b e.symm; omega)
  have hl := h.lt
  refine ⟨(hk A (Array.getElem?_eq_some_iff.1 h.box).1 (by omega)).trans h.box, (hk (A + 1) (Array.getElem?_eq_some_iff.1 h.bv).1 hl).trans h.bv, h.sh.keep hg.size (fun b off e h0 => ?_), h.vals.keep hg.size (fun b off e h0 => ?_), hl, h.pb, h.qb⟩
  · obtain ⟨b', off', x, e', hb', -⟩ := h.sh.at h0
    rw [e] at e'; cases e'
    exact hk b hb' (h.pb b off e h0)
  · obtain ⟨b', off', x, e', hb', -⟩ := h.vals.at h0
    rw [e] at e'; cases e'
    exact hk b hb' (h.qb b off e h0)
end Go.Proofs.YtigidchicloleaaGreatDoor.Arr
namespace Go.Proofs.YtigidchicloleaaGreatDoor.Arr
open Go.RowKit Go.Shelf
open Go.Lib
attribute [local go_sem] Oper.semAt_some
structure Vz (w W0 : World) (A : Nat) (p q : Option Addr) (n c m d : Nat) (W : World) : Prop where
  below : Below w.heap.size w W
  more : Below W0.heap.size W0 W
  c0 : W.cell? ⟨A, 0, none⟩ = some (.slice p n c)
  c1 : W.cell? ⟨A, 1, none⟩ = some (.slice q m d)
end Go.Proofs.YtigidchicloleaaGreatDoor.Arr
