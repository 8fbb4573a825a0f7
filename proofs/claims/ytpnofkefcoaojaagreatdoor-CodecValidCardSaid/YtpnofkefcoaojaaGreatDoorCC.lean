/- Slices of bytes; the program's checksum. -/
import Derived.Test.YtpnofkefcoaojaaGreatDoorProg
import Derived.WalkKit
import Derived.WalkSpells
import Derived.WalkLawsBesides
import Derived.Lib.Hide
import Derived.Laws.BitsAllLaws
import Derived.Lib.OwnBridge
import Derived.OwnWalk
import Derived.Below
import Derived.Maps.AppendAt
namespace Go.Proofs.YtpnofkefcoaojaaGreatDoor
open Go.RowKit
def Bs (w : World) (p : Option Addr) (l : List UInt8) : Prop := l.length = 0 ∨ ∃ b off, p = some ⟨b, off, none⟩ ∧ b < w.heap.size ∧ ∀ j, j < l.length → w.cell? ⟨b, off + j, none⟩ = some (.int .u8 (((l.getD j 0).toNat : Nat) : Int))
theorem Bs.nil (w : World) (p : Option Addr) : Bs w p [] := .inl rfl
theorem Bs.below {w w' : World} {p : Option Addr} {l : List UInt8} (h : Bs w p l) (hb : Below w.heap.size w w') : Bs w' p l := by
  rcases h with h0 | ⟨b, off, hp, hlt, hc⟩
  · exact .inl h0
  · exact .inr ⟨b, off, hp, Nat.lt_of_lt_of_le hlt hb.size, fun j hj => (hb.cell (p := ⟨b, off + j, none⟩) hlt).trans (hc j hj)⟩
theorem Bs.at {w : World} {p : Option Addr} {l : List UInt8} (h : Bs w p l) {k : Nat} (hk : k < l.length) : ∃ (b off d : Nat), p = some ⟨b, off, none⟩ ∧ b < w.heap.size ∧ w.cell? ⟨b, off + k, none⟩ = some (.int .u8 (d : Int)) ∧ Hid ((l.getD k 0).toNat = d) ∧ (d : Int) ≤ 255 := by
  rcases h with h0 | ⟨b, off, h1, h2, h3⟩
  · omega
  · exact ⟨b, off, _, h1, h2, h3 k hk, rfl, by have := (l.getD k 0).toNat_lt; omega⟩
end Go.Proofs.YtpnofkefcoaojaaGreatDoor
namespace Go.Proofs.YtpnofkefcoaojaaGreatDoor
open Go.RowKit
open Go.Lib
theorem infoB5 : (Tryz.prog.info? 5).map (fun i => (i.zero, i.size, i.bytes)) = some (some (.int .u8 0), 1, 1) := by kernel_rfl
def ubs (l : List UInt8) : List Value := l.map fun b => Value.int .u8 (b.toNat : Int)
theorem u8s_length (l : List UInt8) : (ubs l).length = l.length := by simp [ubs]
theorem u8s_at {l : List UInt8} {j : Nat} {v : Value} (h : (ubs l)[j]? = some v) : j < l.length ∧ v = .int .u8 (((l.getD j 0).toNat : Nat) : Int) := by
  have hj : j < l.length := by have := (List.getElem?_eq_some_iff.1 h).1; rwa [u8s_length] at this
  refine ⟨hj, ?_⟩
  rw [ubs, List.getElem?_map, List.getElem?_eq_getElem hj] at h
  rw [List.getD_eq_getElem?_getD, List.getElem?_eq_getElem hj]
  exact (Option.some.inj h).symm
theorem Bs.news {w w' : World} {p : Option Addr} {l : List UInt8} (h : Bs w p l) (hb : Below w.heap.size w w') : ∀ ad, p = some ad → ∀ j v, (ubs l)[j]? = some v → w'.cell? (ad.add j) = some v := by
  intro ad hp j v hv
  obtain ⟨hj, rfl⟩ := u8s_at hv
  rcases h.below hb with h0 | ⟨b, off, h1, h2, h3⟩
  · omega
  · rw [hp] at h1; cases h1
    have hc := h3 j hj
    cases j <;> simpa [Addr.add] using hc
theorem Bs.some {w : World} {p : Option Addr} {l : List UInt8} (h : Bs w p l) (hl : 0 < l.length) : ∃ ad, p = some ad := by
  rcases h with h0 | ⟨b, off, h1, h2, h3⟩
  · omega
  · exact ⟨_, h1⟩
theorem own_set {w : World} {B : Nat} {v : Value} {l : List UInt8} (h : w.ownsRow B 5 1 v l.length (ubs l)) (hl : 0 < l.length) : ∃ g cap, v = .slice (some ⟨g, 0, none⟩) l.length cap ∧ l.length ≤ cap ∧ B ≤ g ∧ g < w.heap.size ∧
    (∀ j, j < l.length → w.cell? ⟨g, j, none⟩ = some (.int .u8 (((l.getD j 0).toNat : Nat) : Int))) ∧ (∀ j, w.frozen? ⟨g, j, none⟩ = false) ∧ ∀ k (y : UInt8), k < l.length → (w.setCell ⟨g, k, none⟩ (.int .u8 (y.toNat : Int))).ownsRow B 5 1 v l.length (ubs (l.set k y)) := by
  obtain ⟨h1, ⟨rfl, h3⟩ | ⟨g, cap, cur, rfl, hg, hh, hn, hm, hs, hc⟩⟩ := h
  · omega
  · have hlt : g < w.heap.size := (Array.getElem?_eq_some_iff.1 hh).1
    rw [Nat.mul_one] at hc
    refine ⟨g, cap, rfl, hn, hg, hlt, fun j hj => ?_, fun j => by simp [World.frozen?, hh], fun k y hk => ?_⟩
    · have e : cur[j]? = (ubs l)[j]? := by rw [← hc, List.getElem?_take_of_lt hj, Array.getElem?_toList]
      simp only [World.cell?, hh]
      rw [ubs, List.getElem?_map, List.getElem?_eq_getElem hj] at e
      simp [e, hj]
    · refine ⟨by simp [ubs], .inr ⟨g, cap, cur.setIfInBounds k (.int .u8 (y.toNat : Int)), rfl, hg, ?_, hn, hm, by simpa using hs, ?_⟩⟩
      · have hv : w.heap[g] = .cells cur 5 (0, 0) := (Array.getElem?_eq_some_iff.1 hh).2
        unfold World.setCell
        rw [Array.getElem?_eq_getElem (by simpa using hlt), Array.getElem_modify]
        simp [hv]
      · rw [Nat.mul_one, Array.toList_setIfInBounds, List.take_set, hc]; simp [ubs, List.map_set]
end Go.Proofs.YtpnofkefcoaojaaGreatDoor
