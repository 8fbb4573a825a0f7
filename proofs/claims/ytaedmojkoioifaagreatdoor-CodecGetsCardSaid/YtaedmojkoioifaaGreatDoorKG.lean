/- The number that bytes stand for: number of the program, read of the document. -/
import Derived.Test.YtaedmojkoioifaaGreatDoorCC
import Derived.Test.YtaedmojkoioifaaGreatDoorKF
set_option maxHeartbeats 1600000
set_option maxRecDepth 100000
namespace Go.Proofs.YtaedmojkoioifaaGreatDoor
open Go.RowKit
open Go.Lib
def nb (l : List UInt8) : Nat := l.foldl (fun x c => x * 256 + c.toNat) 0
theorem nb_snoc (l : List UInt8) (c : UInt8) : nb (l ++ [c]) = nb l * 256 + c.toNat := by unfold nb; rw [List.foldl_append]; rfl
theorem nb_fold (l : List UInt8) : ∀ x, l.foldl (fun x (c : UInt8) => x * 256 + c.toNat) x < (x + 1) * 256 ^ l.length := by
  induction l with
  | nil => intro x; simp
  | cons c l ih =>
    intro x
    have h := ih (x * 256 + c.toNat)
    have h2 := c.toNat_lt
    rw [List.foldl_cons, List.length_cons, Nat.pow_succ]
    refine Nat.lt_of_lt_of_le h ?_
    rw [Nat.mul_comm (256 ^ l.length) 256, ← Nat.mul_assoc]
    exact Nat.mul_le_mul_right _ (by omega)
theorem nb_lt (l : List UInt8) : nb l < 256 ^ l.length := by
  have := nb_fold l 0
  unfold nb; omega
theorem shl_or {S d : Nat} (hS : S * 256 + 255 < 18446744073709551616) (hd : (d : Int) ≤ 255) : bits .or .u64 (IntKind.u64.wrap ((S : Int) * 256)) (d : Int) = ((S * 256 + d : Nat) : Int) := by
  have h1 : IntKind.u64.wrap ((S : Int) * 256) = ((S * 256 : Nat) : Int) := by rw [IntKind.wrap_u64]; omega
  rw [h1, u64_or_nat _ _ (by omega) (by omega), nat_join 8 (S * 256) d (by omega) (by omega)]
theorem nb_take {l : List UInt8} {k : Nat} (hk : k < l.length) (hl : l.length ≤ 8) : nb (l.take k) * 256 + 255 < 18446744073709551616 := by
  have h1 := nb_lt (l.take k)
  rw [List.length_take, Nat.min_eq_left (by omega)] at h1
  have h2 : 256 ^ k ≤ 256 ^ 7 := Nat.pow_le_pow_right (by omega) (by omega)
  have h3 : (256 : Nat) ^ 7 = 72057594037927936 := by decide
  omega
theorem bnumber_any (p : Option Addr) (c : Nat) (l : List UInt8) (w : World) (hn : l.length ≤ 8) (hb : Bs w p l) :
    Calls Tryz.prog 51 #[.slice p l.length c] w fun e w' => e = .returned (.int .u64 (nb l : Int)) ∧ w = w' := by
  have HB := Lib.hid hb
  clear hb
  obtain ⟨n, HN⟩ : ∃ n, Hid (n = l.length) := ⟨_, rfl⟩
  rw [← HN.out] at hn ⊢
  have hni : (n : Int) ≤ 8 := by omega
  go_enter Tryz.func51, Tryz.ntmps51
  go_wp2_with fail
  go_loop [3, 8] (fun s i => ∃ k S : Nat, k ≤ n ∧ i = .int .i64 k ∧ s = .int .u64 (S : Int) ∧ Hid (S = nb (l.take k))) (fun _ i => n - (intOf i).toNat)
  case atStart => exact ⟨0, 0, Nat.zero_le _, rfl, rfl, rfl⟩
  case round =>
    obtain ⟨k, S, hk, rfl, rfl, HS⟩ := hrel
    by_cases hlt : k < n
    · obtain ⟨b1, o1, d, rfl, hb1, hc1, hd, hd2⟩ := HB.out.at (k := k) (by rw [← HN.out]; exact hlt)
      go_wp2_with fail
      go_round
      case rel => exact ⟨k + 1, S * 256 + d, by omega, by go_num, by rw [shl_or (by rw [HS.out]; exact nb_take (by rw [← HN.out]; exact hlt) (by rw [← HN.out]; exact hn)) hd2], Lib.hid (by rw [HS.out, ← hd.out, snoc_take (by rw [← HN.out]; exact hlt), nb_snoc])⟩
      case measure => simp [intOf]; omega
    · obtain rfl : k = n := by omega
      go_wp2_with fail
      go_ret
      refine ⟨?_, rfl⟩
      show Ending.returned (.int .u64 (S : Int)) = _
      rw [HS.out, HN.out, List.take_length]
theorem bread_any (p : Option Addr) (c : Nat) (l : List UInt8) (w : World) (hn : l.length ≤ 8) (hb : Bs w p l) :
    Calls Tryz.prog 27 #[.slice p l.length c] w fun e w' => e = .returned (.int .u64 (nb l : Int)) ∧ w = w' := by
  have HB := Lib.hid hb
  clear hb
  obtain ⟨n, HN⟩ : ∃ n, Hid (n = l.length) := ⟨_, rfl⟩
  rw [← HN.out] at hn ⊢
  have hni : (n : Int) ≤ 8 := by omega
  go_enter Tryz.func27, Tryz.ntmps27
  go_wp2_with fail
  go_loop [3, 4] (fun s i => ∃ k S : Nat, k ≤ n ∧ i = .int .i64 k ∧ s = .int .u64 (S : Int) ∧ Hid (S = nb (l.take k))) (fun _ i => n - (intOf i).toNat)
  case atStart => exact ⟨0, 0, Nat.zero_le _, rfl, rfl, rfl⟩
  case round =>
    obtain ⟨k, S, hk, rfl, rfl, HS⟩ := hrel
    by_cases hlt : k < n
    · obtain ⟨b1, o1, d, rfl, hb1, hc1, hd, hd2⟩ := HB.out.at (k := k) (by rw [← HN.out]; exact hlt)
      go_wp2_with fail
      go_round
      case rel => exact ⟨k + 1, S * 256 + d, by omega, by go_num, by rw [shl_or (by rw [HS.out]; exact nb_take (by rw [← HN.out]; exact hlt) (by rw [← HN.out]; exact hn)) hd2], Lib.hid (by rw [HS.out, ← hd.out, snoc_take (by rw [← HN.out]; exact hlt), nb_snoc])⟩
      case measure => simp [intOf]; omega
    · obtain rfl : k = n := by omega
      go_wp2_with fail
      go_ret
      refine ⟨?_, rfl⟩
      show Ending.returned (.int .u64 (S : Int)) = _
      rw [HS.out, HN.out, List.take_length]
end Go.Proofs.YtaedmojkoioifaaGreatDoor
set_option maxHeartbeats 2000000
set_option maxRecDepth 100000
namespace Go.Proofs.YtaedmojkoioifaaGreatDoor
open Go.RowKit
open Go.Lib
def Rdr (W : World) (E : Nat) (l : List UInt8) : Prop := ∃ p c, W.heap[E]? = some (.cells #[.slice p l.length c] 55 (0, 0)) ∧ Bs W p l ∧ l.length ≤ c ∧ ∀ b off, p = some ⟨b, off, none⟩ → 0 < l.length → b < E
def RdPost (W : World) (E n : Nat) (l : List UInt8) (e : Ending) (w' : World) : Prop :=
  ∃ p c, e = .returned (.slice p (l.take n).length c) ∧ Bs w' p (l.take n) ∧ (l.take n).length ≤ c ∧ Rdr w' E (l.drop n) ∧ W.grownBy w' (some E) ∧ ∀ b off, p = some ⟨b, off, none⟩ → 0 < (l.take n).length → b < E
theorem heap_put (W : World) (g k : Nat) (v : Value) (cs : Array Value) (t : TypeId) (h : W.heap[g]? = some (.cells cs t (0, 0))) : (W.setCell ⟨g, k, none⟩ v).heap[g]? = some (.cells (cs.setIfInBounds k v) t (0, 0)) := by
  obtain ⟨h1, h2⟩ := Array.getElem?_eq_some_iff.1 h
  unfold World.setCell
  rw [Array.getElem?_eq_getElem (by simpa using h1), Array.getElem_modify]
  simp [h2]
theorem gb_put (W : World) (g k : Nat) (v : Value) : W.grownBy (W.setCell ⟨g, k, none⟩ v) (some g) := ⟨rfl, rfl, rfl, by simp, fun i _ hi => Below.heap_setCell _ _ _ _ (fun e => hi (by rw [e]))⟩
theorem bs_keep {W W' : World} {p : Option Addr} {l : List UInt8} {E : Nat} (h : Bs W p l) (hg : W.grownBy W' (some E)) (hne : ∀ b off, p = some ⟨b, off, none⟩ → 0 < l.length → b < E) : Bs W' p l := by
  rcases h with h0 | ⟨b, off, hp, hlt, hc⟩
  · exact .inl h0
  · refine .inr ⟨b, off, hp, Nat.lt_of_lt_of_le hlt hg.size, fun j hj => ?_⟩
    have h1 := hg.block b hlt (by intro e; injection e with e; have := hne b off hp (by omega); omega)
    have h2 := hc j hj
    simp only [World.cell?] at h2 ⊢
    rw [h1]; exact h2
theorem bs_take {W : World} {p : Option Addr} {l : List UInt8} (h : Bs W p l) (n : Nat) : Bs W p (l.take n) := by
  rcases h with h0 | ⟨b, off, hp, hlt, hc⟩
  · exact .inl (by rw [List.length_take]; omega)
  · refine .inr ⟨b, off, hp, hlt, fun j hj => ?_⟩
    rw [List.length_take] at hj
    have h2 := hc j (by omega)
    rw [h2]
    congr 3
    rw [List.getD_eq_getElem?_getD, List.getD_eq_getElem?_getD, List.getElem?_take_of_lt (by omega)]
theorem bs_drop {W : World} {b off : Nat} {l : List UInt8} (h : Bs W (some ⟨b, off, none⟩) l) {n : Nat} (hn : n < l.length) : Bs W (some ⟨b, off + n, none⟩) (l.drop n) := by
  rcases h with h0 | ⟨b', off', hp, hlt, hc⟩
  · omega
  · cases hp
    refine .inr ⟨b, off + n, rfl, hlt, fun j hj => ?_⟩
    rw [List.length_drop] at hj
    have h2 := hc (n + j) (by omega)
    rw [Nat.add_assoc, h2]
    congr 3
    rw [List.getD_eq_getElem?_getD, List.getD_eq_getElem?_getD, List.getElem?_drop]
theorem take_any (E n : Nat) (l : List UInt8) (w : World) (hn : n ≤ 1000000) (hl : l.length ≤ 1000000000) (h : Rdr w E l) :
    Calls Tryz.prog 34 #[.pointer (some ⟨E, 0, none⟩), .int .i64 (n : Int)] w (RdPost w E n l) := by
  obtain ⟨p, c, h1, h2, h3, h4⟩ := h
  obtain ⟨m, HM⟩ : ∃ m, Hid (l.length = m) := ⟨_, rfl⟩
  obtain ⟨k, HK⟩ : ∃ k, Hid (min n m = k) := ⟨_, rfl⟩
  have hlen : (l.take n).length = k := by rw [List.length_take, HM.out, HK.out]
  have hdl : (l.drop n).length = m - k := by rw [List.length_drop, HM.out, ← HK.out]; omega
  have HRES : Hid (∀ p2 c2, m - k ≤ c2 → (k < m → ∃ b off, p = some ⟨b, off, none⟩ ∧ p2 = some ⟨b, off + k, none⟩) → RdPost w E n l (.returned (.slice p k c)) (w.setCell ⟨E, 0, none⟩ (.slice p2 (m - k) c2))) := Lib.hid (fun p2 c2 hc2 hp2 => by
    have hg := gb_put w E 0 (.slice p2 (m - k) c2)
    refine ⟨p, c, by rw [hlen], bs_keep (bs_take h2 n) hg (fun b off e h0 => h4 b off e (by rw [List.length_take] at h0; omega)), by rw [hlen, ← HK.out]; have := HM.out; omega, ⟨p2, c2, ?_, ?_, by rw [hdl]; exact hc2, ?_⟩, hg, fun b off e h0 => h4 b off e (by rw [List.length_take] at h0; omega)⟩
    · rw [hdl]; exact heap_put w E 0 _ _ _ h1
    · by_cases hk : k < m
      · obtain ⟨b, off, e1, e2⟩ := hp2 hk
        have hkn : k = n := by have := HK.out; omega
        subst e2
        refine bs_keep ?_ hg (fun b' off' e h0 => ?_)
        · rw [e1] at h2
          have := bs_drop h2 (n := n) (by rw [HM.out]; omega)
          rwa [← hkn] at this ⊢
        · cases e; exact h4 _ _ e1 (by rw [HM.out]; omega)
      · exact .inl (by rw [hdl]; omega)
    · intro b' off' e h0
      rw [hdl] at h0
      obtain ⟨b, off, e1, e2⟩ := hp2 (by omega)
      rw [e2] at e; cases e
      exact h4 _ _ e1 (by rw [HM.out]; omega))
  have HADR : Hid (k < m → ∃ b off, p = some ⟨b, off, none⟩) := Lib.hid (fun hk => by
    rcases h2 with h0 | ⟨b, off, hp, -⟩
    · rw [HM.out] at h0; omega
    · exact ⟨b, off, hp⟩)
  rw [HM.out] at h1 h3 hl
  have hmin : min (n : Int) (m : Int) = (k : Int) := by rw [← HK.out]; omega
  have hmin2 : min (m : Int) (n : Int) = (k : Int) := by rw [← HK.out]; omega
  have ik : (k : Int) ≤ (m : Int) := by rw [← HK.out]; omega
  have ik2 : (k : Int) ≤ (c : Int) := by omega
  have im : (m : Int) ≤ 1000000000 := by omega
  have g0 : w.cell? ⟨E, 0, none⟩ = some (.slice p m c) := by simp [World.cell?, h1]
  have f0 : w.frozen? ⟨E, 0, none⟩ = false := by simp [World.frozen?, h1]
  clear h1 h2 h4 hlen hdl
  by_cases hck : c = k
  · subst hck
    have HF := Lib.hid (HRES.out p 0 (by omega) (fun h => by omega))
    rw [show m - c = 0 by omega] at HF
    go_enter Tryz.func34, Tryz.ntmps34
    go_wp2_with fail
    go_ret
    exact HF.out
  · have HF := Lib.hid (HRES.out (p.map fun x => x.add k) (c - k) (by omega) (fun h => by
      obtain ⟨b, off, e⟩ := HADR.out h
      exact ⟨b, off, e, by rw [e]; cases k <;> simp [Addr.add]⟩))
    go_enter Tryz.func34, Tryz.ntmps34
    go_wp2_with fail
    go_ret
    exact HF.out
end Go.Proofs.YtaedmojkoioifaaGreatDoor
