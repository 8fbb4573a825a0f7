/- Blocks that are kept: a list of blocks with what they hold. Units: combined. Units: combined, the loop. Texts of units: countDigits, countLetters, prefixValue. -/
import Derived.Test.YtoegbjmoecbjdaaGreatDoorPart11
import Derived.RegionTactic
import Derived.ChangeAlike
import Derived.BigRegion
import Derived.Deep.RegionHeld3
set_option maxHeartbeats 1600000
set_option maxRecDepth 100000
namespace Go.Proofs.YtoegbjmoecbjdaaGreatDoor
open Go.RowKit Go.Lib Big
abbrev Blk := Nat × Array Value × TypeId
structure Keep (w0 W : World) (L : List Blk) : Prop where
  below : Below w0.heap.size w0 W
  all : ∀ x ∈ L, W.heap[x.1]? = some (.cells x.2.1 x.2.2 (0, 0))
section
variable {w0 W W' : World} {L : List Blk}
theorem Keep.next (h : Keep w0 W L) (hb : Below W.heap.size W W') : Keep w0 W' L :=
  ⟨h.below.trans (hb.mono h.below.size), fun x hx => (hb.block _ (Array.getElem?_eq_some_iff.1 (h.all x hx)).1).trans (h.all x hx)⟩
theorem Keep.drew (h : Keep w0 W L) : Keep w0 W.drew L := ⟨h.below.drew, h.all⟩
theorem Keep.one (h : Keep w0 W L) (x : Blk) (hx : x ∈ L) : W.heap[x.1]? = some (.cells x.2.1 x.2.2 (0, 0)) := h.all x hx
theorem Keep.nil (w : World) : Keep w w [] := ⟨Below.refl _ _, fun _ h => by cases h⟩
theorem Keep.sub {M : List Blk} (h : Keep w0 W L) (hM : ∀ x ∈ M, x ∈ L) : Keep w0 W M := ⟨h.below, fun x hx => h.all x (hM x hx)⟩
theorem Keep.more (h : Keep w0 W L) (c : Array Value) (T : TypeId) : Keep w0 (W.alloc (.cells c T)) ((W.heap.size, c, T) :: L) := by
  have h2 := h.next (bea W (.cells c T))
  refine ⟨h2.below, fun x hx => ?_⟩
  rcases List.mem_cons.1 hx with rfl | hx
  · exact heap_new W _
  · exact h2.all x hx
theorem Keep.put {g : Nat} {c : Array Value} {T : TypeId} (h : Keep w0 W ((g, c, T) :: L)) (hg : w0.heap.size ≤ g) (hne : ∀ x ∈ L, x.1 ≠ g) (k : Nat) (v : Value) : Keep w0 (W.setCell ⟨g, k, none⟩ v) ((g, c.setIfInBounds k v, T) :: L) := by
  refine ⟨h.below.setCell hg _, fun x hx => ?_⟩
  rcases List.mem_cons.1 hx with rfl | hx
  · exact heap_set g k c T v (h.all _ (List.mem_cons_self ..))
  · exact (Below.heap_setCell _ _ _ _ (hne x hx)).trans (h.all x (List.mem_cons_of_mem _ hx))
theorem Keep.lt (h : Keep w0 W L) {x : Blk} (hx : x ∈ L) : x.1 < W.heap.size := (Array.getElem?_eq_some_iff.1 (h.all x hx)).1
end
theorem tw_len (p : UInt8 → Bool) (l : List UInt8) (k : Nat) (hk : k ≤ l.length) (ha : (l.take k).all p = true) (hs : k = l.length ∨ ∃ h : k < l.length, p l[k] = false) : (l.takeWhile p).length = k := by
  induction l generalizing k with
  | nil => simp at hk; simp [hk]
  | cons x l ih =>
    cases k with
    | zero =>
      rcases hs with hs | ⟨h, hs⟩
      · simp at hs
      · have : p x = false := hs
        simp [this]
    | succ k =>
      rw [List.take_succ_cons, List.all_cons, Bool.and_eq_true] at ha
      rw [List.takeWhile_cons, if_pos ha.1, List.length_cons, ih k (by simpa using hk) ha.2]
      rcases hs with hs | ⟨h, hs⟩
      · exact .inl (by simpa using hs)
      · exact .inr ⟨by simpa using h, by simpa using hs⟩
theorem all_take_succ' (p : UInt8 → Bool) (l : List UInt8) (k : Nat) (h : k < l.length) (ha : (l.take k).all p = true) (hd : p l[k] = true) : (l.take (k + 1)).all p = true := by
  rw [List.take_succ_eq_append_getElem h, List.all_append, ha]; simp [hd]
theorem countDigits_any (s : ByteArray) (w : World) (hs : (s.size : Int) ≤ 9223372036854775807) : Calls Tryz.prog 193 #[.string s] w fun e w' => e = .returned (.int .i64 (cntD s.data.toList)) ∧ w = w' := by
  go_enter Tryz.func193, Tryz.ntmps193
  go_wp2_with fail
  go_loop [3] (fun i => ∃ k : Nat, k ≤ s.size ∧ i = .int .i64 k ∧ Hid ((s.data.toList.take k).all isDig = true)) (fun i => s.size - (intOf i).toNat)
  case atStart => exact ⟨0, Nat.zero_le _, rfl, hiD (by simp)⟩
  case round =>
    obtain ⟨k, hk, rfl, hall⟩ := hrel
    by_cases hlt : k < s.size
    · have hkl : k < s.data.toList.length := by simpa using hlt
      have hb : Hid (∀ d, isDig s[k] = d → isDig s.data.toList[k] = d) := hiD (fun d h => h)
      rcases (show (s[k].toNat : Int) < 48 ∨ (57 : Int) < s[k].toNat ∨ ((48 : Int) ≤ s[k].toNat ∧ (s[k].toNat : Int) ≤ 57) from by omega) with h0 | h1 | ⟨h2a, h2b⟩
      · have hf : Hid (cntD s.data.toList = k) := hiD (tw_len _ _ k (by omega) hall.out (.inr ⟨hkl, hb.out _ (by simp [isDig]; omega)⟩))
        go_wp2
        go_ret
        exact ⟨by rw [hf.out]; rfl, rfl⟩
      · have hf : Hid (cntD s.data.toList = k) := hiD (tw_len _ _ k (by omega) hall.out (.inr ⟨hkl, hb.out _ (by simp [isDig]; omega)⟩))
        go_wp2
        go_ret
        exact ⟨by rw [hf.out]; rfl, rfl⟩
      · have hn : Hid ((s.data.toList.take (k + 1)).all isDig = true) := hiD (all_take_succ' _ _ k hkl hall.out (hb.out _ (by simp [isDig]; omega)))
        go_wp2
        go_round
        case rel => exact ⟨k + 1, by omega, by go_num, hn⟩
        case measure => simp [intOf]; omega
    · have hf : Hid (cntD s.data.toList = k) := hiD (tw_len _ _ k (by simpa using hk) hall.out (.inl (by simp; omega)))
      obtain rfl : k = s.size := by omega
      go_wp2
      go_ret
      exact ⟨by rw [hf.out]; rfl, rfl⟩
theorem countLetters_any (s : ByteArray) (w : World) (hs : (s.size : Int) ≤ 9223372036854775807) : Calls Tryz.prog 228 #[.string s] w fun e w' => e = .returned (.int .i64 (cntL s.data.toList)) ∧ w = w' := by
  go_enter Tryz.func228, Tryz.ntmps228
  go_wp2_with fail
  go_loop [3] (fun i => ∃ k : Nat, k ≤ s.size ∧ i = .int .i64 k ∧ Hid ((s.data.toList.take k).all isLet = true)) (fun i => s.size - (intOf i).toNat)
  case atStart => exact ⟨0, Nat.zero_le _, rfl, hiD (by simp)⟩
  case round =>
    obtain ⟨k, hk, rfl, hall⟩ := hrel
    by_cases hlt : k < s.size
    · have hkl : k < s.data.toList.length := by simpa using hlt
      have hb : Hid (∀ d, isLet s[k] = d → isLet s.data.toList[k] = d) := hiD (fun d h => h)
      rcases (show (s[k].toNat : Int) < 65 ∨ ((65 : Int) ≤ s[k].toNat ∧ (s[k].toNat : Int) ≤ 90) ∨ ((90 : Int) < s[k].toNat ∧ (s[k].toNat : Int) < 97) ∨ ((97 : Int) ≤ s[k].toNat ∧ (s[k].toNat : Int) ≤ 122) ∨ (122 : Int) < s[k].toNat from by omega) with h0 | ⟨h1a, h1b⟩ | ⟨h2a, h2b⟩ | ⟨h3a, h3b⟩ | h4
      · have hf : Hid (cntL s.data.toList = k) := hiD (tw_len _ _ k (by omega) hall.out (.inr ⟨hkl, hb.out _ (by simp [isLet]; omega)⟩))
        go_wp2
        go_ret
        exact ⟨by rw [hf.out]; rfl, rfl⟩
      · have hn : Hid ((s.data.toList.take (k + 1)).all isLet = true) := hiD (all_take_succ' _ _ k hkl hall.out (hb.out _ (by simp [isLet]; omega)))
        go_wp2
        go_round
        case rel => exact ⟨k + 1, by omega, by go_num, hn⟩
        case measure => simp [intOf]; omega
      · have hf : Hid (cntL s.data.toList = k) := hiD (tw_len _ _ k (by omega) hall.out (.inr ⟨hkl, hb.out _ (by simp [isLet]; omega)⟩))
        go_wp2
        go_ret
        exact ⟨by rw [hf.out]; rfl, rfl⟩
      · have hn : Hid ((s.data.toList.take (k + 1)).all isLet = true) := hiD (all_take_succ' _ _ k hkl hall.out (hb.out _ (by simp [isLet]; omega)))
        go_wp2
        go_round
        case rel => exact ⟨k + 1, by omega, by go_num, hn⟩
        case measure => simp [intOf]; omega
      · have hf : Hid (cntL s.data.toList = k) := hiD (tw_len _ _ k (by omega) hall.out (.inr ⟨hkl, hb.out _ (by simp [isLet]; omega)⟩))
        go_wp2
        go_ret
        exact ⟨by rw [hf.out]; rfl, rfl⟩
    · have hf : Hid (cntL s.data.toList = k) := hiD (tw_len _ _ k (by simpa using hk) hall.out (.inl (by simp; omega)))
      obtain rfl : k = s.size := by omega
      go_wp2
      go_ret
      exact ⟨by rw [hf.out]; rfl, rfl⟩
end Go.Proofs.YtoegbjmoecbjdaaGreatDoor
