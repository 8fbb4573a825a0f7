/- What is touched, as a filter of the chunks. -/
import Derived.Test.YtaldangjhdddoaaGreatDoorJI
import Derived.Deep.QuietTactic
import Derived.BigQuiet
namespace Go.Proofs.YtaldangjhdddoaaGreatDoor.Arr
open Go.RowKit Go.Shelf
open Go.Lib
attribute [local go_sem] Oper.semAt_some
def grid : List (List Nat) → List (List Nat)
  | [] => [[]]
  | m :: ms => m.flatMap (fun a => (grid ms).map (fun t => a :: t))
theorem range_mul {α : Type} (f : Nat → α) (P : Nat) : ∀ x, (List.range (x * P)).map f = (List.range x).flatMap (fun a => (List.range P).map (fun b => f (a * P + b)))
  | 0 => by simp
  | x + 1 => by
    rw [Nat.add_mul, Nat.one_mul, List.range_add, List.map_append, range_mul f P x, List.range_succ, List.flatMap_append, List.flatMap_singleton, List.map_map]
    rfl
theorem flatMap_range {α : Type} (m : List Nat) (g : Nat → List α) : m.flatMap g = (List.range m.length).flatMap (fun a => g (m.getD a 0)) := by
  have e : m = (List.range m.length).map (fun a => m.getD a 0) := by
    refine List.ext_getElem (by simp) (fun k h1 h2 => ?_)
    rw [List.getElem_map, List.getElem_range, List.getD_eq_getElem?_getD, List.getElem?_eq_getElem h1]; rfl
  conv => lhs; rw [e]
  rw [List.flatMap_map]
theorem flatMap_congr' {α β : Type} {f g : α → List β} : ∀ {l : List α}, (∀ a ∈ l, f a = g a) → l.flatMap f = l.flatMap g
  | [], _ => rfl
  | a :: l, h => by rw [List.flatMap_cons, List.flatMap_cons, h a (by simp), flatMap_congr' (fun b hb => h b (List.mem_cons_of_mem _ hb))]
theorem pickM_cons (m : List Nat) (ms : List (List Nat)) (a : Nat) (ix : List Nat) : pickM (m :: ms) (a :: ix) = m.getD a 0 :: pickM ms ix := by
  unfold pickM
  rw [List.length_cons, List.range_succ_eq_map, List.map_cons, List.map_map]
  rfl
theorem touL_grid : ∀ (ms : List (List Nat)), touL ms = grid ms
  | [] => rfl
  | m :: ms => by
    unfold touL grid
    rw [← touL_grid ms, flatMap_range m]
    show (List.range (prod (m.length :: lens ms))).map _ = _
    rw [prod_cons, range_mul]
    refine flatMap_congr' (fun a _ => ?_)
    unfold touL
    rw [List.map_map]
    refine List.map_congr_left (fun b hb => ?_)
    have hb2 := List.mem_range.1 hb
    show pickM (m :: ms) (((a * prod (lens ms) + b) / prod (lens ms)) :: ixOf (lens ms) ((a * prod (lens ms) + b) % prod (lens ms))) = m.getD a 0 :: pickM ms (ixOf (lens ms) b)
    have e1 : (a * prod (lens ms) + b) / prod (lens ms) = a := by
      rw [Nat.mul_comm, Nat.mul_add_div (by omega), Nat.div_eq_of_lt hb2, Nat.add_zero]
    have e2 : (a * prod (lens ms) + b) % prod (lens ms) = b := by rw [Nat.mul_comm, Nat.mul_add_mod, Nat.mod_eq_of_lt hb2]
    rw [e1, e2, pickM_cons]
theorem chunks_grid (C : List Nat) : (List.range (prod C)).map (ixOf C) = grid (C.map List.range) := by
  rw [← touL_grid]
  unfold touL
  have e : lens (C.map List.range) = C := by
    unfold lens
    rw [List.map_map]
    refine (List.map_congr_left (fun x _ => ?_)).trans (List.map_id C)
    show (List.range x).length = x
    rw [List.length_range]
  rw [e]
  refine List.map_congr_left (fun i hi => ?_)
  have hix := (ixOf_is C i (List.mem_range.1 hi)).1
  refine ext_getD (by rw [pickM_len, List.length_map, hix.1]) (fun k hk => ?_)
  rw [hix.1] at hk
  rw [pickM_at (by rw [List.length_map]; exact hk)]
  have h1 := hix.2 k hk
  have e2 : (C.map List.range).getD k [] = List.range (C.getD k 0) := by
    rw [List.getD_eq_getElem?_getD, List.getElem?_map, List.getElem?_eq_getElem hk, List.getD_eq_getElem?_getD, List.getElem?_eq_getElem hk]; rfl
  rw [e2, List.getD_eq_getElem?_getD (l := List.range (C.getD k 0)), List.getElem?_range h1]; rfl
def allP : List (Nat → Bool) → List Nat → Bool
  | p :: ps, a :: t => p a && allP ps t
  | _, _ => true
theorem grid_filter : ∀ (ps : List (Nat → Bool)) (ms : List (List Nat)), ps.length = ms.length → (grid ms).filter (allP ps) = grid (List.zipWith (fun p m => m.filter p) ps ms)
  | [], [], _ => rfl
  | p :: ps, m :: ms, h => by
    have ih := grid_filter ps ms (by simpa using h)
    show (m.flatMap (fun a => (grid ms).map (fun t => a :: t))).filter (allP (p :: ps)) = (m.filter p).flatMap (fun a => (grid (List.zipWith (fun p m => m.filter p) ps ms)).map (fun t => a :: t))
    rw [← ih]
    induction m with
    | nil => rfl
    | cons a m ih2 =>
      rw [List.flatMap_cons, List.filter_append, ih2 (by simpa using h), List.filter_map]
      by_cases hp : p a = true
      · rw [List.filter_cons_of_pos hp, List.flatMap_cons]
        congr 2
        refine List.filter_congr (fun t _ => ?_)
        show (p a && allP ps t) = allP ps t
        rw [hp, Bool.true_and]
      · rw [List.filter_cons_of_neg hp]
        have e : (grid ms).filter (allP (p :: ps) ∘ fun t => a :: t) = [] := by
          rw [List.filter_eq_nil_iff]
          intro t _
          show ¬ (p a && allP ps t) = true
          simp [hp]
        rw [e]; rfl
def metP (z a n st c : Nat) : Bool := (List.range n).any (fun i => decide ((a + i * st) / z = c))
def meetsT (s z : List Nat) (cuts : List (Int × Int × Int)) (t : List Nat) : Bool := (List.range s.length).all (fun k => metP (z.getD k 0) (cuts.getD k (0, 0, 0)).1.toNat (cuts.getD k (0, 0, 0)).2.1.toNat (cuts.getD k (0, 0, 0)).2.2.toNat (t.getD k 0))
def metPs (s z : List Nat) (cuts : List (Int × Int × Int)) : List (Nat → Bool) := (List.range s.length).map (fun k => metP (z.getD k 0) (cuts.getD k (0, 0, 0)).1.toNat (cuts.getD k (0, 0, 0)).2.1.toNat (cuts.getD k (0, 0, 0)).2.2.toNat)
theorem allP_range : ∀ (n : Nat) (f : Nat → Nat → Bool) (t : List Nat), t.length = n → allP ((List.range n).map f) t = (List.range n).all (fun k => f k (t.getD k 0))
  | 0, _, [], _ => rfl
  | n + 1, f, a :: t, h => by
    rw [List.range_succ_eq_map, List.map_cons, List.map_map]
    show (f 0 a && allP ((List.range n).map (f ∘ Nat.succ)) t) = _
    rw [allP_range n _ t (by simpa using h), List.all_cons, List.all_map]
    rfl
theorem mets_zip (s z : List Nat) (cuts : List (Int × Int × Int)) : mets s z cuts = List.zipWith (fun p m => m.filter p) (metPs s z cuts) ((nums s z).map List.range) := by
  unfold mets metPs nums
  rw [List.map_map, List.zipWith_map, List.zipWith_self]
  rfl
theorem touched_filter (s z : List Nat) (cuts : List (Int × Int × Int)) : touL (mets s z cuts) = (chunksL s z).filter (meetsT s z cuts) := by
  unfold chunksL
  rw [touL_grid, mets_zip, ← grid_filter _ _ (by simp [metPs, nums]), chunks_grid]
  refine List.filter_congr (fun t ht => ?_)
  rw [← chunks_grid] at ht
  obtain ⟨i, hi, rfl⟩ := List.mem_map.1 ht
  unfold metPs meetsT
  rw [allP_range s.length _ _ (by rw [ixOf_len, nums_len])]
end Go.Proofs.YtaldangjhdddoaaGreatDoor.Arr
set_option maxHeartbeats 2000000
set_option maxRecDepth 100000
namespace Go.Proofs.YtaldangjhdddoaaGreatDoor.Arr
open Go.RowKit Go.Shelf
open Go.Lib
attribute [local go_sem] Oper.semAt_some
theorem ext_getD_int {a b : List Int} (h : a.length = b.length) (hk : ∀ k, k < a.length → a.getD k 0 = b.getD k 0) : a = b := by
  refine List.ext_getElem h (fun k h1 h2 => ?_)
  have := hk k h1
  rwa [List.getD_eq_getElem?_getD, List.getElem?_eq_getElem h1, List.getD_eq_getElem?_getD, List.getElem?_eq_getElem h2] at this
theorem same39_any (p q : Option Addr) (c d n m : Nat) (l1 l2 : List Int) (w : World) (h1 : Hid (l1.length = n)) (h2 : Hid (l2.length = m)) (hn : n ≤ 1000) (hp : Rd w p l1) (hq : Rd w q l2) :
    Calls Tryz.prog 39 #[.slice p n c, .slice q m d] w fun e w' => (∃ k, w.drewN k = w') ∧ e = .returned (.bool (decide (l1 = l2))) := by
  have HP := Lib.hid hp
  have HQ := Lib.hid hq
  obtain ⟨v, HV⟩ : ∃ v, Hid (v = decide (l1 = l2)) := ⟨_, rfl⟩
  rw [← HV.out]
  clear hp hq
  by_cases hlen : n = m
  case neg =>
    have hle3 : ((n : Int) != (m : Int)) = true := by rw [bne_iff_ne]; omega
    obtain rfl : v = false := by rw [HV.out]; exact decide_eq_false (fun e => hlen (by rw [← h1.out, ← h2.out, e]))
    go_enter Tryz.func39, Tryz.ntmps39
    go_wp2_with fail
    go_ret
    exact ⟨⟨0, rfl⟩, rfl⟩
  subst hlen
  have hni : (n : Int) ≤ 1000 := by omega
  have HNO : Hid (∀ k, k < n → l1.getD k 0 ≠ l2.getD k 0 → v = false) := Lib.hid (fun k _ h => by rw [HV.out]; exact decide_eq_false (fun e => h (by rw [e])))
  have HYES : Hid ((∀ k, k < n → l1.getD k 0 = l2.getD k 0) → v = true) := Lib.hid (fun h => by rw [HV.out]; exact decide_eq_true (ext_getD_int (by rw [h1.out, h2.out]) (fun k hk => h k (by rw [← h1.out]; exact hk))))
  go_enter Tryz.func39, Tryz.ntmps39
  go_wp2_with fail
  go_loopw [5] (fun iv wr => ∃ i r : Nat, i ≤ n ∧ iv = .int .i64 i ∧ wr = w.drewN r ∧ Hid (∀ k, k < i → l1.getD k 0 = l2.getD k 0)) (fun iv _ => n - (Go.RowKit.intOf iv).toNat)
  case atStart => exact ⟨0, 0, Nat.zero_le _, rfl, rfl, Lib.hid (fun k hk => by omega)⟩
  case round =>
    obtain ⟨i, r, hi, rfl, rfl, HA⟩ := hrel
    have ii : (i : Int) ≤ (n : Int) := by omega
    by_cases hlt : i < n
    · have ilt : (i : Int) < (n : Int) := by omega
      obtain ⟨b1, o1, x, rfl, -, hc1, HX, -⟩ := HP.out.at (k := i) (by rw [h1.out]; exact hlt)
      obtain ⟨b2, o2, y, rfl, -, hc2, HY, -⟩ := HQ.out.at (k := i) (by rw [h2.out]; exact hlt)
      by_cases hxy : x = y
      · have hst : Hid (∀ k, k < i + 1 → l1.getD k 0 = l2.getD k 0) := Lib.hid (fun k hk => by
          by_cases e : k = i
          · rw [e, ← HX.out, ← HY.out]; exact hxy
          · exact HA.out k (by omega))
        subst hxy
        have hb : (x != x) = false := by simp
        go_wp2_with fail
        go_quiet (fail)
        go_wp2_with fail
        go_roundw
        case rel => exact ⟨i + 1, _, by omega, by go_num, rfl, hst⟩
        case measure => simp [Go.RowKit.intOf]; omega
      · obtain rfl : v = false := HNO.out i hlt (by rw [← HX.out, ← HY.out]; exact hxy)
        have hb : (x != y) = true := by rw [bne_iff_ne]; exact hxy
        go_wp2_with fail
        go_quiet (fail)
        go_wp2_with fail
        go_ret
        exact ⟨⟨_, (World.drewN_drewN ..).symm⟩, rfl⟩
    · obtain rfl : i = n := by omega
      have ilt : ¬ (i : Int) < (i : Int) := by omega
      obtain rfl : v = true := HYES.out HA.out
      go_wp2_with fail
      go_ret
      exact ⟨⟨_, rfl⟩, rfl⟩
end Go.Proofs.YtaldangjhdddoaaGreatDoor.Arr
