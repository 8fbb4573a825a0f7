/- The program's indexes: its iterator. -/
import Derived.Test.YtigidchicloleaaGreatDoorGH
import Derived.TacticsInMore
import Derived.LoopNIn
import Derived.LoopIn
import Derived.OwnWalkIn
set_option maxHeartbeats 2000000
set_option maxRecDepth 100000
namespace Go.Proofs.YtigidchicloleaaGreatDoor.Arr
open Go.RowKit
open Go.Lib
attribute [local go_sem] Oper.semAt_some
theorem info3 : (Tryz.prog.info? 3).map (fun i => (i.zero, i.size, i.bytes)) = some (some (.int .i64 0), 1, 8) := by kernel_rfl
theorem make_ints (n : Nat) (hn : n ≤ 1000) (W : World) : (Instr.makeSlice 22 (.int .i64 (n : Int)) (.int .i64 (n : Int))).run Tryz.prog W = .ok (.slice (some ⟨W.heap.size, 0, none⟩) n n) (W.alloc (.cells (ixC (zn n)) 3)) := by
  obtain ⟨i0, hi, hz0, hz1, hz2⟩ := info_parts info3
  have h := run_make (P := Tryz.prog) W 22 3 i0 (.int .i64 0) Tryz.underlying22 hi hz0 .i64 .i64 (n : Int) (n : Int) (by omega) (by omega) (by rw [hz2]; omega) (by omega)
  have e : madeCells (Value.cells (.int .i64 0)) (n * 1) = ixC (zn n) := by
    have e1 : Value.cells (.int .i64 0) = #[Value.int .i64 0] := rfl
    rw [e1, Nat.mul_one]
    unfold madeCells ixC zn
    apply Array.ext
    · simp
    · intro i h1 h2
      simp [Nat.mod_one]
  rw [hz1, Int.toNat_natCast, e] at h
  exact h
theorem ixOf_zero : ∀ s : List Nat, ixOf s 0 = zn s.length
  | [] => rfl
  | s :: ss => by rw [ixOf, Nat.zero_div, Nat.zero_mod, ixOf_zero ss]; rfl
theorem ixOf_next {s : List Nat} {i : Nat} (h : i + 1 < prod s) : incr s (ixOf s i) = some (ixOf s (i + 1)) := by
  obtain ⟨h1, h2⟩ := ixOf_is s i (by omega)
  obtain ⟨h3, h4⟩ := incr_is s (ixOf s i) h1
  cases hr : incr s (ixOf s i) with
  | none => have := h4 hr; omega
  | some r =>
    obtain ⟨h5, h6⟩ := h3 r hr
    rw [← ixOf_plc s r h5, h6, h2]
theorem ixOf_len : ∀ (s : List Nat) (i : Nat), (ixOf s i).length = s.length
  | [], _ => rfl
  | _ :: ss, i => by rw [ixOf, List.length_cons, ixOf_len ss, List.length_cons]
theorem indexes_in (m : Nat) (p : Option Addr) (n c : Nat) (w : World) :
    CallsIn Fence.wide m Tryz.prog 69 #[.slice p n c] w fun e w' => e = .returned (.func (.func 92) #[] #[.pointer (some ⟨w.heap.size, 0, none⟩)]) ∧ w' = w.alloc (.cells #[.slice p n c] 22) := by
  refine callsIn_of_wp Tryz.func69 rfl trivial ?_ rfl
  simp only [Tryz.ntmps69, List.size_toArray, List.length_cons, List.length_nil, Nat.reduceAdd, Nat.reduceSub, Array.replicate_succ, Array.replicate_zero, List.push_toArray, List.append_toArray, List.nil_append, List.cons_append]
  gi_wp2
  go_ret
  exact ⟨rfl, rfl⟩
theorem RdN.gb {W W' : World} {p : Option Addr} {s : List Nat} {g : Nat} (h : RdN W p s) (hg : W.grownBy W' (some g)) (hne : ∀ b off, p = some ⟨b, off, none⟩ → 0 < s.length → b ≠ g) : RdN W' p s := by
  refine ⟨h.wf, ?_⟩
  rcases h.cell with h0 | ⟨b, off, h1, h2, h3⟩
  · exact .inl h0
  · by_cases hs : 0 < s.length
    · have hb := hg.block b h2 (by intro e; injection e with e; exact hne b off h1 hs e)
      exact .inr ⟨b, off, h1, Nat.lt_of_lt_of_le h2 hg.size, fun j hj => (World.cell?_of_block (a := ⟨b, off + j, none⟩) hb).trans (h3 j hj)⟩
    · exact .inl (by rw [List.length_map]; omega)
abbrev inE (n : Nat) (x : Nat × Nat) : Array Value := #[.int .i64 ((x.1 : Nat) : Int), .slice (some ⟨x.2, 0, none⟩) n n]
structure IxAt (s : List Nat) (p : Option Addr) (n c Bb B : Nat) (x : Nat × Nat) (W : World) : Prop where
  row : W.heap[x.2]? = some (.cells (ixC (ixOf s x.1)) 3 (0, 0))
  box : W.heap[Bb]? = some (.cells #[.slice p n c] 22 (0, 0))
  shape : RdN W p s
  new : B ≤ x.2
  lt : x.1 < prod s
theorem it87_in (m : Nat) (hm : 1 ≤ m) (lr Bb B n c : Nat) (p : Option Addr) (s : List Nat) (hn : n ≤ 4) (hs : Hid (s.length = n)) (hsb : Hid (∀ x ∈ s, x ≤ 1024)) (h4 : prod s ≤ 4096) (W0 : World) (J : List (Nat × Nat) → World → Prop) (hB : B ≤ W0.heap.size)
    (hJ : ∀ pre A A' row, J pre A → A.grownBy A' row → (∀ r, row = some r → r = W0.heap.size) → J pre A')
    (hY : ∀ pre x W1, J pre W1 → IxAt s p n c Bb B x W1 → pre.map (·.1) = List.range x.1 → YieldAt Fence.wide (m - 1) Tryz.prog lr (inE n x) W1 fun e W' => e = .returned (.bool true) ∧ J (pre ++ [x]) W' ∧ IxAt s p n c Bb B x W')
    (hbox : W0.heap[Bb]? = some (.cells #[.slice p n c] 22 (0, 0))) (hp : RdN W0 p s) (h0 : J [] W0) :
    CallsIn Fence.wide m Tryz.prog 92 #[.func (.yield lr) #[] #[], .pointer (some ⟨Bb, 0, none⟩)] W0 fun e W' => (∃ v, e = .returned v) ∧ ∃ xs : List (Nat × Nat), xs.map (·.1) = List.range (prod s) ∧ J xs W' := by
  obtain ⟨N, HN⟩ : ∃ N, Hid (N = prod s) := ⟨_, rfl⟩
  have HP := Lib.hid hp
  have HY := Lib.hid hY
  have HJ := Lib.hid hJ
  rw [← HN.out] at h4 ⊢
  have iN : (N : Int) ≤ 4096 := by omega
  have hni : (n : Int) ≤ 4 := by omega
  have hmk := fun W => make_ints n (by omega) W
  have cb : W0.cell? ⟨Bb, 0, none⟩ = some (.slice p n c) := by simp [World.cell?, hbox]
  have hBb : Bb < W0.heap.size := (Array.getElem?_eq_some_iff.1 hbox).1
  obtain ⟨g, HG⟩ : ∃ g, Hid (g = W0.heap.size) := ⟨_, rfl⟩
  obtain ⟨W1, HW1⟩ : ∃ W1, Hid (W0.alloc (.cells (ixC (zn n)) 3) = W1) := ⟨_, Lib.hid rfl⟩
  have hs1 : Hid (W1.heap.size = W0.heap.size + 1) := Lib.hid (by rw [← HW1.out]; simp)
  have hb1 : Hid (Below W0.heap.size W0 W1) := Lib.hid (by rw [← HW1.out]; exact (Below.refl _ _).alloc (Nat.le_refl _) _)
  have hg1 : Hid (W1.heap[g]? = some (.cells (ixC (zn n)) 3 (0, 0))) := Lib.hid (by rw [← HW1.out, HG.out]; exact World.alloc_heap_new _ _)
  have hbox1 : W1.heap[Bb]? = some (.cells #[.slice p n c] 22 (0, 0)) := (hb1.out.block _ hBb).trans hbox
  have HBOX1 := Lib.hid hbox1
  have cb1 : W1.cell? ⟨Bb, 0, none⟩ = some (.slice p n c) := by simp [World.cell?, hbox1]
  have cb1' : (W0.alloc (.cells (ixC (zn n)) 3)).cell? ⟨Bb, 0, none⟩ = some (.slice p n c) := by rw [HW1.out]; exact cb1
  have HPR : Hid (∀ W, RdN W p s → Calls Tryz.prog 57 #[.slice p n c] W fun e w' => W = w' ∧ e = .returned (.int .i64 ((N : Nat) : Int))) := Lib.hid (fun W h => by
    have := product_any p c s W (by rw [hs.out]; exact hn) hsb.out h
    rwa [hs.out, ← HN.out] at this)
  have HJ1 : Hid (J [] W1) := Lib.hid (HJ.out _ _ _ none h0 (by rw [← HW1.out]; exact World.grownBy_alloc _ _ none) (fun r e => by cases e))
  clear hp hY hJ hbox hbox1 h0
  refine callsIn_of_wp Tryz.func92 rfl trivial ?_ rfl
  simp only [Tryz.ntmps92, List.size_toArray, List.length_cons, List.length_nil, Nat.reduceAdd, Nat.reduceSub, Array.replicate_succ, Array.replicate_zero, List.push_toArray, List.append_toArray, List.nil_append, List.cons_append]
  gi_wp2_with (refine ⟨trivial, ?_⟩; gi_at_call 57; refine (callsIn_wide.2 (HPR.out _ (by rw [HW1.out]; exact HP.out.below hb1.out))).mono ?_; rintro e w' ⟨rfl, rfl⟩)
  have HPG : Hid (∀ b off, p = some ⟨b, off, none⟩ → 0 < n → b ≠ g) := Lib.hid (fun b off e hn0 => by
    rcases HP.out.cell with h0 | ⟨b', off', h1, h2, -⟩
    · rw [List.length_map, hs.out] at h0; omega
    · rw [e] at h1; cases h1; rw [HG.out]; omega)
  have HBg : Hid (Bb ≠ g ∧ B ≤ g ∧ W0.heap.size ≤ g) := Lib.hid (by rw [HG.out]; omega)
  have HROW : Hid (∃ r : List Nat, r.length = n ∧ (0 < N → r = ixOf s 0) ∧ W1.heap[g]? = some (.cells (ixC r) 3 (0, 0))) := Lib.hid ⟨zn n, by simp [zn], fun _ => by rw [ixOf_zero, hs.out], hg1.out⟩
  have HRD : Hid (RdN W1 p s) := Lib.hid (HP.out.below hb1.out)
  rw [HW1.out, ← HG.out]
  clear hmk cb cb1 cb1' hBb
  gi_loopw [10] (fun iv wr => ∃ (i : Nat) (pre : List (Nat × Nat)), i ≤ N ∧ iv = .int .i64 i ∧ Hid (pre.map (·.1) = List.range i) ∧ Hid (J pre wr) ∧ Hid (wr.heap[Bb]? = some (.cells #[.slice p n c] 22 (0, 0))) ∧ Hid (RdN wr p s) ∧ Hid (∃ r : List Nat, r.length = n ∧ (i < N → r = ixOf s i) ∧ wr.heap[g]? = some (.cells (ixC r) 3 (0, 0)))) (fun iv _ => N - (intOf iv).toNat)
  case atStart => exact ⟨0, [], Nat.zero_le _, rfl, Lib.hid rfl, HJ1, HBOX1, HRD, HROW⟩
  case round =>
    obtain ⟨i, pre, hi, rfl, HPRE, HJi, HBX, HRDi, HRi⟩ := hrel
    have ii : (i : Int) ≤ (N : Int) := by omega
    by_cases hlt : i < N
    · have ilt : (i : Int) < (N : Int) := by omega
      have hat : IxAt s p n c Bb B (i, g) wr := by
        obtain ⟨r, h1, h2, h3⟩ := HRi.out
        rw [h2 hlt] at h3
        exact ⟨h3, HBX.out, HRDi.out, HBg.out.2.1, by rw [← HN.out]; exact hlt⟩
      obtain ⟨fn, tmps, assign, body, hy, hRo⟩ := HY.out pre (i, g) wr HJi.out hat HPRE.out
      have hy2 : (Instr.yield lr #[.int .i64 (i : Int), .slice (some ⟨g, 0, none⟩) n n]).run Tryz.prog wr = .ok (.round lr fn tmps assign body) wr := hy
      clear hat hy
      gi_wp2
      refine hRo.mono ?_
      rintro e W3 ⟨rfl, hJ3, hat3⟩
      have HJ3 := Lib.hid hJ3
      have HA3 := Lib.hid hat3
      have cb3 : W3.cell? ⟨Bb, 0, none⟩ = some (.slice p n c) := by simp [World.cell?, hat3.box]
      have HST : Hid (Calls Tryz.prog 93 #[.slice p n c, .slice (some ⟨g, 0, none⟩) n n] W3 (StepPost g s (ixOf s i) W3)) := Lib.hid
        (step_any p c n n g s (ixOf s i) W3 hn hs (Lib.hid (by rw [ixOf_len, hs.out])) hsb (Lib.hid (ixOf_is s i (by rw [← HN.out]; exact hlt)).1) hat3.shape HPG.out hat3.row)
      clear hJ3 hat3 hy2
      gi_wp2_with (refine ⟨trivial, ?_⟩; gi_at_call 93; refine (callsIn_wide.2 HST.out).mono ?_; rintro e W4 ⟨⟨_, rfl⟩, r, hr1, hr2, hr3, hr4⟩)
      have HJ4 : Hid (J (pre ++ [(i, g)]) W4) := Lib.hid (HJ.out _ _ _ (some g) HJ3.out hr4 (fun r e => by cases e; exact HG.out))
      have HBX4 : Hid (W4.heap[Bb]? = some (.cells #[.slice p n c] 22 (0, 0))) := Lib.hid ((hr4.block Bb (Array.getElem?_eq_some_iff.1 HA3.out.box).1 (by intro e; cases e; exact HBg.out.1 rfl)).trans HA3.out.box)
      have HRD4 : Hid (RdN W4 p s) := Lib.hid (HA3.out.shape.gb hr4 (fun b off e h => HPG.out b off e (by rw [← hs.out]; exact h)))
      have HR4 : Hid (∃ r : List Nat, r.length = n ∧ (i + 1 < N → r = ixOf s (i + 1)) ∧ W4.heap[g]? = some (.cells (ixC r) 3 (0, 0))) := Lib.hid ⟨r, by rw [hr1, hs.out], fun h => hr2 _ (ixOf_next (by rw [← HN.out]; exact h)), hr3⟩
      have HPRE4 : Hid ((pre ++ [(i, g)]).map (·.1) = List.range (i + 1)) := Lib.hid (by rw [List.map_append, HPRE.out, List.range_succ]; rfl)
      clear hr1 hr2 hr3 hr4
      gi_wp2
      go_roundw
      case rel => exact ⟨i + 1, pre ++ [(i, g)], by omega, by go_num, HPRE4, HJ4, HBX4, HRD4, HR4⟩
      case measure => simp [intOf]; omega
    · obtain rfl : i = N := by omega
      have ilt : ¬ (i : Int) < (i : Int) := by omega
      gi_wp2
      go_end0
      exact ⟨⟨_, rfl⟩, pre, HPRE.out, HJi.out⟩
theorem indexes_seq (m : Nat) (hm : 1 ≤ m) (Bb B n c : Nat) (p : Option Addr) (s : List Nat) (hn : n ≤ 4) (hs : Hid (s.length = n)) (hsb : Hid (∀ x ∈ s, x ≤ 1024)) (h4 : prod s ≤ 4096) (w : World) (hB : B ≤ w.heap.size + 2) (hbox : w.heap[Bb]? = some (.cells #[.slice p n c] 22 (0, 0))) (hp : RdN w p s) :
    SeqC Fence.wide m Tryz.prog 92 #[.pointer (some ⟨Bb, 0, none⟩)] (inE n) (IxAt s p n c Bb B) (fun pre x => pre.map (·.1) = List.range x.1) (fun xs => xs.map (·.1) = List.range (prod s)) w := fun lr J W hW hW2 hJ hY h0 =>
  it87_in m hm lr Bb B n c p s hn hs hsb h4 W J (Nat.le_trans hB hW2) (fun pre A A' row h hg hr => hJ pre A A' row h hg hr) hY ((hW.block _ (Array.getElem?_eq_some_iff.1 hbox).1).trans hbox) (hp.below hW) h0
end Go.Proofs.YtigidchicloleaaGreatDoor.Arr
