/- The sum of a list of numbers: its row. -/
import Derived.Test.YtoegbjmoecbjdaaGreatDoorVB
import Derived.Test.YtoegbjmoecbjdaaGreatDoorPart17
namespace Go.Proofs.YtoegbjmoecbjdaaGreatDoor
open Go.RowKit Big
open Go.Lib Go.Shelf
theorem encC_len (x : C7) : (encC x).length = 3 := rfl
theorem encC_one (x : C7) : ∀ u ∈ encC x, u.oneCell' = true := by
  intro u hu
  simp only [encC, List.mem_cons, List.not_mem_nil, or_false] at hu
  rcases hu with rfl | rfl | rfl <;> rfl
theorem encC_noU (x : C7) : ∀ u ∈ encC x, NoU u := by
  intro u hu
  simp only [encC, List.mem_cons, List.not_mem_nil, or_false] at hu
  rcases hu with rfl | rfl | rfl <;> (intro n h; cases h)
def SRow (W : World) (V cap : Nat) : Prop := ∃ cur, W.heap[V]? = some (.cells cur 66 (0, 0)) ∧ cur.size = cap * 3 ∧ ∀ u ∈ cur.toList, NoU u
def AtC (W : World) (V i : Nat) (x : C7) : Prop := ∀ c, c < 3 → W.cell? ⟨V, i * 3 + c, none⟩ = (encC x)[c]? ∧ W.frozen? ⟨V, i * 3 + c, none⟩ = false
theorem AtC.of {W : World} {V i cap : Nat} {x : C7} (h : SRow W V cap) (hc : ∀ c, c < 3 → W.cell? ⟨V, i * 3 + c, none⟩ = (encC x)[c]?) : AtC W V i x := fun c h3 => by
  obtain ⟨cur, hV, -⟩ := h
  exact ⟨hc c h3, foh hV _⟩
theorem nat_row {W W' : World} {V cap : Nat} (h : SRow W V cap) (hg : W.grownBy W' (some V)) {x : Value} {k : Nat} (hx : NatAt W x k) : NatAt W' x k := by
  obtain ⟨cur, hV, -, hN⟩ := h
  obtain ⟨p, m, c', l, h1, h2, hr, h4⟩ := hx
  refine ⟨p, m, c', l, h1, h2, ⟨hr.len, ?_⟩, h4⟩
  rcases hr.cell with h0 | ⟨b, off, hp, hlt, hcl⟩
  · exact .inl h0
  · by_cases hm : m = 0
    · exact .inl hm
    refine .inr ⟨b, off, hp, Nat.lt_of_lt_of_le hlt hg.size, fun j hj => ?_⟩
    have hne : some b ≠ some V := by
      intro hb
      injection hb with hb
      subst hb
      have h7 := hcl 0 (by omega)
      rw [ceh hV] at h7
      have : Value.int .u64 ((l.getD 0 0 : Nat) : Int) ∈ cur.toList := by
        obtain ⟨hi, he⟩ := Array.getElem?_eq_some_iff.1 h7
        rw [← he]; simp
      exact hN _ this _ rfl
    rw [← hcl j hj]
    exact World.cell?_of_block (w := W) (hg.block b hlt hne)
theorem ratAt_row {W W' : World} {V cap : Nat} (h : SRow W V cap) (hg : W.grownBy W' (some V)) {x : Value} {s : Bool} {a b : Nat} (hx : RatAt W x s a b) : RatAt W' x s a b := by
  obtain ⟨u, v, rfl, hu, hv, hs⟩ := hx
  exact ⟨u, v, rfl, nat_row h hg hu, nat_row h hg hv, hs⟩
theorem rat_row {W W' : World} {V cap : Nat} (h : SRow W V cap) (hg : W.grownBy W' (some V)) {x : Value} {q : Rat} {K : Nat} (hx : RatIs W x q K) : RatIs W' x q K := by
  obtain ⟨s, m, n, hr, h2⟩ := hx
  exact ⟨s, m, n, ratAt_row h hg hr, h2⟩
theorem put_row {W : World} {V cap i : Nat} (h : SRow W V cap) (hi : i < cap) (x : C7) : ∃ W', W' = ((W.setCell ⟨V, i * 3, none⟩ (.bool x.1)).setCell ⟨V, i * 3 + 1, none⟩ (.slice x.2.1 x.2.2.1 x.2.2.2.1)).setCell ⟨V, i * 3 + 2, none⟩ (.slice x.2.2.2.2.1 x.2.2.2.2.2.1 x.2.2.2.2.2.2) ∧ SRow W' V cap ∧ AtC W' V i x ∧ W.grownBy W' (some V) ∧ ∀ j y, j ≠ i → AtC W V j y → AtC W' V j y := by
  obtain ⟨cur, hV, hs, hN⟩ := h
  have e1 := heap_set V (i * 3) cur 66 (.bool x.1) hV
  have e2 := heap_set V (i * 3 + 1) _ 66 (.slice x.2.1 x.2.2.1 x.2.2.2.1) e1
  have e3 := heap_set V (i * 3 + 2) _ 66 (.slice x.2.2.2.2.1 x.2.2.2.2.2.1 x.2.2.2.2.2.2) e2
  obtain ⟨W', hW'⟩ : ∃ W', W' = ((W.setCell ⟨V, i * 3, none⟩ (.bool x.1)).setCell ⟨V, i * 3 + 1, none⟩ (.slice x.2.1 x.2.2.1 x.2.2.2.1)).setCell ⟨V, i * 3 + 2, none⟩ (.slice x.2.2.2.2.1 x.2.2.2.2.2.1 x.2.2.2.2.2.2) := ⟨_, rfl⟩
  rw [← hW'] at e3
  have hsr : SRow W' V cap := by
    refine ⟨_, e3, by simp [hs], fun u hu => ?_⟩
    have hu' := Array.mem_toList_iff.1 hu
    rcases Array.mem_or_eq_of_mem_setIfInBounds hu' with hu' | rfl
    · rcases Array.mem_or_eq_of_mem_setIfInBounds hu' with hu' | rfl
      · rcases Array.mem_or_eq_of_mem_setIfInBounds hu' with hu' | rfl
        · exact hN u (Array.mem_toList_iff.2 hu')
        · intro n h; cases h
      · intro n h; cases h
    · intro n h; cases h
  have hlt : i * 3 + 2 < cur.size := by omega
  refine ⟨W', hW', hsr, AtC.of hsr fun c hc => ?_, ?_, fun j y hj hy => AtC.of hsr fun c hc => ?_⟩
  · rw [ceh e3]
    match c, hc with
    | 0, _ => rw [Array.getElem?_setIfInBounds_ne (by omega), Array.getElem?_setIfInBounds_ne (by omega), Nat.add_zero, Array.getElem?_setIfInBounds_self_of_lt (by omega)]; rfl
    | 1, _ => rw [Array.getElem?_setIfInBounds_ne (by omega), Array.getElem?_setIfInBounds_self_of_lt (by simp; omega)]; rfl
    | 2, _ => rw [Array.getElem?_setIfInBounds_self_of_lt (by simp; omega)]; rfl
  · rw [hW']
    have hb : ∀ (X : World) (k : Nat) (a : Value), X.grownBy (X.setCell ⟨V, k, none⟩ a) (some V) := fun X k a => ⟨rfl, rfl, rfl, by rw [World.size_setCell]; exact Nat.le_refl _, fun b _ hne => Below.heap_setCell _ _ _ _ (fun e => hne (by rw [e]))⟩
    exact ((hb _ _ _).trans (hb _ _ _)).trans (hb _ _ _)
  · have h1 := (hy c hc).1
    rw [ceh hV] at h1
    rw [ceh e3, Array.getElem?_setIfInBounds_ne (by omega), Array.getElem?_setIfInBounds_ne (by omega), Array.getElem?_setIfInBounds_ne (by omega)]
    exact h1
end Go.Proofs.YtoegbjmoecbjdaaGreatDoor
set_option maxHeartbeats 4000000
set_option maxRecDepth 100000
namespace Go.Proofs.YtoegbjmoecbjdaaGreatDoor
open Go.RowKit Big
open Go.Lib Go.Shelf
theorem info66 : (Tryz.prog.info? 66).map (fun i => (i.zero, i.size, i.bytes)) = some (some (.agg #[.bool false, .slice none 0 0, .slice none 0 0]), 3, 56) := by kernel_rfl
theorem info_parts6 {T : TypeId} {z : Value} {k b : Nat} (h : (Tryz.prog.info? T).map (fun i => (i.zero, i.size, i.bytes)) = some (some z, k, b)) : ∃ i, Tryz.prog.info? T = some i ∧ i.zero = some z ∧ i.size = k ∧ i.bytes = b := by
  cases hi : Tryz.prog.info? T with
  | none => rw [hi] at h; cases h
  | some i =>
    rw [hi] at h
    simp only [Option.map_some, Option.some.injEq, Prod.mk.injEq] at h
    exact ⟨i, rfl, h.1, h.2.1, h.2.2⟩
def cellsC {n : Nat} (f : Fin n → C7) : List Value := List.ofFn (fun j : Fin (n * 3) => (encC (f ⟨j.1 / 3, by have := j.2; omega⟩))[j.1 % 3]'(Nat.mod_lt _ (by decide)))
theorem cellsC_at {n : Nat} (f : Fin n → C7) (i : Fin n) (c : Nat) (hc : c < 3) : (cellsC f)[i.1 * 3 + c]? = (encC (f i))[c]? := by
  have hj : i.1 * 3 + c < n * 3 := by have := i.2; omega
  unfold cellsC
  rw [List.getElem?_ofFn, dif_pos hj]
  have e1 : (i.1 * 3 + c) / 3 = i.1 := by omega
  have e2 : (i.1 * 3 + c) % 3 = c := by omega
  simp only [e1, e2]
  rw [List.getElem?_eq_getElem (by rw [encC_len]; exact hc)]
theorem cellsC_len {n : Nat} (f : Fin n → C7) : (cellsC f).length = n * 3 := by simp [cellsC]
theorem cellsC_mem {n : Nat} (f : Fin n → C7) {u : Value} (h : u ∈ cellsC f) : ∃ i, u ∈ encC (f i) := by
  unfold cellsC at h
  rw [List.mem_ofFn] at h
  obtain ⟨j, rfl⟩ := h
  exact ⟨_, List.getElem_mem _⟩
theorem zero_noU66 : ∀ u ∈ (Value.agg #[.bool false, .slice none 0 0, .slice none 0 0]).cells.toList, NoU u := by
  intro u hu
  simp only [Value.cells, List.mem_cons, List.not_mem_nil, or_false] at hu
  rcases hu with rfl | rfl | rfl <;> (intro n h; cases h)
theorem nrow_made (w : World) : NRow (w.alloc (.cells #[] 66)) w.heap.size 66 3 (.slice (some ⟨w.heap.size, 0, none⟩) 0 0) 0 [] := by
  refine ⟨World.ownsRow_made w #[] 0 (Nat.le_refl _) (Nat.zero_le _) (by simp), fun g k cap h cur t f hg u hu => ?_⟩
  cases h
  rw [heap_new] at hg
  cases hg
  simp at hu
theorem nrow_row {w : World} {B n V cap : Nat} {f : Fin n → C7} (h : NRow w B 66 3 (.slice (some ⟨V, 0, none⟩) n cap) n (cellsC f)) : B ≤ V ∧ n ≤ cap ∧ cap ≤ maxLen ∧ SRow w V cap ∧ ∀ i : Fin n, AtC w V i.1 (f i) := by
  obtain ⟨ho, hN⟩ := h
  have ho2 := ho
  obtain ⟨-, ⟨e, -⟩ | ⟨g, cap', cur, e, hB, hg, hn, hm, hs, ht⟩⟩ := ho
  · cases e
  · cases e
    have hr : SRow w V cap := ⟨cur, hg, hs, hN _ _ _ rfl _ _ _ hg⟩
    refine ⟨hB, hn, hm, hr, fun i => AtC.of hr fun c hc => ?_⟩
    have hj : i.1 * 3 + c < n * 3 := by have := i.2; omega
    rw [ceh hg, ← cellsC_at f i c hc, ← ht, List.getElem?_take_of_lt hj, Array.getElem?_toList]
theorem clone_rat (b off n c : Nat) (f : Fin n → C7) (W : World) (h0 : 0 < n) (hn : n ≤ 1000) (hb : b < W.heap.size) (hf : ∀ (i : Fin n) (k : Nat), k < 3 → W.cell? ⟨b, off + i.1 * 3 + k, none⟩ = (encC (f i))[k]?) :
    Calls Tryz.prog 139 #[.slice (some ⟨b, off, none⟩) n c] W fun e w' => ∃ V cap, e = .returned (.slice (some ⟨V, 0, none⟩) n cap) ∧ Below W.heap.size W w' ∧ W.heap.size ≤ V ∧ n ≤ cap ∧ cap ≤ maxLen ∧ SRow w' V cap ∧ ∀ i : Fin n, AtC w' V i.1 (f i) := by
  obtain ⟨i0, hi, hz0, hz1, hz2⟩ := info_parts6 info66
  have hb0 := bea W (.cells #[] 66)
  have hnews : ∀ j u, (cellsC f)[j]? = some u → (W.alloc (.cells #[] 66)).cell? ((⟨b, off, none⟩ : Addr).add j) = some u := fun j u hj => by
    have hjl := (List.getElem?_eq_some_iff.1 hj).1
    rw [cellsC_len] at hjl
    have e := cellsC_at f ⟨j / 3, by omega⟩ (j % 3) (Nat.mod_lt _ (by omega))
    have e2 : j / 3 * 3 + j % 3 = j := by omega
    rw [e2, hj] at e
    rw [Addr.add_mid]
    have h1 := hf ⟨j / 3, by omega⟩ (j % 3) (Nat.mod_lt _ (by omega))
    rw [← e] at h1
    rw [show off + j = off + j / 3 * 3 + j % 3 by omega]
    exact (hb0.cell (p := ⟨b, off + j / 3 * 3 + j % 3, none⟩) hb).trans h1
  have HNEWS := hiD hnews
  have HZ := hiD hz0
  have HI := hiD hi
  have hq : ∀ (w : World), (binOp .eql 91 (.slice (some ⟨b, off, none⟩) n c) (.slice none 0 0)).run Tryz.prog w = .ok (.bool false) w := fun w => Lib.run_eql_slice_nil w 91 (Tryz.prog.elem 91) (some ⟨b, off, none⟩) n c 0 0 elem91
  clear hnews hf hb0 hi hz0
  go_enter Tryz.func139, Tryz.ntmps139
  go_wp2_with (at_builtin; refine wpList_append_N rfl _ _ 91 rfl W.heap.size 66 i0 (.agg #[.bool false, .slice none 0 0, .slice none 0 0]) 3 56 Tryz.underlying91 HI.out HZ.out hz1 hz2 rfl (by decide) zero_noU66 _ _ _ rfl (nrow_made W) ⟨b, off, none⟩ n c (cellsC f) rfl (cellsC_len f) HNEWS.out (fun u hu => by obtain ⟨i, hu⟩ := cellsC_mem f hu; exact encC_one _ u hu) (fun u hu => by obtain ⟨i, hu⟩ := cellsC_mem f hu; exact encC_noU _ u hu) h0 (by unfold maxLen; omega) (by omega) (by simp) ?_)
  intro v' w1 hrow hgr
  have HROW := hiD hrow
  have HGR := hiD hgr
  clear hrow hgr
  go_wp2_with fail
  go_ret
  have hrow := HROW.out
  obtain ⟨V, cap, rfl⟩ : ∃ V cap, v' = .slice (some ⟨V, 0, none⟩) n cap := by
    obtain ⟨-, ⟨e, e2⟩ | ⟨g, cap', cur, e, -⟩⟩ := hrow.1
    · omega
    · exact ⟨g, cap', e⟩
  obtain ⟨h1, h2, h3, h4, h5⟩ := nrow_row hrow
  exact ⟨V, cap, rfl, (bea W _).grown HGR.out (by simp) (by intro k hk; simp [Value.ownBlock] at hk; omega), h1, h2, h3, h4, h5⟩
end Go.Proofs.YtoegbjmoecbjdaaGreatDoor
