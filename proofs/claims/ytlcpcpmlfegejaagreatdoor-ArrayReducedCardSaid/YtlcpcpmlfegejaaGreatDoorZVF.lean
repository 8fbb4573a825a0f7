/- The sum of a list of numbers: its row. -/
import Derived.Test.YtlcpcpmlfegejaaGreatDoorQA
import Derived.Test.YtlcpcpmlfegejaaGreatDoorZ05
import Derived.Test.YtlcpcpmlfegejaaGreatDoorZ17
namespace Go.Proofs.YtlcpcpmlfegejaaGreatDoor
open Go.RowKit Big
open Go.Lib Go.Shelf
theorem encC_len (x : C7) : (encC x).length = 3 := rfl
theorem encC_one (x : C7) : ∀ u ∈ encC x, u.oneCell' = true := by
  intro u hu
  simp only [encC, List.mem_cons, List.not_mem_nil, or_false] at hu
  rcases hu with rfl | rfl | rfl <;> rfl
theorem encC_noU (x : C7) : ∀ u ∈ encC x, NoU u := by
  intro u hu
  simp only [encC, List.mem_cons, List.not_mem_nil, or_false] at hu
  rcases hu with rfl | rfl | rfl <;> (intro n h; cases h)
def SRow (W : World) (V cap : Nat) : Prop := ∃ cur, W.heap[V]? = some (.cells cur 62 (0, 0)) ∧ cur.size = cap * 3 ∧ ∀ u ∈ cur.toList, NoU u
def AtC (W : World) (V i : Nat) (x : C7) : Prop := ∀ c, c < 3 → W.cell? ⟨V, i * 3 + c, none⟩ = (encC x)[c]? ∧ W.frozen? ⟨V, i * 3 + c, none⟩ = false
theorem AtC.of {W : World} {V i cap : Nat} {x : C7} (h : SRow W V cap) (hc : ∀ c, c < 3 → W.cell? ⟨V, i * 3 + c, none⟩ = (encC x)[c]?) : AtC W V i x := fun c h3 => by
  obtain ⟨cur, hV, -⟩ := h
  exact ⟨hc c h3, foh hV _⟩
theorem nat_row {W W' : World} {V cap : Nat} (h : SRow W V cap) (hg : W.grownBy W' (some V)) {x : Value} {k : Nat} (hx : NatAt W x k) : NatAt W' x k := by
  obtain ⟨cur, hV, -, hN⟩ := h
  obtain ⟨p, m, c', l, h1, h2, hr, h4⟩ := hx
  refine ⟨p, m, c', l, h1, h2, ⟨hr.len, ?_⟩, h4⟩
  rcases hr.cell with h0 | ⟨b, off, hp, hlt, hcl⟩
  · exact .inl h0
  · by_cases hm : m = 0
    · exact .inl hm
    refine .inr ⟨b, off, hp, Nat.lt_of_lt_of_le hlt hg.size, fun j hj => ?_⟩
    have hne : some b ≠ some V := by
      intro hb
      injection hb with hb
      subst hb
      have h7 := hcl 0 (by omega)
      rw [ceh hV] at h7
      have : Value.int .u64 ((l.getD 0 0 : Nat) : Int) ∈ cur.toList := by
        obtain ⟨hi, he⟩ := Array.getElem?_eq_some_iff.1 h7
        rw [← he]; simp
      exact hN _ this _ rfl
    rw [← hcl j hj]
    exact World.cell?_of_block (w := W) (hg.block b hlt hne)
theorem ratAt_row {W W' : World} {V cap : Nat} (h : SRow W V cap) (hg : W.grownBy W' (some V)) {x : Value} {s : Bool} {a b : Nat} (hx : RatAt W x s a b) : RatAt W' x s a b := by
  obtain ⟨u, v, rfl, hu, hv, hs⟩ := hx
  exact ⟨u, v, rfl, nat_row h hg hu, nat_row h hg hv, hs⟩
theorem rat_row {W W' : World} {V cap : Nat} (h : SRow W V cap) (hg : W.grownBy W' (some V)) {x : Value} {q : Rat} {K : Nat} (hx : RatIs W x q K) : RatIs W' x q K := by
  obtain ⟨s, m, n, hr, h2⟩ := hx
  exact ⟨s, m, n, ratAt_row h hg hr, h2⟩
theorem put_row {W : World} {V cap i : Nat} (h : SRow W V cap) (hi : i < cap) (x : C7) : ∃ W', W' = ((W.setCell ⟨V, i * 3, none⟩ (.bool x.1)).setCell ⟨V, i * 3 + 1, none⟩ (.slice x.2.1 x.2.2.1 x.2.2.2.1)).setCell ⟨V, i * 3 + 2, none⟩ (.slice x.2.2.2.2.1 x.2.2.2.2.2.1 x.2.2.2.2.2.2) ∧ SRow W' V cap ∧ AtC W' V i x ∧ W.grownBy W' (some V) ∧ ∀ j y, j ≠ i → AtC W V j y → AtC W' V j y := by
  obtain ⟨cur, hV, hs, hN⟩ := h
  have e1 := heap_set V (i * 3) cur 62 (.bool x.1) hV
  have e2 := heap_set V (i * 3 + 1) _ 62 (.slice x.2.1 x.2.2.1 x.2.2.2.1) e1
  have e3 := heap_set V (i * 3 + 2) _ 62 (.slice x.2.2.2.2.1 x.2.2.2.2.2.1 x.2.2.2.2.2.2) e2
  obtain ⟨W', hW'⟩ : ∃ W', W' = ((W.setCell ⟨V, i * 3, none⟩ (.bool x.1)).setCell ⟨V, i * 3 + 1, none⟩ (.slice x.2.1 x.2.2.1 x.2.2.2.1)).setCell ⟨V, i * 3 + 2, none⟩ (.slice x.2.2.2.2.1 x.2.2.2.2.2.1 x.2.2.2.2.2.2) := ⟨_, rfl⟩
  rw [← hW'] at e3
  have hsr : SRow W' V cap := by
    refine ⟨_, e3, by simp [hs], fun u hu => ?_⟩
    have hu' := Array.mem_toList_iff.1 hu
    rcases Array.mem_or_eq_of_mem_setIfInBounds hu' with hu' | rfl
    · rcases Array.mem_or_eq_of_mem_setIfInBounds hu' with hu' | rfl
      · rcases Array.mem_or_eq_of_mem_setIfInBounds hu' with hu' | rfl
        · exact hN u (Array.mem_toList_iff.2 hu')
        · intro n h; cases h
      · intro n h; cases h
    · intro n h; cases h
  have hlt : i * 3 + 2 < cur.size := by omega
  refine ⟨W', hW', hsr, AtC.of hsr fun c hc => ?_, ?_, fun j y hj hy => AtC.of hsr fun c hc => ?_⟩
  · rw [ceh e3]
    match c, hc with
    | 0, _ => rw [Array.getElem?_setIfInBounds_ne (by omega), Array.getElem?_setIfInBounds_ne (by omega), Nat.add_zero, Array.getElem?_setIfInBounds_self_of_lt (by omega)]; rfl
    | 1, _ => rw [Array.getElem?_setIfInBounds_ne (by omega), Array.getElem?_setIfInBounds_self_of_lt (by simp; omega)]; rfl
    | 2, _ => rw [Array.getElem?_setIfInBounds_self_of_lt (by simp; omega)]; rfl
  · rw [hW']
    have hb : ∀ (X : World) (k : Nat) (a : Value), X.grownBy (X.setCell ⟨V, k, none⟩ a) (some V) := fun X k a => ⟨rfl, rfl, rfl, by rw [World.size_setCell]; exact Nat.le_refl _, fun b _ hne => Below.heap_setCell _ _ _ _ (fun e => hne (by rw [e]))⟩
    exact ((hb _ _ _).trans (hb _ _ _)).trans (hb _ _ _)
  · have h1 := (hy c hc).1
    rw [ceh hV] at h1
    rw [ceh e3, Array.getElem?_setIfInBounds_ne (by omega), Array.getElem?_setIfInBounds_ne (by omega), Array.getElem?_setIfInBounds_ne (by omega)]
    exact h1
end Go.Proofs.YtlcpcpmlfegejaaGreatDoor
set_option maxHeartbeats 4000000
set_option maxRecDepth 100000
namespace Go.Proofs.YtlcpcpmlfegejaaGreatDoor
open Go.RowKit Big
open Go.Lib Go.Shelf
theorem info66 : (Tryz.prog.info? 62).map (fun i => (i.zero, i.size, i.bytes)) = some (some (.agg #[.bool false, .slice none 0 0, .slice none 0 0]), 3, 56) := by kernel_rfl
theorem info_parts6 {T : TypeId} {z : Value} {k b : Nat} (h : (Tryz.prog.info? T).map (fun i => (i.zero, i.size, i.bytes)) = some (some z, k, b)) : ∃ i, Tryz.prog.info? T = some i ∧ i.zero = some z ∧ i.size = k ∧ i.bytes = b := by
  cases hi : Tryz.prog.info? T with
  | none => rw [hi] at h; cases h
  | some i =>
    rw [hi] at h
    simp only [Option.map_some, Option.some.injEq, Prod.mk.injEq] at h
    exact ⟨i, rfl, h.1, h.2.1, h.2.2⟩
def cellsC {n : Nat} (f : Fin n → C7) : List Value := List.ofFn (fun j : Fin (n * 3) => (encC (f ⟨j.1 / 3, by have := j.2; omega⟩))[j.1 % 3]'(Nat.mod_lt _ (by decide)))
theorem cellsC_at {n : Nat} (f : Fin n → C7) (i : Fin n) (c : Nat) (hc : c < 3) : (cellsC f)[i.1 * 3 + c]? = (encC (f i))[c]? := by
  have hj : i.1 * 3 + c < n * 3 := by have := i.2; omega
  unfold cellsC
  rw [List.getElem?_ofFn, dif_pos hj]
  have e1 : (i.1 * 3 + c) / 3 = i.1 := by omega
  have e2 : (i.1 * 3 + c) % 3 = c := by omega
  simp only [e1, e2]
  rw [List.getElem?_eq_getElem (by rw [encC_len]; exact hc)]
theorem cellsC_len {n : Nat} (f : Fin n → C7) : (cellsC f).length = n * 3 := by simp [cellsC]
theorem cellsC_mem {n : Nat} (f : Fin n → C7) {u : Value} (h : u ∈ cellsC f) : ∃ i, u ∈ encC (f i) := by
  unfold cellsC at h
  rw [List.mem_ofFn] at h
  obtain ⟨j, rfl⟩ := h
  exact ⟨_, List.getElem_mem _⟩
theorem zero_noU66 : ∀ u ∈ (Value.agg #[.bool false, .slice none 0 0, .slice none 0 0]).cells.toList, NoU u := by
  intro u hu
  simp only [Value.cells, List.mem_cons, List.not_mem_nil, or_false] at hu
  rcases hu with rfl | rfl | rfl <;> (intro n h; cases h)
theorem nrow_made (w : World) : NRow (w.alloc (.cells #[] 62)) w.heap.size 62 3 (.slice (some ⟨w.heap.size, 0, none⟩) 0 0) 0 [] := by
  refine ⟨World.ownsRow_made w #[] 0 (Nat.le_refl _) (Nat.zero_le _) (by simp), fun g k cap h cur t f hg u hu => ?_⟩
  cases h
  rw [heap_new] at hg
  cases hg
  simp at hu
theorem nrow_row {w : World} {B n V cap : Nat} {f : Fin n → C7} (h : NRow w B 62 3 (.slice (some ⟨V, 0, none⟩) n cap) n (cellsC f)) : B ≤ V ∧ n ≤ cap ∧ cap ≤ maxLen ∧ SRow w V cap ∧ ∀ i : Fin n, AtC w V i.1 (f i) := by
  obtain ⟨ho, hN⟩ := h
  have ho2 := ho
  obtain ⟨-, ⟨e, -⟩ | ⟨g, cap', cur, e, hB, hg, hn, hm, hs, ht⟩⟩ := ho
  · cases e
  · cases e
    have hr : SRow w V cap := ⟨cur, hg, hs, hN _ _ _ rfl _ _ _ hg⟩
    refine ⟨hB, hn, hm, hr, fun i => AtC.of hr fun c hc => ?_⟩
    have hj : i.1 * 3 + c < n * 3 := by have := i.2; omega
    rw [ceh hg, ← cellsC_at f i c hc, ← ht, List.getElem?_take_of_lt hj, Array.getElem?_toList]
theorem clone_rat (b off n c : Nat) (f : Fin n → C7) (W : World) (h0 : 0 < n) (hn : n ≤ 1000) (hb : b < W.heap.size) (hf : ∀ (i : Fin n) (k : Nat), k < 3 → W.cell? ⟨b, off + i.1 * 3 + k, none⟩ = (encC (f i))[k]?) :
    Calls Tryz.prog 126 #[.slice (some ⟨b, off, none⟩) n c] W fun e w' => ∃ V cap, e = .returned (.slice (some ⟨V, 0, none⟩) n cap) ∧ Below W.heap.size W w' ∧ W.heap.size ≤ V ∧ n ≤ cap ∧ cap ≤ maxLen ∧ SRow w' V cap ∧ ∀ i : Fin n, AtC w' V i.1 (f i) := by
  obtain ⟨i0, hi, hz0, hz1, hz2⟩ := info_parts6 info66
  have hb0 := bea W (.cells #[] 62)
  have hnews : ∀ j u, (cellsC f)[j]? = some u → (W.alloc (.cells #[] 62)).cell? ((⟨b, off, none⟩ : Addr).add j) = some u := fun j u hj => by
    have hjl := (List.getElem?_eq_some_iff.1 hj).1
    rw [cellsC_len] at hjl
    have e := cellsC_at f ⟨j / 3, by omega⟩ (j % 3) (Nat.mod_lt _ (by omega))
    have e2 : j / 3 * 3 + j % 3 = j := by omega
    rw [e2, hj] at e
    rw [Addr.add_mid]
    have h1 := hf ⟨j / 3, by omega⟩ (j % 3) (Nat.mod_lt _ (by omega))
    rw [← e] at h1
    rw [show off + j = off + j / 3 * 3 + j % 3 by omega]
    exact (hb0.cell (p := ⟨b, off + j / 3 * 3 + j % 3, none⟩) hb).trans h1
  have HNEWS := hiD hnews
  have HZ := hiD hz0
  have HI := hiD hi
  have hq : ∀ (w : World), (binOp .eql 57 (.slice (some ⟨b, off, none⟩) n c) (.slice none 0 0)).run Tryz.prog w = .ok (.bool false) w := fun w => Lib.run_eql_slice_nil w 57 (Tryz.prog.elem 57) (some ⟨b, off, none⟩) n c 0 0 elem91
  clear hnews hf hb0 hi hz0
  go_enter Tryz.func126, Tryz.ntmps126
  go_wp2_with (at_builtin; refine wpList_append_N rfl _ _ 57 rfl W.heap.size 62 i0 (.agg #[.bool false, .slice none 0 0, .slice none 0 0]) 3 56 Tryz.underlying57 HI.out HZ.out hz1 hz2 rfl (by decide) zero_noU66 _ _ _ rfl (nrow_made W) ⟨b, off, none⟩ n c (cellsC f) rfl (cellsC_len f) HNEWS.out (fun u hu => by obtain ⟨i, hu⟩ := cellsC_mem f hu; exact encC_one _ u hu) (fun u hu => by obtain ⟨i, hu⟩ := cellsC_mem f hu; exact encC_noU _ u hu) h0 (by unfold maxLen; omega) (by omega) (by simp) ?_)
  intro v' w1 hrow hgr
  have HROW := hiD hrow
  have HGR := hiD hgr
  clear hrow hgr
  go_wp2_with fail
  go_ret
  have hrow := HROW.out
  obtain ⟨V, cap, rfl⟩ : ∃ V cap, v' = .slice (some ⟨V, 0, none⟩) n cap := by
    obtain ⟨-, ⟨e, e2⟩ | ⟨g, cap', cur, e, -⟩⟩ := hrow.1
    · omega
    · exact ⟨g, cap', e⟩
  obtain ⟨h1, h2, h3, h4, h5⟩ := nrow_row hrow
  exact ⟨V, cap, rfl, (bea W _).grown HGR.out (by simp) (by intro k hk; simp [Value.ownBlock] at hk; omega), h1, h2, h3, h4, h5⟩
end Go.Proofs.YtlcpcpmlfegejaaGreatDoor
namespace Go.Proofs.YtlcpcpmlfegejaaGreatDoor
open Go.RowKit Big
open Go.Lib Go.Shelf
theorem row_put {cur : List Value} {m cap : Nat} {x : C7} (hs : cur.length = cap * 3) (hm : m < cap) : (cur.take (m * 3) ++ encC x ++ cur.drop (m * 3 + 3)).length = cap * 3 ∧ (∀ c, c < 3 → (cur.take (m * 3) ++ encC x ++ cur.drop (m * 3 + 3))[m * 3 + c]? = (encC x)[c]?) ∧ ∀ k, (k < m * 3 ∨ m * 3 + 3 ≤ k) → (cur.take (m * 3) ++ encC x ++ cur.drop (m * 3 + 3))[k]? = cur[k]? := by
  have h3 := encC_len x
  have ht : (cur.take (m * 3)).length = m * 3 := by rw [List.length_take]; omega
  refine ⟨by rw [List.length_append, List.length_append, ht, h3, List.length_drop]; omega, fun c hc => ?_, fun k hk => ?_⟩
  · rw [List.getElem?_append_left (by rw [List.length_append, ht, h3]; omega), List.getElem?_append_right (by omega), ht]
    congr 1; omega
  · rcases hk with hk | hk
    · rw [List.getElem?_append_left (by rw [List.length_append, ht, h3]; omega), List.getElem?_append_left (by omega), List.getElem?_take_of_lt hk]
    · rw [List.getElem?_append_right (by rw [List.length_append, ht, h3]; omega), List.getElem?_drop, List.length_append, ht, h3]
      congr 1; omega
theorem run_append_in (w : World) (ty : TypeId) (V m cap g : Nat) (x : C7) (hrow : SRow w V cap) (hm : m < cap) (hg : ∀ c, c < 3 → w.cell? ⟨g, c, none⟩ = (encC x)[c]?) : ∃ w', (Builtin.append_ #[57, 57] ty #[.slice (some ⟨V, 0, none⟩) m cap, .slice (some ⟨g, 0, none⟩) 1 1]).run Tryz.prog w = .ok (.slice (some ⟨V, 0, none⟩) (m + 1) cap) w' ∧ SRow w' V cap ∧ AtC w' V m x ∧ w.grownBy w' (some V) ∧ ∀ j y, j ≠ m → AtC w V j y → AtC w' V j y := by
  obtain ⟨i0, hi, -, hz1, -⟩ := info_parts6 info66
  have hrow2 := hrow
  obtain ⟨cur, hV, hs, hN⟩ := hrow
  have hsl : cur.toList.length = cap * 3 := by rw [Array.length_toList]; exact hs
  obtain ⟨hl, hin, hout⟩ := row_put (x := x) hsl hm
  have hr := run_append_room (P := Tryz.prog) w 57 ty 62 i0 Tryz.underlying57 hi V m cap cur hV ⟨g, 0, none⟩ 1 1 (encC x) (by rw [hz1]; rfl) (fun j u hj => by
    have hj3 : j < 3 := by have := (List.getElem?_eq_some_iff.1 hj).1; rwa [encC_len] at this
    rw [Addr.add_mid, Nat.zero_add, hg j hj3, hj]) (encC_one x) (by omega) (by rw [hz1, encC_len]; omega)
  rw [hz1, encC_len] at hr
  have hh := setRow_heap w V cur (cur.toList.take (m * 3) ++ encC x ++ cur.toList.drop (m * 3 + 3)).toArray 62 (0, 0) hV
  have hsr : SRow (w.setRow V (cur.toList.take (m * 3) ++ encC x ++ cur.toList.drop (m * 3 + 3)).toArray) V cap := by
    refine ⟨_, hh, by rw [List.size_toArray]; exact hl, fun u hu => ?_⟩
    simp only [List.mem_append] at hu
    rcases hu with (hu | hu) | hu
    · exact hN u (List.mem_of_mem_take hu)
    · exact encC_noU x u hu
    · exact hN u (List.mem_of_mem_drop hu)
  refine ⟨_, hr, hsr, AtC.of hsr fun c hc => ?_, ⟨rfl, rfl, rfl, by simp, fun k _ hk => setRow_other w V k _ (fun e => hk (by simp [e]))⟩, fun j y hj hy => AtC.of hsr fun c hc => ?_⟩
  · rw [ceh hh, List.getElem?_toArray]; exact hin c hc
  · rw [ceh hh, List.getElem?_toArray, hout _ (by omega), Array.getElem?_toList, ← ceh hV]
    exact (hy c hc).1
theorem wpList_append_in {w : World} {ops : Array Oper} {rest : List Oper} {o : Oper} {a : Act} {Q : Exit → Act → World → Prop} (hgd : o.guard = none) (s z : Operand)
    (ho : o.op = .call { callee := .builtin .append, args := #[s, z], argTypes := #[57, 57] }) (V m cap g : Nat) (x : C7) (hs : a.eval s = .slice (some ⟨V, 0, none⟩) m cap) (hz : a.eval z = .slice (some ⟨g, 0, none⟩) 1 1) (hrow : SRow w V cap) (hm : m < cap) (hg : ∀ c, c < 3 → w.cell? ⟨g, c, none⟩ = (encC x)[c]?)
    (h : ∀ w', SRow w' V cap → AtC w' V m x → w.grownBy w' (some V) → (∀ j y, j ≠ m → AtC w V j y → AtC w' V j y) → wpList Tryz.prog ops Q rest (a.put o.dst (.slice (some ⟨V, 0, none⟩) (m + 1) cap)) w') : wpList Tryz.prog ops Q (o :: rest) a w :=
  wpList_plain hgd fun K hK => by
    obtain ⟨w', hr, h2, h3, h4, h5⟩ := run_append_in w o.type V m cap g x hrow hm hg
    unfold Oper.wp execOp
    simp only [ho, resolve, invoke, builtin, Sem.run_bind, Sem.run_pure, Result.andThen_ok, List.map_toArray, List.map_cons, List.map_nil, hs, hz, hr]
    exact hK _ _ (h w' h2 h3 h4 h5)
def PartAt (W : World) (x : Value) (q : Rat) (m : Nat) : Prop := ∃ s a d, RatAt W x s a d ∧ ratv s a d = q ∧ 0 < d ∧ a < m * B64 ^ 20 ∧ d < B64 ^ 20
theorem PartAt.first {W : World} {x : Value} {q : Rat} {m : Nat} (h : RatIs W x q 20) (hm : 1 ≤ m) : PartAt W x q m := by
  obtain ⟨s, a, d, h1, h2, h3, h4, h5⟩ := h
  refine ⟨s, a, d, h1, h2, h3, ?_, h5⟩
  have : 1 * B64 ^ 20 ≤ m * B64 ^ 20 := Nat.mul_le_mul_right _ hm
  omega
theorem PartAt.more {W : World} {x : Value} {q : Rat} {m k : Nat} (h : PartAt W x q m) (hm : m ≤ k) : PartAt W x q k := by
  obtain ⟨s, a, d, h1, h2, h3, h4, h5⟩ := h
  have : m * B64 ^ 20 ≤ k * B64 ^ 20 := Nat.mul_le_mul_right _ hm
  exact ⟨s, a, d, h1, h2, h3, by omega, h5⟩
theorem PartAt.below {W W' : World} {x : Value} {q : Rat} {m : Nat} (h : PartAt W x q m) (hb : Below W.heap.size W W') : PartAt W' x q m := by
  obtain ⟨s, a, d, h1, h2⟩ := h
  exact ⟨s, a, d, h1.below hb, h2⟩
theorem PartAt.row {W W' : World} {V cap : Nat} {x : Value} {q : Rat} {m : Nat} (h : PartAt W x q m) (hr : SRow W V cap) (hg : W.grownBy W' (some V)) : PartAt W' x q m := by
  obtain ⟨s, a, d, h1, h2⟩ := h
  exact ⟨s, a, d, ratAt_row hr hg h1, h2⟩
theorem PartAt.is {W : World} {x : Value} {q : Rat} {m : Nat} (h : PartAt W x q m) (hm : m ≤ 1000) : RatIs W x q 21 := by
  obtain ⟨s, a, d, h1, h2, h3, h4, h5⟩ := h
  have e : B64 ^ 21 = B64 * B64 ^ 20 := by rw [Nat.pow_succ, Nat.mul_comm]
  have h6 : m * B64 ^ 20 ≤ B64 * B64 ^ 20 := Nat.mul_le_mul_right _ (by rw [B64_eq]; omega)
  have h7 : 1 * B64 ^ 20 ≤ B64 * B64 ^ 20 := Nat.mul_le_mul_right _ (by rw [B64_eq]; omega)
  exact ⟨s, a, d, h1, h2, h3, by rw [e]; omega, by rw [e]; omega⟩
end Go.Proofs.YtlcpcpmlfegejaaGreatDoor
namespace Go.Proofs.YtlcpcpmlfegejaaGreatDoor
open Go.RowKit Big
open Go.Lib Go.Shelf
theorem sumQ_set : ∀ (l : List Rat) (k : Nat) (q : Rat), k < l.length → sumQ (l.set k (l.getD k 0 + q)) = sumQ l + q := by
  intro l
  induction l with
  | nil => intro k q h; simp at h
  | cons a l ih =>
    intro k q h
    cases k with
    | zero => simp only [List.set_cons_zero, sumQ, List.getD_cons_zero]; rw [Rat.add_assoc, Rat.add_comm q, ← Rat.add_assoc]
    | succ k => simp only [List.set_cons_succ, sumQ, List.getD_cons_succ]; rw [ih k q (by simpa using h), Rat.add_assoc]
theorem sumQ_take {l : List Rat} {i : Nat} (h : i < l.length) : sumQ (l.take (i + 1)) = sumQ (l.take i) + l.getD i 0 := by
  rw [List.take_succ_eq_append_getElem h, sumQ_append, List.getD_eq_getElem?_getD, List.getElem?_eq_getElem h]
  simp [sumQ, Rat.add_zero]
theorem SRow.lt {W : World} {V cap : Nat} (h : SRow W V cap) : V < W.heap.size := by
  obtain ⟨cur, hV, -⟩ := h
  exact (Array.getElem?_eq_some_iff.1 hV).1
theorem SRow.below {W W' : World} {V cap : Nat} (h : SRow W V cap) (hb : Below W.heap.size W W') : SRow W' V cap := by
  have hl := h.lt
  obtain ⟨cur, hV, h2⟩ := h
  exact ⟨cur, (hb.block V hl).trans hV, h2⟩
theorem AtC.below {W W' : World} {V i cap : Nat} {x : C7} (h : AtC W V i x) (hr : SRow W V cap) (hb : Below W.heap.size W W') : AtC W' V i x :=
  AtC.of (hr.below hb) fun c hc => (hb.cell (p := ⟨V, i * 3 + c, none⟩) hr.lt).trans (h c hc).1
structure TI (W1 : World) (V cap n i m : Nat) (h : Fin n → C7) (qs : List Rat) (W : World) : Prop where
  below : Below W1.heap.size W1 W
  row : SRow W V cap
  rest : ∀ j : Fin n, i ≤ j.1 → AtC W V j.1 (h j)
  parts : ∃ (ps : Nat → C7) (rs : List Rat), rs.length = m ∧ sumQ rs = sumQ (qs.take i) ∧ ∀ k, k < m → AtC W V k (ps k) ∧ PartAt W (valC (ps k)) (rs.getD k 0) i
theorem TI.next {W1 W W' : World} {V cap n i m : Nat} {h : Fin n → C7} {qs : List Rat} (H : TI W1 V cap n i m h qs W) (hb : Below W.heap.size W W') : TI W1 V cap n i m h qs W' := by
  obtain ⟨ps, rs, h1, h2, h3⟩ := H.parts
  exact ⟨H.below.trans (hb.mono H.below.size), H.row.below hb, fun j hj => (H.rest j hj).below H.row hb, ps, rs, h1, h2, fun k hk => ⟨(h3 k hk).1.below H.row hb, (h3 k hk).2.below hb⟩⟩
theorem TI.append {W1 W W' : World} {V cap n i m : Nat} {h : Fin n → C7} {qs : List Rat} (H : TI W1 V cap n i m h qs W) (hV : W1.heap.size ≤ V) (hm : m ≤ i) (hi : i < n) (hl : qs.length = n) (hq : RatIs W (valC (h ⟨i, hi⟩)) (qs.getD i 0) 20)
    (hr : SRow W' V cap) (ha : AtC W' V m (h ⟨i, hi⟩)) (hg : W.grownBy W' (some V)) (ho : ∀ j y, j ≠ m → AtC W V j y → AtC W' V j y) : TI W1 V cap n (i + 1) (m + 1) h qs W' := by
  obtain ⟨ps, rs, h1, h2, h3⟩ := H.parts
  refine ⟨H.below.grown hg H.below.size (fun k hk => by injection hk with hk; omega), hr, fun j hj => ho _ _ (by omega) (H.rest j (by omega)), fun k => if k = m then h ⟨i, hi⟩ else ps k, rs ++ [qs.getD i 0], by rw [List.length_append, h1]; rfl, ?_, fun k hk => ?_⟩
  · rw [sumQ_append, h2, sumQ_take (by omega)]; simp [sumQ, Rat.add_zero]
  · by_cases hkm : k = m
    · subst hkm
      dsimp only
      rw [if_pos rfl, List.getD_eq_getElem?_getD, List.getElem?_append_right (by omega), h1, Nat.sub_self]
      exact ⟨ha, (PartAt.first (rat_row H.row hg hq) (by omega))⟩
    · dsimp only
      rw [if_neg hkm, List.getD_eq_getElem?_getD, List.getElem?_append_left (by omega), ← List.getD_eq_getElem?_getD]
      have := h3 k (by omega)
      exact ⟨ho _ _ hkm this.1, (this.2.row H.row hg).more (by omega)⟩
theorem TI.merge {W1 W W' : World} {V cap n i k : Nat} {h : Fin n → C7} {qs : List Rat} {y : C7} {r : Rat} (H : TI W1 V cap n i (k + 1) h qs W) (hV : W1.heap.size ≤ V) (hm : k + 1 ≤ i) (hi : i < n) (hl : qs.length = n)
    (rs : List Rat) (ps : Nat → C7) (h1 : rs.length = k + 1) (h2 : sumQ rs = sumQ (qs.take i)) (h3 : ∀ j, j < k + 1 → AtC W V j (ps j) ∧ PartAt W (valC (ps j)) (rs.getD j 0) i) (hr' : r = rs.getD k 0)
    (hy : PartAt W (valC y) (r + qs.getD i 0) (i + 1)) (hr : SRow W' V cap) (ha : AtC W' V k y) (hg : W.grownBy W' (some V)) (ho : ∀ j y, j ≠ k → AtC W V j y → AtC W' V j y) : TI W1 V cap n (i + 1) (k + 1) h qs W' := by
  subst hr'
  refine ⟨H.below.grown hg H.below.size (fun k hk => by injection hk with hk; omega), hr, fun j hj => ho _ _ (by omega) (H.rest j (by omega)), fun j => if j = k then y else ps j, rs.set k (rs.getD k 0 + qs.getD i 0), by rw [List.length_set, h1], ?_, fun j hj => ?_⟩
  · rw [sumQ_set _ _ _ (by omega), h2, sumQ_take (by omega)]
  · by_cases hjk : j = k
    · subst hjk
      dsimp only
      rw [if_pos rfl, show (rs.set j (rs.getD j 0 + qs.getD i 0)).getD j 0 = rs.getD j 0 + qs.getD i 0 from by rw [List.getD_eq_getElem?_getD, List.getElem?_set_self (by omega)]; rfl]
      exact ⟨ha, hy.row H.row hg⟩
    · dsimp only
      rw [if_neg hjk, List.getD_eq_getElem?_getD, List.getElem?_set_ne (fun e => hjk e.symm), ← List.getD_eq_getElem?_getD]
      have := h3 j hj
      exact ⟨ho _ _ hjk this.1, (this.2.row H.row hg).more (by omega)⟩
theorem PartAt.sum {q r : Rat} {i a d c : Nat} {s t : Bool} (hq : ratv s a d = q) (ha : a < i * B64 ^ 20) (hdl : d < B64 ^ 20) (hc : c < B64 ^ 20)  (hr : ratv t c d = r) {W' : World} {z : Value} {u : Bool} {n' m' : Nat} (hz : RatAt W' z u n' m') (hm0 : 0 < m') (hv : ratv u n' m' = ratv s a d + ratv t c d) (hn : n' ≤ (addB a d c d).1) (hm : m' = (addB a d c d).2) : PartAt W' z (q + r) (i + 1) := by
  unfold addB at hn hm
  rw [if_pos rfl] at hn hm
  refine ⟨u, n', m', hz, by rw [hv, hq, hr], hm0, ?_, by rw [hm]; exact hdl⟩
  rw [Nat.add_mul, Nat.one_mul]
  simp only at hn
  omega
end Go.Proofs.YtlcpcpmlfegejaaGreatDoor
