/- Lists of lists of numbers, and how they grow. -/
import Derived.Test.YtigidchicloleaaGreatDoorJB
import Derived.Test.YtigidchicloleaaGreatDoorHA
namespace Go.Proofs.YtigidchicloleaaGreatDoor.Arr
open Go.RowKit Go.Shelf
open Go.Lib
attribute [local go_sem] Oper.semAt_some
structure RdL (w : World) (q : Option Addr) (L : List (List Nat)) : Prop where
  cell : L.length = 0 ∨ ∃ b off, q = some ⟨b, off, none⟩ ∧ b < w.heap.size ∧ ∀ j, j < L.length → ∃ p c, w.cell? ⟨b, off + j, none⟩ = some (.slice p (L.getD j []).length c) ∧ RdN w p (L.getD j [])
theorem RdL.below {w w' : World} {q : Option Addr} {L : List (List Nat)} (h : RdL w q L) (hb : Below w.heap.size w w') : RdL w' q L := ⟨h.cell.imp id fun ⟨b, off, h1, h2, h3⟩ =>
  ⟨b, off, h1, Nat.lt_of_lt_of_le h2 hb.size, fun j hj => by
    obtain ⟨p, c, h4, h5⟩ := h3 j hj
    exact ⟨p, c, (hb.cell (p := ⟨b, off + j, none⟩) h2).trans h4, h5.below hb⟩⟩⟩
theorem RdL.at {w : World} {q : Option Addr} {L : List (List Nat)} (h : RdL w q L) {k : Nat} (hk : k < L.length) : ∃ b off p c, q = some ⟨b, off, none⟩ ∧ b < w.heap.size ∧ w.cell? ⟨b, off + k, none⟩ = some (.slice p (L.getD k []).length c) ∧ RdN w p (L.getD k []) := by
  rcases h.cell with h0 | ⟨b, off, h1, h2, h3⟩
  · omega
  · obtain ⟨p, c, h4, h5⟩ := h3 k hk
    exact ⟨b, off, p, c, h1, h2, h4, h5⟩
def LstPost (w : World) (z : Int) (L : List (List Nat)) (e : Ending) (w' : World) : Prop :=
  Below w.heap.size w w' ∧ ∃ (q : Option Addr) (n c : Nat), e = .returned (.tuple #[.slice q n c, .int .i64 z]) ∧ L.length = n ∧ RdL w' q L
theorem lst_no {w w' : World} {z : Int} (h : Below w.heap.size w w') : LstPost w z [] (.returned (.tuple #[.slice none 0 0, .int .i64 z])) w' := ⟨h, none, 0, 0, rfl, rfl, ⟨.inl rfl⟩⟩
def Els (B : Nat) (own : Option Nat) (W : World) (L : List (List Nat)) (vals : List Value) : Prop := vals.length = L.length ∧ ∀ j, j < L.length → ∃ p c, vals[j]? = some (.slice p (L.getD j []).length c) ∧ RdN W p (L.getD j []) ∧ ∀ b off, p = some ⟨b, off, none⟩ → 0 < (L.getD j []).length → B ≤ b ∧ own ≠ some b
theorem Els.nil (B : Nat) (own : Option Nat) (W : World) : Els B own W [] [] := ⟨rfl, fun j hj => absurd hj (by simp)⟩
theorem RdN.lt {W : World} {p : Option Addr} {l : List Nat} (h : RdN W p l) {b off : Nat} (e : p = some ⟨b, off, none⟩) (h0 : 0 < l.length) : b < W.heap.size ∧ ∃ o, W.heap[b]? = some o ∧ o.isCells = true := by
  obtain ⟨b', off', x, e', hb', hc, -⟩ := RdN.at h h0
  rw [e] at e'; cases e'
  refine ⟨hb', _, Array.getElem?_eq_getElem hb', cell_is_cells hc (Array.getElem?_eq_getElem hb')⟩
theorem Els.move {B : Nat} {own own' : Option Nat} {W W' : World} {L : List (List Nat)} {vals : List Value} (h : Els B own W L vals) (hs : W.heap.size ≤ W'.heap.size) (hk : ∀ b o, B ≤ b → own ≠ some b → W.heap[b]? = some o → o.isCells = true → W'.heap[b]? = W.heap[b]? ∧ own' ≠ some b) : Els B own' W' L vals := ⟨h.1, fun j hj => by
  obtain ⟨p, c, h1, h2, h3⟩ := h.2 j hj
  refine ⟨p, c, h1, h2.keep hs (fun b off e h0 => ?_), fun b off e h0 => ?_⟩
  · obtain ⟨h4, h5⟩ := h3 b off e h0
    obtain ⟨h6, o, h7, h8⟩ := h2.lt e h0
    exact (hk b o h4 h5 h7 h8).1
  · obtain ⟨h4, h5⟩ := h3 b off e h0
    obtain ⟨h6, o, h7, h8⟩ := h2.lt e h0
    exact ⟨h4, (hk b o h4 h5 h7 h8).2⟩⟩
theorem Els.snoc {B : Nat} {own : Option Nat} {W : World} {L : List (List Nat)} {vals : List Value} (h : Els B own W L vals) {p : Option Addr} {c : Nat} {l : List Nat} (hr : RdN W p l) (ht : ∀ b off, p = some ⟨b, off, none⟩ → 0 < l.length → B ≤ b ∧ own ≠ some b) : Els B own W (L ++ [l]) (vals ++ [.slice p l.length c]) := by
  refine ⟨by rw [List.length_append, List.length_append, h.1]; rfl, fun j hj => ?_⟩
  rw [List.length_append, List.length_singleton] at hj
  by_cases e : j < L.length
  · obtain ⟨p', c', h1, h2, h3⟩ := h.2 j e
    have e1 : (L ++ [l]).getD j [] = L.getD j [] := by rw [List.getD_eq_getElem?_getD, List.getElem?_append_left e, ← List.getD_eq_getElem?_getD]
    rw [e1]
    exact ⟨p', c', by rw [List.getElem?_append_left (by rw [h.1]; exact e)]; exact h1, h2, h3⟩
  · obtain rfl : j = L.length := by omega
    have e1 : (L ++ [l]).getD L.length [] = l := by rw [List.getD_eq_getElem?_getD, List.getElem?_append_right (Nat.le_refl _), Nat.sub_self]; rfl
    rw [e1]
    exact ⟨p, c, by rw [List.getElem?_append_right (by rw [h.1]; exact Nat.le_refl _), h.1, Nat.sub_self]; rfl, hr, ht⟩
structure LI (B B2 : Nat) (pv : Option Addr) (cv n : Nat) (L : List (List Nat)) (W : World) : Prop where
  len : L.length = n
  row : ∃ vals, W.ownsRow B 22 1 (.slice pv n cv) n vals ∧ Els B2 (Value.slice pv n cv).ownBlock W L vals
theorem LI.start (B B2 : Nat) (W : World) : LI B B2 none 0 0 [] W := ⟨rfl, [], ⟨rfl, .inl ⟨rfl, rfl⟩⟩, Els.nil B2 _ W⟩
theorem LI.reads {B B2 n cv : Nat} {pv : Option Addr} {L : List (List Nat)} {W : World} (h : LI B B2 pv cv n L W) : RdL W pv L := by
  obtain ⟨vals, h1, h2⟩ := h.row
  have hl := h.len
  refine ⟨?_⟩
  obtain ⟨-, ⟨e, e2⟩ | ⟨g, cap, cur, e, hg, hh, -⟩⟩ := id h1
  · exact .inl (by rw [hl]; exact e2)
  · injection e with e _ e3
    subst e
    refine .inr ⟨g, 0, rfl, (Array.getElem?_eq_some_iff.1 hh).1, fun j hj => ?_⟩
    obtain ⟨p, c, h3, h4, -⟩ := h2.2 j hj
    exact ⟨p, c, by rw [Nat.zero_add, h1.cellAt j (by omega)]; exact h3, h4⟩
theorem own_type {W : World} {B n k : Nat} {v : Value} {vals : List Value} (h : W.ownsRow B 22 1 v n vals) (hk : v.ownBlock = some k) : B ≤ k ∧ ∃ cs, W.heap[k]? = some (.cells cs 22 (0, 0)) := by
  obtain ⟨-, ⟨rfl, -⟩ | ⟨g, cap, cur, rfl, hg, hh, -⟩⟩ := h
  · cases hk
  · cases hk; exact ⟨hg, cur, hh⟩
theorem LI.keep {B B2 n cv : Nat} {pv : Option Addr} {L : List (List Nat)} {W W' : World} (h : LI B B2 pv cv n L W) (hg : W.grownBy W' none) : LI B B2 pv cv n L W' := by
  obtain ⟨vals, h1, h2⟩ := h.row
  exact ⟨h.len, vals, h1.kept hg (by cases pv <;> simp [Value.ownBlock]), h2.move hg.size (fun b o _ h3 hb _ => ⟨hg.block b (Array.getElem?_eq_some_iff.1 hb).1 (by intro e; cases e), h3⟩)⟩
theorem LI.other {B B2 n cv : Nat} {pv : Option Addr} {L : List (List Nat)} {W W' : World} (h : LI B B2 pv cv n L W) {r : Nat} (hg : W.grownBy W' (some r)) (hr : ∀ o, W.heap[r]? = some o → o.isCells = true → r < B ∧ r < B2) : LI B B2 pv cv n L W' := by
  obtain ⟨vals, h1, h2⟩ := h.row
  refine ⟨h.len, vals, h1.kept hg ?_, h2.move hg.size (fun b o hb2 h3 hb hc => ⟨hg.block b (Array.getElem?_eq_some_iff.1 hb).1 (by intro e; cases e; have := (hr o hb hc).2; omega), h3⟩)⟩
  rcases Option.eq_none_or_eq_some (Value.slice pv n cv).ownBlock with e | ⟨k, e⟩
  · exact .inl e
  · refine .inr ?_
    rw [e]
    intro e2
    cases e2
    obtain ⟨h3, cs, h4⟩ := own_type h1 e
    have := (hr _ h4 rfl).1
    omega
theorem info22 : (Tryz.prog.info? 22).map (fun i => (i.zero, i.size, i.bytes)) = some (some (.slice none 0 0), 1, 24) := by kernel_rfl
theorem LI.step {B B2 n cv gv cv' m c : Nat} {pv p : Option Addr} {L : List (List Nat)} {l : List Nat} {vals : List Value} {W1 W2 : World} (hl : L.length = n) (_h1 : W1.ownsRow B 22 1 (.slice pv n cv) n vals) (h2 : Els B2 (Value.slice pv n cv).ownBlock W1 L vals) (hm : l.length = m) (hr : RdN W1 p l) (ht : ∀ b off, p = some ⟨b, off, none⟩ → 0 < l.length → B2 ≤ b ∧ (Value.slice pv n cv).ownBlock ≠ some b)
    (ho : W2.ownsRow B 22 1 (.slice (some ⟨gv, 0, none⟩) (n + 1) cv') (n + 1) (vals ++ [.slice p m c])) (hg : W1.grownBy W2 (Value.slice pv n cv).ownBlock) (h5 : (Value.slice (some ⟨gv, 0, none⟩) (n + 1) cv').ownBlock = (Value.slice pv n cv).ownBlock ∨ (Value.slice (some ⟨gv, 0, none⟩) (n + 1) cv').ownBlock = some W1.heap.size) : LI B B2 (some ⟨gv, 0, none⟩) cv' (n + 1) (L ++ [l]) W2 := by
  subst hm
  refine ⟨by rw [List.length_append, hl]; rfl, vals ++ [.slice p l.length c], ho, ?_⟩
  refine (h2.snoc hr ht).move hg.size (fun b o _ h3 hb _ => ⟨hg.block b (Array.getElem?_eq_some_iff.1 hb).1 (fun e => h3 e.symm), fun e => ?_⟩)
  rcases h5 with h5 | h5
  · rw [h5] at e; exact h3 e
  · rw [h5] at e
    cases e
    have := (Array.getElem?_eq_some_iff.1 hb).1
    omega
theorem wpList_append_1l {w : World} {ops : Array Oper} {rest : List Oper} {o : Oper} {a : Act} {Q : Exit → Act → World → Prop} (hgd : o.guard = none) (s x : Operand)
    (ho : o.op = .call { callee := .builtin .append, args := #[s, x], argTypes := #[46, 46] })
    (B : Nat) (pv : Option Addr) (cv n : Nat) (X : List Value) (hs : a.eval s = .slice pv n cv) (hown : w.ownsRow B 22 1 (.slice pv n cv) n X)
    (g : Nat) (p : Option Addr) (m c : Nat) (hx : a.eval x = .slice (some ⟨g, 0, none⟩) 1 1) (hc : w.cell? ⟨g, 0, none⟩ = some (.slice p m c)) (hlen : n ≤ 100000) (hB : B ≤ w.heap.size)
    (h : ∀ gv cv' w', w'.ownsRow B 22 1 (.slice (some ⟨gv, 0, none⟩) (n + 1) cv') (n + 1) (X ++ [.slice p m c]) → w.grownBy w' (Value.slice pv n cv).ownBlock → ((Value.slice (some ⟨gv, 0, none⟩) (n + 1) cv').ownBlock = (Value.slice pv n cv).ownBlock ∨ (Value.slice (some ⟨gv, 0, none⟩) (n + 1) cv').ownBlock = some w.heap.size) → wpList Tryz.prog ops Q rest (a.put o.dst (.slice (some ⟨gv, 0, none⟩) (n + 1) cv')) w') : wpList Tryz.prog ops Q (o :: rest) a w := by
  obtain ⟨i0, hi, hz0, hz1, hz2⟩ := info_parts info22
  refine wpList_append_own_at _ hgd s x 46 ho B 22 i0 (.slice none 0 0) 1 24 Tryz.underlying46 hi hz0 hz1 hz2 rfl (by decide) _ _ _ hs hown ⟨g, 0, none⟩ 1 1 [.slice p m c] hx rfl ?_ ?_ (by unfold maxLen; omega) (by omega) hB ?_
  · intro j u hj
    cases j with
    | zero => simp at hj; subst hj; exact hc
    | succ j => simp at hj
  · intro u hu
    obtain rfl := List.mem_singleton.1 hu
    rfl
  · intro v' w' h1 h2 _ h5
    obtain ⟨gv, cv', rfl⟩ : ∃ g c, v' = .slice (some ⟨g, 0, none⟩) (n + 1) c := by
      obtain ⟨-, ⟨-, e⟩ | ⟨g, cap, _, e, -⟩⟩ := id h1
      · omega
      · exact ⟨g, cap, e⟩
    exact h gv cv' w' h1 h2 h5
theorem op_append_1l {w : World} {o : Oper} {a : Act} {K : Act → World → Prop} {Q : Exit → Act → World → Prop} (s x : Operand)
    (ho : o.op = .call { callee := .builtin .append, args := #[s, x], argTypes := #[46, 46] })
    (B : Nat) (pv : Option Addr) (cv n : Nat) (X : List Value) (hs : a.eval s = .slice pv n cv) (hown : w.ownsRow B 22 1 (.slice pv n cv) n X)
    (g : Nat) (p : Option Addr) (m c : Nat) (hx : a.eval x = .slice (some ⟨g, 0, none⟩) 1 1) (hc : w.cell? ⟨g, 0, none⟩ = some (.slice p m c)) (hlen : n ≤ 100000) (hB : B ≤ w.heap.size)
    (h : ∀ gv cv' w', w'.ownsRow B 22 1 (.slice (some ⟨gv, 0, none⟩) (n + 1) cv') (n + 1) (X ++ [.slice p m c]) → w.grownBy w' (Value.slice pv n cv).ownBlock → ((Value.slice (some ⟨gv, 0, none⟩) (n + 1) cv').ownBlock = (Value.slice pv n cv).ownBlock ∨ (Value.slice (some ⟨gv, 0, none⟩) (n + 1) cv').ownBlock = some w.heap.size) → K (a.put o.dst (.slice (some ⟨gv, 0, none⟩) (n + 1) cv')) w') : o.wp Tryz.prog a w K Q := by
  obtain ⟨i0, hi, hz0, hz1, hz2⟩ := info_parts info22
  obtain ⟨v', w', hr, h2, h3, h4, h5⟩ := run_append_own_at (P := Tryz.prog) w B 46 o.type 22 i0 (.slice none 0 0) 1 24 Tryz.underlying46 hi hz0 hz1 hz2 rfl (by decide) (.slice pv n cv) n X hown ⟨g, 0, none⟩ 1 1 [.slice p m c] rfl (fun j u hj => by
    cases j with
    | zero => simp at hj; subst hj; exact hc
    | succ j => simp at hj) (fun u hu => by obtain rfl := List.mem_singleton.1 hu; rfl) (by unfold maxLen; omega) (by omega) hB
  obtain ⟨gv, cv', rfl⟩ : ∃ g c, v' = .slice (some ⟨g, 0, none⟩) (n + 1) c := by
    obtain ⟨-, ⟨-, e⟩ | ⟨g, cap, _, e, -⟩⟩ := id h2
    · omega
    · exact ⟨g, cap, e⟩
  unfold Oper.wp execOp
  simp only [ho, resolve, invoke, builtin, Sem.run_bind, Sem.run_pure, Result.andThen_ok, List.map_toArray, List.map_cons, List.map_nil, hs, hx, hr]
  exact h gv cv' w' h2 h3 h5
end Go.Proofs.YtigidchicloleaaGreatDoor.Arr
namespace Go.Proofs.YtigidchicloleaaGreatDoor.Arr
open Go.RowKit Go.Shelf
open Go.Lib
theorem last_le {s : Nat} {a n st : Int} (h : cutOk s a n st = true) : 0 ≤ a ∧ 0 ≤ n ∧ 1 ≤ st ∧ a ≤ (s : Int) ∧ (1 ≤ n → a + (n - 1) * st ≤ (s : Int) - 1) := by
  unfold cutOk at h
  simp only [Bool.and_eq_true, Bool.or_eq_true, decide_eq_true_eq] at h
  obtain ⟨⟨⟨⟨h1, h2⟩, h3⟩, h4⟩, h5⟩ := h
  refine ⟨h1, h2, h3, h4, fun hn => ?_⟩
  rcases h5 with h5 | ⟨h5, h6⟩
  · omega
  · have e2 : (n - 1) * st ≤ ((s : Int) - 1 - a) / st * st := Int.mul_le_mul_of_nonneg_right h6 (by omega)
    have e3 : ((s : Int) - 1 - a) / st * st ≤ (s : Int) - 1 - a := Int.ediv_mul_le _ (by omega)
    omega
theorem cut_of {s : Nat} {a n st : Int} (h1 : 0 ≤ a) (h2 : 0 ≤ n) (h3 : 1 ≤ st) (h4 : a ≤ (s : Int)) (h5 : 1 ≤ n → a + (n - 1) * st ≤ (s : Int) - 1) : cutOk s a n st = true := by
  unfold cutOk
  simp only [Bool.and_eq_true, Bool.or_eq_true, decide_eq_true_eq]
  refine ⟨⟨⟨⟨h1, h2⟩, h3⟩, h4⟩, ?_⟩
  by_cases hn : n = 0
  · exact .inl hn
  · have h := h5 (by omega)
    have e1 : 0 ≤ (n - 1) * st := Int.mul_nonneg (by omega) (by omega)
    refine .inr ⟨by omega, ?_⟩
    rw [Int.le_ediv_iff_mul_le (by omega)]
    omega
theorem shp_cnts {s : List Nat} {c1 : List (Int × Int × Int)} (hs : Shp s) (h : slabOk s c1 = true) : Shp (cnts c1) := by
  obtain ⟨h1, h2, h3, h4⟩ := cnts_ok h hs.2.1
  exact ⟨by rw [cnts, List.length_map, h1]; exact hs.1, h3, Nat.le_trans h4 hs.2.2⟩
theorem vs_of_shp {s : List Nat} (hs : Shp s) : vs (s.map Int.ofNat) = true := by
  unfold vs
  rw [decide_eq_true (show (s.map Int.ofNat).length ≤ 4 by rw [List.length_map]; exact hs.1), decide_eq_true (show prod ((s.map Int.ofNat).map Int.toNat) ≤ 4096 by rw [toNat_map]; exact hs.2.2), decide_eq_true]
  · rfl
  · intro z hz
    obtain ⟨x, hx, rfl⟩ := List.mem_map.1 hz
    have := hs.2.1 x hx
    exact ⟨by show (0 : Int) ≤ (x : Int); omega, by show (x : Int) ≤ 1024; omega⟩
theorem sliceV_len (s : List Nat) (l : List (List UInt8)) (c : List (Int × Int × Int)) : (sliceV s l c).length = prod (cnts c) := by
  unfold sliceV; rw [List.length_map, List.length_range]
theorem place_lt {s : List Nat} {c : List (Int × Int × Int)} (hs : Shp s) (h : slabOk s c = true) {i : Nat} (hi : i < prod (cnts c)) : plc s (thr c (ixOf (cnts c) i)) 0 < prod s := by
  have h1 := (thr_ok h hs.2.1 (ixOf_is (cnts c) i hi).1).2
  have h2 := (plc_lt s _ 0 h1).1
  omega
theorem valid_slice {s : List Nat} {l : List (List UInt8)} {c : List (Int × Int × Int)} (hs : Shp s) (h : slabOk s c = true) (hv : validA (s.map Int.ofNat) l = true) : validA ((cnts c).map Int.ofNat) (sliceV s l c) = true := by
  unfold validA at hv ⊢
  rw [Bool.and_eq_true, Bool.and_eq_true, decide_eq_true_eq, toNat_map, List.all_eq_true] at hv
  obtain ⟨-, hl, hall⟩ := hv
  rw [vs_of_shp (shp_cnts hs h), toNat_map, decide_eq_true (sliceV_len s l c), Bool.true_and, Bool.true_and, List.all_eq_true]
  intro x hx
  obtain ⟨i, hi, rfl⟩ := List.mem_map.1 hx
  have hp := place_lt hs h (List.mem_range.1 hi)
  rw [List.getD_eq_getElem?_getD, List.getElem?_eq_getElem (by rw [hl]; exact hp)]
  exact hall _ (List.getElem_mem _)
end Go.Proofs.YtigidchicloleaaGreatDoor.Arr
