/- Groups, the plain lists: the keys in order, the indices of a key. The document's Groups: its memory, the keys and a row for each. The document's Groups: a number put into its group. The document's opened upon the memory of Groups. -/
import Derived.Test.YthpeaeepcbbfcaaAZ
import Derived.Test.YthpeaeepcbbfcaaAX
import Derived.Laws.OwnMore
import Derived.Deep.Onto
namespace Go.Proofs.Ythpeaeepcbbfcaa

/-- The indices below m whose key is x. -/
def idx (f : Nat → Int) : Nat → Int → List Int
  | 0, _ => []
  | m + 1, x => if f m = x then idx f m x ++ [(m : Int)] else idx f m x
/-- L has the keys of the first m, each once, in order. -/
structure Gd (f : Nat → Int) (m : Nat) (L : List Int) : Prop where
  sorted : L.Pairwise (· < ·)
  mem : ∀ x, x ∈ L ↔ ∃ i, i < m ∧ f i = x
theorem Gd.zero (f : Nat → Int) : Gd f 0 [] := ⟨List.Pairwise.nil, fun x => ⟨fun h => by simp at h, fun ⟨i, h, _⟩ => absurd h (Nat.not_lt_zero i)⟩⟩
theorem sorted_eq : ∀ {L L' : List Int}, L.Pairwise (· < ·) → L'.Pairwise (· < ·) → (∀ x, x ∈ L ↔ x ∈ L') → L = L'
  | [], [], _, _, _ => rfl
  | [], b :: L', _, _, h => by have := (h b).2 (by simp); simp at this
  | a :: L, [], _, _, h => by have := (h a).1 (by simp); simp at this
  | a :: L, b :: L', h1, h2, h => by
    obtain ⟨p1, q1⟩ := List.pairwise_cons.1 h1
    obtain ⟨p2, q2⟩ := List.pairwise_cons.1 h2
    have e : a = b := by
      have m1 := (h a).1 (by simp)
      have m2 := (h b).2 (by simp)
      rcases List.mem_cons.1 m1 with e | m1
      · exact e
      · rcases List.mem_cons.1 m2 with e | m2
        · exact e.symm
        · have := p2 a m1
          have := p1 b m2
          omega
    subst e
    refine congrArg (a :: ·) (sorted_eq q1 q2 fun x => ⟨fun hx => ?_, fun hx => ?_⟩)
    · rcases List.mem_cons.1 ((h x).1 (by simp [hx])) with e | m
      · have := p1 x hx; omega
      · exact m
    · rcases List.mem_cons.1 ((h x).2 (by simp [hx])) with e | m
      · have := p2 x hx; omega
      · exact m
theorem Gd.one {f : Nat → Int} {m : Nat} {L L' : List Int} (h : Gd f m L) (h' : Gd f m L') : L = L' := sorted_eq h.sorted h'.sorted fun x => (h.mem x).trans (h'.mem x).symm
theorem idx_none {f : Nat → Int} {x : Int} : ∀ {m : Nat}, (∀ i, i < m → f i ≠ x) → idx f m x = []
  | 0, _ => rfl
  | m + 1, h => by
    rw [idx, if_neg (h m (by omega))]
    exact idx_none fun i hi => h i (by omega)
/-- A key that is there. -/
theorem Gd.same {f : Nat → Int} {m : Nat} {L : List Int} (h : Gd f m L) (hm : f m ∈ L) : Gd f (m + 1) L := by
  refine ⟨h.sorted, fun x => ⟨fun hx => ?_, fun ⟨i, hi, e⟩ => ?_⟩⟩
  · obtain ⟨i, hi, e⟩ := (h.mem x).1 hx
    exact ⟨i, by omega, e⟩
  · by_cases him : i = m
    · subst him; rw [← e]; exact hm
    · exact (h.mem x).2 ⟨i, by omega, e⟩
/-- A new key at its place. -/
theorem Gd.new {f : Nat → Int} {m t : Nat} {L : List Int} (h : Gd f m L) (hlo : ∀ x ∈ L.take t, x < f m) (hhi : ∀ x ∈ L.drop t, f m < x) : Gd f (m + 1) (L.take t ++ f m :: L.drop t) := by
  have hL := h.sorted
  rw [← List.take_append_drop t L, List.pairwise_append] at hL
  obtain ⟨s1, s2, s3⟩ := hL
  refine ⟨?_, fun x => ?_⟩
  · rw [List.pairwise_append]
    refine ⟨s1, List.pairwise_cons.2 ⟨hhi, s2⟩, fun x hx y hy => ?_⟩
    rcases List.mem_cons.1 hy with e | hy
    · subst e; exact hlo x hx
    · exact s3 x hx y hy
  · have hmem : x ∈ L ↔ x ∈ L.take t ∨ x ∈ L.drop t := by rw [← List.mem_append, List.take_append_drop]
    constructor
    · intro hx
      rcases List.mem_append.1 hx with hx | hx
      · obtain ⟨i, hi, e⟩ := (h.mem x).1 (hmem.2 (.inl hx))
        exact ⟨i, by omega, e⟩
      · rcases List.mem_cons.1 hx with e | hx
        · exact ⟨m, by omega, e.symm⟩
        · obtain ⟨i, hi, e⟩ := (h.mem x).1 (hmem.2 (.inr hx))
          exact ⟨i, by omega, e⟩
    · rintro ⟨i, hi, e⟩
      by_cases him : i = m
      · subst him; rw [e]; simp
      · rcases hmem.1 ((h.mem x).2 ⟨i, by omega, e⟩) with g | g <;> simp [g]
theorem Gd.fresh {f : Nat → Int} {m : Nat} {L : List Int} (h : Gd f m L) (hm : f m ∉ L) : idx f m (f m) = [] :=
  idx_none fun i hi e => hm ((h.mem _).2 ⟨i, hi, e⟩)
/-- The groups behind one number more: one of them grows. -/
theorem groups_step {f : Nat → Int} {m t : Nat} {L : List Int} (hs : L.Pairwise (· < ·)) (ht : L[t]? = some (f m)) : L.map (idx f (m + 1)) = (L.map (idx f m)).set t (idx f m (f m) ++ [(m : Int)]) := by
  refine List.ext_getElem? fun j => ?_
  rw [List.getElem?_set, List.getElem?_map, List.getElem?_map]
  obtain ⟨htl, hte⟩ := List.getElem?_eq_some_iff.1 ht
  by_cases hj : t = j
  · subst hj
    rw [if_pos rfl, if_pos (by simpa using htl), ht]
    simp [idx]
  · rw [if_neg hj]
    cases hx : L[j]? with
    | none => rfl
    | some x =>
      obtain ⟨hjl, hje⟩ := List.getElem?_eq_some_iff.1 hx
      have hne : f m ≠ x := by
        intro e
        rw [List.pairwise_iff_getElem] at hs
        rcases Nat.lt_or_gt_of_ne hj with g | g
        · have := hs t j htl hjl g; omega
        · have := hs j t hjl htl g; omega
      simp [idx, if_neg hne]
end Go.Proofs.Ythpeaeepcbbfcaa
namespace Go.Proofs.Ythpeaeepcbbfcaa
open Go.RowKit

theorem ins_get {α : Type} (A : List α) (t : Nat) (a : α) (ht : t ≤ A.length) (j : Nat) : (A.take t ++ a :: A.drop t)[j]? = if j < t then A[j]? else if j = t then some a else A[j - 1]? := by
  have hl : (A.take t).length = t := by rw [List.length_take]; omega
  rw [List.getElem?_append, hl]
  by_cases h : j < t
  · rw [if_pos h, if_pos h, List.getElem?_take, if_pos h]
  · rw [if_neg h, if_neg h]
    by_cases e : j = t
    · subst e; simp
    · rw [if_neg e, show j - t = (j - t - 1) + 1 by omega, List.getElem?_cons_succ, List.getElem?_drop, show t + (j - t - 1) = j - 1 by omega]
theorem ins_old {α : Type} {A : List α} {t j : Nat} {a u : α} (ht : t ≤ A.length) (h : (A.take t ++ a :: A.drop t)[j]? = some u) : (j = t ∧ u = a) ∨ (j ≠ t ∧ A[if j < t then j else j - 1]? = some u) := by
  rw [ins_get A t a ht] at h
  by_cases h1 : j < t
  · rw [if_pos h1] at h; exact .inr ⟨by omega, by rw [if_pos h1]; exact h⟩
  · rw [if_neg h1] at h
    by_cases e : j = t
    · rw [if_pos e] at h; injection h with h; exact .inl ⟨e, h.symm⟩
    · rw [if_neg e] at h; exact .inr ⟨e, by rw [if_neg h1]; exact h⟩

/-- The keys' row, the row of the groups' rows, the groups' rows: all the call's own, all apart. -/
structure Gr (f : Nat → Int) (m : Nat) (v1 v2 : Value) (n : Nat) (L : List Int) (vs : List Value) (w0 W : World) : Prop where
  o2 : O2 v1 v2 n n (L.map (Value.int .i64)) vs w0 W
  rows : ∀ (j : Nat) (v : Value) (x : Int), vs[j]? = some v → L[j]? = some x → W.ownsRow w0.heap.size 3 1 v (idx f m x).length ((idx f m x).map (Value.int .i64))
  ap1 : ∀ (j : Nat) (v : Value) (g : Nat), vs[j]? = some v → v.ownBlock = some g → v1.ownBlock ≠ some g
  ap2 : ∀ (j j' : Nat) (v v' : Value) (g : Nat), j ≠ j' → vs[j]? = some v → vs[j']? = some v' → v.ownBlock = some g → v'.ownBlock ≠ some g
variable {f : Nat → Int} {m n : Nat} {v1 v2 : Value} {L : List Int} {vs : List Value} {w0 W W' : World}
theorem Gr.start (h : Below w0.heap.size w0 W) : Gr f 0 (.slice none 0 0) (.slice none 0 0) 0 [] [] w0 W :=
  ⟨⟨h, World.ownsRow_nil _ _ _ _, World.ownsRow_nil _ _ _ _⟩, fun j v x h => by simp at h, fun j v g h => by simp at h, fun j j' v v' g _ h => by simp at h⟩
theorem Gr.next (h : Gr f m v1 v2 n L vs w0 W) (hb : Below W.heap.size W W') : Gr f m v1 v2 n L vs w0 W' :=
  ⟨h.o2.next hb, fun j v x a b => owns_next' (h.rows j v x a b) hb, h.ap1, h.ap2⟩
theorem Gr.lens (h : Gr f m v1 v2 n L vs w0 W) : L.length = n ∧ vs.length = n := ⟨by have := h.o2.o1.1; simpa using this, by have := h.o2.o2.1; simpa using this⟩
/-- Behind opened: a new key without numbers. -/
theorem Gr.opened {u1 u2 : Value} {k : Int} {t n' : Nat} (h : Gr f m v1 v2 n L vs w0 W) (ht : t ≤ n) (hn' : n' = n + 1) (hk : idx f m k = [])
    (ho : O2 u1 u2 n' n' ((L.map (Value.int .i64)).take t ++ .int .i64 k :: (L.map (Value.int .i64)).drop t) (vs.take t ++ .slice none 0 0 :: vs.drop t) W W') : Gr f m u1 u2 (n + 1) (L.take t ++ k :: L.drop t) (vs.take t ++ .slice none 0 0 :: vs.drop t) w0 W' := by
  obtain ⟨hl1, hl2⟩ := h.lens
  subst hn'
  have hsz := h.o2.below.size
  have old : ∀ (j : Nat) (v : Value), (vs.take t ++ Value.slice none 0 0 :: vs.drop t)[j]? = some v → v = .slice none 0 0 ∨ (j ≠ t ∧ vs[if j < t then j else j - 1]? = some v) := fun j v hv => by
    rcases ins_old (by omega) hv with ⟨-, e⟩ | ⟨e, e'⟩
    · exact .inl e
    · exact .inr ⟨e, e'⟩
  have lt : ∀ (i : Nat) (v : Value) (g : Nat), vs[i]? = some v → v.ownBlock = some g → g < W.heap.size := fun i v g hv hg => by
    obtain ⟨hi, -⟩ := List.getElem?_eq_some_iff.1 hv
    exact ((h.rows i v (L[i]'(by omega)) hv (List.getElem?_eq_getElem (by omega))).lt g hg).2
  refine ⟨⟨bel_next h.o2.below ho.below, ?_, ho.o2.mono hsz⟩, fun j v x hv hx => ?_, fun j v g hv hg hu => ?_, fun j j' v v' g hne hv hv' hg hg' => ?_⟩
  · have := ho.o1.mono hsz
    rw [← List.map_take, ← List.map_drop, ← List.map_cons, ← List.map_append] at this
    exact this
  · rcases ins_old (by omega) hv with ⟨e, rfl⟩ | ⟨e, hv⟩
    · rcases ins_old (by omega) hx with ⟨-, rfl⟩ | ⟨e', -⟩
      · rw [hk]; exact World.ownsRow_nil _ _ _ _
      · exact absurd e e'
    · rcases ins_old (by omega) hx with ⟨e', -⟩ | ⟨-, hx⟩
      · exact absurd e' e
      · exact owns_next' (h.rows _ v x hv hx) ho.below
  · rcases old j v hv with rfl | ⟨-, hv⟩
    · simp [Value.ownBlock] at hg
    · have a := lt _ v g hv hg
      have b := (ho.o1.lt g hu).1
      omega
  · rcases old j v hv with rfl | ⟨e, hv⟩
    · simp [Value.ownBlock] at hg
    · rcases old j' v' hv' with rfl | ⟨e', hv'⟩
      · simp [Value.ownBlock] at hg'
      · refine h.ap2 _ _ v v' g ?_ hv hv' hg hg'
        split <;> split <;> omega
end Go.Proofs.Ythpeaeepcbbfcaa
namespace Go.Proofs.Ythpeaeepcbbfcaa
open Go.RowKit

variable {f : Nat → Int} {m n : Nat} {v1 v2 : Value} {L : List Int} {vs : List Value} {w0 W W' : World}
theorem set_old {α : Type} {A : List α} {t j : Nat} {a u : α} (h : (A.set t a)[j]? = some u) : (j = t ∧ u = a) ∨ (j ≠ t ∧ A[j]? = some u) := by
  rw [List.getElem?_set] at h
  by_cases e : t = j
  · rw [if_pos e] at h
    split at h
    · injection h with h; exact .inl ⟨e.symm, h.symm⟩
    · cases h
  · rw [if_neg e] at h; exact .inr ⟨fun x => e x.symm, h⟩
theorem sorted_ne (hs : L.Pairwise (· < ·)) {t j : Nat} {x y : Int} (hne : j ≠ t) (hx : L[j]? = some x) (hy : L[t]? = some y) : y ≠ x := by
  obtain ⟨hj, ej⟩ := List.getElem?_eq_some_iff.1 hx
  obtain ⟨ht, et⟩ := List.getElem?_eq_some_iff.1 hy
  intro e
  rw [List.pairwise_iff_getElem] at hs
  rcases Nat.lt_or_gt_of_ne hne with g | g
  · have := hs j t hj ht g; omega
  · have := hs t j ht hj g; omega
theorem Gr.put {v v' : Value} {t g2 cap : Nat} (h : Gr f m v1 (.slice (some ⟨g2, 0, none⟩) n cap) n L vs w0 W) (hs : L.Pairwise (· < ·)) (ht : L[t]? = some (f m)) (hv : vs[t]? = some v)
    (h1 : W'.ownsRow w0.heap.size 3 1 v' ((idx f m (f m)).length + 1) ((idx f m (f m)).map (Value.int .i64) ++ [.int .i64 (m : Int)])) (hg : W.grownBy W' v.ownBlock) (hw : v'.ownBlock = v.ownBlock ∨ v'.ownBlock = some W.heap.size) :
    Gr f (m + 1) v1 (.slice (some ⟨g2, 0, none⟩) n cap) n L (vs.set t v') w0 (W'.setCell ⟨g2, t, none⟩ v') := by
  have hrow := h.rows t v (f m) hv ht
  have o1 := kept_other' h.o2.o1 hg (fun g a => h.ap1 t v g hv a)
  have o2 := kept_other' h.o2.o2 hg (fun g a b => by
    obtain ⟨c1, e1⟩ := owns_type hrow a
    obtain ⟨c2, e2⟩ := owns_type h.o2.o2 b
    rw [e1] at e2
    simp at e2)
  have hst := o2.stored t v'
  have far3 : ∀ (u : Value) (k : Nat) (xs : List Value), W'.ownsRow w0.heap.size 3 1 u k xs → (W'.setCell ⟨g2, t, none⟩ v').ownsRow w0.heap.size 3 1 u k xs := fun u k xs hu => by
    refine hu.kept hst.2 ?_
    cases hb : u.ownBlock with
    | none => exact .inl rfl
    | some g =>
      refine .inr fun e => ?_
      injection e with e
      subst e
      obtain ⟨c1, e1⟩ := owns_type hu hb
      obtain ⟨c2, e2⟩ := owns_type o2 rfl
      rw [e1] at e2
      simp at e2
  have new : ∀ (j : Nat) (u : Value), (vs.set t v')[j]? = some u → ∀ g, u.ownBlock = some g → (j ≠ t ∧ vs[j]? = some u) ∨ (j = t ∧ (v.ownBlock = some g ∨ g = W.heap.size)) := fun j u hu g hgu => by
    rcases set_old hu with ⟨e, rfl⟩ | ⟨e, hu⟩
    · rcases hw with a | a
      · exact .inr ⟨e, .inl (a.symm.trans hgu)⟩
      · rw [a] at hgu; injection hgu with hgu; exact .inr ⟨e, .inr hgu.symm⟩
    · exact .inl ⟨e, hu⟩
  have lt : ∀ (i : Nat) (u : Value) (g : Nat), vs[i]? = some u → u.ownBlock = some g → g < W.heap.size := fun i u g hu hgu => by
    obtain ⟨hl1, hl2⟩ := h.lens
    obtain ⟨hi, -⟩ := List.getElem?_eq_some_iff.1 hu
    exact ((h.rows i u (L[i]'(by omega)) hu (List.getElem?_eq_getElem (by omega))).lt g hgu).2
  refine ⟨⟨(h.o2.below.grown hg h.o2.below.size (fun k hk => (hrow.lt k hk).1)).setCell (h.o2.o2.lt g2 rfl).1 _, far3 _ _ _ o1, hst.1⟩, fun j u x hu hx => ?_, fun j u g hu hgu a => ?_, fun j j' u u' g hne hu hu' hgu a => ?_⟩
  · rcases set_old hu with ⟨rfl, rfl⟩ | ⟨e, hu⟩
    · rw [ht] at hx
      injection hx with hx
      subst hx
      have e : idx f (m + 1) (f m) = idx f m (f m) ++ [(m : Int)] := by rw [idx, if_pos rfl]
      rw [e, List.map_append, List.length_append]
      exact far3 _ _ _ h1
    · have e' : idx f (m + 1) x = idx f m x := by rw [idx, if_neg (sorted_ne hs e hx ht)]
      rw [e']
      exact far3 _ _ _ (kept_other' (h.rows j u x hu hx) hg (fun g a b => h.ap2 t j v u g (fun x => e x.symm) hv hu a b))
  · rcases new j u hu g hgu with ⟨-, b⟩ | ⟨-, b | b⟩
    · exact h.ap1 j u g b hgu a
    · exact h.ap1 t v g hv b a
    · have := (h.o2.o1.lt g a).2; omega
  · rcases new j u hu g hgu with ⟨p, b⟩ | ⟨p, b | b⟩ <;> rcases new j' u' hu' g a with ⟨q, c⟩ | ⟨q, c | c⟩
    · exact h.ap2 j j' u u' g hne b c hgu a
    · exact h.ap2 t j v u g (fun x => p x.symm) hv b c hgu
    · have := lt j u g b hgu; omega
    · exact h.ap2 t j' v u' g (fun x => q x.symm) hv c b a
    · omega
    · omega
    · have := lt j' u' g c a; omega
    · omega
    · omega
/-- The groups as the law reads them. -/
theorem Gr.reads {q : Option Addr} {cap : Nat} (h : Gr f m v1 (.slice q n cap) n L vs w0 W) (hm : ∀ x, (idx f m x).length ≤ 1000) : n ≤ cap ∧ Rs W q n (L.map (idx f m)) := by
  obtain ⟨hl1, hl2⟩ := h.lens
  have hr := h.o2.o2
  rcases hr.2 with ⟨e, e0⟩ | ⟨g, cap', cur, e, hbg, hg, hnc, hcm, hcs, htake⟩
  · injection e with e1 e2 e3
    subst e1 e2 e3
    exact ⟨Nat.le_refl _, by simp [hl1], .inl rfl⟩
  · injection e with e1 e2 e3
    subst e1 e3
    refine ⟨hnc, by simp [hl1], .inr ⟨g, 0, rfl, (Array.getElem?_eq_some_iff.1 hg).1, fun j hj => ?_⟩⟩
    have hjv : j < vs.length := by omega
    have hjL : j < L.length := by omega
    have hrow := h.rows j vs[j] L[j] (List.getElem?_eq_getElem hjv) (List.getElem?_eq_getElem hjL)
    obtain ⟨p, c, e, hc, hrd⟩ := owns_form hrow
    refine ⟨p, _, c, ?_, hc, hm _, ?_⟩
    · rw [Nat.zero_add, cell_of_heap hg]
      have e2 : (cur.toList.take (n * 1))[j]? = vs[j]? := by rw [htake]
      rw [List.getElem?_take, if_pos (by omega), List.getElem?_eq_getElem hjv, e] at e2
      rw [← Array.getElem?_toList]; exact e2
    · rw [List.getD_eq_getElem?_getD, List.getElem?_map, List.getElem?_eq_getElem hjL]
      exact hrd
theorem idx_len (f : Nat → Int) (x : Int) : ∀ m, (idx f m x).length ≤ m
  | 0 => Nat.le_refl _
  | m + 1 => by
    have := idx_len f x m
    rw [idx]
    split
    · simp; omega
    · omega
end Go.Proofs.Ythpeaeepcbbfcaa
namespace Go.Proofs.Ythpeaeepcbbfcaa
open Go.RowKit

variable {f : Nat → Int} {m n t : Nat} {v1 v2 : Value} {L : List Int} {vs : List Value} {w0 W W' : World}
theorem opened_gr (k : Int) (h : Gr f m v1 v2 n L vs w0 W) (hnil : n = 0 → v1 = .slice none 0 0 ∧ v2 = .slice none 0 0) (hn : n ≤ 1000) (ht : t ≤ n) (hk : idx f m k = []) :
    Calls Try.prog 71 #[v1, v2, .int .i64 (t : Int), .int .i64 k] W fun e w' => ∃ q1 c1 q2 c2, e = .returned (.tuple #[.slice (some ⟨q1, 0, none⟩) (n + 1) c1, .slice (some ⟨q2, 0, none⟩) (n + 1) c2]) ∧ n + 1 ≤ c1 ∧ n + 1 ≤ c2 ∧ Below W.heap.size W w' ∧ Gr f m (.slice (some ⟨q1, 0, none⟩) (n + 1) c1) (.slice (some ⟨q2, 0, none⟩) (n + 1) c2) (n + 1) (L.take t ++ k :: L.drop t) (vs.take t ++ .slice none 0 0 :: vs.drop t) w0 w' := by
  obtain ⟨hl1, hl2⟩ := h.lens
  have fin : ∀ (e : Ending) (w' : World), (∃ u1 u2 k1 k2, e = .returned (.tuple #[u1, u2]) ∧ k1 = n + 1 ∧ k2 = n + 1 ∧ O2 u1 u2 k1 k2 ((L.map (Value.int .i64)).take t ++ .int .i64 k :: (L.map (Value.int .i64)).drop t) (vs.take t ++ .slice none 0 0 :: vs.drop t) W w') → ∃ q1 c1 q2 c2, e = .returned (.tuple #[.slice (some ⟨q1, 0, none⟩) (n + 1) c1, .slice (some ⟨q2, 0, none⟩) (n + 1) c2]) ∧ n + 1 ≤ c1 ∧ n + 1 ≤ c2 ∧ Below W.heap.size W w' ∧ Gr f m (.slice (some ⟨q1, 0, none⟩) (n + 1) c1) (.slice (some ⟨q2, 0, none⟩) (n + 1) c2) (n + 1) (L.take t ++ k :: L.drop t) (vs.take t ++ .slice none 0 0 :: vs.drop t) w0 w' := by
    rintro e w' ⟨u1, u2, k1, k2, he, rfl, rfl, ho⟩
    obtain ⟨q1, c1, rfl, hc1⟩ := owns_some ho.o1
    obtain ⟨q2, c2, rfl, hc2⟩ := owns_some ho.o2
    exact ⟨q1, c1, q2, c2, he, hc1, hc2, ho.below, h.opened ht rfl hk ho⟩
  cases n with
  | zero =>
    obtain ⟨rfl, rfl⟩ := hnil rfl
    obtain rfl : t = 0 := by omega
    have e1 : L = [] := List.length_eq_zero_iff.1 hl1
    have e2 : vs = [] := List.length_eq_zero_iff.1 hl2
    subst e1 e2
    exact (opened_nil k W).mono fun e w' ⟨u1, u2, he, ho⟩ => fin e w' ⟨u1, u2, 1, 1, he, rfl, rfl, ho⟩
  | succ n =>
    obtain ⟨g1, c1, rfl, hc1⟩ := owns_some h.o2.o1
    obtain ⟨g2, c2, rfl, hc2⟩ := owns_some h.o2.o2
    have b1 := Lib.hid (h.o2.o1.lt g1 rfl).2
    have b2 := Lib.hid (h.o2.o2.lt g2 rfl).2
    have x1 := Lib.hid (show ∀ u ∈ L.map (Value.int .i64), u.oneCell' = true from fun u hu => by
      obtain ⟨x, -, rfl⟩ := List.mem_map.1 hu
      rfl)
    have x2 := Lib.hid (show ∀ u ∈ vs, u.oneCell' = true from fun u hu => by
      obtain ⟨j, hj⟩ := List.getElem?_of_mem hu
      obtain ⟨hi, -⟩ := List.getElem?_eq_some_iff.1 hj
      obtain ⟨p, c, e, -, -⟩ := owns_form (h.rows j u (L[j]'(by omega)) hj (List.getElem?_eq_getElem (by omega)))
      rw [e]; rfl)
    have y1 := Lib.hid (show ∀ j u, (L.map (Value.int .i64))[j]? = some u → W.cell? ⟨g1, 0 + j, none⟩ = some u from fun j u hu => by
      have := h.o2.o1.cells (g := g1) rfl j u hu
      rw [Addr.add_lit] at this
      exact this)
    have y2 := Lib.hid (show ∀ j u, vs[j]? = some u → W.cell? ⟨g2, 0 + j, none⟩ = some u from fun j u hu => by
      have := h.o2.o2.cells (g := g2) rfl j u hu
      rw [Addr.add_lit] at this
      exact this)
    by_cases e1 : c1 = t
    · by_cases e2 : c2 = t
      · exact (opened_ee g1 0 g2 0 (n + 1) c1 c2 t k _ vs W hn hc1 hc2 ht e1 e2 (by simpa using hl1) hl2 b1 b2 x1 x2 y1 y2).mono fin
      · exact (opened_em g1 0 g2 0 (n + 1) c1 c2 t k _ vs W hn hc1 hc2 ht e1 (by omega) (by simpa using hl1) hl2 b1 b2 x1 x2 y1 y2).mono fin
    · by_cases e2 : c2 = t
      · exact (opened_me g1 0 g2 0 (n + 1) c1 c2 t k _ vs W hn hc1 hc2 ht (by omega) e2 (by simpa using hl1) hl2 b1 b2 x1 x2 y1 y2).mono fin
      · exact (opened_mm g1 0 g2 0 (n + 1) c1 c2 t k _ vs W hn hc1 hc2 ht (by omega) (by omega) (by simpa using hl1) hl2 b1 b2 x1 x2 y1 y2).mono fin
end Go.Proofs.Ythpeaeepcbbfcaa
