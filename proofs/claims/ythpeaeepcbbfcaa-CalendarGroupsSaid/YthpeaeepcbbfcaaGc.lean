/- The program's Groups: its map of groups, read as data. The program's Groups: its memory. The program's Groups: the walk. The law CalendarGroups. -/
import Derived.Test.YthpeaeepcbbfcaaGb
import Derived.Maps.OwnRows
import Derived.Maps.Views
import Derived.Lib.SlKeysI
import Derived.Test.YthpeaeepcbbfcaaBI
import Derived.Maps.GroupsBeside
import Derived.Maps.Range
import Derived.Test.YthpeaeepcbbfcaaAJ
namespace Go.Proofs.Ythpeaeepcbbfcaa
open Go.RowKit Go.Maps Go.ChangeShapes

/-- The items of a slice as read; of nil none. -/
def itm {H : Type} : DataW H → List (DataW H)
  | .slice xs _ => xs
  | _ => []
theorem itm_row {H : Type} {w : World} {base : Nat} {e : TypeId} {v : Value} {zs : List Int} (h : w.ownsInts base e .i64 v zs) : itm (rowDatum (H := H) .i64 v zs) = lits .i64 zs := by
  rcases h.datum (H := H) with ⟨h1, rfl⟩ | h1 <;> rw [h1] <;> rfl
theorem lits_inj {H : Type} {a b : List Int} (h : (lits (H := H) .i64 a) = lits .i64 b) : a = b := by
  unfold lits at h
  refine (List.map_inj_right fun x y hxy => ?_).1 h
  simpa using hxy
/-- The map of the groups of the first m numbers. -/
structure Gm (f : Nat → Int) (m : Nat) (D : DataW Unit) : Prop where
  map : IsMap D
  has : ∀ x, Maps.has D (.int .i64 x) = true ↔ ∃ i, i < m ∧ f i = x
  items : ∀ x, itm (D.atKey (.int .i64 x) .nil) = lits .i64 (idx f m x)
theorem Gm.start (f : Nat → Int) : Gm f 0 (.map []) :=
  ⟨isMap_empty, fun x => ⟨fun h => by simp [Maps.has] at h, fun ⟨i, h, _⟩ => absurd h (Nat.not_lt_zero i)⟩, fun x => rfl⟩
theorem Gm.group {f : Nat → Int} {m : Nat} {D : DataW Unit} (h : Gm f m D) {w : World} {base : Nat} {e : TypeId} {v : Value} {zs : List Int} {x : Int} (ho : w.ownsInts base e .i64 v zs) (hat : D.atKey (.int .i64 x) .nil = rowDatum .i64 v zs) : zs = idx f m x := by
  have e := h.items x
  rw [hat, itm_row ho] at e
  exact lits_inj e
theorem Gm.put {f : Nat → Int} {m : Nat} {D : DataW Unit} (h : Gm f m D) {w : World} {base : Nat} {e : TypeId} {v : Value} (ho : w.ownsInts base e .i64 v (idx f m (f m) ++ [(m : Int)])) : Gm f (m + 1) (D.put (.int .i64 (f m)) (rowDatum .i64 v (idx f m (f m) ++ [(m : Int)]))) := by
  have hk : WideAt.IsKeyLit (.int .i64 (f m)) := by trivial
  refine ⟨h.map.put _ _, fun x => ?_, fun x => ?_⟩
  · by_cases e : x = f m
    · subst e
      rw [has_put_same h.map hk]
      exact ⟨fun _ => ⟨m, Nat.lt_succ_self m, rfl⟩, fun _ => rfl⟩
    · rw [has_put_other (by simpa using e), h.has x]
      constructor
      · rintro ⟨i, hi, rfl⟩; exact ⟨i, by omega, rfl⟩
      · rintro ⟨i, hi, rfl⟩
        refine ⟨i, ?_, rfl⟩
        by_cases h1 : i = m
        · subst h1; exact absurd rfl e
        · omega
  · by_cases e : x = f m
    · subst e
      rw [atKey_put_same h.map hk, itm_row ho, idx, if_pos rfl]
    · rw [atKey_put_other (by simpa using e), h.items x, idx, if_neg (fun h1 => e h1.symm)]
/-- A list with the map's keys, sorted, is the list of the groups' keys. -/
theorem Gm.keys {f : Nat → Int} {m : Nat} {D : DataW Unit} (h : Gm f m D) (hn : (intKeys D).Nodup) (hm : ∀ x, x ∈ intKeys D ↔ Maps.has D (.int .i64 x) = true) {ss : List Int} (hp : ss.Perm (intKeys D)) : Gd f m (ss.mergeSort (fun x y => decide (x ≤ y))) := by
  have tr : ∀ a b c : Int, leI a b = true → leI b c = true → leI a c = true := fun a b c h1 h2 => by simp only [leI, decide_eq_true_eq] at *; exact Int.le_trans h1 h2
  have to : ∀ a b : Int, (leI a b || leI b a) = true := fun a b => by simp only [leI, Bool.or_eq_true, decide_eq_true_eq]; exact Int.le_total a b
  have hs := List.pairwise_mergeSort tr to ss
  have hpm := List.mergeSort_perm ss leI
  have hnd : (ss.mergeSort leI).Nodup := (hpm.trans hp).nodup_iff.2 hn
  refine ⟨(hs.and hnd).imp fun {a b} hab => ?_, fun x => ?_⟩
  · have := of_decide_eq_true hab.1
    have := hab.2
    omega
  · rw [← h.has x, ← hm x]
    exact (hpm.trans hp).mem_iff
end Go.Proofs.Ythpeaeepcbbfcaa
namespace Go.Proofs.Ythpeaeepcbbfcaa
open Go.RowKit Go.Maps Go.ChangeShapes

variable {f : Nat → Int} {n m n1 t base b B G : Nat} {L : List Int} {D : DataW Unit} {p : Option Addr} {w0 W W' : World} {v : Value} {zs : List Int}
theorem lawI : Keyed Try.prog 3 := int_keyed Try.underlying3
theorem zero41 (w : World) : (zeroValue 41).run Try.prog w = .ok (.slice none 0 0) w := by kernel_rfl
theorem grown_none (hb : Below W.heap.size W W') : W.grownBy W' none := ⟨hb.os, hb.tape, hb.output, hb.size, fun k hk _ => hb.block k hk⟩
theorem grown_set (W : World) (g k : Nat) (v : Value) : W.grownBy (W.setCell ⟨g, k, none⟩ v) (some g) :=
  ⟨rfl, rfl, rfl, by simp, fun i _ hi => Below.heap_setCell _ _ _ _ (fun e => hi (by rw [e]))⟩
theorem groups_next (h : W.ownsGroups Try.prog 3 base 3 .i64 b n D) (hb : Below W.heap.size W W') : W'.ownsGroups Try.prog 3 base 3 .i64 b n D :=
  h.kept (grown_none hb) (by simp) (fun _ _ _ x _ => by cases x.val.ownBlock <;> simp)
theorem ints_next (h : W.ownsInts base 3 .i64 v zs) (hb : Below W.heap.size W W') : W'.ownsInts base 3 .i64 v zs := ⟨owns_next' h.1 hb, h.2⟩
theorem groups_map (h : W.ownsGroups Try.prog 3 base 3 .i64 b n D) : W.ownsMap Try.prog 3 (rowElem W base 3 .i64) b n D := by
  obtain ⟨es, clock, hb, F, hs, hD, _⟩ := h
  exact ⟨es, clock, hb, F, hs, hD⟩
theorem groups_keys (h : W.ownsGroups Try.prog 3 base 3 .i64 b n D) : (intKeys D).Nodup ∧ ∀ x, x ∈ intKeys D ↔ Maps.has D (.int .i64 x) = true := by
  have hown := groups_map h
  obtain ⟨es, hD, hpw, _⟩ := hown.entries lawI
  obtain ⟨es', hD', hko⟩ := hown.keysOf
  obtain rfl : es = es' := by rw [hD] at hD'; simpa using hD'
  subst hD
  have hk : ∀ p ∈ es, ∃ x, p.1 = .int .i64 x := fun p hp => by obtain ⟨v, hv⟩ := hko p hp; obtain ⟨x, _, hx, _⟩ := Maps.keyOf_i64 Try.underlying3 hv; exact ⟨x, hx⟩
  constructor
  · show (es.map fun p => Go.intOf p.1).Nodup
    refine List.pairwise_map.2 (hpw.imp_of_mem fun {p q} hp' hq' hne e => hne ?_)
    obtain ⟨a, ha⟩ := hk p hp'
    obtain ⟨b, hb⟩ := hk q hq'
    rw [ha, hb] at e ⊢
    exact congrArg _ e
  · intro x
    rw [has_eq, List.any_eq_true]
    show x ∈ es.map (fun p => Go.intOf p.1) ↔ _
    rw [List.mem_map]
    constructor
    · rintro ⟨p, hp', rfl⟩
      obtain ⟨a, ha⟩ := hk p hp'
      exact ⟨p, hp', by rw [ha]; simp [Lit.sameKey, Go.intOf]⟩
    · rintro ⟨p, hp', hs⟩
      obtain ⟨a, ha⟩ := hk p hp'
      rw [ha] at hs
      exact ⟨p, hp', by rw [ha]; simpa [Lit.sameKey, Go.intOf] using hs⟩
theorem nodup_len (f : Nat → Int) : ∀ (n : Nat) (L : List Int), L.Nodup → (∀ x ∈ L, ∃ i, i < n ∧ f i = x) → L.length ≤ n
  | 0, L, _, h => by
    cases L with
    | nil => exact Nat.le_refl _
    | cons a L => obtain ⟨i, hi, _⟩ := h a (by simp); omega
  | n + 1, L, hn, h => by
    by_cases hm : f n ∈ L
    · have ih := nodup_len f n (L.erase (f n)) (hn.erase _) fun x hx => by
        obtain ⟨h1, h2⟩ := hn.mem_erase_iff.1 hx
        obtain ⟨i, hi, e⟩ := h x h2
        refine ⟨i, ?_, e⟩
        by_cases hin : i = n
        · subst hin; exact absurd e.symm h1
        · omega
      have := List.length_erase_of_mem hm
      omega
    · have ih := nodup_len f n L hn fun x hx => by
        obtain ⟨i, hi, e⟩ := h x hx
        refine ⟨i, ?_, e⟩
        by_cases hin : i = n
        · subst hin; rw [e] at hm; exact absurd hx hm
        · omega
      omega
theorem gd_len {L : List Int} (h : Gd f n L) : L.length ≤ n :=
  nodup_len f n L (h.sorted.imp fun {a b} hab => by omega) fun x hx => (h.mem x).1 hx
theorem make_rows (n : Nat) (hn : n ≤ 1000) (W : World) : (Instr.makeSlice 53 (.int .i64 (n : Int)) (.int .i64 (n : Int))).run Try.prog W = .ok (.slice (some ⟨W.heap.size, 0, none⟩) n n) (W.alloc (.cells (Array.replicate n (.slice none 0 0)) 41)) := by
  obtain ⟨i0, hi, hz0, hz1, hz2⟩ := info_parts info41
  have h := run_make (P := Try.prog) W 53 41 i0 (.slice none 0 0) Try.underlying53 hi hz0 .i64 .i64 (n : Int) (n : Int) (by omega) (by omega) (by rw [hz2]; omega) (by omega)
  have e : madeCells (Value.cells (.slice none 0 0)) (n * 1) = Array.replicate n (Value.slice none 0 0) := by
    have e1 : Value.cells (.slice none 0 0) = #[Value.slice none 0 0] := rfl
    rw [e1, Nat.mul_one]
    unfold madeCells
    apply Array.ext
    · simp
    · intro i h1 h2
      simp [Nat.mod_one]
  rw [hz1, Int.toNat_natCast, e] at h
  exact h

/-- The groups' row being filled from the map. -/
structure Fl (f : Nat → Int) (n n1 : Nat) (L : List Int) (D : DataW Unit) (B G : Nat) (p : Option Addr) (t : Nat) (w0 W : World) : Prop where
  below : Below w0.heap.size w0 W
  groups : W.ownsGroups Try.prog 3 (B + 1) 3 .i64 B n D
  keys : Rd W p n1 L
  base : w0.heap.size ≤ B
  far : B < G
  ne : n1 = 0 ∨ ∀ b off, p = some ⟨b, off, none⟩ → b ≠ G
  row : ∃ cs : Array Value, Bk W G cs 41 ∧ cs.size = n1 ∧ ∀ j, j < t → ∃ v, cs[j]? = some v ∧ W.ownsInts (B + 1) 3 .i64 v (idx f n (L.getD j 0))
theorem Fl.start (hb : Below w0.heap.size w0 W) (hg : W.ownsGroups Try.prog 3 (B + 1) 3 .i64 B n D) (hk : Rd W p n1 L) (h0 : w0.heap.size ≤ B) (hB : B < W.heap.size) :
    Fl f n n1 L D B W.heap.size p 0 w0 (W.alloc (.cells (Array.replicate n1 (.slice none 0 0)) 41)) := by
  have ha := below_alloc W (.cells (Array.replicate n1 (.slice none 0 0)) 41)
  refine ⟨bel_next hb ha, groups_next hg ha, hk.below ha, h0, hB, ?_, _, Bk.new _ _ _, by simp, fun j hj => absurd hj (Nat.not_lt_zero j)⟩
  rcases hk.cell with h | ⟨b, off, h1, h2, -⟩
  · exact .inl h
  · refine .inr fun b' off' e => ?_
    rw [h1] at e
    simp only [Option.some.injEq, Addr.mk.injEq] at e
    omega
theorem Fl.at (h : Fl f n n1 L D B G p t w0 W) (ht : t < n1) : W.frozen? ⟨G, t, none⟩ = false ∧ ∃ u, W.cell? ⟨G, t, none⟩ = some u := by
  obtain ⟨cs, h1, h2, h3⟩ := h.row
  exact ⟨h1.free t, cs[t], (h1.cell t).trans (Array.getElem?_eq_getElem (by omega))⟩
theorem ints_ne (ho : W.ownsInts base 3 .i64 v zs) {cs : Array Value} (hG : Bk W G cs 41) : v.ownBlock = none ∨ v.ownBlock ≠ some G := by
  cases hv : v.ownBlock with
  | none => exact .inl rfl
  | some g =>
    refine .inr fun e => ?_
    injection e with e
    subst e
    obtain ⟨c1, e1⟩ := owns_type ho.1 hv
    unfold Bk at hG
    rw [e1] at hG
    simp at hG
theorem Fl.put (h : Fl f n n1 L D B G p t w0 W) (ht : t < n1) (hv : W.ownsInts (B + 1) 3 .i64 v (idx f n (L.getD t 0))) : Fl f n n1 L D B G p (t + 1) w0 (W.setCell ⟨G, t, none⟩ v) := by
  obtain ⟨cs, h1, h2, h3⟩ := h.row
  have hne : ∀ b off, b ≠ G → (W.setCell ⟨G, t, none⟩ v).cell? ⟨b, off, none⟩ = W.cell? ⟨b, off, none⟩ := fun b off e => World.cell?_setCell_other _ _ _ _ (fun x => by simp only [Addr.mk.injEq] at x; exact e x.1.symm)
  have hgr : W.grownBy (W.setCell ⟨G, t, none⟩ v) (some G) := grown_set _ _ _ _
  have hB := h.below.size
  refine ⟨h.below.setCell (by have := h.base; have := h.far; show w0.heap.size ≤ G; omega) _, h.groups.kept hgr (by intro e; injection e with e; have := h.far; omega) ?_, ⟨h.keys.len, ?_⟩, h.base, h.far, h.ne, cs.setIfInBounds t v, heap_set' _ _ _ _ _ h1, by simpa using h2, fun j hj => ?_⟩
  · intro es clock hb x hx
    obtain ⟨es', clock', hb', F, _⟩ := h.groups
    obtain ⟨rfl, rfl⟩ : es' = es ∧ clock' = clock := by rw [hb'] at hb; simpa using hb
    obtain ⟨y, hy⟩ := F.reads x hx
    obtain ⟨z, hz, _⟩ := Go.WideElems.rd_val hy
    obtain ⟨zs, hoi, _⟩ := rowElem_inv hz
    exact ints_ne hoi h1
  · rcases h.ne with e | e
    · exact .inl e
    · rcases h.keys.cell with e0 | ⟨b, off, q1, q2, q3⟩
      · exact .inl e0
      · refine .inr ⟨b, off, q1, by simpa using q2, fun j hj => ?_⟩
        rw [hne b _ (e b off q1)]
        exact q3 j hj
  · by_cases e : j = t
    · subst e
      exact ⟨v, by simp [show j < cs.size by omega], hv.kept hgr (ints_ne hv h1)⟩
    · obtain ⟨u, q1, q2⟩ := h3 j (by omega)
      exact ⟨u, by rw [Array.getElem?_setIfInBounds, if_neg (fun x => e x.symm)]; exact q1, q2.kept hgr (ints_ne q2 h1)⟩
theorem Fl.post (h : Fl f n n1 L D B G p n1 w0 W) (hn : n ≤ 1000) : Rs W (some ⟨G, 0, none⟩) n1 (L.map (idx f n)) := by
  obtain ⟨cs, h1, h2, h3⟩ := h.row
  refine ⟨by rw [List.length_map]; exact h.keys.len, .inr ⟨G, 0, rfl, h1.lt, fun j hj => ?_⟩⟩
  obtain ⟨v, q1, q2⟩ := h3 j hj
  obtain ⟨q, c, rfl, hc, hr⟩ := owns_form q2.1
  have hjL : j < L.length := by rw [h.keys.len]; exact hj
  refine ⟨q, _, c, ?_, hc, Nat.le_trans (idx_len f _ n) hn, ?_⟩
  · rw [Nat.zero_add]; exact (h1.cell j).trans q1
  · have e : (L.map (idx f n)).getD j [] = idx f n (L.getD j 0) := by
      rw [List.getD_eq_getElem?_getD, List.getElem?_map, List.getD_eq_getElem?_getD, List.getElem?_eq_getElem hjL]; rfl
    rw [e]; exact hr
end Go.Proofs.Ythpeaeepcbbfcaa
namespace Go.Proofs.Ythpeaeepcbbfcaa
open Go.RowKit
open Go.Maps

theorem Gm.put' {f : Nat → Int} {m : Nat} {D : DataW Unit} {w : World} {base : Nat} {v : Value} {zs : List Int} {kv : Int} (hfm : f m = kv) (h : Gm f m D) (hz : zs = idx f m kv) (ho : w.ownsInts base 3 .i64 v (zs ++ [(m : Int)])) : Gm f (m + 1) (D.put (.int .i64 kv) (rowDatum .i64 v (zs ++ [(m : Int)]))) := by
  subst hfm hz
  exact h.put ho
theorem sorted_facts {f : Nat → Int} {n base b base' : Nat} {D : DataW Unit} {W0 W : World} {v : Value} {ss : List Int} (hG : Gm f n D) (hg : W0.ownsGroups Try.prog 3 base 3 .i64 b n D) (hp : ss.Perm (intKeys D)) (hrow : W.ownsRow base' 3 1 v ss.length ((ss.mergeSort (fun x y => decide (x ≤ y))).map encZ)) :
    ∃ (L : List Int) (n1 : Nat) (q : Option Addr) (c : Nat), Gd f n L ∧ v = .slice q n1 c ∧ n1 ≤ c ∧ n1 ≤ n ∧ Rd W q n1 L := by
  obtain ⟨h1, h2⟩ := groups_keys hg
  have hd := hG.keys h1 h2 hp
  obtain ⟨q, c, rfl, hc, hr⟩ := owns_form hrow
  have hl := gd_len hd
  rw [hr.len] at hl
  exact ⟨_, ss.length, q, c, hd, rfl, hc, hl, hr⟩
/-- What the program's Groups gives where the calendar and the field are right. -/
def GrRes (f : Nat → Int) (good : Nat → Prop) (n : Nat) (w : World) (z : Ending) (w' : World) : Prop :=
  ((∀ i, i < n → good i) ∧ ∃ L n1, Gd f n L ∧ n1 ≤ n ∧ GrPost n1 L (L.map (idx f n)) 0 w z w') ∨ ((∃ i, i < n ∧ ¬ good i) ∧ z = .returned (.tuple #[.slice none 0 0, .slice none 0 0, .int .i64 21]) ∧ Below w.heap.size w w')
theorem fold_done {good : Nat → Prop} {m : Nat} (h : ∀ i, i < m → good i) (hm : good m) : ∀ i, i < m + 1 → good i := fun i hi => by
  by_cases e : i = m
  · subst e; exact hm
  · exact h i (by omega)
theorem key_wf {f : Nat → Int} {good : Nat → Prop} {n n1 t : Nat} {L : List Int} {d : Int} (hd : Gd f n L) (hl : L.length = n1) (hwf : ∀ i, i < n → good i → (Lit.int .i64 (f i)).wf = true) (hg : ∀ i, i < n → good i) (ht : t < n1) (h : L.getD t 0 = d) : (Lit.int .i64 d).wf = true := by
  rw [List.getD_eq_getElem?_getD, List.getElem?_eq_getElem (by omega)] at h
  obtain ⟨i, hi, e⟩ := (hd.mem d).1 (by rw [← h]; exact List.getElem_mem _)
  rw [← e]
  exact hwf i hi (hg i hi)

set_option maxRecDepth 100000 in
set_option maxHeartbeats 3200000 in
theorem pgroups_key (cal fld : Int) (f : Nat → Int) (good : Nat → Prop) (p : Option Addr) (n c : Nat) (l : List Int) (w : World) (ha : isCal cal) (hn : n ≤ 200) (hnc : n ≤ c) (hf0 : 1 ≤ fld) (hf : fld ≤ 4) (hl : Rd w p n l)
    (hwf : Hid (∀ i, i < n → good i → (Lit.int .i64 (f i)).wf = true))
    (hbad : Hid (∀ r, IsRules cal r → ∀ i, i < n → ¬ good i → ∀ W, Calls Try.prog 68 #[r, .int .i64 (l.getD i 0), .int .i64 fld] W fun z w' => z = .returned (.tuple #[.int .i64 0, .int .i64 21]) ∧ Below W.heap.size W w'))
    (hk : Hid (∀ r, IsRules cal r → ∀ i, i < n → good i → ∀ W, Calls Try.prog 68 #[r, .int .i64 (l.getD i 0), .int .i64 fld] W fun z w' => z = .returned (.tuple #[.int .i64 (f i), .int .i64 0]) ∧ Below W.heap.size W w')) :
    Calls Try.prog 43 #[.int .i64 cal, .slice p n c, .int .i64 fld, .bool false] w (GrRes f good n w) := by
  have h1 := Lib.hid (fun W => rulesFor_ok cal fld W ha hf0 hf)
  have HL := Lib.hid hl
  have hmm := @run_makeMap Try.prog
  obtain ⟨i0, hi, hz0, hz1, hz2⟩ := info_parts info3
  clear ha hl
  have HB := Lib.hid (Below.refl w.heap.size w)
  go_enter Try.func43, Try.ntmps43
  go_wp2_with fail
  refine (h1.out _).mono ?_
  rintro e w2 ⟨r, rfl, hr, hb⟩
  obtain ⟨m0, m1, m2, m3, m4, m5, m6, m7, m8, m9, m10, m11, g, rfl⟩ := hr.form
  have Hr := Lib.hid hr
  clear hr
  have HB := Lib.hid (bel_next HB.out hb)
  clear hb
  have bx := Lib.hid (Bk.newAt w2 #[.int .i64 m0, .int .i64 m1, .int .i64 m2, .int .i64 m3, .int .i64 m4, .int .i64 m5, .int .i64 m6, .int .i64 m7, .int .i64 m8, .int .i64 m9, .int .i64 m10, .int .i64 m11, .func (.func g) #[] #[]] 68 (w2.heap.size) (by simp))
  have HB := Lib.hid (kept_more (o := (.cells #[.int .i64 m0, .int .i64 m1, .int .i64 m2, .int .i64 m3, .int .i64 m4, .int .i64 m5, .int .i64 m6, .int .i64 m7, .int .i64 m8, .int .i64 m9, .int .i64 m10, .int .i64 m11, .func (.func g) #[] #[]] 68)) HB.out)
  have bx_c0 := bx.out.cell 0
  have bx_c1 := bx.out.cell 1
  have bx_c2 := bx.out.cell 2
  have bx_c3 := bx.out.cell 3
  have bx_c4 := bx.out.cell 4
  have bx_c5 := bx.out.cell 5
  have bx_c6 := bx.out.cell 6
  have bx_c7 := bx.out.cell 7
  have bx_c8 := bx.out.cell 8
  have bx_c9 := bx.out.cell 9
  have bx_c10 := bx.out.cell 10
  have bx_c11 := bx.out.cell 11
  have bx_c12 := bx.out.cell 12
  have hm0 := Lib.hid (World.ownsGroups_made (H := Unit) (w2.alloc (.cells #[.int .i64 m0, .int .i64 m1, .int .i64 m2, .int .i64 m3, .int .i64 m4, .int .i64 m5, .int .i64 m6, .int .i64 m7, .int .i64 m8, .int .i64 m9, .int .i64 m10, .int .i64 m11, .func (.func g) #[] #[]] 68)) Try.prog 3 3 .i64)
  have hsz : (w2.alloc (.cells #[.int .i64 m0, .int .i64 m1, .int .i64 m2, .int .i64 m3, .int .i64 m4, .int .i64 m5, .int .i64 m6, .int .i64 m7, .int .i64 m8, .int .i64 m9, .int .i64 m10, .int .i64 m11, .func (.func g) #[] #[]] 68)).heap.size = w2.heap.size + 1 := by simp
  rw [hsz] at hm0
  have HB1 := Lib.hid (kept_more (o := .map #[] 0) HB.out)
  have hws : w.heap.size ≤ w2.heap.size + 1 := by have := HB.out.size; rw [hsz] at this; exact this
  clear hsz
  go_wp2_with fail
  clear bx_c0 bx_c1 bx_c2 bx_c3 bx_c4 bx_c5 bx_c6 bx_c7 bx_c8 bx_c9 bx_c10 bx_c11 bx_c12
  go_loopw [40] (fun i wr => ∃ (m : Nat) (D : DataW Unit), m ≤ n ∧ i = .int .i64 m ∧ Hid (wr.ownsGroups Try.prog 3 (w2.heap.size + 1 + 1) 3 .i64 (w2.heap.size + 1) m D) ∧ Hid (Gm f m D) ∧ Hid (Below w.heap.size w wr) ∧ w2.heap.size + 1 + 1 ≤ wr.heap.size ∧ Hid (∀ i, i < m → good i)) (fun i _ => n - (intOf i).toNat)
  case atStart => exact ⟨0, _, Nat.zero_le _, rfl, hm0, Lib.hid (Gm.start f), HB1, by simp, Lib.hid (fun i hi => absurd hi (Nat.not_lt_zero i))⟩
  case round =>
    obtain ⟨m, D, hm, rfl, hown, hG, HBr, hwr, hDy⟩ := hrel
    by_cases hlt : m < n
    · obtain ⟨bb, off, v, rfl, hbl, hcell, hv⟩ := (HL.out.below HBr.out).at hlt
      clear hbl
      by_cases hgood : good m
      case neg =>
        have hkm := Lib.hid (hbad.out _ Hr.out m hlt hgood)
        rw [hv.out] at hkm
        have hno := Lib.hid (show ∃ i, i < n ∧ ¬ good i from ⟨m, hlt, hgood⟩)
        clear hgood
        go_wp2_with fail
        refine (hkm.out _).mono ?_
        rintro e w5 ⟨rfl, hb⟩
        have HB5 := Lib.hid (bel_next HBr.out hb)
        clear hb hcell
        go_wp2_with fail
        go_ret3
        exact .inr ⟨hno.out, rfl, HB5.out⟩
      have hkm := Lib.hid (hk.out _ Hr.out m hlt hgood)
      have hwm := Lib.hid (hwf.out m hlt hgood)
      have hDe := Lib.hid (fold_done hDy.out hgood)
      rw [hv.out] at hkm
      clear hgood
      generalize hfm : f m = kv at hkm hwm
      have HF := Lib.hid hfm
      clear hfm
      have hkey := Lib.hid (keyOf_int_mk (P := Try.prog) (k := 3) (q := .i64) Try.underlying3 hwm.out)
      go_wp2_with fail
      refine (hkm.out _).mono ?_
      rintro e w5 ⟨rfl, hb⟩
      have HB5 := Lib.hid (bel_next HBr.out hb)
      have hown5 := Lib.hid (groups_next hown.out hb)
      have hw5 : w2.heap.size + 1 + 1 ≤ w5.heap.size := Nat.le_trans hwr hb.size
      clear hb hcell
      go_wp2_with (first
        | (at_lookup; refine wpList_lookup_groups _ rfl _ _ 85 rfl 3 41 3 .i64 lawI Try.underlying85 (zero41 _) (w2.heap.size + 1 + 1) (w2.heap.size + 1) m _ rfl hown5.out (by unfold maxLen; omega) _ _ rfl hkey.out ?_; intro u zs hat hoi hzl hback)
        | (at_builtin; refine wpList_append_own_at _ rfl _ _ 41 rfl (w2.heap.size + 1 + 1) 3 i0 (.int .i64 0) 1 8 Try.underlying41 hi hz0 hz1 hz2 rfl (by decide) _ _ _ rfl (hoi.1.alloc _) ⟨w5.heap.size, 0, none⟩ 1 1 [.int .i64 (m : Int)] rfl rfl (cell_one_new _ _ _) (ints_oneCell .i64 [(m : Int)]) (by unfold maxLen; omega) (by omega) (by simp; omega) ?_; intro v' w6 hown' hgrow hnil hloc)
        | (at_mapUpdate; refine wpList_mapUpdate_back _ rfl _ _ _ 85 rfl hback rfl rfl rfl ((World.grownBy_alloc _ _ _).trans hgrow) (hoi.appended hown' (WalkArith.wf_i64 (by omega))) (by simp; omega) (hloc.imp id (fun h => ⟨_, h, by simp⟩)) ?_; intro w7 hown2 hgrow2))
      have hall := (World.grownBy_alloc w5 (.cells #[.int .i64 (m : Int)] 3) _).trans hgrow
      have hzz := hG.out.group hoi hat
      have hG2 := Lib.hid (Gm.put' HF.out hG.out hzz (hoi.appended hown' (WalkArith.wf_i64 (by omega))))
      have hO2 := Lib.hid hown2
      have HB7 := Lib.hid (HB5.out.groups hoi hall hgrow2 HB5.out.size (by omega) (by omega))
      have hw7 : w2.heap.size + 1 + 1 ≤ w7.heap.size := Nat.le_trans hw5 (Nat.le_trans hall.size hgrow2.size)
      clear hzz hall hat hown' hgrow hnil hloc hown2 hgrow2 hback hoi
      go_wp2_with fail
      go_roundw
      case rel => exact ⟨m + 1, _, by omega, by go_num, hO2, hG2, HB7, hw7, hDe⟩
      case measure => simp [intOf]; omega
    · obtain rfl : m = n := by omega
      have hsc := Lib.hid (sorted_call wr.heap.size (w2.heap.size + 1) m D _ (wr.alloc (.cells #[.map (some (w2.heap.size + 1))] 85)) (by simp) ((Bk.new wr #[.map (some (w2.heap.size + 1))] 85).cell 0) (groups_map (groups_next hown.out (below_alloc _ _))) (Nat.le_trans (groups_map hown.out).size_le (by unfold maxLen; omega)) (by have := (groups_map hown.out).size_le; omega))
      go_wp2_with fail
      refine (keys_call _ _).mono ?_
      rintro e w8 ⟨rfl, rfl⟩
      go_wp2_with fail
      refine (hsc.out).mono ?_
      rintro e w9 ⟨v, ss, rfl, hp, hrow, hnil, hb⟩
      obtain ⟨L, n1, q, c1, hGd0, rfl, hc1, hn1, hr⟩ := sorted_facts hG.out hown.out hp hrow
      have hGd := Lib.hid hGd0
      have HB9 := Lib.hid (bel_next (bel_next HBr.out (below_alloc _ _)) hb)
      have hO9 := Lib.hid (groups_next (groups_next hown.out (below_alloc _ _)) hb)
      have hF0 := Lib.hid (Fl.start (f := f) HB9.out hO9.out hr (by omega) (by have := hb.size; simp at this; omega))
      have hmk := make_rows n1 (by omega)
      clear hp hrow hnil hb hr hGd0 hsc
      go_wp2_with fail
      go_loopw [72] (fun i wr' => ∃ t : Nat, t ≤ n1 ∧ i = .int .i64 t ∧ Hid (Fl f m n1 L D (w2.heap.size + 1) w9.heap.size q t w wr')) (fun i _ => n1 - (intOf i).toNat)
      case atStart => exact ⟨0, Nat.zero_le _, rfl, hF0⟩
      case round =>
        obtain ⟨t, ht, rfl, hF⟩ := hrel
        by_cases htl : t < n1
        · obtain ⟨b1, o1, d, rfl, hb1, hcell, hd⟩ := hF.out.keys.at htl
          obtain ⟨hfz, u0, hcu⟩ := hF.out.at htl
          have hwd := Lib.hid (key_wf hGd.out hF.out.keys.len hwf.out hDy.out htl hd.out)
          have hkey := Lib.hid (keyOf_int_mk (P := Try.prog) (k := 3) (q := .i64) Try.underlying3 hwd.out)
          clear hb1
          go_wp2_with (at_lookup; refine wpList_lookup_groups _ rfl _ _ 85 rfl 3 41 3 .i64 lawI Try.underlying85 (zero41 _) (w2.heap.size + 1 + 1) (w2.heap.size + 1) m _ rfl hF.out.groups (by unfold maxLen; omega) _ _ rfl hkey.out ?_; intro u zs hat hoi hzl hback; obtain ⟨qq, cc, rfl⟩ := owns_any hoi.1; have hF2 := Lib.hid (hF.out.put htl (by rw [hd.out, ← hG.out.group hoi hat]; exact hoi)); clear hat hoi hback)
          go_roundw
          case rel => exact ⟨t + 1, by omega, by go_num, hF2⟩
          case measure => simp [intOf]; omega
        · obtain rfl : t = n1 := by omega
          go_wp2_with fail
          go_ret3
          exact .inl ⟨hDy.out, L, t, hGd.out, hn1, q, _, c1, t, rfl, hc1, Nat.le_refl _, hF.out.keys, hF.out.post (by omega), hF.out.below⟩

set_option maxRecDepth 100000 in
set_option maxHeartbeats 3200000 in
theorem pgroups_field (cal fld : Int) (f : Nat → Int) (good : Nat → Prop) (p : Option Addr) (n c : Nat) (l : List Int) (w : World) (ha : isCal cal) (hn : n ≤ 200) (hnc : n ≤ c) (hf0 : 1 ≤ fld) (hf : fld ≤ 4) (hl : Rd w p n l)
    (hwf : Hid (∀ i, i < n → good i → (Lit.int .i64 (f i)).wf = true))
    (hbad : Hid (∀ r, IsRules cal r → ∀ i, i < n → ¬ good i → ∀ W, Calls Try.prog 64 #[r, .int .i64 (l.getD i 0), .int .i64 fld] W fun z w' => z = .returned (.tuple #[.int .i64 0, .int .i64 21]) ∧ Below W.heap.size W w'))
    (hk : Hid (∀ r, IsRules cal r → ∀ i, i < n → good i → ∀ W, Calls Try.prog 64 #[r, .int .i64 (l.getD i 0), .int .i64 fld] W fun z w' => z = .returned (.tuple #[.int .i64 (f i), .int .i64 0]) ∧ Below W.heap.size W w')) :
    Calls Try.prog 43 #[.int .i64 cal, .slice p n c, .int .i64 fld, .bool true] w (GrRes f good n w) := by
  have h1 := Lib.hid (fun W => rulesFor_ok cal fld W ha hf0 hf)
  have HL := Lib.hid hl
  have hmm := @run_makeMap Try.prog
  obtain ⟨i0, hi, hz0, hz1, hz2⟩ := info_parts info3
  clear ha hl
  have HB := Lib.hid (Below.refl w.heap.size w)
  go_enter Try.func43, Try.ntmps43
  go_wp2_with fail
  refine (h1.out _).mono ?_
  rintro e w2 ⟨r, rfl, hr, hb⟩
  obtain ⟨m0, m1, m2, m3, m4, m5, m6, m7, m8, m9, m10, m11, g, rfl⟩ := hr.form
  have Hr := Lib.hid hr
  clear hr
  have HB := Lib.hid (bel_next HB.out hb)
  clear hb
  have bx := Lib.hid (Bk.newAt w2 #[.int .i64 m0, .int .i64 m1, .int .i64 m2, .int .i64 m3, .int .i64 m4, .int .i64 m5, .int .i64 m6, .int .i64 m7, .int .i64 m8, .int .i64 m9, .int .i64 m10, .int .i64 m11, .func (.func g) #[] #[]] 68 (w2.heap.size) (by simp))
  have HB := Lib.hid (kept_more (o := (.cells #[.int .i64 m0, .int .i64 m1, .int .i64 m2, .int .i64 m3, .int .i64 m4, .int .i64 m5, .int .i64 m6, .int .i64 m7, .int .i64 m8, .int .i64 m9, .int .i64 m10, .int .i64 m11, .func (.func g) #[] #[]] 68)) HB.out)
  have bx_c0 := bx.out.cell 0
  have bx_c1 := bx.out.cell 1
  have bx_c2 := bx.out.cell 2
  have bx_c3 := bx.out.cell 3
  have bx_c4 := bx.out.cell 4
  have bx_c5 := bx.out.cell 5
  have bx_c6 := bx.out.cell 6
  have bx_c7 := bx.out.cell 7
  have bx_c8 := bx.out.cell 8
  have bx_c9 := bx.out.cell 9
  have bx_c10 := bx.out.cell 10
  have bx_c11 := bx.out.cell 11
  have bx_c12 := bx.out.cell 12
  have hm0 := Lib.hid (World.ownsGroups_made (H := Unit) (w2.alloc (.cells #[.int .i64 m0, .int .i64 m1, .int .i64 m2, .int .i64 m3, .int .i64 m4, .int .i64 m5, .int .i64 m6, .int .i64 m7, .int .i64 m8, .int .i64 m9, .int .i64 m10, .int .i64 m11, .func (.func g) #[] #[]] 68)) Try.prog 3 3 .i64)
  have hsz : (w2.alloc (.cells #[.int .i64 m0, .int .i64 m1, .int .i64 m2, .int .i64 m3, .int .i64 m4, .int .i64 m5, .int .i64 m6, .int .i64 m7, .int .i64 m8, .int .i64 m9, .int .i64 m10, .int .i64 m11, .func (.func g) #[] #[]] 68)).heap.size = w2.heap.size + 1 := by simp
  rw [hsz] at hm0
  have HB1 := Lib.hid (kept_more (o := .map #[] 0) HB.out)
  have hws : w.heap.size ≤ w2.heap.size + 1 := by have := HB.out.size; rw [hsz] at this; exact this
  clear hsz
  go_wp2_with fail
  clear bx_c0 bx_c1 bx_c2 bx_c3 bx_c4 bx_c5 bx_c6 bx_c7 bx_c8 bx_c9 bx_c10 bx_c11 bx_c12
  go_loopw [40] (fun i wr => ∃ (m : Nat) (D : DataW Unit), m ≤ n ∧ i = .int .i64 m ∧ Hid (wr.ownsGroups Try.prog 3 (w2.heap.size + 1 + 1) 3 .i64 (w2.heap.size + 1) m D) ∧ Hid (Gm f m D) ∧ Hid (Below w.heap.size w wr) ∧ w2.heap.size + 1 + 1 ≤ wr.heap.size ∧ Hid (∀ i, i < m → good i)) (fun i _ => n - (intOf i).toNat)
  case atStart => exact ⟨0, _, Nat.zero_le _, rfl, hm0, Lib.hid (Gm.start f), HB1, by simp, Lib.hid (fun i hi => absurd hi (Nat.not_lt_zero i))⟩
  case round =>
    obtain ⟨m, D, hm, rfl, hown, hG, HBr, hwr, hDy⟩ := hrel
    by_cases hlt : m < n
    · obtain ⟨bb, off, v, rfl, hbl, hcell, hv⟩ := (HL.out.below HBr.out).at hlt
      clear hbl
      by_cases hgood : good m
      case neg =>
        have hkm := Lib.hid (hbad.out _ Hr.out m hlt hgood)
        rw [hv.out] at hkm
        have hno := Lib.hid (show ∃ i, i < n ∧ ¬ good i from ⟨m, hlt, hgood⟩)
        clear hgood
        go_wp2_with fail
        refine (hkm.out _).mono ?_
        rintro e w5 ⟨rfl, hb⟩
        have HB5 := Lib.hid (bel_next HBr.out hb)
        clear hb hcell
        go_wp2_with fail
        go_ret3
        exact .inr ⟨hno.out, rfl, HB5.out⟩
      have hkm := Lib.hid (hk.out _ Hr.out m hlt hgood)
      have hwm := Lib.hid (hwf.out m hlt hgood)
      have hDe := Lib.hid (fold_done hDy.out hgood)
      rw [hv.out] at hkm
      clear hgood
      generalize hfm : f m = kv at hkm hwm
      have HF := Lib.hid hfm
      clear hfm
      have hkey := Lib.hid (keyOf_int_mk (P := Try.prog) (k := 3) (q := .i64) Try.underlying3 hwm.out)
      go_wp2_with fail
      refine (hkm.out _).mono ?_
      rintro e w5 ⟨rfl, hb⟩
      have HB5 := Lib.hid (bel_next HBr.out hb)
      have hown5 := Lib.hid (groups_next hown.out hb)
      have hw5 : w2.heap.size + 1 + 1 ≤ w5.heap.size := Nat.le_trans hwr hb.size
      clear hb hcell
      go_wp2_with (first
        | (at_lookup; refine wpList_lookup_groups _ rfl _ _ 85 rfl 3 41 3 .i64 lawI Try.underlying85 (zero41 _) (w2.heap.size + 1 + 1) (w2.heap.size + 1) m _ rfl hown5.out (by unfold maxLen; omega) _ _ rfl hkey.out ?_; intro u zs hat hoi hzl hback)
        | (at_builtin; refine wpList_append_own_at _ rfl _ _ 41 rfl (w2.heap.size + 1 + 1) 3 i0 (.int .i64 0) 1 8 Try.underlying41 hi hz0 hz1 hz2 rfl (by decide) _ _ _ rfl (hoi.1.alloc _) ⟨w5.heap.size, 0, none⟩ 1 1 [.int .i64 (m : Int)] rfl rfl (cell_one_new _ _ _) (ints_oneCell .i64 [(m : Int)]) (by unfold maxLen; omega) (by omega) (by simp; omega) ?_; intro v' w6 hown' hgrow hnil hloc)
        | (at_mapUpdate; refine wpList_mapUpdate_back _ rfl _ _ _ 85 rfl hback rfl rfl rfl ((World.grownBy_alloc _ _ _).trans hgrow) (hoi.appended hown' (WalkArith.wf_i64 (by omega))) (by simp; omega) (hloc.imp id (fun h => ⟨_, h, by simp⟩)) ?_; intro w7 hown2 hgrow2))
      have hall := (World.grownBy_alloc w5 (.cells #[.int .i64 (m : Int)] 3) _).trans hgrow
      have hzz := hG.out.group hoi hat
      have hG2 := Lib.hid (Gm.put' HF.out hG.out hzz (hoi.appended hown' (WalkArith.wf_i64 (by omega))))
      have hO2 := Lib.hid hown2
      have HB7 := Lib.hid (HB5.out.groups hoi hall hgrow2 HB5.out.size (by omega) (by omega))
      have hw7 : w2.heap.size + 1 + 1 ≤ w7.heap.size := Nat.le_trans hw5 (Nat.le_trans hall.size hgrow2.size)
      clear hzz hall hat hown' hgrow hnil hloc hown2 hgrow2 hback hoi
      go_wp2_with fail
      go_roundw
      case rel => exact ⟨m + 1, _, by omega, by go_num, hO2, hG2, HB7, hw7, hDe⟩
      case measure => simp [intOf]; omega
    · obtain rfl : m = n := by omega
      have hsc := Lib.hid (sorted_call wr.heap.size (w2.heap.size + 1) m D _ (wr.alloc (.cells #[.map (some (w2.heap.size + 1))] 85)) (by simp) ((Bk.new wr #[.map (some (w2.heap.size + 1))] 85).cell 0) (groups_map (groups_next hown.out (below_alloc _ _))) (Nat.le_trans (groups_map hown.out).size_le (by unfold maxLen; omega)) (by have := (groups_map hown.out).size_le; omega))
      go_wp2_with fail
      refine (keys_call _ _).mono ?_
      rintro e w8 ⟨rfl, rfl⟩
      go_wp2_with fail
      refine (hsc.out).mono ?_
      rintro e w9 ⟨v, ss, rfl, hp, hrow, hnil, hb⟩
      obtain ⟨L, n1, q, c1, hGd0, rfl, hc1, hn1, hr⟩ := sorted_facts hG.out hown.out hp hrow
      have hGd := Lib.hid hGd0
      have HB9 := Lib.hid (bel_next (bel_next HBr.out (below_alloc _ _)) hb)
      have hO9 := Lib.hid (groups_next (groups_next hown.out (below_alloc _ _)) hb)
      have hF0 := Lib.hid (Fl.start (f := f) HB9.out hO9.out hr (by omega) (by have := hb.size; simp at this; omega))
      have hmk := make_rows n1 (by omega)
      clear hp hrow hnil hb hr hGd0 hsc
      go_wp2_with fail
      go_loopw [72] (fun i wr' => ∃ t : Nat, t ≤ n1 ∧ i = .int .i64 t ∧ Hid (Fl f m n1 L D (w2.heap.size + 1) w9.heap.size q t w wr')) (fun i _ => n1 - (intOf i).toNat)
      case atStart => exact ⟨0, Nat.zero_le _, rfl, hF0⟩
      case round =>
        obtain ⟨t, ht, rfl, hF⟩ := hrel
        by_cases htl : t < n1
        · obtain ⟨b1, o1, d, rfl, hb1, hcell, hd⟩ := hF.out.keys.at htl
          obtain ⟨hfz, u0, hcu⟩ := hF.out.at htl
          have hwd := Lib.hid (key_wf hGd.out hF.out.keys.len hwf.out hDy.out htl hd.out)
          have hkey := Lib.hid (keyOf_int_mk (P := Try.prog) (k := 3) (q := .i64) Try.underlying3 hwd.out)
          clear hb1
          go_wp2_with (at_lookup; refine wpList_lookup_groups _ rfl _ _ 85 rfl 3 41 3 .i64 lawI Try.underlying85 (zero41 _) (w2.heap.size + 1 + 1) (w2.heap.size + 1) m _ rfl hF.out.groups (by unfold maxLen; omega) _ _ rfl hkey.out ?_; intro u zs hat hoi hzl hback; obtain ⟨qq, cc, rfl⟩ := owns_any hoi.1; have hF2 := Lib.hid (hF.out.put htl (by rw [hd.out, ← hG.out.group hoi hat]; exact hoi)); clear hat hoi hback)
          go_roundw
          case rel => exact ⟨t + 1, by omega, by go_num, hF2⟩
          case measure => simp [intOf]; omega
        · obtain rfl : t = n1 := by omega
          go_wp2_with fail
          go_ret3
          exact .inl ⟨hDy.out, L, t, hGd.out, hn1, q, _, c1, t, rfl, hc1, Nat.le_refl _, hF.out.keys, hF.out.post (by omega), hF.out.below⟩
end Go.Proofs.Ythpeaeepcbbfcaa
namespace Go.Proofs.Ythpeaeepcbbfcaa
open Go.RowKit Go.Maps

theorem put_place {k : Int} : ∀ {L : List Int}, L.Pairwise (· < ·) → ∃ t, (∀ x ∈ L.take t, x < k) ∧ ∀ x ∈ L.drop t, k ≤ x
  | [], _ => ⟨0, by simp, by simp⟩
  | a :: L, h => by
    obtain ⟨h1, h2⟩ := List.pairwise_cons.1 h
    by_cases ha : a < k
    · obtain ⟨t, p, q⟩ := put_place (k := k) h2
      refine ⟨t + 1, fun x hx => ?_, fun x hx => q x (by simpa using hx)⟩
      rw [List.take_succ_cons] at hx
      rcases List.mem_cons.1 hx with e | hx
      · rw [e]; exact ha
      · exact p x hx
    · refine ⟨0, by simp, fun x hx => ?_⟩
      rcases List.mem_cons.1 (by simpa using hx : x ∈ a :: L) with e | hx
      · omega
      · have := h1 x hx; omega
theorem exists_gd (f : Nat → Int) : ∀ n, ∃ L, Gd f n L
  | 0 => ⟨[], Gd.zero f⟩
  | n + 1 => by
    obtain ⟨L, h⟩ := exists_gd f n
    by_cases hm : f n ∈ L
    · exact ⟨L, h.same hm⟩
    · obtain ⟨t, p, q⟩ := put_place (k := f n) h.sorted
      refine ⟨_, h.new p fun x hx => ?_⟩
      have h1 := q x hx
      have h2 : f n ≠ x := fun e => hm (by rw [e]; exact List.mem_of_mem_drop hx)
      omega
/-- What the four functions give at a day. -/
structure DayFK (c x n fv kv : Int) : Prop where
  wf1 : (Lit.int .i64 fv).wf = true
  wf2 : (Lit.int .i64 kv).wf = true
  f1 : ∀ r, IsRules c r → ∀ W, Calls Try.prog 64 #[r, .int .i64 n, .int .i64 x] W fun z w' => z = .returned (.tuple #[.int .i64 fv, .int .i64 0]) ∧ Below W.heap.size W w'
  f2 : ∀ W, Calls Try.prog 40 #[.int .i64 c, .int .i64 n, .int .i64 x] W fun z w' => z = .returned (.tuple #[.int .i64 fv, .int .i64 0]) ∧ Below W.heap.size W w'
  k1 : ∀ r, IsRules c r → ∀ W, Calls Try.prog 68 #[r, .int .i64 n, .int .i64 x] W fun z w' => z = .returned (.tuple #[.int .i64 kv, .int .i64 0]) ∧ Below W.heap.size W w'
  k2 : ∀ W, Calls Try.prog 42 #[.int .i64 c, .int .i64 n, .int .i64 x] W fun z w' => z = .returned (.tuple #[.int .i64 kv, .int .i64 0]) ∧ Below W.heap.size W w'
theorem day_fk (c x n : Int) (h : isCal c) (x0 : 1 ≤ x) (x1 : x ≤ 4) (hd : IsDay c n) : ∃ fk : Int × Int, DayFK c x n fk.1 fk.2 := by
  obtain ⟨y, m, d, hok, hnum⟩ := date_exists c n hd.1 hd.2
  have a := rfk_yes c n x y m d h x0 x1 hok hnum
  have b1 := start_bd c (-9999) (by omega) (by omega)
  have b2 := start_bd c 10000 (by omega) (by omega)
  have hdy := day_eq c y m d
  have hr := hd.1
  have hr2 := hd.2
  have s1 := start_bd c y (by have := hok.1; omega) (by have := hok.2.1; omega)
  obtain ⟨y0, y1, k0, k1, -, -⟩ := id hok
  refine ⟨(fieldD c y m d x, keyD y m n x), ?_, ?_, fun r hr W => field_any r c n y m d x W hr hok hnum, a.1, fun r hr W => key_any r c n y m d x W hr hok hnum, a.2⟩
  · refine WalkArith.wf_i64 ?_
    unfold fieldD
    rw [hnum] at hdy
    split
    · omega
    · split
      · omega
      · split
        · omega
        · omega
  · refine WalkArith.wf_i64 ?_
    unfold keyD
    split
    · omega
    · split
      · omega
      · split
        · omega
        · omega
theorem noday_k (c x n : Int) (h : isCal c) (x0 : 1 ≤ x) (x1 : x ≤ 4) (hn : ¬ IsDay c n) : (∀ W, Calls Try.prog 40 #[.int .i64 c, .int .i64 n, .int .i64 x] W fun zz w' => zz = .returned (.tuple #[.int .i64 0, .int .i64 21]) ∧ Below W.heap.size W w') ∧ (∀ W, Calls Try.prog 42 #[.int .i64 c, .int .i64 n, .int .i64 x] W fun zz w' => zz = .returned (.tuple #[.int .i64 0, .int .i64 21]) ∧ Below W.heap.size W w') :=
  rfk_err c n x 21 (by decide) (fun W => asked_range c n x W h (by simp; omega) (by simp; omega) hn)

/-- Both Groups answer alike. -/
theorem groups_pair (cal fld : Int) (cyc : Bool) (p : Option Addr) (n c : Nat) (l : List Int) (w : World) (hn : n ≤ 200) (hnc : n ≤ c) (hl : Rd w p n l) :
    ∃ (n1 : Nat) (L : List Int) (ls : List (List Int)) (g : Int), n1 ≤ 1000 ∧ (∀ W, Below w.heap.size w W → Calls Try.prog 43 #[.int .i64 cal, .slice p n c, .int .i64 fld, .bool cyc] W (GrPost n1 L ls g W)) ∧ (∀ W, Below w.heap.size w W → Calls Try.prog 44 #[.int .i64 cal, .slice p n c, .int .i64 fld, .bool cyc] W (GrPost n1 L ls g W)) := by
  by_cases ha : isCal cal
  case neg => exact ⟨0, [], [], 20, by omega, fun W _ => (groups_nocal cal fld cyc p n c W ha).mono fun _ _ h => GrPost.err h, fun W _ => (rgroups_nocal cal fld cyc p n c W ha).mono fun _ _ h => GrPost.err h⟩
  by_cases hf : 1 ≤ fld ∧ fld ≤ 4
  case neg => exact ⟨0, [], [], 22, by omega, fun W _ => (groups_nofield cal fld cyc p n c W ha (by simp; omega) (by simp; omega) (by simp; omega) (by simp; omega)).mono fun _ _ h => GrPost.err h, fun W _ => (rgroups_nofield cal fld cyc p n c W ha hf).mono fun _ _ h => GrPost.err h⟩
  have hx : ∀ i : Nat, ∃ fk : Int × Int, IsDay cal (l.getD i 0) → DayFK cal fld (l.getD i 0) fk.1 fk.2 := fun i => by
    by_cases hd : IsDay cal (l.getD i 0)
    · obtain ⟨fk, h⟩ := day_fk cal fld _ ha hf.1 hf.2 hd
      exact ⟨fk, fun _ => h⟩
    · exact ⟨(0, 0), fun h => absurd h hd⟩
  obtain ⟨F, hF⟩ := Classical.axiomOfChoice hx
  obtain ⟨Lk, hLk⟩ := exists_gd (fun i => (F i).2) n
  obtain ⟨Lf, hLf⟩ := exists_gd (fun i => (F i).1) n
  have hlen : ∀ {n1 : Nat} {L : List Int} {ls : List (List Int)} {g : Int} {W : World} {z : Ending} {w' : World}, GrPost n1 L ls g W z w' → n1 = L.length := fun h => by
    obtain ⟨_, _, _, _, _, _, _, h1, _⟩ := h
    exact h1.len.symm
  cases cyc with
  | false =>
    have P : ∀ W, Below w.heap.size w W → Calls Try.prog 43 #[.int .i64 cal, .slice p n c, .int .i64 fld, .bool false] W (GrRes (fun i => (F i).2) (fun i => IsDay cal (l.getD i 0)) n W) := fun W hW =>
      pgroups_key cal fld _ _ p n c l W ha hn hnc hf.1 hf.2 (hl.below hW) (Lib.hid fun i _ hd => (hF i hd).wf2) (Lib.hid fun r hr i _ hd W => key_bad r cal _ fld hd W hr) (Lib.hid fun r hr i _ hd => (hF i hd).k1 r hr)
    by_cases hall : ∀ i, i < n → IsDay cal (l.getD i 0)
    · refine ⟨Lk.length, Lk, Lk.map (idx (fun i => (F i).2) n), 0, by have := gd_len hLk; omega, fun W hW => (P W hW).mono fun z w' h => ?_, fun W hW => (rgroups_key cal fld _ p n c l W ha (by omega) hnc hf.1 hf.2 (hl.below hW) (Lib.hid fun i hi => (hF i (hall i hi)).k2)).mono fun z w' h => ?_⟩
      · rcases h with ⟨-, L, n1, h1, h2, h3⟩ | ⟨⟨i, h1, h2⟩, -⟩
        · have := hlen h3
          subst this
          rw [hLk.one h1]; exact h3
        · exact absurd (hall i h1) h2
      · obtain ⟨L, h1, h2⟩ := h
        rw [hLk.one h1]; exact h2
    · have hno : ∃ i, i < n ∧ ¬ IsDay cal (l.getD i 0) := by
        refine Classical.byContradiction fun h => hall fun i hi => Classical.byContradiction fun h2 => h ⟨i, hi, h2⟩
      refine ⟨0, [], [], 21, by omega, fun W hW => (P W hW).mono fun z w' h => ?_, fun W hW => (rgroups_key_bad cal fld (fun i => (F i).2) (fun i => IsDay cal (l.getD i 0)) p n c l W ha (by omega) hnc hf.1 hf.2 (hl.below hW) (Lib.hid hno) (Lib.hid fun i _ hd => (noday_k cal fld _ ha hf.1 hf.2 hd).2) (Lib.hid fun i _ hd => (hF i hd).k2)).mono fun z w' h => GrPost.err h⟩
      rcases h with ⟨h1, -⟩ | ⟨-, h2⟩
      · exact absurd h1 hall
      · exact GrPost.err h2
  | true =>
    have P : ∀ W, Below w.heap.size w W → Calls Try.prog 43 #[.int .i64 cal, .slice p n c, .int .i64 fld, .bool true] W (GrRes (fun i => (F i).1) (fun i => IsDay cal (l.getD i 0)) n W) := fun W hW =>
      pgroups_field cal fld _ _ p n c l W ha hn hnc hf.1 hf.2 (hl.below hW) (Lib.hid fun i _ hd => (hF i hd).wf1) (Lib.hid fun r hr i _ hd W => field_bad r cal _ fld hd W hr) (Lib.hid fun r hr i _ hd => (hF i hd).f1 r hr)
    by_cases hall : ∀ i, i < n → IsDay cal (l.getD i 0)
    · refine ⟨Lf.length, Lf, Lf.map (idx (fun i => (F i).1) n), 0, by have := gd_len hLf; omega, fun W hW => (P W hW).mono fun z w' h => ?_, fun W hW => (rgroups_field cal fld _ p n c l W ha (by omega) hnc hf.1 hf.2 (hl.below hW) (Lib.hid fun i hi => ⟨_, (hF i (hall i hi)).k2⟩) (Lib.hid fun i hi => (hF i (hall i hi)).f2)).mono fun z w' h => ?_⟩
      · rcases h with ⟨-, L, n1, h1, h2, h3⟩ | ⟨⟨i, h1, h2⟩, -⟩
        · have := hlen h3
          subst this
          rw [hLf.one h1]; exact h3
        · exact absurd (hall i h1) h2
      · obtain ⟨L, h1, h2⟩ := h
        rw [hLf.one h1]; exact h2
    · have hno : ∃ i, i < n ∧ ¬ IsDay cal (l.getD i 0) := by
        refine Classical.byContradiction fun h => hall fun i hi => Classical.byContradiction fun h2 => h ⟨i, hi, h2⟩
      refine ⟨0, [], [], 21, by omega, fun W hW => (P W hW).mono fun z w' h => ?_, fun W hW => (rgroups_field_bad cal fld (fun i => (F i).1) (fun i => IsDay cal (l.getD i 0)) p n c l W ha (by omega) hnc hf.1 hf.2 (hl.below hW) (Lib.hid hno) (Lib.hid fun i _ hd => ⟨(noday_k cal fld _ ha hf.1 hf.2 hd).2, (noday_k cal fld _ ha hf.1 hf.2 hd).1⟩) (Lib.hid fun i _ hd => ⟨_, (hF i hd).k2⟩) (Lib.hid fun i _ hd => (hF i hd).f2)).mono fun z w' h => GrPost.err h⟩
      rcases h with ⟨h1, -⟩ | ⟨-, h2⟩
      · exact absurd h1 hall
      · exact GrPost.err h2
theorem groups_any (cal fld : Int) (q : Option Addr) (n c : Nat) (l : List Int) (cyc : Bool) (w : World) (hnc : n ≤ c) (hl : Rd w q n l) : Calls Try.prog 9 #[.agg #[.int .i64 cal, .int .i64 fld, .slice q n c, .bool cyc]] w (LawPost w) := by
  by_cases h : n ≤ 200
  · obtain ⟨n1, L, ls, g, h1, h2, h3⟩ := groups_pair cal fld cyc q n c l w h hnc hl
    exact groups_small cal fld g cyc q n c n1 L ls w (by omega) h1 (Lib.hid h2) (Lib.hid h3)
  · exact groups_big cal fld cyc q n c w (by omega)
end Go.Proofs.Ythpeaeepcbbfcaa
