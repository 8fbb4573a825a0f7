/- Numbers sorted by their denominators. -/
import Derived.Test.YtoegbjmoecbjdaaGreatDoorVA
import Derived.Test.YtoegbjmoecbjdaaGreatDoorVS
import Derived.Test.YtoegbjmoecbjdaaGreatDoorPart13
set_option maxHeartbeats 4000000
set_option maxRecDepth 100000
namespace Go.Proofs.YtoegbjmoecbjdaaGreatDoor
open Go.RowKit Big
open Go.Lib Go.Shelf
abbrev C7 := Bool × Option Addr × Nat × Nat × Option Addr × Nat × Nat
def encC (x : C7) : List Value := [.bool x.1, .slice x.2.1 x.2.2.1 x.2.2.2.1, .slice x.2.2.2.2.1 x.2.2.2.2.2.1 x.2.2.2.2.2.2]
def valC (x : C7) : Value := .agg #[.bool x.1, .slice x.2.1 x.2.2.1 x.2.2.2.1, .slice x.2.2.2.2.1 x.2.2.2.2.2.1 x.2.2.2.2.2.2]
theorem RdQ.names {W : World} {b off n K : Nat} {qs : List Rat} (h : RdQ W (some ⟨b, off, none⟩) qs K) (hn : qs.length = n) (h0 : 0 < n) : b < W.heap.size ∧ ∃ f : Fin n → C7, (∀ (i : Fin n) (c : Nat), c < 3 → W.cell? ⟨b, off + i.1 * 3 + c, none⟩ = (encC (f i))[c]?) ∧ ∀ i : Fin n, RatIs W (valC (f i)) (qs.getD i.1 0) K := by
  rcases h with h | ⟨b', off', e, hb, hx⟩
  · omega
  · cases e
    have hch : ∀ i : Fin n, ∃ x : C7, (∀ c, c < 3 → W.cell? ⟨b, off + i.1 * 3 + c, none⟩ = (encC x)[c]?) ∧ RatIs W (valC x) (qs.getD i.1 0) K := fun i => by
      obtain ⟨x, ⟨s, p, n1, c, r, m, d, rfl, c0, c1, c2⟩, hq⟩ := hx i.1 (by rw [hn]; exact i.2)
      refine ⟨(s, p, n1, c, r, m, d), fun k hk => ?_, hq⟩
      match k, hk with
      | 0, _ => exact c0
      | 1, _ => exact c1
      | 2, _ => exact c2
    exact ⟨hb, fun i => Classical.choose (hch i), fun i => (Classical.choose_spec (hch i)).1, fun i => (Classical.choose_spec (hch i)).2⟩
theorem RatIs.bottom {W : World} {s : Bool} {p r : Option Addr} {n c m d K : Nat} {q : Rat} (h : RatIs W (.agg #[.bool s, .slice p n c, .slice r m d]) q K) : ∃ b, NatAt W (.slice r m d) b ∧ b < B64 ^ K := by
  obtain ⟨s', a, b, ⟨u, v, e, -, hv, -⟩, -, -, -, hb⟩ := h
  cases e
  exact ⟨b, hv, hb⟩
theorem sortWorld_grown {α : Type} [Inhabited α] (enc : α → List Value) (k : Nat) (w : World) (g off n : Nat) (d : Array α) (os : Array Obj) : w.grownBy (sortWorldK enc k w g off n d os) (some g) := by
  refine ⟨rfl, rfl, rfl, by simp [sortWorldK, Go.Sort.putRowK], fun j hj hne => ?_⟩
  have hg : g ≠ j := fun e => hne (by rw [e])
  unfold sortWorldK Go.Sort.putRowK
  rw [Go.Sort.heap_grow_old _ _ (by simpa using hj)]
  simp [Go.Sort.putRow, Go.Sort.mapBlock, Go.Sort.ahead, Array.getElem?_modify, hg]
theorem sortWorld_block {α : Type} [Inhabited α] (enc : α → List Value) (hk : ∀ x, (enc x).length = 3) (hN : ∀ x, ∀ u ∈ enc x, NoU u) (w : World) (V n : Nat) (d : Array α) (os : Array Obj) (cur : Array Value) (hV : w.heap[V]? = some (.cells cur 66 (0, 0))) (hc : ∀ u ∈ cur.toList, NoU u) : ∃ cur', (sortWorldK enc 3 w V 0 n d os).heap[V]? = some (.cells cur' 66 (0, 0)) ∧ cur'.size = cur.size ∧ ∀ u ∈ cur'.toList, NoU u := by
  have hg : V < w.heap.size := (Array.getElem?_eq_some_iff.1 hV).1
  refine ⟨Go.Sort.putCells id 0 (Go.Sort.flatK enc 3 d) cur, ?_, by simp [Go.Sort.putCells], fun u hu => ?_⟩
  · unfold sortWorldK Go.Sort.putRowK
    rw [Go.Sort.heap_grow_old _ _ (by simpa using hg)]
    simp [Go.Sort.putRow, Go.Sort.mapBlock, Go.Sort.ahead, Array.getElem?_modify, hV, Go.Sort.onCells]
  · obtain ⟨j, hj, rfl⟩ := List.getElem_of_mem hu
    simp only [Go.Sort.putCells, Array.getElem_toList, Array.getElem_mapIdx]
    split
    · rename_i h
      have hjs : j < d.size * 3 := by
        have := h.2
        rw [Go.Sort.size_flatK] at this
        omega
      rw [Nat.sub_zero, id_eq, Go.Sort.get_flatK _ _ _ _ hjs]
      have hl : j % 3 < (enc d[j / 3]!).length := by rw [hk]; exact Nat.mod_lt _ (by omega)
      rw [getElem!_pos (enc d[j / 3]!) (j % 3) hl]
      exact hN _ _ (List.getElem_mem hl)
    · exact hc _ (Array.getElem_mem_toList _)
theorem bottoms_any (x y : C7) (a b K : Nat) (W : World) (hK : K ≤ most) (ha : a < B64 ^ K) (hb : b < B64 ^ K) (hx : NatAt W (.slice x.2.2.2.2.1 x.2.2.2.2.2.1 x.2.2.2.2.2.2) a) (hy : NatAt W (.slice y.2.2.2.2.1 y.2.2.2.2.2.1 y.2.2.2.2.2.2) b) :
    Calls Tryz.prog 141 #[valC x, valC y] W fun e w' => e = .returned (.int .i64 (cmp3 a b)) ∧ ∃ q os', w' = Go.Sort.grow (W.drewN q) os' := by
  obtain ⟨s1, p1, n1, c1, r1, m1, d1⟩ := x
  obtain ⟨s2, p2, n2, c2, r2, m2, d2⟩ := y
  obtain ⟨W2, HW2⟩ : ∃ W2, Hid ((W.alloc (.cells #[.bool s1, .slice p1 n1 c1, .slice r1 m1 d1] 66)).alloc (.cells #[.bool s2, .slice p2 n2 c2, .slice r2 m2 d2] 66) = W2) := ⟨_, hiD rfl⟩
  have HB2 : Below W.heap.size W W2 := by rw [← HW2.out]; exact ((Below.refl _ W).alloc (Nat.le_refl _) _).alloc (by simp) _
  have HC := hiD (compare_nat _ _ a b K W2 hK ha hb (hx.below HB2) (hy.below HB2))
  clear hx hy HB2
  unfold valC
  go_enter Tryz.func141, Tryz.ntmps141
  go_wp2_with fail
  rw [HW2.out]
  refine HC.out.mono ?_
  rintro e w3 ⟨rfl, k, e3⟩
  have HE3 := hiD e3
  clear e3
  go_wp2_with fail
  go_ret
  refine ⟨rfl, k, #[.cells #[.bool s1, .slice p1 n1 c1, .slice r1 m1 d1] 66, .cells #[.bool s2, .slice p2 n2 c2, .slice r2 m2 d2] 66], ?_⟩
  rw [← HE3.out, ← HW2.out, Go.Sort.alloc_eq_grow, Go.Sort.alloc_eq_grow, Go.Sort.grow_grow]
  rfl
theorem cmp_swo {n : Nat} (bo : Fin n → Nat) : Go.Sort.SWO (ltOf fun i j : Fin n => cmp3 (bo i) (bo j)) := by
  have h : ∀ i j, ltOf (fun i j : Fin n => cmp3 (bo i) (bo j)) i j = decide (bo i < bo j) := fun i j => by
    unfold ltOf cmp3
    by_cases h1 : bo i < bo j
    · simp [h1]
    · by_cases h2 : bo j < bo i <;> simp [h1, h2]
  exact ⟨fun x => by rw [h]; simp, fun x y z h1 h2 => by rw [h] at *; simp at *; omega, fun x y z h1 h2 => by rw [h] at *; simp at *; omega⟩
theorem sort_rat (n V cap K : Nat) (f : Fin n → C7) (qs : List Rat) (w0 w : World) (h0 : 0 < n) (hn : n ≤ 1000) (hV : w0.heap.size ≤ V) (hVw : V < w.heap.size) (hb : Below w0.heap.size w0 w) (hK : K ≤ most) (hq : ∀ i : Fin n, RatIs w0 (valC (f i)) (qs.getD i.1 0) K)
    (hH : ∀ (i : Fin n) (c : Nat), c < 3 → w.cell? ⟨V, i.1 * 3 + c, none⟩ = (encC (f i))[c]? ∧ w.frozen? ⟨V, i.1 * 3 + c, none⟩ = false) :
    Calls Tryz.prog 140 #[.slice (some ⟨V, 0, none⟩) n cap, .func (.func 141) #[] #[]] w fun e w' => e = .returned (.tuple #[]) ∧ ∃ g : Fin n → Fin n, ((List.finRange n).map g).Perm (List.finRange n) ∧ (∀ (i : Fin n) (c : Nat), c < 3 → w'.cell? ⟨V, i.1 * 3 + c, none⟩ = (encC (f (g i)))[c]? ∧ w'.frozen? ⟨V, i.1 * 3 + c, none⟩ = false) ∧ w.grownBy w' (some V) ∧ ∀ cur, w.heap[V]? = some (.cells cur 66 (0, 0)) → (∀ u ∈ cur.toList, NoU u) → ∃ cur', w'.heap[V]? = some (.cells cur' 66 (0, 0)) ∧ cur'.size = cur.size ∧ ∀ u ∈ cur'.toList, NoU u := by
  have : Inhabited (Fin n) := ⟨⟨0, h0⟩⟩
  have hch : ∀ i : Fin n, ∃ b, NatAt w0 (.slice (f i).2.2.2.2.1 (f i).2.2.2.2.2.1 (f i).2.2.2.2.2.2) b ∧ b < B64 ^ K := fun i => (hq i).bottom
  obtain ⟨bo, hbo⟩ : ∃ bo : Fin n → Nat, ∀ i, NatAt w0 (.slice (f i).2.2.2.2.1 (f i).2.2.2.2.2.1 (f i).2.2.2.2.2.2) (bo i) ∧ bo i < B64 ^ K := ⟨fun i => Classical.choose (hch i), fun i => Classical.choose_spec (hch i)⟩
  have eg : ∀ args w, (callFunc 141 args).run Tryz.prog w = .ok (.enter 141 args) w := enters_of Tryz.func141 (by kernel_rfl) rfl
  have hd : (Array.ofFn (fun i : Fin n => i)).size = n := by simp
  have hcl : CmpLays Tryz.prog 141 #[] (fun i : Fin n => encC (f i)) 3 (fun i j => cmp3 (bo i) (bo j)) V 0 (Array.ofFn (fun i : Fin n => i)).size w := by
    intro m os dk hdk x y
    have hbw : Below w0.heap.size w0 (sortWorldK (fun i : Fin n => encC (f i)) 3 w V 0 m dk os) := hb.grown (sortWorld_grown _ _ _ _ _ _ _ _) hb.size (fun k hk => by injection hk with hk; omega)
    exact bottoms_any (f x) (f y) (bo x) (bo y) K _ hK (hbo x).2 (hbo y).2 ((hbo x).1.below hbw) ((hbo y).1.below hbw)
  have hhold : Go.Sort.HoldsK (fun i : Fin n => encC (f i)) 3 w V 0 (Array.ofFn (fun i : Fin n => i)) := by
    intro j hj
    rw [Go.Sort.size_flatK, hd] at hj
    have hi : j / 3 < n := by omega
    obtain ⟨h1, h2⟩ := hH ⟨j / 3, hi⟩ (j % 3) (Nat.mod_lt _ (by omega))
    rw [Go.Sort.get_flatK _ _ _ _ (by rw [hd]; exact hj), Nat.zero_add]
    have e : j / 3 * 3 + j % 3 = j := by omega
    rw [e] at h1 h2
    refine ⟨h1.trans ?_, h2⟩
    have hg : (Array.ofFn (fun i : Fin n => i))[j / 3]! = ⟨j / 3, hi⟩ := by rw [getElem!_pos _ _ (by simpa using hi)]; simp
    rw [hg]
    have hc : j % 3 = 0 ∨ j % 3 = 1 ∨ j % 3 = 2 := by omega
    rcases hc with hc | hc | hc <;> rw [hc] <;> rfl
  have hcon := AnyQ.slices_SortFunc Tryz.sortRat 3 Tryz.isAgg66 Tryz.sizeOf66 (fun i : Fin n => encC (f i)) (fun _ => rfl) (fun x v hv => by simp [encC] at hv; rcases hv with rfl | rfl | rfl <;> rfl) (fun i j => cmp3 (bo i) (bo j)) (cmp_swo bo) 141 #[] V 0 cap (Array.ofFn (fun i : Fin n => i)) w eg hcl hhold hVw (by rw [hd]; omega)
  rw [hd] at hcon
  refine hcon.mono ?_
  rintro e w' ⟨rfl, d', m, os, hp, -, rfl⟩
  obtain ⟨hs, -, hpp⟩ := hp
  rw [hd] at hs
  have hh := holdsK_sortWorldK_c (fun i : Fin n => encC (f i)) 3 w V 0 (Array.ofFn (fun i : Fin n => i)) d' m os hhold hVw (by rw [hs, hd])
  refine ⟨rfl, fun i => d'[i.1]'(by rw [hs]; exact i.2), ?_, fun i c hc => ?_, sortWorld_grown _ _ _ _ _ _ _ _, fun cur hV hc => sortWorld_block _ (fun _ => rfl) (fun x u hu => by
    simp only [encC, List.mem_cons, List.not_mem_nil, or_false] at hu
    rcases hu with rfl | rfl | rfl <;> (intro n h; cases h)) w V m d' os cur hV hc⟩
  · have e1 : (List.finRange n).map (fun i : Fin n => d'[i.1]'(by rw [hs]; exact i.2)) = d'.toList := by
      apply List.ext_getElem
      · simp [hs]
      · intro i h1 h2; simp
    rw [e1]
    have e2 : (d'.extract 0 n).toList = d'.toList := by
      apply List.ext_getElem
      · simp [hs]
      · intro i h1 h2; simp
    have e3 : ((Array.ofFn (fun i : Fin n => i)).extract 0 n).toList = List.finRange n := by
      apply List.ext_getElem
      · simp
      · intro i h1 h2; simp
    rw [e2, e3] at hpp
    exact hpp
  · have := hh.cell (i := i.1) (c := c) (by rw [hs]; exact i.2) hc
    rw [Nat.zero_add] at this
    refine ⟨this.1.trans ?_, this.2⟩
    rw [getElem!_pos d' _ (by rw [hs]; exact i.2)]
    match c, hc with
    | 0, _ => rfl
    | 1, _ => rfl
    | 2, _ => rfl
end Go.Proofs.YtoegbjmoecbjdaaGreatDoor
