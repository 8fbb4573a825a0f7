/- The document's read: a unit's parts. -/
import Derived.Test.YtfjnipkpfbkegaaGreatDoorRh
import Derived.Test.YtfjnipkpfbkegaaGreatDoorPart14
import Derived.Outline
set_option maxHeartbeats 3200000
set_option maxRecDepth 100000
namespace Go.Proofs.YtfjnipkpfbkegaaGreatDoor
open Go.RowKit Big
open Go.Lib
def Box13 (W : World) (g : Nat) : Prop := ∃ c : Array Value, W.heap[g]? = some (.cells c 52 (0, 0)) ∧ c.size = 13 ∧ ∀ (j : Nat) v, c[j]? = some v → NoU v
theorem Box13.below {W W' : World} {g : Nat} (h : Box13 W g) (hb : Below W.heap.size W W') : Box13 W' g := by
  obtain ⟨c, h1, h2⟩ := h
  exact ⟨c, (hb.block g (Array.getElem?_eq_some_iff.1 h1).1).trans h1, h2⟩
theorem Box13.drew {W : World} {g : Nat} (h : Box13 W g) : Box13 W.drew g := h
theorem Box13.slots {W : World} {g : Nat} (h : Box13 W g) : ∃ z0 z1 z2 z3 z4 z5 z6 z7 z8 z9 z10 z11 z12, W.cell? ⟨g, 0, none⟩ = some z0 ∧ W.cell? ⟨g, 1, none⟩ = some z1 ∧ W.cell? ⟨g, 2, none⟩ = some z2 ∧ W.cell? ⟨g, 3, none⟩ = some z3 ∧ W.cell? ⟨g, 4, none⟩ = some z4 ∧ W.cell? ⟨g, 5, none⟩ = some z5 ∧ W.cell? ⟨g, 6, none⟩ = some z6 ∧ W.cell? ⟨g, 7, none⟩ = some z7 ∧ W.cell? ⟨g, 8, none⟩ = some z8 ∧ W.cell? ⟨g, 9, none⟩ = some z9 ∧ W.cell? ⟨g, 10, none⟩ = some z10 ∧ W.cell? ⟨g, 11, none⟩ = some z11 ∧ W.cell? ⟨g, 12, none⟩ = some z12 ∧ W.frozen? ⟨g, 0, none⟩ = false ∧ W.frozen? ⟨g, 1, none⟩ = false ∧ W.frozen? ⟨g, 2, none⟩ = false ∧ W.frozen? ⟨g, 3, none⟩ = false ∧ W.frozen? ⟨g, 4, none⟩ = false ∧ W.frozen? ⟨g, 5, none⟩ = false ∧ W.frozen? ⟨g, 6, none⟩ = false ∧ W.frozen? ⟨g, 7, none⟩ = false ∧ W.frozen? ⟨g, 8, none⟩ = false ∧ W.frozen? ⟨g, 9, none⟩ = false ∧ W.frozen? ⟨g, 10, none⟩ = false ∧ W.frozen? ⟨g, 11, none⟩ = false ∧ W.frozen? ⟨g, 12, none⟩ = false := by
  obtain ⟨⟨l⟩, h1, h2, -⟩ := h
  have h2 : l.length = 13 := h2
  match l, h2 with
  | [z0, z1, z2, z3, z4, z5, z6, z7, z8, z9, z10, z11, z12], _ => exact ⟨z0, z1, z2, z3, z4, z5, z6, z7, z8, z9, z10, z11, z12, ceh h1 0, ceh h1 1, ceh h1 2, ceh h1 3, ceh h1 4, ceh h1 5, ceh h1 6, ceh h1 7, ceh h1 8, ceh h1 9, ceh h1 10, ceh h1 11, ceh h1 12, foh h1 0, foh h1 1, foh h1 2, foh h1 3, foh h1 4, foh h1 5, foh h1 6, foh h1 7, foh h1 8, foh h1 9, foh h1 10, foh h1 11, foh h1 12⟩
theorem rd_setU {W : World} {g : Nat} (h : Box13 W g) {p : Option Addr} {n : Nat} {l : List Nat} (hr : Rd W p n l) (k : Nat) (a : Value) : Rd (W.setCell ⟨g, k, none⟩ a) p n l := by
  obtain ⟨c, h1, h2, h3⟩ := h
  refine ⟨hr.len, ?_⟩
  rcases hr.cell with h0 | ⟨b, off, hp, hlt, hc⟩
  · exact .inl h0
  · by_cases hn : n = 0
    · exact .inl hn
    refine .inr ⟨b, off, hp, by rw [World.size_setCell]; exact hlt, fun j hj => ?_⟩
    have hne : b ≠ g := by
      rintro rfl
      have h5 := hc 0 (by omega)
      rw [ceh h1] at h5
      exact h3 _ _ h5 _ rfl
    rw [← hc j hj]
    exact World.cell?_of_block (w := W) (Below.heap_setCell _ _ _ _ hne)
theorem qat_setU {W : World} {g : Nat} (h : Box13 W g) {v : Value} {q : Rat} (hx : QAt W v q) (k : Nat) (a : Value) : QAt (W.setCell ⟨g, k, none⟩ a) v q := by
  have one : ∀ {v : Value} {x : Nat}, Nat9 W v x → Nat9 (W.setCell ⟨g, k, none⟩ a) v x := fun hx => by
    obtain ⟨p, n, c, l, h1, h2, h3, h4⟩ := hx
    exact ⟨p, n, c, l, h1, h2, rd_setU h h3 k a, h4⟩
  obtain ⟨u, v, rfl, hu, hv⟩ := hx
  exact ⟨u, v, rfl, one hu, hv.imp one fun h => ⟨one h.1, h.2⟩⟩
theorem Box13.set {W : World} {g : Nat} (h : Box13 W g) (k : Nat) (a : Value) (ha : NoU a) : Box13 (W.setCell ⟨g, k, none⟩ a) g := by
  obtain ⟨c, h1, h2, h3⟩ := h
  refine ⟨c.setIfInBounds k a, heap_set g k c 52 a h1, by rw [Array.size_setIfInBounds]; exact h2, fun j v hj => ?_⟩
  by_cases e : k = j
  · subst e
    rw [Array.getElem?_setIfInBounds_self] at hj
    split at hj
    · cases hj; exact ha
    · cases hj
  · rw [Array.getElem?_setIfInBounds_ne e] at hj
    exact h3 _ _ hj
structure Stp (g : Nat) (W W' : World) : Prop where
  box : Box13 W' g
  nums : ∀ v q, QAt W v q → QAt W' v q
  keep : ∀ w L, w.heap.size ≤ g → (∀ x ∈ L, x.1 ≠ g) → Keep w W L → Keep w W' L
theorem Stp.refl {W : World} {g : Nat} (h : Box13 W g) : Stp g W W := ⟨h, fun _ _ h => h, fun _ _ _ _ h => h⟩
theorem Stp.more {W W' : World} {g : Nat} (h : Stp g W W') (k : Nat) (a : Value) (ha : NoU a) : Stp g W (W'.setCell ⟨g, k, none⟩ a) :=
  ⟨h.box.set k a ha, fun v q hq => qat_setU h.box (h.nums v q hq) k a, fun w L hg hne hk => by
    have hk' := h.keep w L hg hne hk
    exact ⟨hk'.below.setCell hg _, fun x hx => (Below.heap_setCell _ _ _ _ (hne x hx)).trans (hk'.all x hx)⟩⟩
theorem Stp.scale {W : World} {g : Nat} (h : Box13 W g) (b1 : Bool) (x1 : Option Addr) (n1 c1 : Nat) (y1 : Option Addr) (m1 d1 : Nat) (b2 : Bool) (x2 : Option Addr) (n2 c2 : Nat) (y2 : Option Addr) (m2 d2 : Nat) (p0 p1 p2 p3 p4 p5 p6 : Int) :
    Stp g W ((((((((((((((W).setCell ⟨g, 0, none⟩ (.bool b1)).setCell ⟨g, 1, none⟩ (.slice x1 n1 c1)).setCell ⟨g, 2, none⟩ (.slice y1 m1 d1)).setCell ⟨g, 3, none⟩ (.bool b2)).setCell ⟨g, 4, none⟩ (.slice x2 n2 c2)).setCell ⟨g, 5, none⟩ (.slice y2 m2 d2)).setCell ⟨g, 6, none⟩ (.int .i64 p0)).setCell ⟨g, 7, none⟩ (.int .i64 p1)).setCell ⟨g, 8, none⟩ (.int .i64 p2)).setCell ⟨g, 9, none⟩ (.int .i64 p3)).setCell ⟨g, 10, none⟩ (.int .i64 p4)).setCell ⟨g, 11, none⟩ (.int .i64 p5)).setCell ⟨g, 12, none⟩ (.int .i64 p6)) :=
  ((((((((((((Stp.more (Stp.refl h) 0 _ (nub _)).more 1 _ (nus _ _ _)).more 2 _ (nus _ _ _)).more 3 _ (nub _)).more 4 _ (nus _ _ _)).more 5 _ (nus _ _ _)).more 6 _ (nui _)).more 7 _ (nui _)).more 8 _ (nui _)).more 9 _ (nui _)).more 10 _ (nui _)).more 11 _ (nui _)).more 12 _ (nui _)
theorem within_any (n : Int) (w : World) : Calls Tryz.prog 16 #[.int .i64 n] w fun e w' => e = .returned (.bool (isPow n)) ∧ w = w' := by
  unfold isPow
  by_cases h : -12 ≤ n
  · have h1 : decide (-12 ≤ n) = true := decide_eq_true h
    go_enter Tryz.func16, Tryz.ntmps16
    go_wp2_with fail
    go_ret
    exact ⟨ret_bool (by simp [h]), rfl⟩
  · have h1 : decide (-12 ≤ n) = false := decide_eq_false h
    go_enter Tryz.func16, Tryz.ntmps16
    go_wp2_with fail
    go_ret
    exact ⟨ret_bool (by simp), rfl⟩
def ScPost (qf qo : Rat) (p0 p1 p2 p3 p4 p5 p6 : Int) (ok : Bool) (w : World) (e : Ending) (w' : World) : Prop := ∃ b1 x1 n1 c1 y1 m1 d1 b2 x2 n2 c2 y2 m2 d2, e = .returned (.tuple #[.agg #[.bool b1, .slice x1 n1 c1, .slice y1 m1 d1, .bool b2, .slice x2 n2 c2, .slice y2 m2 d2, .int .i64 p0, .int .i64 p1, .int .i64 p2, .int .i64 p3, .int .i64 p4, .int .i64 p5, .int .i64 p6], .bool ok]) ∧ Below w.heap.size w w' ∧ (ok = true → QAt w' (.agg #[.bool b1, .slice x1 n1 c1, .slice y1 m1 d1]) qf ∧ QAt w' (.agg #[.bool b2, .slice x2 n2 c2, .slice y2 m2 d2]) qo)
theorem inR_take {l : List Int} {k : Nat} (h : k < l.length) : inR (l.take (k + 1)) = (inR (l.take k) && isPow (l.getD k 0)) := by
  unfold inR
  rw [List.take_add_one, List.all_append]
  congr 1
  rw [List.getElem?_eq_getElem h, List.getD_eq_getElem?_getD, List.getElem?_eq_getElem h]
  simp
theorem index7 (p0 p1 p2 p3 p4 p5 p6 : Int) (k : Nat) (hk : k < 7) (W : World) : (Instr.index 22 (.agg #[.int .i64 p0, .int .i64 p1, .int .i64 p2, .int .i64 p3, .int .i64 p4, .int .i64 p5, .int .i64 p6]) (.int .i64 (k : Int))).run Tryz.prog W = .ok (.int .i64 ([p0, p1, p2, p3, p4, p5, p6].getD k 0)) W := by
  rcases (show k = 0 ∨ k = 1 ∨ k = 2 ∨ k = 3 ∨ k = 4 ∨ k = 5 ∨ k = 6 by omega) with rfl | rfl | rfl | rfl | rfl | rfl | rfl <;> kernel_rfl
theorem uread_any (f o : ByteArray) (p0 p1 p2 p3 p4 p5 p6 : Int) (qf qo : Rat) (f0 f1 res : Bool) (z : Int) (w : World) (hres : Hid (res = (f0 && inR [p0, p1, p2, p3, p4, p5, p6] && f1 && decide (0 < z))))
    (h40 : Hid (∀ W, Below w.heap.size w W → Calls Tryz.prog 50 #[.string f] W (FlagPost qf f0 W))) (h41 : Hid (∀ W, Below w.heap.size w W → Calls Tryz.prog 50 #[.string o] W (FlagPost qo f1 W)))
    (h42 : Hid (∀ W u, QAt W u qf → Calls Tryz.prog 51 #[u] W fun e w' => e = .returned (.int .i64 z) ∧ Below W.heap.size W w')) : Calls Tryz.prog 28 #[.agg #[.string f, .string o, .int .i64 p0, .int .i64 p1, .int .i64 p2, .int .i64 p3, .int .i64 p4, .int .i64 p5, .int .i64 p6]] w (ScPost qf qo p0 p1 p2 p3 p4 p5 p6 res w) := by
  have hx := hiD (index7 p0 p1 p2 p3 p4 p5 p6)
  have KP : Hid (Keep w ((w.alloc (.cells #[.string f, .string o, .int .i64 p0, .int .i64 p1, .int .i64 p2, .int .i64 p3, .int .i64 p4, .int .i64 p5, .int .i64 p6] 24)).alloc (.cells #[.bool false, .slice none 0 0, .slice none 0 0, .bool false, .slice none 0 0, .slice none 0 0, .int .i64 0, .int .i64 0, .int .i64 0, .int .i64 0, .int .i64 0, .int .i64 0, .int .i64 0] 52)) [(w.heap.size, #[.string f, .string o, .int .i64 p0, .int .i64 p1, .int .i64 p2, .int .i64 p3, .int .i64 p4, .int .i64 p5, .int .i64 p6], 24)] ∧ Box13 ((w.alloc (.cells #[.string f, .string o, .int .i64 p0, .int .i64 p1, .int .i64 p2, .int .i64 p3, .int .i64 p4, .int .i64 p5, .int .i64 p6] 24)).alloc (.cells #[.bool false, .slice none 0 0, .slice none 0 0, .bool false, .slice none 0 0, .slice none 0 0, .int .i64 0, .int .i64 0, .int .i64 0, .int .i64 0, .int .i64 0, .int .i64 0, .int .i64 0] 52)) (w.heap.size + 1)) := hiD (by
    have h1 : Keep w ((w.alloc (.cells #[.string f, .string o, .int .i64 p0, .int .i64 p1, .int .i64 p2, .int .i64 p3, .int .i64 p4, .int .i64 p5, .int .i64 p6] 24)).alloc (.cells #[.bool false, .slice none 0 0, .slice none 0 0, .bool false, .slice none 0 0, .slice none 0 0, .int .i64 0, .int .i64 0, .int .i64 0, .int .i64 0, .int .i64 0, .int .i64 0, .int .i64 0] 52)) ((w.heap.size + 1, #[.bool false, .slice none 0 0, .slice none 0 0, .bool false, .slice none 0 0, .slice none 0 0, .int .i64 0, .int .i64 0, .int .i64 0, .int .i64 0, .int .i64 0, .int .i64 0, .int .i64 0], 52) :: [(w.heap.size, #[.string f, .string o, .int .i64 p0, .int .i64 p1, .int .i64 p2, .int .i64 p3, .int .i64 p4, .int .i64 p5, .int .i64 p6], 24)]) := by
      have h0 := ((Keep.nil w).more #[.string f, .string o, .int .i64 p0, .int .i64 p1, .int .i64 p2, .int .i64 p3, .int .i64 p4, .int .i64 p5, .int .i64 p6] 24).more #[.bool false, .slice none 0 0, .slice none 0 0, .bool false, .slice none 0 0, .slice none 0 0, .int .i64 0, .int .i64 0, .int .i64 0, .int .i64 0, .int .i64 0, .int .i64 0, .int .i64 0] 52
      rw [show (w.alloc (.cells #[.string f, .string o, .int .i64 p0, .int .i64 p1, .int .i64 p2, .int .i64 p3, .int .i64 p4, .int .i64 p5, .int .i64 p6] 24)).heap.size = w.heap.size + 1 from by simp] at h0
      exact h0
    refine ⟨h1.sub (fun x hx => List.mem_cons_of_mem _ hx), _, h1.one _ (List.mem_cons_self ..), rfl, fun j v hj => ?_⟩
    match j, hj with
    | 0, hj => (simp at hj; subst hj; exact nub _)
    | 1, hj => (simp at hj; subst hj; exact nus _ _ _)
    | 2, hj => (simp at hj; subst hj; exact nus _ _ _)
    | 3, hj => (simp at hj; subst hj; exact nub _)
    | 4, hj => (simp at hj; subst hj; exact nus _ _ _)
    | 5, hj => (simp at hj; subst hj; exact nus _ _ _)
    | 6, hj => (simp at hj; subst hj; exact nui _)
    | 7, hj => (simp at hj; subst hj; exact nui _)
    | 8, hj => (simp at hj; subst hj; exact nui _)
    | 9, hj => (simp at hj; subst hj; exact nui _)
    | 10, hj => (simp at hj; subst hj; exact nui _)
    | 11, hj => (simp at hj; subst hj; exact nui _)
    | 12, hj => (simp at hj; subst hj; exact nui _)
    | j + 13, hj => simp at hj)
  have hc0 := KP.out.1.one _ (List.mem_cons_self ..)
  have k0 := ceh hc0 0
  clear hc0
  go_enter Tryz.func28, Tryz.ntmps28
  go_wp2_with fail
  refine (h40.out _ KP.out.1.below).mono ?_
  rintro e w1 ⟨b1, x1, n1, c1, y1, m1, d1, rfl, hb, hq⟩
  have S1 : Hid (w.heap.size + 2 ≤ w1.heap.size) := hiD (by have := hb.size; simp at this; omega)
  have K1 := hiD ((KP.out.1.next hb).more #[.bool b1, .slice x1 n1 c1, .slice y1 m1 d1] 44)
  have X1 := hiD ((KP.out.2.below hb).below (below_alloc9 w1 (.cells #[.bool b1, .slice x1 n1 c1, .slice y1 m1 d1] 44)))
  have Q1 : Hid (f0 = true → QAt (w1.alloc (.cells #[.bool b1, .slice x1 n1 c1, .slice y1 m1 d1] 44)) (.agg #[.bool b1, .slice x1 n1 c1, .slice y1 m1 d1]) qf) := hiD fun h => (hq h).below (below_alloc9 w1 (.cells #[.bool b1, .slice x1 n1 c1, .slice y1 m1 d1] 44))
  have hc0 := K1.out.one _ (List.mem_cons_of_mem _ (List.mem_cons_self ..))
  have k1 := ceh hc0 1
  clear hc0 hb hq KP k0
  go_wp2_with fail
  refine (h41.out _ K1.out.below).mono ?_
  rintro e w2 ⟨b2, x2, n2, c2, y2, m2, d2, rfl, hb, hq⟩
  have S2 : Hid (w1.heap.size + 1 ≤ w2.heap.size) := hiD (by have := hb.size; simp at this; omega)
  have K2 := hiD ((K1.out.next hb).more #[.bool b2, .slice x2 n2 c2, .slice y2 m2 d2] 44)
  have X2 := hiD ((X1.out.below hb).below (below_alloc9 w2 (.cells #[.bool b2, .slice x2 n2 c2, .slice y2 m2 d2] 44)))
  have Q2 : Hid (f0 = true → QAt (w2.alloc (.cells #[.bool b2, .slice x2 n2 c2, .slice y2 m2 d2] 44)) (.agg #[.bool b1, .slice x1 n1 c1, .slice y1 m1 d1]) qf) := hiD fun h => ((Q1.out h).below hb).below (below_alloc9 w2 (.cells #[.bool b2, .slice x2 n2 c2, .slice y2 m2 d2] 44))
  have R2 : Hid (f1 = true → QAt (w2.alloc (.cells #[.bool b2, .slice x2 n2 c2, .slice y2 m2 d2] 44)) (.agg #[.bool b2, .slice x2 n2 c2, .slice y2 m2 d2]) qo) := hiD fun h => (hq h).below (below_alloc9 w2 (.cells #[.bool b2, .slice x2 n2 c2, .slice y2 m2 d2] 44))
  have hc0 := K2.out.one _ (List.mem_cons_of_mem _ (List.mem_cons_of_mem _ (List.mem_cons_self ..)))
  have j0 := ceh hc0 2
  have j1 := ceh hc0 3
  have j2 := ceh hc0 4
  have j3 := ceh hc0 5
  have j4 := ceh hc0 6
  have j5 := ceh hc0 7
  have j6 := ceh hc0 8
  clear hc0 hb hq K1 X1 Q1 k1
  go_wp2_with fail
  go_loop [5, 24] (fun okv iv => ∃ k : Nat, k ≤ 7 ∧ iv = .int .i64 (k : Int) ∧ okv = .bool (f0 && inR ([p0, p1, p2, p3, p4, p5, p6].take k))) (fun _ iv => 7 - (intOf iv).toNat)
  case atStart => exact ⟨0, by omega, rfl, by simp [inR]⟩
  case round =>
    obtain ⟨k, hk, rfl, rfl⟩ := hrel
    by_cases hlt : k < 7
    · have hlt' : (k : Int) < 7 := by omega
      have hix := hx.out k hlt
      have hn : Hid ((f0 && inR ([p0, p1, p2, p3, p4, p5, p6].take (k + 1))) = (f0 && inR ([p0, p1, p2, p3, p4, p5, p6].take k) && isPow ([p0, p1, p2, p3, p4, p5, p6].getD k 0))) := hiD (by rw [inR_take (by simpa using hlt), Bool.and_assoc])
      have hk1 : Hid (k + 1 ≤ 7) := hiD hlt
      generalize [p0, p1, p2, p3, p4, p5, p6].getD k 0 = pk at hix hn
      generalize (f0 && inR ([p0, p1, p2, p3, p4, p5, p6].take k)) = fl at hn ⊢
      clear hlt hk
      cases fl with
      | true =>
        go_wp2_with fail
        refine (within_any pk _).mono ?_
        rintro e w3 ⟨rfl, rfl⟩
        go_wp2_with fail
        go_round
        case rel => exact ⟨k + 1, hk1.out, by go_num, by rw [hn.out]; rfl⟩
        case measure => (simp [intOf]) <;> omega
      | false =>
        go_wp2_with fail
        go_round
        case rel => exact ⟨k + 1, hk1.out, by go_num, by rw [hn.out]; rfl⟩
        case measure => (simp [intOf]) <;> omega
    · obtain rfl : k = 7 := by omega
      have hfl : Hid (res = ((f0 && inR ([p0, p1, p2, p3, p4, p5, p6].take 7)) && f1 && decide (0 < z)) ∧ ((f0 && inR ([p0, p1, p2, p3, p4, p5, p6].take 7)) = true → f0 = true)) := hiD ⟨by rw [hres.out]; rfl, fun h => by simp at h; exact h.1⟩
      generalize (f0 && inR ([p0, p1, p2, p3, p4, p5, p6].take 7)) = fl at hfl ⊢
      have HR := hiD (K2.out)
      clear hlt hk
      go_wp2_with fail
      have hne : Hid (∀ x ∈ ([(w2.heap.size, #[.bool b2, .slice x2 n2 c2, .slice y2 m2 d2], 44), (w1.heap.size, #[.bool b1, .slice x1 n1 c1, .slice y1 m1 d1], 44), (w.heap.size, #[.string f, .string o, .int .i64 p0, .int .i64 p1, .int .i64 p2, .int .i64 p3, .int .i64 p4, .int .i64 p5, .int .i64 p6], 24)] : List Blk), x.1 ≠ w.heap.size + 1) := hiD (by
          intro x hx
          have g1 := S1.out
          have g2 := S2.out
          simp only [List.mem_cons, List.not_mem_nil, or_false] at hx
          rcases hx with rfl | rfl | rfl
          · show w2.heap.size ≠ w.heap.size + 1; omega
          · show w1.heap.size ≠ w.heap.size + 1; omega
          · show w.heap.size ≠ w.heap.size + 1; omega)
      cases fl with
      | false =>
        obtain rfl : res = false := by rw [hfl.out.1]; rfl
        have KB : Hid (∀ W, Keep w W [(w2.heap.size, #[.bool b2, .slice x2 n2 c2, .slice y2 m2 d2], 44), (w1.heap.size, #[.bool b1, .slice x1 n1 c1, .slice y1 m1 d1], 44), (w.heap.size, #[.string f, .string o, .int .i64 p0, .int .i64 p1, .int .i64 p2, .int .i64 p3, .int .i64 p4, .int .i64 p5, .int .i64 p6], 24)] → Box13 W (w.heap.size + 1) → ((fun w' => (Keep w w' [(w2.heap.size, #[.bool b2, .slice x2 n2 c2, .slice y2 m2 d2], 44), (w1.heap.size, #[.bool b1, .slice x1 n1 c1, .slice y1 m1 d1], 44), (w.heap.size, #[.string f, .string o, .int .i64 p0, .int .i64 p1, .int .i64 p2, .int .i64 p3, .int .i64 p4, .int .i64 p5, .int .i64 p6], 24)] ∧ Box13 w' (w.heap.size + 1)) ∧ w'.cell? ⟨w2.heap.size, 0, none⟩ = some (.bool b2) ∧ w'.cell? ⟨w2.heap.size, 1, none⟩ = some (.slice x2 n2 c2) ∧ w'.cell? ⟨w2.heap.size, 2, none⟩ = some (.slice y2 m2 d2) ∧ w'.cell? ⟨w1.heap.size, 0, none⟩ = some (.bool b1) ∧ w'.cell? ⟨w1.heap.size, 1, none⟩ = some (.slice x1 n1 c1) ∧ w'.cell? ⟨w1.heap.size, 2, none⟩ = some (.slice y1 m1 d1) ∧ w'.cell? ⟨w.heap.size, 2, none⟩ = some (.int .i64 p0) ∧ w'.cell? ⟨w.heap.size, 3, none⟩ = some (.int .i64 p1) ∧ w'.cell? ⟨w.heap.size, 4, none⟩ = some (.int .i64 p2) ∧ w'.cell? ⟨w.heap.size, 5, none⟩ = some (.int .i64 p3) ∧ w'.cell? ⟨w.heap.size, 6, none⟩ = some (.int .i64 p4) ∧ w'.cell? ⟨w.heap.size, 7, none⟩ = some (.int .i64 p5) ∧ w'.cell? ⟨w.heap.size, 8, none⟩ = some (.int .i64 p6)) W)) := hiD fun W h hb => ⟨⟨h, hb⟩, ceh (h.one _ (List.mem_cons_self ..)) 0, ceh (h.one _ (List.mem_cons_self ..)) 1, ceh (h.one _ (List.mem_cons_self ..)) 2, ceh (h.one _ (List.mem_cons_of_mem _ (List.mem_cons_self ..))) 0, ceh (h.one _ (List.mem_cons_of_mem _ (List.mem_cons_self ..))) 1, ceh (h.one _ (List.mem_cons_of_mem _ (List.mem_cons_self ..))) 2, ceh (h.one _ (List.mem_cons_of_mem _ (List.mem_cons_of_mem _ (List.mem_cons_self ..)))) 2, ceh (h.one _ (List.mem_cons_of_mem _ (List.mem_cons_of_mem _ (List.mem_cons_self ..)))) 3, ceh (h.one _ (List.mem_cons_of_mem _ (List.mem_cons_of_mem _ (List.mem_cons_self ..)))) 4, ceh (h.one _ (List.mem_cons_of_mem _ (List.mem_cons_of_mem _ (List.mem_cons_self ..)))) 5, ceh (h.one _ (List.mem_cons_of_mem _ (List.mem_cons_of_mem _ (List.mem_cons_self ..)))) 6, ceh (h.one _ (List.mem_cons_of_mem _ (List.mem_cons_of_mem _ (List.mem_cons_self ..)))) 7, ceh (h.one _ (List.mem_cons_of_mem _ (List.mem_cons_of_mem _ (List.mem_cons_self ..)))) 8⟩
        refine wp_region_held_drew (S := fun w' => (Keep w w' [(w2.heap.size, #[.bool b2, .slice x2 n2 c2, .slice y2 m2 d2], 44), (w1.heap.size, #[.bool b1, .slice x1 n1 c1, .slice y1 m1 d1], 44), (w.heap.size, #[.string f, .string o, .int .i64 p0, .int .i64 p1, .int .i64 p2, .int .i64 p3, .int .i64 p4, .int .i64 p5, .int .i64 p6], 24)] ∧ Box13 w' (w.heap.size + 1)) ∧ w'.cell? ⟨w2.heap.size, 0, none⟩ = some (.bool b2) ∧ w'.cell? ⟨w2.heap.size, 1, none⟩ = some (.slice x2 n2 c2) ∧ w'.cell? ⟨w2.heap.size, 2, none⟩ = some (.slice y2 m2 d2) ∧ w'.cell? ⟨w1.heap.size, 0, none⟩ = some (.bool b1) ∧ w'.cell? ⟨w1.heap.size, 1, none⟩ = some (.slice x1 n1 c1) ∧ w'.cell? ⟨w1.heap.size, 2, none⟩ = some (.slice y1 m1 d1) ∧ w'.cell? ⟨w.heap.size, 2, none⟩ = some (.int .i64 p0) ∧ w'.cell? ⟨w.heap.size, 3, none⟩ = some (.int .i64 p1) ∧ w'.cell? ⟨w.heap.size, 4, none⟩ = some (.int .i64 p2) ∧ w'.cell? ⟨w.heap.size, 5, none⟩ = some (.int .i64 p3) ∧ w'.cell? ⟨w.heap.size, 6, none⟩ = some (.int .i64 p4) ∧ w'.cell? ⟨w.heap.size, 7, none⟩ = some (.int .i64 p5) ∧ w'.cell? ⟨w.heap.size, 8, none⟩ = some (.int .i64 p6)) (by kernel_rfl) (KB.out _ (Keep.drew K2.out) X2.out.drew) (fun hHeld => ?_)
        refine wpAnyH_take (i := 0) (v := (.agg #[.bool b1, .slice x1 n1 c1, .slice y1 m1 d1])) rfl (by kernel_rfl) (by kernel_rfl) (by kernel_rfl) (fun _ _ _ h => h) (Or.inl ⟨by rfl, by intro W hSw; clear hHeld; go_split_ands; go_simp⟩) (by assumption) ?_
        simp only [List.getElem_toArray, List.getElem_cons_zero, Act.put, List.setIfInBounds_toArray, List.set_cons_zero, List.set_cons_succ]
        refine wpAnyH_take (i := 1) (v := (.agg #[.bool b2, .slice x2 n2 c2, .slice y2 m2 d2])) rfl (by kernel_rfl) (by kernel_rfl) (by kernel_rfl) (fun _ _ _ h => h) (Or.inl ⟨by rfl, by intro W hSw; clear hHeld; go_split_ands; go_simp⟩) (by assumption) ?_
        simp only [List.getElem_toArray, List.getElem_cons_zero, List.getElem_cons_succ, Act.put, List.setIfInBounds_toArray, List.set_cons_zero, List.set_cons_succ]
        refine wpAnyH_take (i := 2) (v := (.pointer (some ⟨w.heap.size, 2, none⟩))) rfl (by kernel_rfl) (by kernel_rfl) (by kernel_rfl) (fun _ _ _ h => h) (Or.inl ⟨by rfl, by intro W hSw; clear hHeld; go_split_ands; go_simp⟩) (by assumption) ?_
        simp only [List.getElem_toArray, List.getElem_cons_zero, List.getElem_cons_succ, Act.put, List.setIfInBounds_toArray, List.set_cons_zero, List.set_cons_succ]
        refine wpAnyH_take (i := 3) (v := (.agg #[.int .i64 p0, .int .i64 p1, .int .i64 p2, .int .i64 p3, .int .i64 p4, .int .i64 p5, .int .i64 p6])) rfl (by kernel_rfl) (by kernel_rfl) (by kernel_rfl) (fun _ _ _ h => h) (Or.inl ⟨by rfl, by intro W hSw; clear hHeld; go_split_ands; go_simp⟩) (by assumption) ?_
        simp only [List.getElem_toArray, List.getElem_cons_zero, List.getElem_cons_succ, Act.put, List.setIfInBounds_toArray, List.set_cons_zero, List.set_cons_succ]
        refine wpAnyH_take (i := 4) (v := (.agg #[.bool b1, .slice x1 n1 c1, .slice y1 m1 d1, .bool b2, .slice x2 n2 c2, .slice y2 m2 d2, .int .i64 p0, .int .i64 p1, .int .i64 p2, .int .i64 p3, .int .i64 p4, .int .i64 p5, .int .i64 p6])) rfl (by kernel_rfl) (by kernel_rfl) (by kernel_rfl) (fun _ _ _ h => h) (Or.inl ⟨by rfl, by intro W hSw; clear hHeld; go_split_ands; go_simp⟩) (by assumption) ?_
        simp only [List.getElem_toArray, List.getElem_cons_zero, List.getElem_cons_succ, Act.put, List.setIfInBounds_toArray, List.set_cons_zero, List.set_cons_succ]
        refine wpAnyH_take (i := 5) (v := (.bool false)) rfl (by kernel_rfl) (by kernel_rfl) (by kernel_rfl) (fun _ _ _ h => h) (Or.inl ⟨by rfl, by intro W hSw; clear hHeld; go_split_ands; go_simp⟩) (by assumption) ?_
        simp only [List.getElem_toArray, List.getElem_cons_zero, List.getElem_cons_succ, Act.put, List.setIfInBounds_toArray, List.set_cons_zero, List.set_cons_succ]
        refine wpAnyH_take (i := 6) (v := (.bool false)) rfl (by kernel_rfl) (by kernel_rfl) (by kernel_rfl) (fun _ _ _ h => h) (Or.inl ⟨by rfl, by intro W hSw; clear hHeld; go_split_ands; go_simp⟩) (by assumption) ?_
        simp only [List.getElem_toArray, List.getElem_cons_zero, List.getElem_cons_succ, Act.put, List.setIfInBounds_toArray, List.set_cons_zero, List.set_cons_succ]
        refine wpAnyH_take (i := 7) (v := undef) rfl (by kernel_rfl) (by kernel_rfl) (by kernel_rfl) (fun _ _ _ h => h) (Or.inr ⟨by rfl, rfl⟩) (by assumption) ?_
        simp only [List.getElem_toArray, List.getElem_cons_zero, List.getElem_cons_succ, Act.put, List.setIfInBounds_toArray, List.set_cons_zero, List.set_cons_succ]
        refine wpAnyH_take (i := 8) (v := (.bool false)) rfl (by kernel_rfl) (by kernel_rfl) (by kernel_rfl) (fun _ _ _ h => h) (Or.inl ⟨by rfl, by intro W hSw; clear hHeld; go_split_ands; go_simp⟩) (by assumption) ?_
        simp only [List.getElem_toArray, List.getElem_cons_zero, List.getElem_cons_succ, Act.put, List.setIfInBounds_toArray, List.set_cons_zero, List.set_cons_succ]
        refine wpAnyH_take (i := 9) (v := (.bool false)) rfl (by kernel_rfl) (by kernel_rfl) (by kernel_rfl) (fun _ _ _ h => h) (Or.inl ⟨by rfl, by intro W hSw; clear hHeld; go_split_ands; go_simp⟩) (by assumption) ?_
        simp only [List.getElem_toArray, List.getElem_cons_zero, List.getElem_cons_succ, Act.put, List.setIfInBounds_toArray, List.set_cons_zero, List.set_cons_succ]
        refine wpAnyH_take (i := 10) (v := undef) rfl (by kernel_rfl) (by kernel_rfl) (by kernel_rfl) (fun _ _ _ h => h) (Or.inr ⟨by rfl, rfl⟩) (by assumption) ?_
        simp only [List.getElem_toArray, List.getElem_cons_zero, List.getElem_cons_succ, Act.put, List.setIfInBounds_toArray, List.set_cons_zero, List.set_cons_succ]
        refine wpAnyH_take (i := 11) (v := undef) rfl (by kernel_rfl) (by kernel_rfl) (by kernel_rfl) (fun _ _ _ h => h) (Or.inr ⟨by rfl, rfl⟩) (by assumption) ?_
        simp only [List.getElem_toArray, List.getElem_cons_zero, List.getElem_cons_succ, Act.put, List.setIfInBounds_toArray, List.set_cons_zero, List.set_cons_succ]
        refine wpAnyH_take (i := 12) (v := undef) rfl (by kernel_rfl) (by kernel_rfl) (by kernel_rfl) (fun _ _ _ h => h) (Or.inr ⟨by rfl, rfl⟩) (by assumption) ?_
        simp only [List.getElem_toArray, List.getElem_cons_zero, List.getElem_cons_succ, Act.put, List.setIfInBounds_toArray, List.set_cons_zero, List.set_cons_succ]
        refine wpAnyH_take (i := 13) (v := (.bool false)) rfl (by kernel_rfl) (by kernel_rfl) (by kernel_rfl) (fun _ _ _ h => h) (Or.inl ⟨by rfl, by intro W hSw; clear hHeld; go_split_ands; go_simp⟩) (by assumption) ?_
        simp only [List.getElem_toArray, List.getElem_cons_zero, List.getElem_cons_succ, Act.put, List.setIfInBounds_toArray, List.set_cons_zero, List.set_cons_succ]
        refine wpAnyH_ready (rs := [14]) (by kernel_rfl) (by simp) ?_
        refine AllReadyH.cons (i := 14) rfl (fun K hK => ?_) AllReadyH.nil
        obtain ⟨z0, z1, z2, z3, z4, z5, z6, z7, z8, z9, z10, z11, z12, k0, k1, k2, k3, k4, k5, k6, k7, k8, k9, k10, k11, k12, e0, e1, e2, e3, e4, e5, e6, e7, e8, e9, e10, e11, e12⟩ := Box13.slots X2.out
        have hst := hiD (Stp.scale X2.out b1 x1 n1 c1 y1 m1 d1 b2 x2 n2 c2 y2 m2 d2 p0 p1 p2 p3 p4 p5 p6)
        have hkp := hiD (hst.out.keep _ _ (Nat.le_succ _) hne.out K2.out)
        go_simp
        refine hK.out _ _ (KB.out _ hkp.out.drew hst.out.box.drew) (fun hHeld => ?_)
        clear hK K
        refine wpAnyH_take (i := 15) (v := (.bool false)) rfl (by kernel_rfl) (by kernel_rfl) (by kernel_rfl) (fun _ _ _ h => h) (Or.inl ⟨by rfl, by intro W hSw; clear hHeld; go_split_ands; go_simp⟩) (by assumption) ?_
        simp only [List.getElem_toArray, List.getElem_cons_zero, List.getElem_cons_succ, Act.put, List.setIfInBounds_toArray, List.set_cons_zero, List.set_cons_succ]
        refine wpAnyH_done (by kernel_rfl) ?_ _
        have hfin : Hid (ScPost qf qo p0 p1 p2 p3 p4 p5 p6 false w (.returned (.tuple #[.agg #[.bool b1, .slice x1 n1 c1, .slice y1 m1 d1, .bool b2, .slice x2 n2 c2, .slice y2 m2 d2, .int .i64 p0, .int .i64 p1, .int .i64 p2, .int .i64 p3, .int .i64 p4, .int .i64 p5, .int .i64 p6], .bool false])) _) := hiD ⟨b1, x1, n1, c1, y1, m1, d1, b2, x2, n2, c2, y2, m2, d2, rfl, hHeld.1.1.below, fun h => by cases h⟩
        go_wp2_with fail
        refine bodyPost_ret (v := .tuple #[.agg #[.bool b1, .slice x1 n1 c1, .slice y1 m1 d1, .bool b2, .slice x2 n2 c2, .slice y2 m2 d2, .int .i64 p0, .int .i64 p1, .int .i64 p2, .int .i64 p3, .int .i64 p4, .int .i64 p5, .int .i64 p6], .bool false]) (by simp [results, Tryz.results28, go_sem, k0, k1, k2, k3, k4, k5, k6, k7, k8, k9, k10, k11, k12]) rfl ?_
        exact hfin.out
      | true =>
        cases f1 with
        | false =>
          obtain rfl : res = false := by rw [hfl.out.1]; rfl
          have KB : Hid (∀ W, Keep w W [(w2.heap.size, #[.bool b2, .slice x2 n2 c2, .slice y2 m2 d2], 44), (w1.heap.size, #[.bool b1, .slice x1 n1 c1, .slice y1 m1 d1], 44), (w.heap.size, #[.string f, .string o, .int .i64 p0, .int .i64 p1, .int .i64 p2, .int .i64 p3, .int .i64 p4, .int .i64 p5, .int .i64 p6], 24)] → Box13 W (w.heap.size + 1) → ((fun w' => (Keep w w' [(w2.heap.size, #[.bool b2, .slice x2 n2 c2, .slice y2 m2 d2], 44), (w1.heap.size, #[.bool b1, .slice x1 n1 c1, .slice y1 m1 d1], 44), (w.heap.size, #[.string f, .string o, .int .i64 p0, .int .i64 p1, .int .i64 p2, .int .i64 p3, .int .i64 p4, .int .i64 p5, .int .i64 p6], 24)] ∧ Box13 w' (w.heap.size + 1)) ∧ w'.cell? ⟨w2.heap.size, 0, none⟩ = some (.bool b2) ∧ w'.cell? ⟨w2.heap.size, 1, none⟩ = some (.slice x2 n2 c2) ∧ w'.cell? ⟨w2.heap.size, 2, none⟩ = some (.slice y2 m2 d2) ∧ w'.cell? ⟨w1.heap.size, 0, none⟩ = some (.bool b1) ∧ w'.cell? ⟨w1.heap.size, 1, none⟩ = some (.slice x1 n1 c1) ∧ w'.cell? ⟨w1.heap.size, 2, none⟩ = some (.slice y1 m1 d1) ∧ w'.cell? ⟨w.heap.size, 2, none⟩ = some (.int .i64 p0) ∧ w'.cell? ⟨w.heap.size, 3, none⟩ = some (.int .i64 p1) ∧ w'.cell? ⟨w.heap.size, 4, none⟩ = some (.int .i64 p2) ∧ w'.cell? ⟨w.heap.size, 5, none⟩ = some (.int .i64 p3) ∧ w'.cell? ⟨w.heap.size, 6, none⟩ = some (.int .i64 p4) ∧ w'.cell? ⟨w.heap.size, 7, none⟩ = some (.int .i64 p5) ∧ w'.cell? ⟨w.heap.size, 8, none⟩ = some (.int .i64 p6)) W)) := hiD fun W h hb => ⟨⟨h, hb⟩, ceh (h.one _ (List.mem_cons_self ..)) 0, ceh (h.one _ (List.mem_cons_self ..)) 1, ceh (h.one _ (List.mem_cons_self ..)) 2, ceh (h.one _ (List.mem_cons_of_mem _ (List.mem_cons_self ..))) 0, ceh (h.one _ (List.mem_cons_of_mem _ (List.mem_cons_self ..))) 1, ceh (h.one _ (List.mem_cons_of_mem _ (List.mem_cons_self ..))) 2, ceh (h.one _ (List.mem_cons_of_mem _ (List.mem_cons_of_mem _ (List.mem_cons_self ..)))) 2, ceh (h.one _ (List.mem_cons_of_mem _ (List.mem_cons_of_mem _ (List.mem_cons_self ..)))) 3, ceh (h.one _ (List.mem_cons_of_mem _ (List.mem_cons_of_mem _ (List.mem_cons_self ..)))) 4, ceh (h.one _ (List.mem_cons_of_mem _ (List.mem_cons_of_mem _ (List.mem_cons_self ..)))) 5, ceh (h.one _ (List.mem_cons_of_mem _ (List.mem_cons_of_mem _ (List.mem_cons_self ..)))) 6, ceh (h.one _ (List.mem_cons_of_mem _ (List.mem_cons_of_mem _ (List.mem_cons_self ..)))) 7, ceh (h.one _ (List.mem_cons_of_mem _ (List.mem_cons_of_mem _ (List.mem_cons_self ..)))) 8⟩
          refine wp_region_held_drew (S := fun w' => (Keep w w' [(w2.heap.size, #[.bool b2, .slice x2 n2 c2, .slice y2 m2 d2], 44), (w1.heap.size, #[.bool b1, .slice x1 n1 c1, .slice y1 m1 d1], 44), (w.heap.size, #[.string f, .string o, .int .i64 p0, .int .i64 p1, .int .i64 p2, .int .i64 p3, .int .i64 p4, .int .i64 p5, .int .i64 p6], 24)] ∧ Box13 w' (w.heap.size + 1)) ∧ w'.cell? ⟨w2.heap.size, 0, none⟩ = some (.bool b2) ∧ w'.cell? ⟨w2.heap.size, 1, none⟩ = some (.slice x2 n2 c2) ∧ w'.cell? ⟨w2.heap.size, 2, none⟩ = some (.slice y2 m2 d2) ∧ w'.cell? ⟨w1.heap.size, 0, none⟩ = some (.bool b1) ∧ w'.cell? ⟨w1.heap.size, 1, none⟩ = some (.slice x1 n1 c1) ∧ w'.cell? ⟨w1.heap.size, 2, none⟩ = some (.slice y1 m1 d1) ∧ w'.cell? ⟨w.heap.size, 2, none⟩ = some (.int .i64 p0) ∧ w'.cell? ⟨w.heap.size, 3, none⟩ = some (.int .i64 p1) ∧ w'.cell? ⟨w.heap.size, 4, none⟩ = some (.int .i64 p2) ∧ w'.cell? ⟨w.heap.size, 5, none⟩ = some (.int .i64 p3) ∧ w'.cell? ⟨w.heap.size, 6, none⟩ = some (.int .i64 p4) ∧ w'.cell? ⟨w.heap.size, 7, none⟩ = some (.int .i64 p5) ∧ w'.cell? ⟨w.heap.size, 8, none⟩ = some (.int .i64 p6)) (by kernel_rfl) (KB.out _ (Keep.drew K2.out) X2.out.drew) (fun hHeld => ?_)
          refine wpAnyH_take (i := 0) (v := (.agg #[.bool b1, .slice x1 n1 c1, .slice y1 m1 d1])) rfl (by kernel_rfl) (by kernel_rfl) (by kernel_rfl) (fun _ _ _ h => h) (Or.inl ⟨by rfl, by intro W hSw; clear hHeld; go_split_ands; go_simp⟩) (by assumption) ?_
          simp only [List.getElem_toArray, List.getElem_cons_zero, Act.put, List.setIfInBounds_toArray, List.set_cons_zero, List.set_cons_succ]
          refine wpAnyH_take (i := 1) (v := (.agg #[.bool b2, .slice x2 n2 c2, .slice y2 m2 d2])) rfl (by kernel_rfl) (by kernel_rfl) (by kernel_rfl) (fun _ _ _ h => h) (Or.inl ⟨by rfl, by intro W hSw; clear hHeld; go_split_ands; go_simp⟩) (by assumption) ?_
          simp only [List.getElem_toArray, List.getElem_cons_zero, List.getElem_cons_succ, Act.put, List.setIfInBounds_toArray, List.set_cons_zero, List.set_cons_succ]
          refine wpAnyH_take (i := 2) (v := (.pointer (some ⟨w.heap.size, 2, none⟩))) rfl (by kernel_rfl) (by kernel_rfl) (by kernel_rfl) (fun _ _ _ h => h) (Or.inl ⟨by rfl, by intro W hSw; clear hHeld; go_split_ands; go_simp⟩) (by assumption) ?_
          simp only [List.getElem_toArray, List.getElem_cons_zero, List.getElem_cons_succ, Act.put, List.setIfInBounds_toArray, List.set_cons_zero, List.set_cons_succ]
          refine wpAnyH_take (i := 3) (v := (.agg #[.int .i64 p0, .int .i64 p1, .int .i64 p2, .int .i64 p3, .int .i64 p4, .int .i64 p5, .int .i64 p6])) rfl (by kernel_rfl) (by kernel_rfl) (by kernel_rfl) (fun _ _ _ h => h) (Or.inl ⟨by rfl, by intro W hSw; clear hHeld; go_split_ands; go_simp⟩) (by assumption) ?_
          simp only [List.getElem_toArray, List.getElem_cons_zero, List.getElem_cons_succ, Act.put, List.setIfInBounds_toArray, List.set_cons_zero, List.set_cons_succ]
          refine wpAnyH_take (i := 4) (v := (.agg #[.bool b1, .slice x1 n1 c1, .slice y1 m1 d1, .bool b2, .slice x2 n2 c2, .slice y2 m2 d2, .int .i64 p0, .int .i64 p1, .int .i64 p2, .int .i64 p3, .int .i64 p4, .int .i64 p5, .int .i64 p6])) rfl (by kernel_rfl) (by kernel_rfl) (by kernel_rfl) (fun _ _ _ h => h) (Or.inl ⟨by rfl, by intro W hSw; clear hHeld; go_split_ands; go_simp⟩) (by assumption) ?_
          simp only [List.getElem_toArray, List.getElem_cons_zero, List.getElem_cons_succ, Act.put, List.setIfInBounds_toArray, List.set_cons_zero, List.set_cons_succ]
          refine wpAnyH_take (i := 5) (v := (.bool true)) rfl (by kernel_rfl) (by kernel_rfl) (by kernel_rfl) (fun _ _ _ h => h) (Or.inl ⟨by rfl, by intro W hSw; clear hHeld; go_split_ands; go_simp⟩) (by assumption) ?_
          simp only [List.getElem_toArray, List.getElem_cons_zero, List.getElem_cons_succ, Act.put, List.setIfInBounds_toArray, List.set_cons_zero, List.set_cons_succ]
          refine wpAnyH_take (i := 6) (v := (.bool true)) rfl (by kernel_rfl) (by kernel_rfl) (by kernel_rfl) (fun _ _ _ h => h) (Or.inl ⟨by rfl, by intro W hSw; clear hHeld; go_split_ands; go_simp⟩) (by assumption) ?_
          simp only [List.getElem_toArray, List.getElem_cons_zero, List.getElem_cons_succ, Act.put, List.setIfInBounds_toArray, List.set_cons_zero, List.set_cons_succ]
          refine wpAnyH_take (i := 7) (v := (.bool false)) rfl (by kernel_rfl) (by kernel_rfl) (by kernel_rfl) (fun _ _ _ h => h) (Or.inl ⟨by rfl, by intro W hSw; clear hHeld; go_split_ands; go_simp⟩) (by assumption) ?_
          simp only [List.getElem_toArray, List.getElem_cons_zero, List.getElem_cons_succ, Act.put, List.setIfInBounds_toArray, List.set_cons_zero, List.set_cons_succ]
          refine wpAnyH_take (i := 8) (v := (.bool false)) rfl (by kernel_rfl) (by kernel_rfl) (by kernel_rfl) (fun _ _ _ h => h) (Or.inl ⟨by rfl, by intro W hSw; clear hHeld; go_split_ands; go_simp⟩) (by assumption) ?_
          simp only [List.getElem_toArray, List.getElem_cons_zero, List.getElem_cons_succ, Act.put, List.setIfInBounds_toArray, List.set_cons_zero, List.set_cons_succ]
          refine wpAnyH_take (i := 9) (v := (.bool false)) rfl (by kernel_rfl) (by kernel_rfl) (by kernel_rfl) (fun _ _ _ h => h) (Or.inl ⟨by rfl, by intro W hSw; clear hHeld; go_split_ands; go_simp⟩) (by assumption) ?_
          simp only [List.getElem_toArray, List.getElem_cons_zero, List.getElem_cons_succ, Act.put, List.setIfInBounds_toArray, List.set_cons_zero, List.set_cons_succ]
          refine wpAnyH_take (i := 10) (v := undef) rfl (by kernel_rfl) (by kernel_rfl) (by kernel_rfl) (fun _ _ _ h => h) (Or.inr ⟨by rfl, rfl⟩) (by assumption) ?_
          simp only [List.getElem_toArray, List.getElem_cons_zero, List.getElem_cons_succ, Act.put, List.setIfInBounds_toArray, List.set_cons_zero, List.set_cons_succ]
          refine wpAnyH_take (i := 11) (v := undef) rfl (by kernel_rfl) (by kernel_rfl) (by kernel_rfl) (fun _ _ _ h => h) (Or.inr ⟨by rfl, rfl⟩) (by assumption) ?_
          simp only [List.getElem_toArray, List.getElem_cons_zero, List.getElem_cons_succ, Act.put, List.setIfInBounds_toArray, List.set_cons_zero, List.set_cons_succ]
          refine wpAnyH_take (i := 12) (v := undef) rfl (by kernel_rfl) (by kernel_rfl) (by kernel_rfl) (fun _ _ _ h => h) (Or.inr ⟨by rfl, rfl⟩) (by assumption) ?_
          simp only [List.getElem_toArray, List.getElem_cons_zero, List.getElem_cons_succ, Act.put, List.setIfInBounds_toArray, List.set_cons_zero, List.set_cons_succ]
          refine wpAnyH_take (i := 13) (v := (.bool false)) rfl (by kernel_rfl) (by kernel_rfl) (by kernel_rfl) (fun _ _ _ h => h) (Or.inl ⟨by rfl, by intro W hSw; clear hHeld; go_split_ands; go_simp⟩) (by assumption) ?_
          simp only [List.getElem_toArray, List.getElem_cons_zero, List.getElem_cons_succ, Act.put, List.setIfInBounds_toArray, List.set_cons_zero, List.set_cons_succ]
          refine wpAnyH_ready (rs := [14]) (by kernel_rfl) (by simp) ?_
          refine AllReadyH.cons (i := 14) rfl (fun K hK => ?_) AllReadyH.nil
          obtain ⟨z0, z1, z2, z3, z4, z5, z6, z7, z8, z9, z10, z11, z12, k0, k1, k2, k3, k4, k5, k6, k7, k8, k9, k10, k11, k12, e0, e1, e2, e3, e4, e5, e6, e7, e8, e9, e10, e11, e12⟩ := Box13.slots X2.out
          have hst := hiD (Stp.scale X2.out b1 x1 n1 c1 y1 m1 d1 b2 x2 n2 c2 y2 m2 d2 p0 p1 p2 p3 p4 p5 p6)
          have hkp := hiD (hst.out.keep _ _ (Nat.le_succ _) hne.out K2.out)
          go_simp
          refine hK.out _ _ (KB.out _ hkp.out.drew hst.out.box.drew) (fun hHeld => ?_)
          clear hK K
          refine wpAnyH_take (i := 15) (v := (.bool false)) rfl (by kernel_rfl) (by kernel_rfl) (by kernel_rfl) (fun _ _ _ h => h) (Or.inl ⟨by rfl, by intro W hSw; clear hHeld; go_split_ands; go_simp⟩) (by assumption) ?_
          simp only [List.getElem_toArray, List.getElem_cons_zero, List.getElem_cons_succ, Act.put, List.setIfInBounds_toArray, List.set_cons_zero, List.set_cons_succ]
          refine wpAnyH_done (by kernel_rfl) ?_ _
          have hfin : Hid (ScPost qf qo p0 p1 p2 p3 p4 p5 p6 false w (.returned (.tuple #[.agg #[.bool b1, .slice x1 n1 c1, .slice y1 m1 d1, .bool b2, .slice x2 n2 c2, .slice y2 m2 d2, .int .i64 p0, .int .i64 p1, .int .i64 p2, .int .i64 p3, .int .i64 p4, .int .i64 p5, .int .i64 p6], .bool false])) _) := hiD ⟨b1, x1, n1, c1, y1, m1, d1, b2, x2, n2, c2, y2, m2, d2, rfl, hHeld.1.1.below, fun h => by cases h⟩
          go_wp2_with fail
          refine bodyPost_ret (v := .tuple #[.agg #[.bool b1, .slice x1 n1 c1, .slice y1 m1 d1, .bool b2, .slice x2 n2 c2, .slice y2 m2 d2, .int .i64 p0, .int .i64 p1, .int .i64 p2, .int .i64 p3, .int .i64 p4, .int .i64 p5, .int .i64 p6], .bool false]) (by simp [results, Tryz.results28, go_sem, k0, k1, k2, k3, k4, k5, k6, k7, k8, k9, k10, k11, k12]) rfl ?_
          exact hfin.out
        | true =>
          obtain rfl : res = decide (0 < z) := by rw [hfl.out.1]; simp
          have KB : Hid (∀ W, Keep w W [(w2.heap.size, #[.bool b2, .slice x2 n2 c2, .slice y2 m2 d2], 44), (w1.heap.size, #[.bool b1, .slice x1 n1 c1, .slice y1 m1 d1], 44), (w.heap.size, #[.string f, .string o, .int .i64 p0, .int .i64 p1, .int .i64 p2, .int .i64 p3, .int .i64 p4, .int .i64 p5, .int .i64 p6], 24)] → Box13 W (w.heap.size + 1) → QAt W (.agg #[.bool b1, .slice x1 n1 c1, .slice y1 m1 d1]) qf → QAt W (.agg #[.bool b2, .slice x2 n2 c2, .slice y2 m2 d2]) qo → ((fun w' => (Keep w w' [(w2.heap.size, #[.bool b2, .slice x2 n2 c2, .slice y2 m2 d2], 44), (w1.heap.size, #[.bool b1, .slice x1 n1 c1, .slice y1 m1 d1], 44), (w.heap.size, #[.string f, .string o, .int .i64 p0, .int .i64 p1, .int .i64 p2, .int .i64 p3, .int .i64 p4, .int .i64 p5, .int .i64 p6], 24)] ∧ Box13 w' (w.heap.size + 1) ∧ QAt w' (.agg #[.bool b1, .slice x1 n1 c1, .slice y1 m1 d1]) qf ∧ QAt w' (.agg #[.bool b2, .slice x2 n2 c2, .slice y2 m2 d2]) qo) ∧ w'.cell? ⟨w2.heap.size, 0, none⟩ = some (.bool b2) ∧ w'.cell? ⟨w2.heap.size, 1, none⟩ = some (.slice x2 n2 c2) ∧ w'.cell? ⟨w2.heap.size, 2, none⟩ = some (.slice y2 m2 d2) ∧ w'.cell? ⟨w1.heap.size, 0, none⟩ = some (.bool b1) ∧ w'.cell? ⟨w1.heap.size, 1, none⟩ = some (.slice x1 n1 c1) ∧ w'.cell? ⟨w1.heap.size, 2, none⟩ = some (.slice y1 m1 d1) ∧ w'.cell? ⟨w.heap.size, 2, none⟩ = some (.int .i64 p0) ∧ w'.cell? ⟨w.heap.size, 3, none⟩ = some (.int .i64 p1) ∧ w'.cell? ⟨w.heap.size, 4, none⟩ = some (.int .i64 p2) ∧ w'.cell? ⟨w.heap.size, 5, none⟩ = some (.int .i64 p3) ∧ w'.cell? ⟨w.heap.size, 6, none⟩ = some (.int .i64 p4) ∧ w'.cell? ⟨w.heap.size, 7, none⟩ = some (.int .i64 p5) ∧ w'.cell? ⟨w.heap.size, 8, none⟩ = some (.int .i64 p6)) W)) := hiD fun W h hb q1 q2 => ⟨⟨h, hb, q1, q2⟩, ceh (h.one _ (List.mem_cons_self ..)) 0, ceh (h.one _ (List.mem_cons_self ..)) 1, ceh (h.one _ (List.mem_cons_self ..)) 2, ceh (h.one _ (List.mem_cons_of_mem _ (List.mem_cons_self ..))) 0, ceh (h.one _ (List.mem_cons_of_mem _ (List.mem_cons_self ..))) 1, ceh (h.one _ (List.mem_cons_of_mem _ (List.mem_cons_self ..))) 2, ceh (h.one _ (List.mem_cons_of_mem _ (List.mem_cons_of_mem _ (List.mem_cons_self ..)))) 2, ceh (h.one _ (List.mem_cons_of_mem _ (List.mem_cons_of_mem _ (List.mem_cons_self ..)))) 3, ceh (h.one _ (List.mem_cons_of_mem _ (List.mem_cons_of_mem _ (List.mem_cons_self ..)))) 4, ceh (h.one _ (List.mem_cons_of_mem _ (List.mem_cons_of_mem _ (List.mem_cons_self ..)))) 5, ceh (h.one _ (List.mem_cons_of_mem _ (List.mem_cons_of_mem _ (List.mem_cons_self ..)))) 6, ceh (h.one _ (List.mem_cons_of_mem _ (List.mem_cons_of_mem _ (List.mem_cons_self ..)))) 7, ceh (h.one _ (List.mem_cons_of_mem _ (List.mem_cons_of_mem _ (List.mem_cons_self ..)))) 8⟩
          refine wp_region_held_drew (S := fun w' => (Keep w w' [(w2.heap.size, #[.bool b2, .slice x2 n2 c2, .slice y2 m2 d2], 44), (w1.heap.size, #[.bool b1, .slice x1 n1 c1, .slice y1 m1 d1], 44), (w.heap.size, #[.string f, .string o, .int .i64 p0, .int .i64 p1, .int .i64 p2, .int .i64 p3, .int .i64 p4, .int .i64 p5, .int .i64 p6], 24)] ∧ Box13 w' (w.heap.size + 1) ∧ QAt w' (.agg #[.bool b1, .slice x1 n1 c1, .slice y1 m1 d1]) qf ∧ QAt w' (.agg #[.bool b2, .slice x2 n2 c2, .slice y2 m2 d2]) qo) ∧ w'.cell? ⟨w2.heap.size, 0, none⟩ = some (.bool b2) ∧ w'.cell? ⟨w2.heap.size, 1, none⟩ = some (.slice x2 n2 c2) ∧ w'.cell? ⟨w2.heap.size, 2, none⟩ = some (.slice y2 m2 d2) ∧ w'.cell? ⟨w1.heap.size, 0, none⟩ = some (.bool b1) ∧ w'.cell? ⟨w1.heap.size, 1, none⟩ = some (.slice x1 n1 c1) ∧ w'.cell? ⟨w1.heap.size, 2, none⟩ = some (.slice y1 m1 d1) ∧ w'.cell? ⟨w.heap.size, 2, none⟩ = some (.int .i64 p0) ∧ w'.cell? ⟨w.heap.size, 3, none⟩ = some (.int .i64 p1) ∧ w'.cell? ⟨w.heap.size, 4, none⟩ = some (.int .i64 p2) ∧ w'.cell? ⟨w.heap.size, 5, none⟩ = some (.int .i64 p3) ∧ w'.cell? ⟨w.heap.size, 6, none⟩ = some (.int .i64 p4) ∧ w'.cell? ⟨w.heap.size, 7, none⟩ = some (.int .i64 p5) ∧ w'.cell? ⟨w.heap.size, 8, none⟩ = some (.int .i64 p6)) (by kernel_rfl) (KB.out _ (Keep.drew K2.out) X2.out.drew (Q2.out (hfl.out.2 rfl)).dr (R2.out rfl).dr) (fun hHeld => ?_)
          refine wpAnyH_take (i := 0) (v := (.agg #[.bool b1, .slice x1 n1 c1, .slice y1 m1 d1])) rfl (by kernel_rfl) (by kernel_rfl) (by kernel_rfl) (fun _ _ _ h => h) (Or.inl ⟨by rfl, by intro W hSw; clear hHeld; go_split_ands; go_simp⟩) (by assumption) ?_
          simp only [List.getElem_toArray, List.getElem_cons_zero, Act.put, List.setIfInBounds_toArray, List.set_cons_zero, List.set_cons_succ]
          refine wpAnyH_take (i := 1) (v := (.agg #[.bool b2, .slice x2 n2 c2, .slice y2 m2 d2])) rfl (by kernel_rfl) (by kernel_rfl) (by kernel_rfl) (fun _ _ _ h => h) (Or.inl ⟨by rfl, by intro W hSw; clear hHeld; go_split_ands; go_simp⟩) (by assumption) ?_
          simp only [List.getElem_toArray, List.getElem_cons_zero, List.getElem_cons_succ, Act.put, List.setIfInBounds_toArray, List.set_cons_zero, List.set_cons_succ]
          refine wpAnyH_take (i := 2) (v := (.pointer (some ⟨w.heap.size, 2, none⟩))) rfl (by kernel_rfl) (by kernel_rfl) (by kernel_rfl) (fun _ _ _ h => h) (Or.inl ⟨by rfl, by intro W hSw; clear hHeld; go_split_ands; go_simp⟩) (by assumption) ?_
          simp only [List.getElem_toArray, List.getElem_cons_zero, List.getElem_cons_succ, Act.put, List.setIfInBounds_toArray, List.set_cons_zero, List.set_cons_succ]
          refine wpAnyH_take (i := 3) (v := (.agg #[.int .i64 p0, .int .i64 p1, .int .i64 p2, .int .i64 p3, .int .i64 p4, .int .i64 p5, .int .i64 p6])) rfl (by kernel_rfl) (by kernel_rfl) (by kernel_rfl) (fun _ _ _ h => h) (Or.inl ⟨by rfl, by intro W hSw; clear hHeld; go_split_ands; go_simp⟩) (by assumption) ?_
          simp only [List.getElem_toArray, List.getElem_cons_zero, List.getElem_cons_succ, Act.put, List.setIfInBounds_toArray, List.set_cons_zero, List.set_cons_succ]
          refine wpAnyH_take (i := 4) (v := (.agg #[.bool b1, .slice x1 n1 c1, .slice y1 m1 d1, .bool b2, .slice x2 n2 c2, .slice y2 m2 d2, .int .i64 p0, .int .i64 p1, .int .i64 p2, .int .i64 p3, .int .i64 p4, .int .i64 p5, .int .i64 p6])) rfl (by kernel_rfl) (by kernel_rfl) (by kernel_rfl) (fun _ _ _ h => h) (Or.inl ⟨by rfl, by intro W hSw; clear hHeld; go_split_ands; go_simp⟩) (by assumption) ?_
          simp only [List.getElem_toArray, List.getElem_cons_zero, List.getElem_cons_succ, Act.put, List.setIfInBounds_toArray, List.set_cons_zero, List.set_cons_succ]
          refine wpAnyH_take (i := 5) (v := (.bool true)) rfl (by kernel_rfl) (by kernel_rfl) (by kernel_rfl) (fun _ _ _ h => h) (Or.inl ⟨by rfl, by intro W hSw; clear hHeld; go_split_ands; go_simp⟩) (by assumption) ?_
          simp only [List.getElem_toArray, List.getElem_cons_zero, List.getElem_cons_succ, Act.put, List.setIfInBounds_toArray, List.set_cons_zero, List.set_cons_succ]
          refine wpAnyH_take (i := 6) (v := (.bool true)) rfl (by kernel_rfl) (by kernel_rfl) (by kernel_rfl) (fun _ _ _ h => h) (Or.inl ⟨by rfl, by intro W hSw; clear hHeld; go_split_ands; go_simp⟩) (by assumption) ?_
          simp only [List.getElem_toArray, List.getElem_cons_zero, List.getElem_cons_succ, Act.put, List.setIfInBounds_toArray, List.set_cons_zero, List.set_cons_succ]
          refine wpAnyH_take (i := 7) (v := (.bool true)) rfl (by kernel_rfl) (by kernel_rfl) (by kernel_rfl) (fun _ _ _ h => h) (Or.inl ⟨by rfl, by intro W hSw; clear hHeld; go_split_ands; go_simp⟩) (by assumption) ?_
          simp only [List.getElem_toArray, List.getElem_cons_zero, List.getElem_cons_succ, Act.put, List.setIfInBounds_toArray, List.set_cons_zero, List.set_cons_succ]
          refine wpAnyH_take (i := 8) (v := (.bool true)) rfl (by kernel_rfl) (by kernel_rfl) (by kernel_rfl) (fun _ _ _ h => h) (Or.inl ⟨by rfl, by intro W hSw; clear hHeld; go_split_ands; go_simp⟩) (by assumption) ?_
          simp only [List.getElem_toArray, List.getElem_cons_zero, List.getElem_cons_succ, Act.put, List.setIfInBounds_toArray, List.set_cons_zero, List.set_cons_succ]
          refine wpAnyH_take (i := 9) (v := (.bool true)) rfl (by kernel_rfl) (by kernel_rfl) (by kernel_rfl) (fun _ _ _ h => h) (Or.inl ⟨by rfl, by intro W hSw; clear hHeld; go_split_ands; go_simp⟩) (by assumption) ?_
          simp only [List.getElem_toArray, List.getElem_cons_zero, List.getElem_cons_succ, Act.put, List.setIfInBounds_toArray, List.set_cons_zero, List.set_cons_succ]
          refine wpAnyH_take (i := 10) (v := (.agg #[.bool b1, .slice x1 n1 c1, .slice y1 m1 d1])) rfl (by kernel_rfl) (by kernel_rfl) (by kernel_rfl) (fun _ _ _ h => h) (Or.inl ⟨by rfl, by intro W hSw; clear hHeld; go_split_ands; go_simp⟩) (by assumption) ?_
          simp only [List.getElem_toArray, List.getElem_cons_zero, List.getElem_cons_succ, Act.put, List.setIfInBounds_toArray, List.set_cons_zero, List.set_cons_succ]
          refine wpAnyH_ready (rs := [11]) (by kernel_rfl) (by simp) ?_
          refine AllReadyH.cons (i := 11) rfl (fun K hK => ?_) AllReadyH.nil
          go_simp
          refine (h42.out _ _ hHeld.1.2.2.1).mono ?_
          rintro e w4 ⟨rfl, hb4⟩
          go_simp
          refine hK.out _ _ (KB.out _ (hHeld.1.1.next hb4) (hHeld.1.2.1.below hb4) (hHeld.1.2.2.1.below hb4) (hHeld.1.2.2.2.below hb4)) (fun hHeld => ?_)
          clear hK K
          refine wpAnyH_take (i := 12) (v := (.bool (decide (0 < z)))) rfl (by kernel_rfl) (by kernel_rfl) (by kernel_rfl) (fun _ _ _ h => h) (Or.inl ⟨by rfl, by intro W hSw; clear hHeld; go_split_ands; go_simp⟩) (by assumption) ?_
          simp only [List.getElem_toArray, List.getElem_cons_zero, List.getElem_cons_succ, Act.put, List.setIfInBounds_toArray, List.set_cons_zero, List.set_cons_succ]
          refine wpAnyH_take (i := 13) (v := (.bool (decide (0 < z)))) rfl (by kernel_rfl) (by kernel_rfl) (by kernel_rfl) (fun _ _ _ h => h) (Or.inl ⟨by rfl, by intro W hSw; clear hHeld; go_split_ands; go_simp⟩) (by assumption) ?_
          simp only [List.getElem_toArray, List.getElem_cons_zero, List.getElem_cons_succ, Act.put, List.setIfInBounds_toArray, List.set_cons_zero, List.set_cons_succ]
          refine wpAnyH_ready (rs := [14]) (by kernel_rfl) (by simp) ?_
          refine AllReadyH.cons (i := 14) rfl (fun K hK => ?_) AllReadyH.nil
          obtain ⟨z0, z1, z2, z3, z4, z5, z6, z7, z8, z9, z10, z11, z12, k0, k1, k2, k3, k4, k5, k6, k7, k8, k9, k10, k11, k12, e0, e1, e2, e3, e4, e5, e6, e7, e8, e9, e10, e11, e12⟩ := Box13.slots hHeld.1.2.1
          have hst := hiD (Stp.scale hHeld.1.2.1 b1 x1 n1 c1 y1 m1 d1 b2 x2 n2 c2 y2 m2 d2 p0 p1 p2 p3 p4 p5 p6)
          have hkp := hiD (hst.out.keep _ _ (Nat.le_succ _) hne.out hHeld.1.1)
          go_simp
          refine hK.out _ _ (KB.out _ hkp.out hst.out.box (hst.out.nums _ _ hHeld.1.2.2.1) (hst.out.nums _ _ hHeld.1.2.2.2)) (fun hHeld => ?_)
          clear hK K
          refine wpAnyH_take (i := 15) (v := (.bool (decide (0 < z)))) rfl (by kernel_rfl) (by kernel_rfl) (by kernel_rfl) (fun _ _ _ h => h) (Or.inl ⟨by rfl, by intro W hSw; clear hHeld; go_split_ands; go_simp⟩) (by assumption) ?_
          simp only [List.getElem_toArray, List.getElem_cons_zero, List.getElem_cons_succ, Act.put, List.setIfInBounds_toArray, List.set_cons_zero, List.set_cons_succ]
          refine wpAnyH_done (by kernel_rfl) ?_ _
          have hfin : Hid (ScPost qf qo p0 p1 p2 p3 p4 p5 p6 (decide (0 < z)) w (.returned (.tuple #[.agg #[.bool b1, .slice x1 n1 c1, .slice y1 m1 d1, .bool b2, .slice x2 n2 c2, .slice y2 m2 d2, .int .i64 p0, .int .i64 p1, .int .i64 p2, .int .i64 p3, .int .i64 p4, .int .i64 p5, .int .i64 p6], .bool (decide (0 < z))])) _) := hiD ⟨b1, x1, n1, c1, y1, m1, d1, b2, x2, n2, c2, y2, m2, d2, rfl, hHeld.1.1.below, fun _ => ⟨hHeld.1.2.2.1, hHeld.1.2.2.2⟩⟩
          go_wp2_with fail
          refine bodyPost_ret (v := .tuple #[.agg #[.bool b1, .slice x1 n1 c1, .slice y1 m1 d1, .bool b2, .slice x2 n2 c2, .slice y2 m2 d2, .int .i64 p0, .int .i64 p1, .int .i64 p2, .int .i64 p3, .int .i64 p4, .int .i64 p5, .int .i64 p6], .bool (decide (0 < z))]) (by simp [results, Tryz.results28, go_sem, k0, k1, k2, k3, k4, k5, k6, k7, k8, k9, k10, k11, k12]) rfl ?_
          exact hfin.out
end Go.Proofs.YtfjnipkpfbkegaaGreatDoor
