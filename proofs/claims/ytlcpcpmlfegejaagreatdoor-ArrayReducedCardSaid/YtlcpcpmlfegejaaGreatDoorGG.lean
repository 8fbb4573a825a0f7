/- A range over a function whose iterator writes into memory of its own between the rounds. -/
import Derived.RangeFuncFrom
import Derived.RangeFuncCalls
import Derived.Test.YtlcpcpmlfegejaaGreatDoorGE
namespace Go.Proofs.YtlcpcpmlfegejaaGreatDoor.Arr
open Go.RowKit
variable {F : Fence} {n : Nat} {P : Program}
def SeqC {α : Type} (F : Fence) (n : Nat) (P : Program) (g : Nat) (lb : Array Value) (encs : α → Array Value) (At : α → World → Prop) (Pr : List α → α → Prop) (S : List α → Prop) (w : World) : Prop :=
  ∀ (l : Nat) (J : List α → World → Prop) (W : World), Below w.heap.size w W → w.heap.size + 2 ≤ W.heap.size →
    (∀ s A B row, J s A → A.grownBy B row → (∀ r, row = some r → r = W.heap.size) → J s B) →
    (∀ pre x W1, J pre W1 → At x W1 → Pr pre x → YieldAt F (n - 1) P l (encs x) W1 fun e W' => e = .returned (.bool true) ∧ J (pre ++ [x]) W' ∧ At x W') →
    J [] W →
    CallsIn F n P g (#[.func (.yield l) #[] #[]] ++ lb) W fun e W' => (∃ v, e = .returned v) ∧ ∃ xs, S xs ∧ J xs W'
def postC {α : Type} (At : α → World → Prop) (I : List α → World → Prop) (x : α) (xs : List α) (W : World) : Exit → Act → World → Prop
  | .normal, _, W' => KeepsOthers W W' ∧ At x W' ∧ I xs W'
  | _, _, _ => False
theorem wpIn_rangeFunc_cells {α : Type} {g : Operand} {ps : Array Tmp} {assign body : Code} {Q : Exit → Act → World → Prop} {a : Act} {w : World}
    (hro : F.round = none) (h1 : 1 ≤ n) {gf : Nat} {lb : Array Value} (hg : a.eval g = .func (.func gf) #[] lb) (hFg : F.fn gf) (eg : ∀ args w, (callFunc gf args).run P w = .ok (.enter gf args) w)
    {encs : α → Array Value} {At : α → World → Prop} {Pr : List α → α → Prop} {S : List α → Prop} {w0 : World} (hseq : SeqC F (n - 1) P gf lb encs At Pr S w0)
    (hAt : ∀ x (A : World) (l : Nat) (o o' : Obj), A.heap[l]? = some o → o.isCells = false → At x A → At x (A.putObj l o')) (hb0 : Below w0.heap.size w0 w) (hps : ∀ x, (encs x).size = ps.size)
    (I : List α → World → Prop) (hI : ∀ s A B row, I s A → A.grownBy B row → (∀ r, row = some r → w.heap.size ≤ r ∧ r ≤ w.heap.size + 2) → I s B) (h0 : I [] w) (a₁ : α → Act)
    (hassign : ∀ (l : Nat) (x : α) (W : World) (K : Act → World → Prop), K (a₁ x) W →
      assign.wpIn (F.inRound l) (n - 1 - 1) P (Exit.then K (fun _ _ _ => False)) { tmps := (ps.zip (encs x)).foldl (fun t (p, v) => t.setIfInBounds p v) a.tmps, defers := [] } W)
    (hbody : ∀ (l : Nat) (pre : List α) (x : α) (W : World), I pre W → At x W → Pr pre x → body.wpIn (F.inRound l) (n - 1 - 1) P (postC At I x (pre ++ [x]) W) (a₁ x) W)
    (hdone : ∀ (D : Nat) (xs : List α) (W : World), w.heap.size ≤ D → S xs → I xs W → W.heap[D]? = some (.deferred (some [])) → Q .normal { a with defers := { target := .collected D, args := #[] } :: a.defers } W) :
    (Code.rangeFunc g ps assign body).wpIn F n P Q a w := by
  refine wpIn_rangeFunc ?_
  intro fn hfn
  rw [hro]
  obtain ⟨rec, hrec⟩ : ∃ rec : LoopState → Option Code → Loop, rec = fun st pe => { state := st, pending := pe, fn, tmps := a.tmps, params := ps, assign, body, defers := w.heap.size } := ⟨_, rfl⟩
  obtain ⟨W1, hW1⟩ : ∃ W1, (w.alloc (.deferred (some []))).alloc (.loop (rec .ready none)) = W1 := ⟨_, rfl⟩
  have hL1 : W1.heap[w.heap.size + 1]? = some (.loop (rec .ready none)) := by
    rw [← hW1]; have := World.alloc_heap_new (w.alloc (.deferred (some []))) (.loop (rec .ready none)); rwa [World.size_alloc] at this
  have hK1 : W1.heap[w.heap.size]? = some (.deferred (some [])) := by
    rw [← hW1]; exact (Below.heap_alloc _ _ _ (by simp)).trans (World.alloc_heap_new w _)
  have hS1 : W1.heap.size = w.heap.size + 2 := by rw [← hW1]; simp
  have hIput : ∀ {s : List α} {W : World} {l : Nat} {o : Obj} (o' : Obj), I s W → w.heap.size ≤ l ∧ l ≤ w.heap.size + 2 → I s (W.putObj l o') := fun {s W l _} o' h hl => hI s W _ (some l) h (grownBy_putObj' W l o') (fun r e => by cases e; exact hl)
  have hI1 : I [] W1 := by
    rw [← hW1]
    exact hI _ _ _ none (hI _ _ _ none h0 (World.grownBy_alloc _ _ none) (fun r e => by cases e)) (World.grownBy_alloc _ _ none) (fun r e => by cases e)
  have hb1 : Below w0.heap.size w0 W1 := by
    rw [← hW1]; exact hb0.trans ((((Below.refl _ w).alloc (Nat.le_refl _) _).alloc (by simp) _).mono hb0.size)
  refine ⟨w.heap.size + 1, [{ target := .collected w.heap.size, args := #[] }], W1, { target := .fn (.func gf) lb, args := #[.func (.yield (w.heap.size + 1)) #[] #[]] }, W1, gf,
    #[.func (.yield (w.heap.size + 1)) #[] #[]] ++ lb, W1, ?_, ?_, ?_, ?_, fun _ => h1, ?_⟩
  · rw [← hW1, hrec]; exact run_enterLoop_outer _ _ _ _ _
  · simp only [resolve, hg]
    simp [go_sem]
  · intro f' hf'; simp [Target.leads] at hf'; subst hf'; exact hFg
  · simp [invoke, go_sem, eg]
  · refine (hseq (w.heap.size + 1)
      (fun pre W => I pre W ∧ W.heap[w.heap.size + 1]? = some (.loop (rec .ready none)) ∧ W.heap[w.heap.size]? = some (.deferred (some [])))
      W1 hb1 (by have := hb0.size; omega)
      (fun s A B row hs hg' hr => by
        have hk : ∀ {k : Nat} {o : Obj}, k < w.heap.size + 2 → A.heap[k]? = some o → B.heap[k]? = some o := fun {k o} hk hA =>
          (hg'.block k (Array.getElem?_eq_some_iff.1 hA).1 (fun e => by have := hr k e.symm; omega)).trans hA
        exact ⟨hI s A B row hs.1 hg' (fun r e => by have := hr r e; omega), hk (by omega) hs.2.1, hk (by omega) hs.2.2⟩)
      ?_ ⟨hI1, hL1, hK1⟩).mono ?_
    · rintro pre x W ⟨hi, hl, hk⟩ hat hpr
      have hlt : w.heap.size + 1 < W.heap.size := (Array.getElem?_eq_some_iff.1 hl).1
      have hy := run_yield (P := P) (args := encs x) hl (by rw [hrec]; exact hps x)
      rw [hrec] at hy
      refine ⟨fn, _, assign, body, hy, roundIn_of_wpIn hfn (hassign _ x W _ ⟨_, run_beginRound hl (by rw [hrec]), ?_⟩)⟩
      have hl2 : (W.putObj (w.heap.size + 1) (.loop { rec .ready none with state := .busy })).heap[w.heap.size + 1]? = some (.loop { rec .ready none with state := .busy }) := World.putObj_heap_same hlt
      have hk2 : (W.putObj (w.heap.size + 1) (.loop { rec .ready none with state := .busy })).heap[w.heap.size]? = some (.deferred (some [])) := (World.putObj_heap_other (by omega)).trans hk
      refine wpIn_mono (hbody _ pre x _ (hIput (o := .loop (rec .ready none)) _ hi (by omega)) (hAt x W _ _ _ hl rfl hat) hpr) ?_
      rintro e a3 W3 hp
      cases e with
      | normal =>
        obtain ⟨hk3, hat3, hi3⟩ := hp
        have hl3 := hk3.same _ _ hl2 rfl
        have hr := run_endRound (P := P) none hl3
        rw [hrec] at hr hl3
        refine ⟨_, _, hr, rfl, ⟨hIput (o := .loop (rec .ready none)) _ hi3 (by omega), ?_, ?_⟩, hAt x W3 _ _ _ hl3 rfl hat3⟩
        · rw [hrec]; exact World.putObj_heap_same (Array.getElem?_eq_some_iff.1 hl3).1
        · exact (World.putObj_heap_other (by omega)).trans (hk3.same _ _ hk2 rfl)
      | ret => exact hp.elim
      | exit id => exact hp.elim
      | goto t => exact hp.elim
      | panic ch => exact hp.elim
      | outgrown => exact hp.elim
    · rintro e W2 ⟨⟨v, rfl⟩, xs, hS, hi, hl, hk⟩
      exact ⟨none, _, by have := run_endLoop (P := P) hl (by rw [hrec]; simp); rw [hrec] at this; exact this, hdone _ xs _ (Nat.le_refl _) hS (hIput (o := .loop (rec .ready none)) _ hi (by omega)) ((World.putObj_heap_other (by omega)).trans hk)⟩
end Go.Proofs.YtlcpcpmlfegejaaGreatDoor.Arr
namespace Go.Proofs.YtlcpcpmlfegejaaGreatDoor.Arr
open Go.RowKit
open Go.Lib
theorem plc_add : ∀ (s l : List Nat) (a : Nat), l.length = s.length → plc s l a = a * prod s + plc s l 0
  | [], l, a, h => by
    obtain rfl : l = [] := List.eq_nil_of_length_eq_zero h
    simp [plc, prod]
  | s :: ss, [], a, h => absurd h (by simp)
  | s :: ss, i :: is, a, h => by
    have hl : is.length = ss.length := by simpa using h
    rw [plc, plc, plc_add ss is (a * s + i) hl, plc_add ss is (0 * s + i) hl, prod_cons, Nat.zero_mul, Nat.zero_add, Nat.add_mul, Nat.mul_assoc, Nat.add_assoc]
def ixOf : List Nat → Nat → List Nat
  | [], _ => []
  | _ :: ss, i => (i / prod ss) :: ixOf ss (i % prod ss)
theorem IsIx.tail {s i : Nat} {ss is : List Nat} (h : IsIx (s :: ss) (i :: is)) : i < s ∧ IsIx ss is :=
  ⟨h.2 0 (by simp), by have := h.1; simpa using this, fun k hk => by have := h.2 (k + 1) (by simp; omega); simpa using this⟩
theorem IsIx.cons {s i : Nat} {ss is : List Nat} (h1 : i < s) (h2 : IsIx ss is) : IsIx (s :: ss) (i :: is) :=
  ⟨by simp [h2.1], fun k hk => by
    cases k with
    | zero => simpa using h1
    | succ k => have := h2.2 k (by simpa using hk); simpa using this⟩
theorem ixOf_plc : ∀ (s l : List Nat), IsIx s l → ixOf s (plc s l 0) = l
  | [], l, h => by
    obtain rfl : l = [] := List.eq_nil_of_length_eq_zero h.1
    rfl
  | s :: ss, [], h => absurd h.1 (by simp)
  | s :: ss, i :: is, h => by
    obtain ⟨h1, h2⟩ := h.tail
    have hlt := (plc_lt ss is 0 h2).1
    rw [Nat.zero_add, Nat.one_mul] at hlt
    have e : plc (s :: ss) (i :: is) 0 = i * prod ss + plc ss is 0 := by
      rw [plc, plc_add ss is (0 * s + i) h2.1, Nat.zero_mul, Nat.zero_add]
    rw [e, ixOf, Nat.mul_comm i, Nat.mul_add_div (by omega), Nat.div_eq_of_lt hlt, Nat.add_zero, Nat.mul_add_mod, Nat.mod_eq_of_lt hlt, ixOf_plc ss is h2]
theorem ixOf_is : ∀ (s : List Nat) (i : Nat), i < prod s → IsIx s (ixOf s i) ∧ plc s (ixOf s i) 0 = i
  | [], i, h => by
    have : i = 0 := by simp [prod] at h; exact h
    subst this
    exact ⟨⟨rfl, fun k hk => absurd hk (by simp)⟩, rfl⟩
  | s :: ss, i, h => by
    rw [prod_cons] at h
    have hp : 0 < prod ss := by
      rcases Nat.eq_zero_or_pos (prod ss) with h0 | h0
      · rw [h0, Nat.mul_zero] at h; omega
      · exact h0
    obtain ⟨h1, h2⟩ := ixOf_is ss (i % prod ss) (Nat.mod_lt _ hp)
    refine ⟨IsIx.cons ?_ h1, ?_⟩
    · exact Nat.div_lt_of_lt_mul (by rw [Nat.mul_comm]; exact h)
    · rw [ixOf, plc, plc_add ss _ _ h1.1, h2, Nat.zero_mul, Nat.zero_add, Nat.mul_comm]
      exact Nat.div_add_mod _ _
def zeros (l : List Nat) : List Nat := l.map (fun _ => 0)
def incr : List Nat → List Nat → Option (List Nat)
  | s :: ss, i :: is => match incr ss is with
    | some r => some (i :: r)
    | none => if i + 1 < s then some ((i + 1) :: zeros ss) else none
  | _, _ => none
theorem zeros_is : ∀ (s l : List Nat), IsIx s l → IsIx s (zeros s) ∧ plc s (zeros s) 0 = 0
  | [], l, _ => ⟨⟨rfl, fun k hk => absurd hk (by simp)⟩, rfl⟩
  | s :: ss, [], h => absurd h.1 (by simp)
  | s :: ss, i :: is, h => by
    obtain ⟨h1, h2⟩ := h.tail
    obtain ⟨h3, h4⟩ := zeros_is ss is h2
    exact ⟨IsIx.cons (show 0 < s by omega) h3, by show plc ss (zeros ss) (0 * s + 0) = 0; rw [Nat.zero_mul]; exact h4⟩
theorem incr_is : ∀ (s l : List Nat), IsIx s l → (∀ r, incr s l = some r → IsIx s r ∧ plc s r 0 = plc s l 0 + 1) ∧ (incr s l = none → plc s l 0 + 1 = prod s)
  | [], l, h => by
    obtain rfl : l = [] := List.eq_nil_of_length_eq_zero h.1
    exact ⟨fun r hr => by simp [incr] at hr, fun _ => rfl⟩
  | s :: ss, [], h => absurd h.1 (by simp)
  | s :: ss, i :: is, h => by
    obtain ⟨h1, h2⟩ := h.tail
    obtain ⟨h3, h4⟩ := incr_is ss is h2
    obtain ⟨h5, h6⟩ := zeros_is ss is h2
    have e : ∀ j js, js.length = ss.length → plc (s :: ss) (j :: js) 0 = j * prod ss + plc ss js 0 := fun j js hl => by
      rw [plc, plc_add ss js (0 * s + j) hl, Nat.zero_mul, Nat.zero_add]
    cases hr : incr ss is with
    | some r =>
      obtain ⟨h7, h8⟩ := h3 r hr
      refine ⟨fun r' hr' => ?_, fun hn => by simp [incr, hr] at hn⟩
      obtain rfl : i :: r = r' := by simpa [incr, hr] using hr'
      exact ⟨IsIx.cons h1 h7, by rw [e _ _ h7.1, e _ _ h2.1, h8]; omega⟩
    | none =>
      have h9 := h4 hr
      by_cases hi : i + 1 < s
      · refine ⟨fun r' hr' => ?_, fun hn => by simp [incr, hr, hi] at hn⟩
        obtain rfl : (i + 1) :: zeros ss = r' := by simpa [incr, hr, hi] using hr'
        exact ⟨IsIx.cons hi h5, by rw [e _ _ h5.1, e _ _ h2.1, h6, Nat.add_mul]; omega⟩
      · refine ⟨fun r' hr' => by simp [incr, hr, hi] at hr', fun _ => ?_⟩
        obtain rfl : i + 1 = s := by omega
        rw [e _ _ h2.1, prod_cons, Nat.add_mul]; omega
theorem incr_drop : ∀ (k : Nat) (s l r : List Nat), l.length = s.length → incr (s.drop k) (l.drop k) = some r → incr s l = some (l.take k ++ r)
  | 0, _, _, _, _, h => h
  | k + 1, [], l, r, _, h => by simp [incr] at h
  | k + 1, s :: ss, [], r, hl, _ => absurd hl (by simp)
  | k + 1, s :: ss, i :: is, r, hl, h => by
    have := incr_drop k ss is r (by simpa using hl) (by simpa using h)
    simp [incr, this]
theorem incr_at {s l : List Nat} {k : Nat} (hk : k < s.length) (hl : l.length = s.length) (h : incr (s.drop (k + 1)) (l.drop (k + 1)) = none) :
    incr (s.drop k) (l.drop k) = if l.getD k 0 + 1 < s.getD k 0 then some ((l.getD k 0 + 1) :: zeros (s.drop (k + 1))) else none := by
  have hk2 : k < l.length := by omega
  rw [List.drop_eq_getElem_cons hk, List.drop_eq_getElem_cons hk2, incr, h]
  simp [List.getD_eq_getElem?_getD, hk, hk2]
def ixC (l : List Nat) : Array Value := (l.map (fun x => Value.int .i64 ((x : Nat) : Int))).toArray
theorem set_mid {α : Type} : ∀ (A : List α) (x v : α) (B : List α), (A ++ x :: B).set A.length v = A ++ v :: B
  | [], _, _, _ => rfl
  | a :: A, x, v, B => by simp [set_mid A x v B]
theorem ixC_set (A : List Nat) (x v : Nat) (B : List Nat) {k : Nat} (hk : A.length = k) : (ixC (A ++ x :: B)).setIfInBounds k (.int .i64 ((v : Nat) : Int)) = ixC (A ++ v :: B) := by
  subst hk
  unfold ixC
  rw [List.setIfInBounds_toArray, List.map_append, List.map_cons, List.map_append, List.map_cons]
  have := set_mid (A.map (fun x => Value.int .i64 ((x : Nat) : Int))) (.int .i64 ((x : Nat) : Int)) (.int .i64 ((v : Nat) : Int)) (B.map (fun x => Value.int .i64 ((x : Nat) : Int)))
  rw [List.length_map] at this
  rw [this]
theorem ixC_at {l : List Nat} {k : Nat} (hk : k < l.length) : (ixC l)[k]? = some (.int .i64 ((l.getD k 0 : Nat) : Int)) := by
  simp [ixC, List.getD_eq_getElem?_getD, hk]
theorem heap_set (W : World) (g k : Nat) (v : Value) (cs : Array Value) (t : TypeId) (h : W.heap[g]? = some (.cells cs t (0, 0))) : (W.setCell ⟨g, k, none⟩ v).heap[g]? = some (.cells (cs.setIfInBounds k v) t (0, 0)) := by
  obtain ⟨h1, h2⟩ := Array.getElem?_eq_some_iff.1 h
  unfold World.setCell
  rw [Array.getElem?_eq_getElem (by simpa using h1), Array.getElem_modify]
  simp [h2]
end Go.Proofs.YtlcpcpmlfegejaaGreatDoor.Arr
