/- A drawn region inside a loop's round, from the walk that holds a condition on the world; the small functions that Delta and Undelta call. -/
import Derived.Test.YtpnofkefcoaojaaGreatDoorKC
import Derived.Test.YtpnofkefcoaojaaGreatDoorWDS
import Derived.Deep.RegionHeld3
set_option maxRecDepth 100000
namespace Go.Proofs.YtpnofkefcoaojaaGreatDoor
open Go.RowKit Go.Shelf
open Go.Lib
attribute [local go_sem] Oper.semAt_some
def noDefer (o : Oper) : Bool := match o.op with | .defer _ => false | _ => true
theorem noDefer_ne {o : Oper} (h : noDefer o = true) : ∀ c, o.op ≠ .defer c := by
  intro c e; unfold noDefer at h; rw [e] at h; cases h
theorem oper_round {P : Program} {l n : Nat} {o : Oper} (hd : noDefer o = true) {a : Act} {w : World} {K : Act → World → Prop} {Q : Exit → Act → World → Prop}
    (h : o.wp P a w K Q) : o.wpIn (Fence.wide.inRound l) n P a w K Q := by
  unfold Oper.wpIn
  refine ⟨fun _ _ => trivial, ?_⟩
  rw [Oper.semAt_plain _ _ _ (noDefer_ne hd)]
  unfold Oper.wp at h
  generalize (execOp a.eval o).run P w = r at *
  cases r with
  | ok x w' =>
    cases x
    case enter f args => exact ⟨fun h0 => Bool.noConfusion h0, CallsIn.inRound l (callsIn_wide.2 h)⟩
    case row r args =>
      refine ⟨fun h0 => Bool.noConfusion h0, fun c cs _ => ?_⟩
      obtain ⟨v, w'', h1, h2⟩ := h c cs
      exact ⟨v, w'', h1, stepsIn_wide.2 h2⟩
    all_goals first | exact h | exact h.elim
  | halt x w' => cases x <;> first | exact h | exact h.elim
theorem op_round {P : Program} {l n : Nat} {ops : Array Oper} (hd : ∀ o ∈ ops, noDefer o = true) {i : Nat} {K : Act → World → Prop} {Q : Exit → Act → World → Prop} (hQ : ¬ LetsOut Q) {a : Act} {w : World}
    (h : wpOp P ops Q i K a w) : wpOpIn (Fence.wide.inRound l) n P ops Q i K a w := by
  unfold wpOp at h
  unfold wpOpIn
  cases ho : ops[i]? with
  | none => simp only [ho] at h ⊢; exact h
  | some o =>
    simp only [ho] at h ⊢
    split
    · rename_i hw; simp only [hw, if_true] at h; exact h.elim (oper_round (hd o (Array.mem_of_getElem? ho))) (fun h1 => absurd h1.2 hQ)
    · rename_i hw; simp only [hw] at h; exact ⟨fun _ _ => trivial, h⟩
theorem any_round {P : Program} {l n : Nat} {md : Region.Mode} {ops : Array Oper} (hd : ∀ o ∈ ops, noDefer o = true) {Q : Exit → Act → World → Prop} (hQ : ¬ LetsOut Q) :
    ∀ (fuel : Nat) (listed : Array Bool) (a : Act) (w : World), wpAny P md ops Q fuel listed a w → wpAnyIn (Fence.wide.inRound l) n P md ops Q fuel listed a w
  | 0, _, _, _, h => h
  | fuel + 1, _, _, _, h => ⟨h.1, fun i hi => wpOpIn_mono (fun a' w' h' => any_round hd hQ fuel _ a' w' h') (op_round hd hQ (h.2 i hi))⟩
theorem region_round {P : Program} {l n id : Nat} {ops : Array Oper} {S : World → Prop} {Q : Exit → Act → World → Prop} {a : Act} {w : World} (hm : P.follows .mixedOrders = true) (hd : ops.all noDefer = true) (hQ : ¬ LetsOut Q) (hS : S w.drew)
    (h : S w.drew → wpAnyH P .any ops Q S ops.size (Array.replicate ops.size false) a w.drew) : (Code.region id ops true).wpIn (Fence.wide.inRound l) n P Q a w :=
  wpIn_region_any hm (any_round (fun o ho => (Array.all_eq_true_iff_forall_mem.1 hd) o ho) hQ _ _ _ _ (wpAny_of_held _ _ _ _ (h hS)))
theorem numbers_in (m : Nat) (p : Option Addr) (len c : Nat) (n : Int) (w : World) :
    CallsIn Fence.wide m Tryz.prog 188 #[.slice p len c, .int .i64 n] w fun e w' => e = .returned (.func (.func 222) #[] #[.pointer (some ⟨w.heap.size + 1, 0, none⟩), .pointer (some ⟨w.heap.size, 0, none⟩)]) ∧ w' = (w.alloc (.cells #[.slice p len c] 39)).alloc (.cells #[.int .i64 n] 3) := by
  refine callsIn_of_wp Tryz.func188 rfl trivial ?_ rfl
  simp only [Tryz.ntmps188, List.size_toArray, List.length_cons, List.length_nil, Nat.reduceAdd, Nat.reduceSub, Array.replicate_succ, Array.replicate_zero, List.push_toArray, List.append_toArray, List.nil_append, List.cons_append]
  gi_wp2
  go_ret
  exact ⟨rfl, rfl⟩
def Changes (f Bl : Nat) (st : Nat → Nat → Nat × Nat) : Prop := ∀ (W : World) (a g : Nat), a < W64 → g < W64 → W.cell? ⟨Bl, 0, none⟩ = some (.int .u64 (a : Int)) → W.frozen? ⟨Bl, 0, none⟩ = false →
  Calls Tryz.prog f #[.int .u64 (g : Int), .pointer (some ⟨Bl, 0, none⟩)] W fun e W' => e = .returned (.int .u64 ((st a g).1 : Int)) ∧ W' = W.setCell ⟨Bl, 0, none⟩ (.int .u64 ((st a g).2 : Int))
theorem delta_changes (Bl : Nat) : Changes 146 Bl dStep := by
  intro W a g ha hg hc hf
  have hsub : IntKind.u64.wrap ((g : Int) - (a : Int)) = (((dStep a g).1 : Nat) : Int) := by
    show _ = (((g + W64 - a) % W64 : Nat) : Int)
    rw [IntKind.wrap_u64]; unfold W64 at *; omega
  have h2 : (dStep a g).2 = g := rfl
  rw [h2, ← hsub]
  clear hsub ha hg
  go_enter Tryz.func146, Tryz.ntmps146
  go_wp2_with fail
  go_ret
  exact ⟨rfl, rfl⟩
end Go.Proofs.YtpnofkefcoaojaaGreatDoor
namespace Go.Proofs.YtpnofkefcoaojaaGreatDoor
open Go.RowKit Go.Shelf
open Go.Lib
attribute [local go_sem] Oper.semAt_some
def stE (st : Nat → Nat → Nat × Nat) : Nat → List Nat → Nat
  | a, [] => a
  | a, g :: gs => stE st (st a g).2 gs
theorem stE_snoc (st : Nat → Nat → Nat × Nat) (g : Nat) : ∀ (gs : List Nat) (a : Nat), stE st a (gs ++ [g]) = (st (stE st a gs) g).2
  | [], _ => rfl
  | x :: gs, a => by rw [List.cons_append, stE, stE_snoc st g gs, stE]
theorem stL_snoc (st : Nat → Nat → Nat × Nat) (g : Nat) : ∀ (gs : List Nat) (a : Nat), stL st a (gs ++ [g]) = stL st a gs ++ [(st (stE st a gs) g).1]
  | [], _ => rfl
  | x :: gs, a => by rw [List.cons_append, stL, stL_snoc st g gs, stL, stE, List.cons_append]
theorem stE_lt {st : Nat → Nat → Nat × Nat} (h : ∀ a g, a < W64 → g < W64 → (st a g).2 < W64) : ∀ (gs : List Nat) (a : Nat), a < W64 → (∀ x ∈ gs, x < W64) → stE st a gs < W64
  | [], _, ha, _ => ha
  | g :: gs, a, ha, hg => stE_lt h gs _ (h a g ha (hg g List.mem_cons_self)) (fun x hx => hg x (List.mem_cons_of_mem _ hx))
def gN (l : List UInt8) (n i : Nat) : Nat := nb ((l.drop (i * n)).take n)
theorem gN_lt (l : List UInt8) {n : Nat} (h : n ≤ 8) (i : Nat) : gN l n i < W64 := nb_lt8 (by rw [List.length_take]; omega)
theorem gN_range (l : List UInt8) (n : Nat) : ∀ k, (List.range k).map (gN l n) = gl n k l
  | 0 => rfl
  | k + 1 => by rw [List.range_succ, List.map_append, gN_range l n k, gl_snoc]; rfl
def gP (l : List UInt8) (n : Nat) {k : Nat} (pre : List (Pl k)) : List Nat := pre.map fun x => gN l n x.1
theorem gP_snoc (l : List UInt8) (n : Nat) {k : Nat} (pre : List (Pl k)) (x : Pl k) : gP l n (pre ++ [x]) = gP l n pre ++ [gN l n x.1] := by rw [gP, List.map_append]; rfl
theorem gP_length (l : List UInt8) (n : Nat) {k : Nat} (pre : List (Pl k)) : (gP l n pre).length = pre.length := List.length_map _
theorem gP_lt (l : List UInt8) {n : Nat} (h : n ≤ 8) {k : Nat} (pre : List (Pl k)) : ∀ x ∈ gP l n pre, x < W64 := by
  intro x hx; rw [gP, List.mem_map] at hx; obtain ⟨y, _, rfl⟩ := hx; exact gN_lt l h _
theorem gP_all (l : List UInt8) (n : Nat) {k : Nat} (ys : List (Pl k)) (h : ys.map (·.1) = List.range k) : gP l n ys = gl n k l := by
  rw [← gN_range, ← h, List.map_map]; rfl
theorem own_ne {W : World} {B k : Nat} {v : Value} {L : List UInt8} {cs : Array Value} {t : TypeId} {fz : Nat × Nat} (h : W.ownsRow B 5 1 v L.length (ubs L)) (hk : W.heap[k]? = some (.cells cs t fz)) (ht : t ≠ 5) : some k ≠ v.ownBlock := by
  obtain ⟨-, ⟨rfl, -⟩ | ⟨g, cap, cur, rfl, -, hh, -⟩⟩ := h
  · intro e; cases e
  · intro e
    have e1 : k = g := Option.some.inj e
    subst e1
    rw [hk] at hh
    cases hh
    exact ht rfl
theorem own_keepB {W W' : World} {B : Nat} {v : Value} {L : List UInt8} (h : W.ownsRow B 5 1 v L.length (ubs L)) (hk : ∀ (k : Nat) (cs : Array Value), W.heap[k]? = some (.cells cs 5 (0, 0)) → W'.heap[k]? = some (.cells cs 5 (0, 0))) : W'.ownsRow B 5 1 v L.length (ubs L) := by
  obtain ⟨h1, h2 | ⟨g, cap, cur, hv, hg, hh, h3⟩⟩ := h
  · exact ⟨h1, .inl h2⟩
  · exact ⟨h1, .inr ⟨g, cap, cur, hv, hg, hk g cur hh, h3⟩⟩
theorem own_cells {W : World} {B : Nat} {v : Value} {L : List UInt8} (h : W.ownsRow B 5 1 v L.length (ubs L)) : ∀ (j : Nat) (o : Obj), v.ownBlock = some j → W.heap[j]? = some o → o.isCells = true := by
  obtain ⟨-, ⟨rfl, -⟩ | ⟨g, cap, cur, rfl, -, hh, -⟩⟩ := h
  · intro j o e; cases e
  · intro j o e ho
    have e1 : g = j := Option.some.inj e
    subst e1
    rw [hh] at ho
    cases ho; rfl
theorem block_of_set {W : World} {g : Nat} {v u : Value} {t : TypeId} (h : W.heap[g]? = some (.cells #[u] t (0, 0))) : (W.setCell ⟨g, 0, none⟩ v).heap[g]? = some (.cells #[v] t (0, 0)) := by
  obtain ⟨h1, h2⟩ := Array.getElem?_eq_some_iff.1 h
  unfold World.setCell
  rw [Array.getElem?_eq_getElem (by simpa using h1), Array.getElem_modify]
  simp [h2]
structure ChI (f N M Bl n : Nat) (p : Option Addr) (len c : Nat) (w : World) (v : Value) (L : List UInt8) (a : Nat) (W : World) : Prop where
  own : W.ownsRow Bl 5 1 v L.length (ubs L)
  out : W.heap[M]? = some (.cells #[v] 39 (0, 0))
  st : W.heap[Bl]? = some (.cells #[.int .u64 (a : Int)] 86 (0, 0))
  b4 : W.heap[N]? = some (.cells #[.int .i64 (n : Int)] 3 (0, 0))
  b5 : W.heap[N + 1]? = some (.cells #[.func (.func f) #[] #[.pointer (some ⟨Bl, 0, none⟩)]] 141 (0, 0))
  i1 : W.heap[M + 1]? = some (.cells #[.slice p len c] 39 (0, 0))
  i2 : W.heap[M + 1 + 1]? = some (.cells #[.int .i64 (n : Int)] 3 (0, 0))
  bel : Below Bl w W
section
variable {f N M Bl n : Nat} {p : Option Addr} {len c : Nat} {w W W' : World} {v v' : Value} {L L' : List UInt8} {a a' : Nat}
theorem ChI.keep (h : ChI f N M Bl n p len c w v L a W) {row : Option Nat} (hg : W.grownBy W' row) (hr : ∀ r, row = some r → Bl ≤ r ∧ ∃ o : Obj, W.heap[r]? = some o ∧ o.isCells = false) (hB : Bl ≤ W.heap.size) : ChI f N M Bl n p len c w v L a W' := by
  have hk : ∀ {k : Nat} {o : Obj}, W.heap[k]? = some o → o.isCells = true → W'.heap[k]? = some o := fun h1 h2 => (grownBy_keeps_cells hg (fun r e => (hr r e).2) h1 h2).trans h1
  exact ⟨own_keepB h.own (fun k cs h1 => hk h1 rfl), hk h.out rfl, hk h.st rfl, hk h.b4 rfl, hk h.b5 rfl, hk h.i1 rfl, hk h.i2 rfl, h.bel.grown hg hB (fun k e => (hr k e).1)⟩
theorem ChI.lt (h : ChI f N M Bl n p len c w v L a W) : Bl ≤ W.heap.size := Nat.le_of_lt (Array.getElem?_eq_some_iff.1 h.st).1
theorem ChI.drew (h : ChI f N M Bl n p len c w v L a W) : ChI f N M Bl n p len c w v L a W.drew := ⟨h.own, h.out, h.st, h.b4, h.b5, h.i1, h.i2, h.bel.drew⟩
theorem ChI.call (h : ChI f N M Bl n p len c w v L a W) (h1 : Bl < N) (h2 : Bl < M) (a' : Nat) : ChI f N M Bl n p len c w v L a' (W.setCell ⟨Bl, 0, none⟩ (.int .u64 (a' : Int))) := by
  have hk : ∀ {k : Nat} {o : Obj}, k ≠ Bl → W.heap[k]? = some o → (W.setCell ⟨Bl, 0, none⟩ (.int .u64 (a' : Int))).heap[k]? = some o := fun hne h1 => (Below.heap_setCell W ⟨Bl, 0, none⟩ _ _ hne).trans h1
  refine ⟨own_keepB h.own (fun k cs h3 => hk ?_ h3), hk (by omega) h.out, block_of_set h.st, hk (by omega) h.b4, hk (by omega) h.b5, hk (by omega) h.i1, hk (by omega) h.i2, h.bel.setCell (p := ⟨Bl, 0, none⟩) (Nat.le_refl _) _⟩
  rintro rfl
  rw [h.st] at h3; cases h3
theorem ChI.app (h : ChI f N M Bl n p len c w v L a W) (hM : Bl < M) (hg : Grew Bl W v L' W' v') : W'.ownsRow Bl 5 1 v' L'.length (ubs L') ∧ ChI f N M Bl n p len c w v' L' a (W'.setCell ⟨M, 0, none⟩ v') ∧ KeepsOthers W (W'.setCell ⟨M, 0, none⟩ v') ∧ W'.heap[N]? = some (.cells #[.int .i64 (n : Int)] 3 (0, 0)) ∧ W'.heap[N + 1]? = some (.cells #[.func (.func f) #[] #[.pointer (some ⟨Bl, 0, none⟩)]] 141 (0, 0)) ∧ W'.heap[M]? = some (.cells #[v] 39 (0, 0)) ∧ Below Bl W (W'.setCell ⟨M, 0, none⟩ v') := by
  have hk : ∀ {k : Nat} {cs : Array Value} {t : TypeId}, W.heap[k]? = some (.cells cs t (0, 0)) → t ≠ 5 → W'.heap[k]? = some (.cells cs t (0, 0)) := fun h1 h2 => (hg.grown.block _ (Array.getElem?_eq_some_iff.1 h1).1 (own_ne h.own h1 h2)).trans h1
  have hs : ∀ {k : Nat} {o : Obj}, k ≠ M → W'.heap[k]? = some o → (W'.setCell ⟨M, 0, none⟩ v').heap[k]? = some o := fun hne h1 => (Below.heap_setCell W' ⟨M, 0, none⟩ _ _ hne).trans h1
  have hne : ∀ {k : Nat} {cs : Array Value} {t : TypeId}, W'.heap[k]? = some (.cells cs t (0, 0)) → t ≠ 39 → k ≠ M := by
    rintro k cs t h1 h2 rfl
    rw [hk h.out (by decide)] at h1; cases h1; exact h2 rfl
  have hO := hk h.out (by decide)
  have hKO : KeepsOthers W W' := KeepsOthers.of_grownBy hg.grown (own_cells h.own)
  refine ⟨hg.own, ⟨own_keepB hg.own (fun k cs h3 => hs (hne h3 (by decide)) h3), block_of_set hO, ?_, ?_, ?_, ?_, ?_, ?_⟩, hKO.trans (KeepsOthers.setCell _ _ _), hk h.b4 (by decide), hk h.b5 (by decide), hO, ((Below.refl Bl W).grown hg.grown h.lt (fun k e => own_ge h.own e)).setCell (p := ⟨M, 0, none⟩) (Nat.le_of_lt hM) _⟩
  · have := hk h.st (by decide); exact hs (hne this (by decide)) this
  · have := hk h.b4 (by decide); exact hs (hne this (by decide)) this
  · have := hk h.b5 (by decide); exact hs (hne this (by decide)) this
  · have := hk h.i1 (by decide); exact hs (by omega) this
  · have := hk h.i2 (by decide); exact hs (by omega) this
  · have hb1 : Below Bl w W' := h.bel.grown hg.grown h.lt (fun k e => own_ge h.own e)
    exact hb1.setCell (p := ⟨M, 0, none⟩) (Nat.le_of_lt hM) _
end
end Go.Proofs.YtpnofkefcoaojaaGreatDoor
