/- The program's build: an array out of a function on indexes. -/
import Derived.Test.YtlcpcpmlfegejaaGreatDoorGI
import Derived.BigRegionIn
import Derived.Maps.AppendAt
namespace Go.Proofs.YtlcpcpmlfegejaaGreatDoor.Arr
open Go.RowKit Go.Shelf
open Go.Lib
attribute [local go_sem] Oper.semAt_some
def noDefer (o : Oper) : Bool := match o.op with | .defer _ => false | _ => true
theorem noDefer_ne {o : Oper} (h : noDefer o = true) : ∀ c, o.op ≠ .defer c := by
  intro c e; unfold noDefer at h; rw [e] at h; cases h
theorem oper_round {P : Program} {l n : Nat} {o : Oper} (hd : noDefer o = true) {a : Act} {w : World} {K : Act → World → Prop} {Q : Exit → Act → World → Prop}
    (h : o.wp P a w K Q) : o.wpIn (Fence.wide.inRound l) n P a w K Q := by
  unfold Oper.wpIn
  refine ⟨fun _ _ => trivial, ?_⟩
  rw [Oper.semAt_plain _ _ _ (noDefer_ne hd)]
  unfold Oper.wp at h
  generalize (execOp a.eval o).run P w = r at *
  cases r with
  | ok x w' =>
    cases x
    case enter f args => exact ⟨fun h0 => Bool.noConfusion h0, CallsIn.inRound l (callsIn_wide.2 h)⟩
    case row r args =>
      refine ⟨fun h0 => Bool.noConfusion h0, fun c cs _ => ?_⟩
      obtain ⟨v, w'', h1, h2⟩ := h c cs
      exact ⟨v, w'', h1, stepsIn_wide.2 h2⟩
    all_goals first | exact h | exact h.elim
  | halt x w' => cases x <;> first | exact h | exact h.elim
theorem op_round {P : Program} {l n : Nat} {ops : Array Oper} (hd : ∀ o ∈ ops, noDefer o = true) {i : Nat} {K : Act → World → Prop} {Q : Exit → Act → World → Prop} (hQ : ¬ LetsOut Q) {a : Act} {w : World}
    (h : wpOp P ops Q i K a w) : wpOpIn (Fence.wide.inRound l) n P ops Q i K a w := by
  unfold wpOp at h
  unfold wpOpIn
  cases ho : ops[i]? with
  | none => simp only [ho] at h ⊢; exact h
  | some o =>
    simp only [ho] at h ⊢
    split
    · rename_i hw; simp only [hw, if_true] at h; exact h.elim (oper_round (hd o (Array.mem_of_getElem? ho))) (fun h1 => absurd h1.2 hQ)
    · rename_i hw; simp only [hw] at h; exact ⟨fun _ _ => trivial, h⟩
theorem any_round {P : Program} {l n : Nat} {md : Region.Mode} {ops : Array Oper} (hd : ∀ o ∈ ops, noDefer o = true) {Q : Exit → Act → World → Prop} (hQ : ¬ LetsOut Q) :
    ∀ (fuel : Nat) (listed : Array Bool) (a : Act) (w : World), wpAny P md ops Q fuel listed a w → wpAnyIn (Fence.wide.inRound l) n P md ops Q fuel listed a w
  | 0, _, _, _, h => h
  | fuel + 1, _, _, _, h => ⟨h.1, fun i hi => wpOpIn_mono (fun a' w' h' => any_round hd hQ fuel _ a' w' h') (op_round hd hQ (h.2 i hi))⟩
theorem region_round {P : Program} {l n id : Nat} {ops : Array Oper} {S : World → Prop} {Q : Exit → Act → World → Prop} {a : Act} {w : World} (hm : P.follows .mixedOrders = true) (hd : ops.all noDefer = true) (hQ : ¬ LetsOut Q) (hS : S w.drew)
    (h : S w.drew → wpAnyH P .any ops Q S ops.size (Array.replicate ops.size false) a w.drew) : (Code.region id ops true).wpIn (Fence.wide.inRound l) n P Q a w :=
  wpIn_region_any hm (any_round (fun o ho => (Array.all_eq_true_iff_forall_mem.1 hd) o ho) hQ _ _ _ _ (wpAny_of_held _ _ _ _ (h hS)))
def RdS (w : World) (p : Option Addr) (l : List (List UInt8)) : Prop := l.length = 0 ∨ ∃ b off, p = some ⟨b, off, none⟩ ∧ b < w.heap.size ∧ ∀ j, j < l.length → w.cell? ⟨b, off + j, none⟩ = some (.string ⟨(l.getD j []).toArray⟩)
theorem RdS.below {w w' : World} {p : Option Addr} {l : List (List UInt8)} (h : RdS w p l) (hb : Below w.heap.size w w') : RdS w' p l := by
  rcases h with h0 | ⟨b, off, hp, hlt, hc⟩
  · exact .inl h0
  · exact .inr ⟨b, off, hp, Nat.lt_of_lt_of_le hlt hb.size, fun j hj => (hb.cell (p := ⟨b, off + j, none⟩) hlt).trans (hc j hj)⟩
theorem RdS.at {w : World} {p : Option Addr} {l : List (List UInt8)} (h : RdS w p l) {k : Nat} (hk : k < l.length) : ∃ b off x, p = some ⟨b, off, none⟩ ∧ b < w.heap.size ∧ w.cell? ⟨b, off + k, none⟩ = some (.string ⟨List.toArray x⟩) ∧ Hid (x = l.getD k []) := by
  rcases h with h0 | ⟨b, off, h1, h2, h3⟩
  · omega
  · exact ⟨b, off, _, h1, h2, h3 k hk, Lib.hid rfl⟩
theorem info9 : (Tryz.prog.info? 9).map (fun i => (i.zero, i.size, i.bytes)) = some (some (.string ⟨#[]⟩), 1, 16) := by kernel_rfl
def strC (l : List (List UInt8)) : Array Value := (l.map (fun x => Value.string ⟨List.toArray x⟩)).toArray
theorem make_strs (n : Nat) (hn : n ≤ 5000) (W : World) : (Instr.makeSlice 22 (.int .i64 (n : Int)) (.int .i64 (n : Int))).run Tryz.prog W = .ok (.slice (some ⟨W.heap.size, 0, none⟩) n n) (W.alloc (.cells (strC (List.replicate n [])) 9)) := by
  obtain ⟨i0, hi, hz0, hz1, hz2⟩ := info_parts info9
  have h := run_make (P := Tryz.prog) W 22 9 i0 (.string ⟨#[]⟩) Tryz.underlying22 hi hz0 .i64 .i64 (n : Int) (n : Int) (by omega) (by omega) (by rw [hz2]; omega) (by omega)
  have e : madeCells (Value.cells (.string ⟨#[]⟩)) (n * 1) = strC (List.replicate n []) := by
    have e1 : Value.cells (.string ⟨#[]⟩) = #[Value.string ⟨#[]⟩] := rfl
    rw [e1, Nat.mul_one]
    unfold madeCells strC
    apply Array.ext
    · simp
    · intro i h1 h2
      simp [Nat.mod_one]
  rw [hz1, Int.toNat_natCast, e] at h
  exact h
structure BI (w : World) (N : Nat) (fv : Value) (val : Nat → List UInt8) (row : Option Nat) (Ok : World → Prop) (pre : List (Nat × Nat)) (W : World) : Prop where
  old : w.grownBy W row
  bv : W.heap[w.heap.size]? = some (.cells #[fv] 89 (0, 0))
  br : W.heap[w.heap.size + 1]? = some (.cells #[.slice none 0 0, .slice none 0 0] 31 (0, 0))
  vals : ∃ l : List (List UInt8), l.length = N ∧ W.heap[w.heap.size + 1 + 1]? = some (.cells (strC l) 9 (0, 0)) ∧ ∀ y ∈ pre, y.1 < N → l.getD y.1 [] = val y.1
  bx : W.heap[w.heap.size + 1 + 1 + 1]? = some (.cells #[.slice (some ⟨w.heap.size + 1 + 1, 0, none⟩) N N] 22 (0, 0))
  ok : Ok W
end Go.Proofs.YtlcpcpmlfegejaaGreatDoor.Arr
set_option maxHeartbeats 1600000
set_option maxRecDepth 100000
namespace Go.Proofs.YtlcpcpmlfegejaaGreatDoor.Arr
open Go.RowKit Go.Shelf
open Go.Lib
attribute [local go_sem] Oper.semAt_some
theorem own_ge' {w : World} {B n k e size : Nat} {v : Value} {xs : List Value} (h : w.ownsRow B e size v n xs) (hk : v.ownBlock = some k) : B ≤ k := by
  obtain ⟨-, ⟨rfl, -⟩ | ⟨g, cap, cur, rfl, hg, -⟩⟩ := h
  · cases hk
  · cases hk; exact hg
def ClonePost (n : Nat) (s : List Nat) (w : World) (e : Ending) (w' : World) : Prop := Below w.heap.size w w' ∧ ∃ q d, e = .returned (.slice q n d) ∧ RdN w' q s ∧ n ≤ d ∧ (q = none → d = 0) ∧ ∀ b off, q = some ⟨b, off, none⟩ → w.heap.size ≤ b
theorem rdn_own {w : World} {B n : Nat} {v : Value} {s : List Nat} (hs : s.length = n) (hb : ∀ x ∈ s, x ≤ 1024) (h : w.ownsRow B 3 1 v n (s.map (fun x => Value.int .i64 ((x : Nat) : Int)))) : ∃ q d, v = .slice q n d ∧ RdN w q s ∧ n ≤ d ∧ (q = none → d = 0) ∧ ∀ b off, q = some ⟨b, off, none⟩ → B ≤ b := by
  have hwf : ∀ z ∈ s.map Int.ofNat, -9223372036854775808 ≤ z ∧ z ≤ 9223372036854775807 := fun z hz => by
    obtain ⟨x, hx, rfl⟩ := List.mem_map.1 hz
    have := hb x hx
    exact ⟨by have := Int.natCast_nonneg x; show _ ≤ ((x : Nat) : Int); omega, by show ((x : Nat) : Int) ≤ _; omega⟩
  have ho := h
  obtain ⟨h1, ⟨rfl, h3⟩ | ⟨g, cap, cur, rfl, hg, hh, hn, hm, hz, hc⟩⟩ := h
  · exact ⟨none, 0, by rw [h3], ⟨hwf, .inl (by rw [List.length_map, hs]; exact h3)⟩, by omega, fun _ => rfl, fun b off e => by cases e⟩
  · refine ⟨_, cap, rfl, ⟨hwf, .inr ⟨g, 0, rfl, (Array.getElem?_eq_some_iff.1 hh).1, fun j hj => ?_⟩⟩, hn, (fun e => by cases e), fun b off e => by cases e; exact hg⟩
    rw [List.length_map] at hj
    have := ho.cellAt j (by omega)
    rw [Nat.zero_add, this, List.getElem?_map, List.getElem?_eq_getElem hj, List.getD_eq_getElem?_getD, List.getElem?_map, List.getElem?_eq_getElem hj]
    rfl
theorem gb_of_below {w w' : World} (h : Below w.heap.size w w') (r : Option Nat) : w.grownBy w' r := ⟨h.os, h.tape, h.output, h.size, fun k hk _ => h.block k hk⟩
theorem nothing_behind (w : World) (B : Nat) (v : Value) (n c : Nat) (xs : List Value) (ty : TypeId) (hown : w.ownsRow B 3 1 v n xs) : (Builtin.append_ #[29, 29] ty #[v, .slice none 0 c]).run Tryz.prog w = .ok v w := by
  obtain ⟨i0, hi, hz0, hz1, hz2⟩ := info_parts info3
  obtain ⟨-, ⟨rfl, rfl⟩ | ⟨g, cap, cur, rfl, -, -, hnc, -⟩⟩ := hown
  · simp [Builtin.append_, run_underlying Tryz.underlying29, sizeOf, typeInfo, hi, Builtin.lenOf, Builtin.firstCells]
  · simp [Builtin.append_, run_underlying Tryz.underlying29, sizeOf, typeInfo, hi, Builtin.lenOf, Builtin.firstCells, hnc, storeCells]
theorem wpList_append_ns {w : World} {ops : Array Oper} {rest : List Oper} {o : Oper} {a : Act} {Q : Exit → Act → World → Prop} (hgd : o.guard = none) (s x : Operand)
    (ho : o.op = .call { callee := .builtin .append, args := #[s, x], argTypes := #[29, 29] })
    (B : Nat) (v : Value) (X : List Nat) (hs : a.eval s = v) (hown : w.ownsRow B 3 1 v X.length (X.map (fun x => Value.int .i64 ((x : Nat) : Int))))
    (p : Option Addr) (m c : Nat) (L : List Nat) (hx : a.eval x = .slice p m c) (hm : L.length = m) (hb : RdN w p L) (hlen : X.length + m ≤ 100000) (hB : B ≤ w.heap.size)
    (h : ∀ v' w', w'.ownsRow B 3 1 v' (X.length + m) ((X ++ L).map (fun x => Value.int .i64 ((x : Nat) : Int))) → w.grownBy w' v.ownBlock → (∀ k, v'.ownBlock = some k → B ≤ k) → wpList Tryz.prog ops Q rest (a.put o.dst v') w') : wpList Tryz.prog ops Q (o :: rest) a w := by
  subst hm
  obtain ⟨i0, hi, hz0, hz1, hz2⟩ := info_parts info3
  cases p with
  | none =>
    have h0 : L = [] := by
      rcases hb.cell with h0 | ⟨b, off, h1, -⟩
      · exact List.eq_nil_of_length_eq_zero (by simpa using h0)
      · cases h1
    subst h0
    refine wpList_plain hgd fun K hK => ?_
    have hr := nothing_behind w B v X.length c _ o.type hown
    unfold Oper.wp execOp
    simp only [ho, resolve, invoke, builtin, Sem.run_bind, Sem.run_pure, Result.andThen_ok, List.map_toArray, List.map_cons, List.map_nil, hs, hx, List.length_nil, hr]
    exact hK _ _ (h v w (by rw [List.append_nil]; exact hown) (gb_of_below (Below.refl _ _) _) (fun k e => own_ge' hown e))
  | some ad =>
    obtain ⟨b0, off, sp⟩ := ad
    by_cases h0 : L = []
    · subst h0
      refine wpList_append_own_at _ hgd s x 29 ho B 3 i0 (.int .i64 0) 1 8 Tryz.underlying29 hi hz0 hz1 hz2 rfl (by decide) _ _ _ hs hown ⟨b0, off, sp⟩ ([] : List Nat).length c [] hx rfl (fun j u hj => by simp at hj) (fun u hu => by cases hu) (by unfold maxLen; simp at hlen ⊢; omega) (by omega) hB ?_
      intro v' w' h1 h2 _ h4
      refine h v' w' ?_ h2 (fun k e => own_ge' h1 e)
      rw [List.append_nil]; simpa using h1
    · have hsp : sp = none := by
        rcases hb.cell with h1 | ⟨b, o2, h1, -⟩
        · exact absurd (List.eq_nil_of_length_eq_zero (by simpa using h1)) h0
        · cases h1; rfl
      subst hsp
      refine wpList_append_own_at _ hgd s x 29 ho B 3 i0 (.int .i64 0) 1 8 Tryz.underlying29 hi hz0 hz1 hz2 rfl (by decide) _ _ _ hs hown ⟨b0, off, none⟩ L.length c (L.map (fun x => Value.int .i64 ((x : Nat) : Int))) hx (by rw [List.length_map, Nat.mul_one]) ?_ ?_ (by unfold maxLen; omega) (by omega) hB ?_
      · intro j u hj
        have hjl : j < L.length := by
          have := (List.getElem?_eq_some_iff.1 hj).1
          rwa [List.length_map] at this
        obtain ⟨b1, o1, x, e1, -, hc, hx⟩ := hb.at hjl
        cases e1
        rw [List.getElem?_map, List.getElem?_eq_getElem hjl] at hj
        obtain rfl : Value.int .i64 ((L[j] : Nat) : Int) = u := by simpa using hj
        have ex : x = L[j] := by rw [hx.out, List.getD_eq_getElem?_getD, List.getElem?_eq_getElem hjl]; rfl
        rw [← ex]
        have ea : (⟨b0, off, none⟩ : Addr).add j = ⟨b0, off + j, none⟩ := by
          unfold Addr.add; split <;> simp_all
        rw [ea]; exact hc
      · intro u hu
        obtain ⟨x, _, rfl⟩ := List.mem_map.1 hu
        rfl
      · intro v' w' h1 h2 _ h4
        refine h v' w' ?_ h2 (fun k e => own_ge' h1 e)
        rw [List.map_append]; exact h1
theorem clone_some (a : Addr) (n c : Nat) (s : List Nat) (w : World) (hs : Hid (s.length = n)) (hn : n ≤ 4) (hb : Hid (∀ x ∈ s, x ≤ 1024)) (h : RdN w (some a) s) :
    Calls Tryz.prog 78 #[.slice (some a) n c] w (ClonePost n s w) := by
  have H := Lib.hid h
  have heq : ∀ W : World, (binOp .eql 29 (.slice (some a) n c) (.slice none 0 0)).run Tryz.prog W = .ok (.bool false) W := fun W => by kernel_rfl
  have HBa : Hid (Below w.heap.size w (w.alloc (.cells #[] 3))) := Lib.hid ((Below.refl _ w).alloc (Nat.le_refl _) _)
  have hown : Hid ((w.alloc (.cells #[] 3)).ownsRow w.heap.size 3 1 (.slice (some ⟨w.heap.size, 0, none⟩) 0 0) 0 (([] : List Nat).map (fun x => Value.int .i64 ((x : Nat) : Int)))) := Lib.hid ⟨rfl, .inr ⟨w.heap.size, 0, #[], rfl, Nat.le_refl _, World.alloc_heap_new w _, Nat.le_refl _, Nat.zero_le _, rfl, rfl⟩⟩
  have hsz : Hid (w.heap.size ≤ (w.alloc (.cells #[] 3)).heap.size) := Lib.hid (by simp)
  clear h
  go_enter Tryz.func78, Tryz.ntmps78
  go_wp2_with (at_builtin; refine wpList_append_ns rfl (.tmp 5) (.tmp 6) rfl w.heap.size _ [] rfl hown.out (some a) n c s rfl hs.out (H.out.below HBa.out) (by simp; omega) hsz.out ?_)
  intro v5 w5 hown5 hg5 _
  obtain ⟨q, d, rfl, hq1, hq2, hq3, hq4⟩ := rdn_own (s := s) (n := n) hs.out hb.out (by simpa using hown5)
  have hfin : Hid (ClonePost n s w (.returned (.slice q n d)) w5) := Lib.hid ⟨HBa.out.trans ((Below.refl _ _).grown hg5 hsz.out (fun k e => own_ge' hown.out e)), q, d, rfl, hq1, hq2, hq3, hq4⟩
  clear hown5 hg5 hq1 hq2 hq3 hq4
  go_wp2_with fail
  go_ret
  exact hfin.out
theorem clone_nil (c : Nat) (w : World) : Calls Tryz.prog 78 #[.slice none 0 c] w (ClonePost 0 [] w) := by
  have heq : ∀ W : World, (binOp .eql 29 (.slice none 0 c) (.slice none 0 0)).run Tryz.prog W = .ok (.bool true) W := fun W => by kernel_rfl
  go_enter Tryz.func78, Tryz.ntmps78
  go_wp2_with fail
  go_ret
  exact ⟨Below.refl _ _, none, 0, rfl, ⟨(fun z hz => by cases hz), .inl rfl⟩, Nat.le_refl _, (fun _ => rfl), (fun b off e => by cases e)⟩
theorem clone_any (p : Option Addr) (n c : Nat) (s : List Nat) (w : World) (hs : Hid (s.length = n)) (hn : n ≤ 4) (hb : Hid (∀ x ∈ s, x ≤ 1024)) (h : RdN w p s) : Calls Tryz.prog 78 #[.slice p n c] w (ClonePost n s w) := by
  cases p with
  | none =>
    have h0 : s = [] := by
      rcases h.cell with h0 | ⟨b, off, h1, _⟩
      · exact List.eq_nil_of_length_eq_zero (by simpa using h0)
      · cases h1
    subst h0
    obtain rfl : n = 0 := by rw [← hs.out]; rfl
    exact clone_nil c w
  | some a => exact clone_some a n c s w hs hn hb h
end Go.Proofs.YtlcpcpmlfegejaaGreatDoor.Arr
