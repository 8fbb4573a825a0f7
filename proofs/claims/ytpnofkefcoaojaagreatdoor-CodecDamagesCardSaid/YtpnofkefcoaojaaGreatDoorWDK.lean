/- The iterator over the places of shuffled bytes. -/
import Derived.Test.YtpnofkefcoaojaaGreatDoorKC
import Derived.Test.YtpnofkefcoaojaaGreatDoorWMG
import Derived.Sort.QuietIn
import Derived.IntWalk
import Derived.RangeFuncFrom
import Derived.BigRegionIn
import Derived.OwnWalkIn
import Derived.Laws.OwnMore
import Derived.RangeFuncWrites
set_option maxHeartbeats 2000000
set_option maxRecDepth 100000
namespace Go.Proofs.YtpnofkefcoaojaaGreatDoor
open Go.RowKit Go.Shelf
open Go.Lib
attribute [local go_sem] Oper.semAt_some
abbrev Pl (len : Nat) := { t : Nat // t < len }
abbrev plE (len n : Nat) (x : Pl len) : Array Value := #[.int .i64 ((x.1 : Nat) : Int), .int .i64 ((srcP len n x.1 : Nat) : Int)]
def Two2 (Bs Bn : Nat) (W W' : World) : Prop := W'.heap[Bs]? = W.heap[Bs]? ∧ W'.heap[Bn]? = W.heap[Bn]?
theorem Two2.trans {Bs Bn : Nat} {A B C : World} (h : Two2 Bs Bn A B) (k : Two2 Bs Bn B C) : Two2 Bs Bn A C := ⟨k.1.trans h.1, k.2.trans h.2⟩
theorem Two2.c1 {Bs Bn : Nat} {A B : World} (h : Two2 Bs Bn A B) : B.cell? ⟨Bs, 0, none⟩ = A.cell? ⟨Bs, 0, none⟩ := World.cell?_of_block (a := ⟨Bs, 0, none⟩) h.1
theorem Two2.c2 {Bs Bn : Nat} {A B : World} (h : Two2 Bs Bn A B) : B.cell? ⟨Bn, 0, none⟩ = A.cell? ⟨Bn, 0, none⟩ := World.cell?_of_block (a := ⟨Bn, 0, none⟩) h.2
theorem it64_in (F : Fence) (m : Nat) (h64 : F.fn 189) (hro : F.round = none) (hm : 1 ≤ m) (lr Bs Bn len n : Nat) (hn1 : 1 ≤ n) (hn2 : n ≤ 8) (hlen : len ≤ 20000) (J Jx : List (Pl len) → World → Prop)
    (hJd : ∀ pre W q, J pre W → J pre (W.drewN q))
    (hY : ∀ pre x W, J pre W → pre.length < len → YieldAt F (m - 1) Tryz.prog lr (plE len n x) W fun e W' =>
      (e = .returned (.bool true) ∧ J (pre ++ [x]) W' ∧ Two2 Bs Bn W W') ∨ (e = .returned (.bool false) ∧ Jx (pre ++ [x]) W'))
    (W : World) (hBs : W.cell? ⟨Bs, 0, none⟩ = some (.int .i64 (len : Int))) (hBn : W.cell? ⟨Bn, 0, none⟩ = some (.int .i64 (n : Int))) (h0 : J [] W) :
    CallsIn F m Tryz.prog 189 #[.func (.yield lr) #[] #[], .pointer (some ⟨Bs, 0, none⟩), .pointer (some ⟨Bn, 0, none⟩)] W fun e W' => (∃ v, e = .returned v) ∧
      ((∃ ys, ys.map (·.1) = List.range len ∧ J ys W') ∨ (∃ pre, True ∧ Jx pre W')) := by
  have hni : 1 ≤ (n : Int) := by omega
  have hni2 : (n : Int) ≤ 8 := by omega
  have hli : (len : Int) ≤ 20000 := by omega
  obtain ⟨k, HK⟩ : ∃ k, Hid (k = len / n) := ⟨_, rfl⟩
  obtain ⟨E, HE⟩ : ∃ E, Hid (E = k * n) := ⟨_, rfl⟩
  have HEl : Hid (E ≤ len) := Lib.hid (by rw [HE.out, HK.out]; exact Nat.div_mul_le_self _ _)
  have hend : wrap64 ((len : Int) - (len : Int) % (n : Int)) = (E : Int) := by
    have h1 := Nat.div_add_mod len n
    rw [← HK.out, Nat.mul_comm, ← HE.out] at h1
    have h2 : (len : Int) - (len : Int) % (n : Int) = (E : Int) := by omega
    rw [h2]
    have := HEl.out
    unfold wrap64; omega
  have hEi : (E : Int) ≤ 20000 := by have := HEl.out; omega
  refine callsIn_of_wp Tryz.func189 rfl h64 ?_ hro
  simp only [Tryz.ntmps189, List.size_toArray, List.length_cons, List.length_nil, Nat.reduceAdd, Nat.reduceSub, Array.replicate_succ, Array.replicate_zero, List.push_toArray, List.append_toArray, List.nil_append, List.cons_append]
  gi_wp2
  refine wpIn_region_quiet_lit hro (by kernel_rfl) (by kernel_rfl) ?_
  repeat (gi_big_quiet_step (fail))
  refine wpQuietIn_nil ?_
  intro _ hw'
  obtain ⟨nq, hw''⟩ := hw'
  subst hw''
  gi_wp2
  rw [hend]
  clear hend
  have hJ0 := Lib.hid (hJd _ _ nq h0)
  gi_loopw [4, 14] (fun tv fv wr => ∃ (t j : Nat) (pre : List (Pl len)), j ≤ n ∧ tv = .int .i64 t ∧ fv = .int .i64 j ∧ Hid (t = j * k) ∧ Hid (pre.map (·.1) = List.range t) ∧ Hid (J pre wr) ∧ Hid (Two2 Bs Bn W wr)) (fun _ fv _ => n - (intOf fv).toNat)
  case atStart => exact ⟨0, 0, [], Nat.zero_le _, rfl, rfl, Lib.hid (by simp), rfl, hJ0, Lib.hid ⟨rfl, rfl⟩⟩
  case round =>
    obtain ⟨t, j, pre, hj, rfl, rfl, HT, HP, HJ, HB⟩ := hrel
    by_cases hjn : j < n
    · have hcn := HB.out.c2.trans hBn
      gi_wp2
      clear hcn
      gi_loopw [4, 7] (fun tv gv wr => ∃ (t fr i : Nat) (pre : List (Pl len)), i ≤ k ∧ tv = .int .i64 t ∧ gv = .int .i64 fr ∧ Hid (t = j * k + i) ∧ Hid (fr = i * n + j) ∧ Hid (pre.map (·.1) = List.range t) ∧ Hid (J pre wr) ∧ Hid (Two2 Bs Bn W wr)) (fun tv _ _ => (j + 1) * k - (intOf tv).toNat)
      case atStart => exact ⟨t, j, 0, pre, Nat.zero_le _, rfl, rfl, Lib.hid (by rw [HT.out]; rfl), Lib.hid (by rw [Nat.zero_mul, Nat.zero_add]), HP, HJ, HB⟩
      case round =>
        obtain ⟨t, fr, i, pre, hik, rfl, rfl, HT, HFR, HP, HJ, HB⟩ := hrel
        have hcn := HB.out.c2.trans hBn
        by_cases hi : i < k
        · have q1 : fr < E := by rw [HFR.out, HE.out]; exact cell_lt hi hjn
          have htE : t < E := by rw [HT.out, HE.out, Nat.mul_comm k]; exact cell_lt hjn hi
          have htl : t < len := Nat.lt_of_lt_of_le htE HEl.out
          have hti : (t : Int) ≤ 20000 := by omega
          have hfi : (fr : Int) ≤ 20000 := by omega
          obtain ⟨fn, tmps, assign, body, hy, hR⟩ := hY pre ⟨t, htl⟩ wr HJ.out (by
            have h := congrArg List.length HP.out
            rw [List.length_map, List.length_range] at h; omega)
          have hmm : t + 1 ≤ (j + 1) * k := by rw [HT.out, Nat.succ_mul]; omega
          have hsrc : srcP len n t = fr := by rw [HT.out, HFR.out, HK.out]; exact srcP_cell (by rw [← HK.out]; exact hi) hjn
          have hy2 : (Instr.yield lr #[.int .i64 (t : Int), .int .i64 (fr : Int)]).run Tryz.prog wr = .ok (.round lr fn tmps assign body) wr := by
            rw [← hsrc]; exact hy
          clear hy
          gi_wp2
          refine hR.mono ?_
          rintro e W3 (⟨rfl, hJ3, hk3⟩ | ⟨rfl, hJx3⟩)
          · have HB3 := Lib.hid (HB.out.trans hk3)
            have hcn3 := HB3.out.c2.trans hBn
            have HJ3 := Lib.hid hJ3
            clear hJ3 hk3 hy2
            gi_wp2
            go_roundw
            case rel => exact ⟨t + 1, fr + n, i + 1, pre ++ [⟨t, htl⟩], by omega, by go_num, by go_num, Lib.hid (by rw [HT.out]; omega), Lib.hid (by rw [HFR.out, Nat.succ_mul]; omega), Lib.hid (by rw [List.map_append, HP.out, List.range_succ]; rfl), HJ3, HB3⟩
            case measure => simp [intOf]; omega
          · gi_wp2
            refine bodyPost_ret (results_none rfl _ _ _) rfl ?_
            exact ⟨⟨_, rfl⟩, .inr ⟨_, trivial, hJx3⟩⟩
        · obtain rfl : i = k := by omega
          have q1 : ¬ fr < E := by rw [HFR.out, HE.out]; omega
          gi_wp2
          go_roundw
          case rel => exact ⟨t, j + 1, pre, by omega, rfl, by go_num, Lib.hid (by rw [HT.out, Nat.succ_mul]), HP, HJ, HB⟩
          case measure => simp [intOf]; omega
    · obtain rfl : j = n := by omega
      gi_wp2
      gi_loopw [4] (fun tv wr => ∃ (t : Nat) (pre : List (Pl len)), t ≤ len ∧ tv = .int .i64 t ∧ Hid (E ≤ t) ∧ Hid (pre.map (·.1) = List.range t) ∧ Hid (J pre wr) ∧ Hid (Two2 Bs Bn W wr)) (fun tv _ => len - (intOf tv).toNat)
      case atStart => exact ⟨t, pre, by rw [HT.out]; have := HEl.out; rw [HE.out, Nat.mul_comm] at this; exact this, rfl, Lib.hid (by rw [HT.out, HE.out, Nat.mul_comm]; exact Nat.le_refl _), HP, HJ, HB⟩
      case round =>
        obtain ⟨t, pre, htl', rfl, HTE, HP, HJ, HB⟩ := hrel
        have hcs := HB.out.c1.trans hBs
        by_cases htl : t < len
        · have hti : (t : Int) ≤ 20000 := by omega
          obtain ⟨fn, tmps, assign, body, hy, hR⟩ := hY pre ⟨t, htl⟩ wr HJ.out (by
            have h := congrArg List.length HP.out
            rw [List.length_map, List.length_range] at h; omega)
          have hsrc : srcP len j t = t := srcP_rest (by rw [← HK.out, ← HE.out]; exact HTE.out)
          have hy2 : (Instr.yield lr #[.int .i64 (t : Int), .int .i64 (t : Int)]).run Tryz.prog wr = .ok (.round lr fn tmps assign body) wr := by
            have := hy
            unfold plE at this
            rw [hsrc] at this; exact this
          clear hy
          gi_wp2
          refine hR.mono ?_
          rintro e W3 (⟨rfl, hJ3, hk3⟩ | ⟨rfl, hJx3⟩)
          · have HB3 := Lib.hid (HB.out.trans hk3)
            have HJ3 := Lib.hid hJ3
            clear hJ3 hk3 hy2
            gi_wp2
            go_roundw
            case rel => exact ⟨t + 1, pre ++ [⟨t, htl⟩], by omega, by go_num, Lib.hid (by have := HTE.out; omega), Lib.hid (by rw [List.map_append, HP.out, List.range_succ]; rfl), HJ3, HB3⟩
            case measure => simp [intOf]; omega
          · gi_wp2
            refine bodyPost_ret (results_none rfl _ _ _) rfl ?_
            exact ⟨⟨_, rfl⟩, .inr ⟨_, trivial, hJx3⟩⟩
        · obtain rfl : t = len := by omega
          gi_wp2
          go_end0
          exact ⟨⟨_, rfl⟩, .inl ⟨pre, HP.out, HJ.out⟩⟩
theorem shuf_stops (F : Fence) (m : Nat) (h64 : F.fn 189) (hro : F.round = none) (hm : 1 ≤ m) (Bs Bn len n : Nat) (hn1 : 1 ≤ n) (hn2 : n ≤ 8) (hlen : len ≤ 20000) (w : World) (hB1 : Bs < w.heap.size) (hB2 : Bn < w.heap.size)
    (hBs : w.cell? ⟨Bs, 0, none⟩ = some (.int .i64 (len : Int))) (hBn : w.cell? ⟨Bn, 0, none⟩ = some (.int .i64 (n : Int))) :
    SeqStopsK F m Tryz.prog 189 #[.pointer (some ⟨Bs, 0, none⟩), .pointer (some ⟨Bn, 0, none⟩)] (plE len n) (Two2 Bs Bn) (fun ys => ys.map (·.1) = List.range len) (fun _ => True) len w := fun l J Jx W hW hJ _ hY h0 =>
  it64_in F m h64 hro hm l Bs Bn len n hn1 hn2 hlen J Jx (fun pre W' q hj => hJ pre W' (W'.drewN q) none hj ⟨rfl, rfl, rfl, Nat.le_refl _, fun _ _ _ => rfl⟩ (fun r e => by cases e)) hY W
    ((hW.cell (p := ⟨Bs, 0, none⟩) hB1).trans hBs) ((hW.cell (p := ⟨Bn, 0, none⟩) hB2).trans hBn) h0
end Go.Proofs.YtpnofkefcoaojaaGreatDoor
namespace Go.Proofs.YtpnofkefcoaojaaGreatDoor
open Go.RowKit Go.Shelf
open Go.Lib
theorem made_bytes (n : Nat) : madeCells #[Value.int .u8 0] n = (ubs (List.replicate n 0)).toArray := by
  apply Array.ext
  · simp [madeCells, ubs]
  · intro i h1 h2
    simp [madeCells, ubs, Nat.mod_one]
theorem wpListIn_make_bytes {F : Fence} {n : Nat} (w : World) {ops : Array Oper} {rest : List Oper} {o : Oper} {a : Act} {Q : Exit → Act → World → Prop} (hg : o.guard = none) (l c : Operand) (hop : o.op = Op.makeSlice 39 l c)
    (kl kc : IntKind) (k : Nat) (hl : a.eval l = .int kl (k : Int)) (hc : a.eval c = .int kc (k : Int)) (hk : k ≤ 20000)
    (hK : ∀ w', w'.heap[w.heap.size]? = some (.cells (ubs (List.replicate k 0)).toArray 5 (0, 0)) → w.grownBy w' none → wpListIn F n Tryz.prog ops Q rest (a.put o.dst (.slice (some ⟨w.heap.size, 0, none⟩) k k)) w') :
    wpListIn F n Tryz.prog ops Q (o :: rest) a w := by
  obtain ⟨i0, hi, hz0, hz1, hz2⟩ := info_parts infoB5
  refine wpListIn_plain hg fun K hK' => ?_
  have hr := run_make (P := Tryz.prog) w 39 5 i0 (.int .u8 0) Tryz.underlying39 hi hz0 kl kc k k (by omega) (Int.le_refl _) (by rw [hz2]; omega) (by omega)
  simp only [Int.toNat_natCast] at hr
  rw [hz1, Nat.mul_one] at hr
  unfold Oper.wpIn
  refine ⟨?_, ?_⟩
  · simp [Oper.about, hop]
  · rw [Oper.semAt_plain F _ _ (by rw [hop]; intro c hc'; cases hc')]
    simp [execOp, hop, hl, hc, hr, Result.andThen]
    exact hK' _ _ (hK _ (by rw [← made_bytes]; exact World.alloc_heap_new w _) (World.grownBy_alloc w _ none))
theorem ownFrom_block {β : Type} {B i : Nat} {o : β → Obj} (hc : ∀ s, (o s).isCells = true) : OwnFrom B (fun (s : β) W => W.heap[i]? = some (o s)) :=
  fun s _ _ _ hs hg hr => (grownBy_keeps_cells hg (fun r e => (hr r e).2) hs (hc s)).trans hs
theorem set_block {W : World} {g t : Nat} {A : List UInt8} (h : W.heap[g]? = some (.cells (ubs A).toArray 5 (0, 0))) (y : UInt8) : (W.setCell ⟨g, t, none⟩ (.int .u8 (y.toNat : Int))).drew.heap[g]? = some (.cells (ubs (A.set t y)).toArray 5 (0, 0)) := by
  show (W.setCell ⟨g, t, none⟩ (.int .u8 (y.toNat : Int))).heap[g]? = _
  obtain ⟨h1, h2⟩ := Array.getElem?_eq_some_iff.1 h
  unfold World.setCell
  rw [Array.getElem?_eq_getElem (by simpa using h1), Array.getElem_modify]
  simp [h2, ubs, List.map_set]
theorem set_other {W : World} {g k t : Nat} (v : Value) (hne : k ≠ g) : (W.setCell ⟨g, t, none⟩ v).drew.heap[k]? = W.heap[k]? := Below.heap_setCell W ⟨g, t, none⟩ v k hne
theorem keeps_drew {W W' : World} (h : KeepsOthers W W') : KeepsOthers W W'.drew := ⟨h.size, h.same⟩
theorem row_of_block {w : World} {B g len : Nat} {L : List UInt8} (h : w.heap[g]? = some (.cells (ubs L).toArray 5 (0, 0))) (hL : L.length = len) (hB : B ≤ g) (hlen : len ≤ 20000) : w.ownsRow B 5 1 (.slice (some ⟨g, 0, none⟩) len len) L.length (ubs L) := by
  subst hL
  refine ⟨by simp [ubs], .inr ⟨g, L.length, (ubs L).toArray, rfl, hB, h, Nat.le_refl _, by unfold maxLen; omega, by simp [ubs], ?_⟩⟩
  rw [Nat.mul_one, List.take_of_length_le (by simp [ubs])]
end Go.Proofs.YtpnofkefcoaojaaGreatDoor
