/- What the laws' rows want in common: the list of variables. -/
import Derived.Test.YtigidchicloleaaGreatDoorQA
import Derived.Test.YtigidchicloleaaGreatDoorCards
import Derived.Test.YtigidchicloleaaGreatDoorTie
import Derived.ProofKit
import Derived.OpenShut
import Derived.ShutString
import Derived.LaidMore
import Derived.ChangeMaps5
import Derived.ChangeSlices
import Derived.Carry
import Derived.Stop.LaidErr
import Derived.RowKitTokens
import Derived.Deep.DeepHandedRow
import Derived.Deep.Strs
import Derived.Lib.LaidTab
import Derived.SliceStrings
import Derived.Deep.Slices
import Derived.Lib.SmallJoins
set_option maxRecDepth 100000
namespace Go.Proofs.YtigidchicloleaaGreatDoor
open Go.ChangeMaps Go.ChangeShapes Go.WideShapes Go.ChangeAt Go.RowKit
namespace Arr
theorem ownK : ownKnob Tryz.prog.godebug = none := by kernel_rfl
section
variable {H : Type} {enc : TypeId × Value → H} {P : Program}
theorem post_of_below {f : Func} {s : ChangeSpec} {apart fresh handsOn again : Bool} {W W' : World} {args : Array Value} {v : Value} {ds gs : List (DataW H)} {before pa pv : List MemPlace}
    (hW : DataW.Whole enc P f.params.toList s.vars apart W args.toList ds gs before)
    (hres : ∀ (b : Nat) (sp : Nat → Bool) (hd : Bool), DataW.TrodAll enc P W' b sp hd f.resultTypes.toList (v.resultList f.resultTypes.size) (s.fn H (ds ++ gs)).results [])
    (hargs : ∀ sp : Nat → Bool, (∀ p ∈ before, sp p.block = true) → DataW.TrodAll enc P W' 0 sp true f.params.toList args.toList (s.fn H (ds ++ gs)).args pa)
    (hvars : ∀ sp : Nat → Bool, (∀ p ∈ before, sp p.block = true) → DataW.TrodVars enc P W' sp s.vars (s.fn H (ds ++ gs)).vars pv)
    (hps : before = pa ++ pv) (hb : Below W.heap.size W W')
    (hok : ∀ (j : Nat) (t : TypeId) (r : Value), f.resultTypes[j]? = some t → (v.resultList f.resultTypes.size)[j]? = some r → Value.okWide P W' .any 0 t r) :
    s.post enc P f apart fresh handsOn again W args v W' := by
  have hlt : ∀ p ∈ before, p.block < W.heap.size := fun p hp => hW.lt p hp
  have hold : ∀ p ∈ before, (fun b => decide (b < W.heap.size)) p.block = true := fun p hp => by simpa using hlt p hp
  refine ⟨ds, gs, before, [], pa, pv, hW, hres _ _ _, hargs _ hold, hvars _ hold, World.keptBut_mono (fun p hp => ⟨hp, ?_⟩) (hb.frame (· ∈ before)), fun _ => ?_⟩
  · rw [hps, List.mem_append] at hp
    exact Or.inr hp
  · obtain ⟨_, _, _, _, _, hz, hn⟩ := hW
    refine ⟨hok, _, _, ([] ++ pa) ++ pv, ⟨[] ++ pa, pv, trodAll_append (hargs _ (fun _ _ => rfl)) (hres _ _ _), hvars _ (fun _ _ => rfl), rfl, ?_, ?_⟩, ?_⟩
    · intro b off hp
      have hin : MemPlace.cell b off ∈ before := by rw [hps]; simpa using hp
      rw [hb.frozen (hlt _ hin)]
      exact hz b off hin
    · intro ha
      have := hn ha
      rw [hps] at this
      simpa using this
    · intro p hp _
      rw [hps]
      simpa using hp
end
section
variable {H : Type} {enc : TypeId × Value → H} {P : Program}
theorem trodAll_stays (hl : laidOutB P = true) {W W' : World} (hb : Below W.heap.size W W') (sp : Nat → Bool) :
    ∀ (ts : List TypeId) (vs : List Value) (ds : List (DataW H)) (ps : List MemPlace), (∀ t ∈ ts, P.readableRec t = true) → (∀ t ∈ ts, t < P.types.size) →
      DataW.TrodAll enc P W 0 (fun _ => true) true ts vs ds ps → (∀ x ∈ ps, x.block < W.heap.size) → (∀ x ∈ ps, sp x.block = true) → DataW.TrodAll enc P W' 0 sp true ts vs ds ps := by
  intro ts
  induction ts with
  | nil =>
    intro vs ds ps _ _ h _ _
    obtain ⟨rfl, rfl, rfl⟩ := trodAll_nil h
    exact trodAll_mk0
  | cons t ts ih =>
    intro vs ds ps hr hrow h hlt hsp
    obtain ⟨v, vs', d, ds', p, q, rfl, rfl, rfl, h0, h1⟩ := trodAll_cons h
    exact trodAll_cons_mk (WideElems.Trod_stays hl (hr t (by simp)) (hrow t (by simp)) h0 (fun x hx => hb.same (hlt x (by simp [hx]))) (fun x hx => hsp x (by simp [hx])))
      (ih vs' ds' q (fun t ht => hr t (by simp [ht])) (fun t ht => hrow t (by simp [ht])) h1 (fun x hx => hlt x (by simp [hx])) (fun x hx => hsp x (by simp [hx])))
end
theorem gPow : Tryz.prog.globalNamed "internal/strconv.uint64pow10" = some 5 := by kernel_rfl
theorem gPowType : (Tryz.prog.globals[5]?).map (·.type) = some 237 := by kernel_rfl
theorem cells215 : Tryz.prog.cellsOf 237 = 20 := by kernel_rfl
theorem cells125 : Tryz.prog.cellsOf 151 = 1 := by kernel_rfl
theorem gSyn : Tryz.prog.globalNamed "strconv.ErrSyntax" = some 0 := by kernel_rfl
theorem gSynType : (Tryz.prog.globals[0]?).map (·.type) = some 131 := by kernel_rfl
theorem gRng : Tryz.prog.globalNamed "strconv.ErrRange" = some 1 := by kernel_rfl
theorem gRngType : (Tryz.prog.globals[1]?).map (·.type) = some 131 := by kernel_rfl
theorem starErr : "*" ++ "errors.errorString" = "*errors.errorString" := by decide
theorem rowErr (u : TypeId) (h : Tryz.prog.typeName? 3 u = some "*errors.errorString") : u = 217 :=
  typeName_ptr_named (nm := "errors.errorString") (by rw [starErr]; kernel_rfl) (by kernel_rfl) (by decide) u (by rw [starErr]; exact h)
theorem env_met {W : World} (h : laidMet Tryz.prog Rows.arrayTwiceRow.laid W) : Env W := by
  have h3 := laidMet.tail (laidMet.tail h)
  have h4 := laidMet.tail h3
  have h5 := laidMet.tail h4
  refine ⟨Lib.tabIs_of_head gPow gPowType Tryz.underlying237 Tryz.underlying151 cells125 cells215 h3, ?_, ?_⟩
  · obtain ⟨a, s, hv, -, -, -⟩ := laid_sentinel h5 gSyn gSynType Tryz.underlying131 rowErr Tryz.underlying217 Tryz.underlying219 rfl rfl Tryz.underlying9 (by kernel_rfl) (by kernel_rfl)
    exact ⟨_, by simpa using World.var?_cell gSyn hv 0, .inr ⟨_, _, rfl⟩⟩
  · obtain ⟨a, s, hv, -, -, -⟩ := laid_sentinel h4 gRng gRngType Tryz.underlying131 rowErr Tryz.underlying217 Tryz.underlying219 rfl rfl Tryz.underlying9 (by kernel_rfl) (by kernel_rfl)
    exact ⟨_, by simpa using World.var?_cell gRng hv 0, .inr ⟨_, _, rfl⟩⟩
theorem env_laid {W : World} (h : laidMetH Tryz.prog Rows.arrayTwiceRow.laid W) : Env W := by
  rw [MakeChecks.laidMetH_plain _ _ _ (by kernel_rfl)] at h
  exact env_met h
theorem laidAll : laidOutB Tryz.prog = true := by kernel_rfl
end Arr
end Go.Proofs.YtigidchicloleaaGreatDoor
set_option maxRecDepth 100000
namespace Go.Proofs.YtigidchicloleaaGreatDoor
open Go.ChangeMaps Go.ChangeShapes Go.WideShapes Go.ChangeAt Go.RowKit Go.Deep
namespace Arr
theorem cells3' : Tryz.prog.cellsOf 3 = 1 := by kernel_rfl
theorem cells9' : Tryz.prog.cellsOf 9 = 1 := by kernel_rfl
theorem cells64' : Tryz.prog.cellsOf 66 = 3 := by kernel_rfl
theorem cells25' : Tryz.prog.cellsOf 25 = 2 := by kernel_rfl
theorem cells22' : Tryz.prog.cellsOf 22 = 1 := by kernel_rfl
theorem cells23' : Tryz.prog.cellsOf 23 = 1 := by kernel_rfl
theorem cells36' : Tryz.prog.cellsOf 36 = 1 := by kernel_rfl
theorem at_addr {w : World} {a : Addr} {x : Value} (h : w.cell? a = some x) : ∃ b off, a = ⟨b, off, none⟩ ∧ b < w.heap.size := by
  have hs := World.cell?_spot h
  obtain ⟨b, off, sp⟩ := a
  simp only at hs
  subst hs
  refine ⟨b, off, rfl, Classical.byContradiction fun hx => ?_⟩
  simp [World.cell?, hx] at h
section
variable {H : Type} {enc : TypeId × Value → H} {w : World} {base : Nat} {spare : Nat → Bool} {held : Bool} {v : Value} {y : DataW H × List MemPlace} {n : Nat}
theorem in_ints (h : DataW.trod enc Tryz.prog w base spare held n 22 [v] = some y) : ∃ (q : Option Addr) (c : Nat) (l : List Int), v = .slice q l.length c ∧ Rd w q l := by
  rcases open_ints Tryz.underlying22 Tryz.underlying3 cells3' h with ⟨e, -⟩ | ⟨a, len, cap, zs, e, hb, hl, hm, hlen, -, hc, hwf⟩
  · simp at e
    exact ⟨none, 0, [], e, fun z hz => (by cases hz), .inl rfl⟩
  · simp at e
    have hz : len ≤ zs.length := by rw [hlen]; split <;> omega
    have hll : (zs.take len).length = len := by simp [hz]
    refine ⟨some a, cap, zs.take len, by rw [hll]; exact e, fun z hz2 => bounds_i64 (hwf z (List.mem_of_mem_take hz2)), ?_⟩
    by_cases h0 : len = 0
    · exact .inl (by rw [hll]; exact h0)
    · have h1 := hc 0 (by omega)
      rw [Addr.add_zero'] at h1
      obtain ⟨b, off, rfl, hlt⟩ := at_addr h1
      refine .inr ⟨b, off, rfl, hlt, fun j hj => ?_⟩
      rw [hll] at hj
      have h2 := hc j (by omega)
      rw [Addr.add_lit] at h2
      rw [h2, List.getD_eq_getElem?_getD, List.getD_eq_getElem?_getD, List.getElem?_take_of_lt hj]
theorem in_strs (h : DataW.trod enc Tryz.prog w base spare held n 23 [v] = some y) : ∃ (q : Option Addr) (c : Nat) (l : List (List UInt8)), v = .slice q l.length c ∧ RdS w q l := by
  rcases open_strings Tryz.underlying23 Tryz.underlying9 cells9' h with ⟨e, -⟩ | ⟨a, len, cap, ss, e, hb, hl, hm, hlen, -, hc, -⟩
  · simp at e
    exact ⟨none, 0, [], e, .inl rfl⟩
  · simp at e
    have hz : len ≤ ss.length := by rw [hlen]; split <;> omega
    have hll : ((ss.take len).map (·.data.toList)).length = len := by simp [hz]
    refine ⟨some a, cap, (ss.take len).map (·.data.toList), by rw [hll]; exact e, ?_⟩
    by_cases h0 : len = 0
    · exact .inl (by rw [hll]; exact h0)
    · have h1 := hc 0 (by omega)
      rw [Addr.add_zero'] at h1
      obtain ⟨b, off, rfl, hlt⟩ := at_addr h1
      refine .inr ⟨b, off, rfl, hlt, fun j hj => ?_⟩
      rw [hll] at hj
      have h2 := hc j (by omega)
      rw [Addr.add_lit] at h2
      have hj2 : j < ss.length := by omega
      rw [h2]
      simp [List.getD_eq_getElem?_getD, hj, hj2]
theorem in_cuts (h : DataW.trod enc Tryz.prog w base spare held n 36 [v] = some y) : ∃ (q : Option Addr) (c : Nat) (l : List (Int × Int × Int)), v = .slice q l.length c ∧ RdC w q l := by
  rcases open_slice Tryz.underlying36 h with ⟨e, -⟩ | ⟨a, len, cap, m, n2, D, Pl, e, hb, hl, hm, hmm, -, hi⟩
  · simp at e
    exact ⟨none, 0, [], e, fun z hz => (by cases hz), .inl rfl⟩
  · simp at e
    have hlm : len ≤ m := by rw [hmm]; split <;> omega
    rw [cells64'] at hi
    have each : ∀ i, i < len → ∃ z : Int × Int × Int, (w.cell? (a.add (i * 3)) = some (.int .i64 z.1) ∧ w.cell? (a.add (i * 3 + 1)) = some (.int .i64 z.2.1) ∧ w.cell? (a.add (i * 3 + 2)) = some (.int .i64 z.2.2)) ∧ -9223372036854775808 ≤ z.2.1 ∧ z.2.1 ≤ 9223372036854775807 := fun i hil => by
      obtain ⟨cs, hcs, ht⟩ := hi i (by omega)
      obtain ⟨-, hlen, hat⟩ := World.cells?_some hcs
      obtain ⟨y0, y1, y2, n3, -, -, g0, g1, g2⟩ := trod_struct3 Tryz.underlying66 ht
      obtain ⟨z0, e0, -, -⟩ := DataW.trod_int Tryz.underlying3 g0
      obtain ⟨z1, e1, -, w1⟩ := DataW.trod_int Tryz.underlying3 g1
      obtain ⟨z2, e2, -, -⟩ := DataW.trod_int Tryz.underlying3 g2
      have c0 := hat 0 (by omega)
      have c1 := hat 1 (by omega)
      have c2 := hat 2 (by omega)
      match cs, hlen with
      | [x0, x1, x2], _ =>
        simp [cells3'] at e0 e1 e2
        subst e0 e1 e2
        refine ⟨(z0, z1, z2), ⟨?_, ?_, ?_⟩, bounds_i64 w1⟩
        · simpa [Addr.add] using c0
        · rw [← Go.Deep.add_add]; exact c1
        · rw [← Go.Deep.add_add]; exact c2
    refine ⟨some a, cap, (List.range len).map (fun i => if hil : i < len then (each i hil).choose else (0, 0, 0)), by simpa using e, fun z hz => ?_, ?_⟩
    · obtain ⟨i, hi2, rfl⟩ := List.mem_map.1 hz
      have hil := List.mem_range.1 hi2
      rw [dif_pos hil]
      exact (each i hil).choose_spec.2
    · by_cases h0 : len = 0
      · exact .inl (by simpa using h0)
      · obtain ⟨zz, ⟨h1, -⟩, -⟩ := each 0 (by omega)
        rw [Nat.zero_mul, Addr.add_zero'] at h1
        obtain ⟨b, off, rfl, hlt⟩ := at_addr h1
        refine .inr ⟨b, off, rfl, hlt, fun j hj => ?_⟩
        have hjl : j < len := by simpa using hj
        have h2 := (each j hjl).choose_spec.1
        have e3 : ((List.range len).map (fun i => if hil : i < len then (each i hil).choose else (0, 0, 0))).getD j (0, 0, 0) = (each j hjl).choose := by
          rw [List.getD_eq_getElem?_getD, List.getElem?_map, List.getElem?_range hjl]
          show (if hil : j < len then (each j hil).choose else (0, 0, 0)) = _
          rw [dif_pos hjl]
        rw [e3]
        revert h2
        generalize (each j hjl).choose = zc
        intro h2
        rw [Addr.add_lit, Addr.add_lit, Addr.add_lit] at h2
        simpa [Nat.add_assoc] using h2
end
end Arr
end Go.Proofs.YtigidchicloleaaGreatDoor
set_option maxRecDepth 100000
namespace Go.Proofs.YtigidchicloleaaGreatDoor
open Go.ChangeMaps Go.ChangeShapes Go.WideShapes Go.ChangeAt Go.RowKit Go.Deep
namespace Arr
theorem cells38' : Tryz.prog.cellsOf 38 = 5 := by kernel_rfl
theorem array5 {α : Type} {cs : Array α} (h : cs.size = 5) : ∃ c0 c1 c2 c3 c4, cs = #[c0, c1, c2, c3, c4] := by
  obtain ⟨l⟩ := cs
  match l, h with
  | [a, b, c, d, e], _ => exact ⟨a, b, c, d, e, rfl⟩
section
variable {H : Type} {enc : TypeId × Value → H} {w : World} {base b0 : Nat} {spare : Nat → Bool} {held : Bool} {r : Reach} {v : Value} {d : DataW H} {p : List MemPlace}
theorem in_pasting (hv : Value.okWide Tryz.prog w r b0 38 v) (h : DataW.Trod enc Tryz.prog w base spare held 38 v d p) :
    ∃ (pa qa pc p2 q2 : Option Addr) (c c' cd c2 d2 : Nat) (s t : List Int) (l bl : List (List UInt8)) (k : List (Int × Int × Int)), v = .agg #[.slice pa s.length c, .slice qa l.length c', .slice pc k.length cd, .slice p2 t.length c2, .slice q2 bl.length d2] ∧ Rd w pa s ∧ RdS w qa l ∧ RdC w pc k ∧ Rd w p2 t ∧ RdS w q2 bl := by
  obtain ⟨cs, rfl, hsz⟩ := okWide_struct Tryz.underlying38 hv
  obtain ⟨x0, x1, x2, x3, x4, rfl⟩ := array5 (hsz.trans cells38')
  obtain ⟨fuel, hf⟩ := h
  obtain ⟨y0, y1, y2, n, -, -, h0, h1, h2⟩ := trod_struct3 Tryz.underlying38 hf
  simp [Value.cells, cells25', cells36'] at h0 h1 h2
  obtain ⟨y3, y4, n2, -, -, g0, g1⟩ := trod_struct2 Tryz.underlying25 h0
  simp [cells22', cells23'] at g0 g1
  obtain ⟨y5, y6, n3, -, -, g2, g3⟩ := trod_struct2 Tryz.underlying25 h2
  simp [cells22', cells23'] at g2 g3
  obtain ⟨pa, c, s, rfl, hr0⟩ := in_ints g0
  obtain ⟨qa, c', l, rfl, hr1⟩ := in_strs g1
  obtain ⟨pc, cd, k, rfl, hr2⟩ := in_cuts h1
  obtain ⟨p2, c2, t, rfl, hr3⟩ := in_ints g2
  obtain ⟨q2, d2, bl, rfl, hr4⟩ := in_strs g3
  exact ⟨pa, qa, pc, p2, q2, c, c', cd, c2, d2, s, t, l, bl, k, rfl, hr0, hr1, hr2, hr3, hr4⟩
end
theorem readable38 : Tryz.prog.readableRec 38 = true := by kernel_rfl
theorem inTypes38 : 38 < Tryz.prog.types.size := of_decide_eq_true (by kernel_rfl)
end Arr
end Go.Proofs.YtigidchicloleaaGreatDoor
