/- The law ArrayReduced. -/
import Derived.Test.YtlcpcpmlfegejaaGreatDoorLE
import Derived.Test.YtlcpcpmlfegejaaGreatDoorLD
import Derived.Test.YtlcpcpmlfegejaaGreatDoorCards
import Derived.Test.YtlcpcpmlfegejaaGreatDoorTie
import Derived.ProofKit
import Derived.OpenShut
import Derived.ShutString
import Derived.LaidMore
import Derived.ChangeMaps5
import Derived.ChangeSlices
import Derived.Carry
import Derived.Stop.LaidErr
import Derived.RowKitTokens
import Derived.Deep.DeepHandedRow
import Derived.Deep.Strs
import Derived.Lib.LaidTab
import Derived.SliceStrings
import Derived.Deep.Slices
import Derived.Lib.SmallJoins
set_option maxHeartbeats 8000000
set_option maxRecDepth 100000
namespace Go.Proofs.YtlcpcpmlfegejaaGreatDoor.Arr
open Go.RowKit Go.Shelf
open Go.Lib
attribute [local go_sem] Oper.semAt_some
theorem lengthy_any (p : Option Addr) (c n : Nat) (l : List (List UInt8)) (w : World) (HL : Hid (l.length = n)) (h : RdS w p l) : Calls Tryz.prog 8 #[.slice p n c] w fun e w' => Below w.heap.size w w' ∧ e = .returned (.bool (wideT [] l)) := by
  have H := Lib.hid (wide_any none p 0 c 0 n [] l w (Lib.hid rfl) HL h)
  clear h
  go_enter Tryz.func8, Tryz.ntmps8
  go_wp2_with fail
  refine H.out.mono ?_
  rintro e w1 ⟨hb, rfl⟩
  have HB := Lib.hid hb
  clear hb
  go_wp2_with fail
  go_ret
  exact ⟨HB.out, rfl⟩
theorem strs_own {W : World} {B m cv : Nat} {pv : Option Addr} {X : List (List UInt8)} (h : W.ownsRow B 9 1 (.slice pv m cv) m (strs X)) {k : Nat} (hk : (Value.slice pv m cv).ownBlock = some k) : B ≤ k := by
  obtain ⟨-, ⟨e, -⟩ | ⟨g, cap, cur, e, hg, -⟩⟩ := h
  · rw [e] at hk; cases hk
  · rw [e] at hk
    simp only [Value.ownBlock, Option.some.injEq] at hk
    omega
theorem strs_rd {W : World} {B m cv : Nat} {pv : Option Addr} {X : List (List UInt8)} (h : W.ownsRow B 9 1 (.slice pv m cv) m (strs X)) (hm : X.length = m) : RdS W pv X := by
  obtain ⟨-, ⟨e, e2⟩ | ⟨g, cap, cur, e, hg, hh, -⟩⟩ := id h
  · exact .inl (by omega)
  · injection e with e _ e3
    subst e
    refine .inr ⟨g, 0, rfl, (Array.getElem?_eq_some_iff.1 hh).1, fun j hj => ?_⟩
    rw [Nat.zero_add, h.cellAt j (by omega), strs, List.getElem?_map, List.getElem?_eq_getElem hj, List.getD_eq_getElem?_getD, List.getElem?_eq_getElem hj]
    rfl
theorem redV_rev (l : List (List UInt8)) (red : Int) : redV l.reverse red = redV l red := by
  unfold redV
  rw [List.all_reverse, redT_perm red (show (numsL l.reverse).Perm (numsL l) from (List.reverse_perm l).filterMap num)]
theorem reduced_law (p : Option Addr) (c n : Nat) (red : Int) (l : List (List UInt8)) (w : World) (he : Env w) (HL : Hid (l.length = n)) (h : RdS w p l) : Calls Tryz.prog 3 #[.slice p n c, .int .i64 red] w fun e w' => Below w.heap.size w w' ∧ e = .returned (.bool true) := by
  have HE := Lib.hid he
  have HRD := Lib.hid h
  have HSANE : Hid (∀ W, Below w.heap.size w W → Calls Tryz.prog 9 #[] W fun e w' => Below W.heap.size W w' ∧ e = .returned (.bool true)) := Lib.hid fun W hW => sane_any W (HE.out.below hW)
  have H8 := Lib.hid (lengthy_any p c n l w HL h)
  clear he h
  cases hw : wideT [] l with
  | true =>
    rw [hw] at H8
    clear hw
    go_enter Tryz.func3, Tryz.ntmps3
    go_wp2_with fail
    refine H8.out.mono ?_
    rintro e w1 ⟨hb1, rfl⟩
    have HB1 := Lib.hid hb1
    clear hb1
    go_wp2_with fail
    refine (HSANE.out _ HB1.out).mono ?_
    rintro e w2 ⟨hb2, rfl⟩
    have HB2 := Lib.hid (HB1.out.trans (hb2.mono HB1.out.size))
    clear hb2
    go_wp2_with fail
    go_ret
    exact ⟨HB2.out, rfl⟩
  | false =>
    have hn : n ≤ 100 := by
      unfold wideT at hw
      rw [Bool.or_eq_false_iff, Bool.or_eq_false_iff, decide_eq_false_iff_not, decide_eq_false_iff_not, HL.out] at hw
      omega
    rw [hw] at H8
    obtain ⟨A, z, HV⟩ : ∃ A z, Hid (redV l red = (A, z)) := ⟨_, _, Lib.hid rfl⟩
    have H10 : Hid (∀ W, Below w.heap.size w W → Calls Tryz.prog 10 #[.slice p n c, .int .i64 red] W (RedPost (A, z) W)) := Lib.hid fun W hW => by
      have := reduced_any p n c red l W (HE.out.below hW) HL.out (by omega) (HRD.out.below hW)
      rwa [HV.out] at this
    have H11 : Hid (∀ W, Below w.heap.size w W → Calls Tryz.prog 11 #[.slice p n c, .int .i64 red] W (RedPost (A, z) W)) := Lib.hid fun W hW => by
      have := rreduced_any p n c red l W HL (by omega) (HRD.out.below hW)
      rwa [HV.out] at this
    have H10B : Hid (∀ W pv m cv X, Below w.heap.size w W → X = l.reverse → X.length = m → RdS W pv X → Calls Tryz.prog 10 #[.slice pv m cv, .int .i64 red] W (RedPost (A, z) W)) := Lib.hid fun W pv m cv X hW hX hm hr => by
      have := reduced_any pv m cv red X W (HE.out.below hW) hm (by subst hX; rw [← hm, List.length_reverse, HL.out]; omega) hr
      rwa [hX, redV_rev, HV.out] at this
    have hn1 : (n : Int) ≤ 100 := by omega
    have HN := Lib.hid hn
    clear hw hn
    go_enter Tryz.func3, Tryz.ntmps3
    go_wp2_with fail
    refine H8.out.mono ?_
    rintro e w1 ⟨hb1, rfl⟩
    have HB1 := Lib.hid hb1
    clear hb1
    go_wp2_with fail
    refine (H10.out _ HB1.out).mono ?_
    rintro e w2 ⟨rfl, hb2⟩
    have HB2 := Lib.hid (HB1.out.trans (hb2.mono HB1.out.size))
    clear hb2
    go_wp2_with fail
    refine (H11.out _ HB2.out).mono ?_
    rintro e w3 ⟨rfl, hb3⟩
    have HB3 := Lib.hid (HB2.out.trans (hb3.mono HB2.out.size))
    clear hb3
    go_wp2_with fail
    go_loopw [9, 10] (fun tv iv wr => ∃ (k : Nat) (pv : Option Addr) (cv m : Nat) (X : List (List UInt8)), k ≤ n ∧ iv = .int .i64 ((k : Int) - 1) ∧ tv = .slice pv m cv ∧ Hid (X = (l.drop k).reverse) ∧ Hid (X.length = m) ∧ Hid (wr.ownsRow w.heap.size 9 1 (.slice pv m cv) m (strs X)) ∧ Hid (Below w.heap.size w wr)) (fun _ iv _ => (intOf iv + 1).toNat)
    case atStart => exact ⟨n, none, 0, 0, [], Nat.le_refl _, rfl, rfl, Lib.hid (by rw [List.drop_of_length_le (by have := HL.out; omega)]; rfl), Lib.hid rfl, Lib.hid ⟨by simp [strs], .inl ⟨rfl, rfl⟩⟩, HB3⟩
    case round =>
      obtain ⟨k, pv, cv, m, X, hkn, rfl, rfl, HX, HM, HOWN, HBW⟩ := hrel
      cases k with
      | zero =>
        rw [show ((0 : Nat) : Int) - 1 = -1 from rfl]
        have HRV : Hid (X = l.reverse) := Lib.hid (by rw [HX.out]; rfl)
        have HC := Lib.hid (H10B.out wr pv m cv X HBW.out HRV.out HM.out (strs_rd HOWN.out HM.out))
        go_wp2_with fail
        refine HC.out.mono ?_
        rintro e w4 ⟨rfl, hb4⟩
        have HB4 := Lib.hid (HBW.out.trans (hb4.mono HBW.out.size))
        clear hb4
        go_wp2_with fail
        refine (HSANE.out _ HB4.out).mono ?_
        rintro e w5 ⟨hb5, rfl⟩
        have HB5 := Lib.hid (HB4.out.trans (hb5.mono HB4.out.size))
        clear hb5
        go_wp2_with fail
        go_ret
        exact ⟨HB5.out, rfl⟩
      | succ k =>
        rw [show ((k + 1 : Nat) : Int) - 1 = (k : Int) by omega]
        obtain ⟨b, off, x, rfl, hbl, hcell, HXX⟩ := HRD.out.at (k := k) (by have := HL.out; omega)
        have s0 : wr.cell? ⟨b, off + k, none⟩ = some (.string ⟨List.toArray x⟩) := (HBW.out.cell (p := ⟨b, off + k, none⟩) hbl).trans hcell
        clear hcell
        have hk0 : (0 : Int) ≤ (k : Int) := by omega
        have hk1 : (k : Int) < (n : Int) := by omega
        obtain ⟨U, HUA⟩ : ∃ U, Hid (wr.alloc (.cells #[.string ⟨List.toArray x⟩] 9) = U) := ⟨_, Lib.hid rfl⟩
        have HBU : Hid (Below wr.heap.size wr U) := Lib.hid (by rw [← HUA.out]; exact (Below.refl _ _).alloc (Nat.le_refl _) _)
        have HUC : Hid (U.cell? ⟨wr.heap.size, 0, none⟩ = some (.string ⟨List.toArray x⟩)) := Lib.hid (by
          have hh : U.heap[wr.heap.size]? = some (.cells #[.string ⟨List.toArray x⟩] 9 (0, 0)) := by rw [← HUA.out]; exact World.alloc_heap_new _ _
          simp [World.cell?, hh])
        have HOU : Hid (U.ownsRow w.heap.size 9 1 (.slice pv m cv) m (strs X)) := Lib.hid (HOWN.out.kept (gb_of_below HBU.out none) (by cases pv <;> simp [Value.ownBlock]))
        have HBWU : Hid (Below w.heap.size w U) := Lib.hid (HBW.out.trans (HBU.out.mono HBW.out.size))
        have HMN : Hid (m ≤ 100000) := Lib.hid (by have h1 := HM.out; rw [HX.out, List.length_reverse, List.length_drop, HL.out] at h1; have := HN.out; omega)
        have HNX : Hid (X ++ [x] = (l.drop k).reverse) := Lib.hid (by
          have hkl : k < l.length := by have := HL.out; omega
          rw [List.drop_eq_getElem_cons hkl, List.reverse_cons, ← HX.out, HXX.out, List.getD_eq_getElem?_getD, List.getElem?_eq_getElem hkl]
          rfl)
        go_wp2_with (first | (rw [HUA.out]; at_builtin; refine wpList_append_1s rfl (.tmp 35) (.tmp 40) rfl w.heap.size pv cv m X rfl HOU.out wr.heap.size x rfl HUC.out HMN.out HBWU.out.size ?_; intro gv cv' w6 ho6 hg6; have HO6 := Lib.hid ho6; have HB6 : Hid (Below w.heap.size w w6) := Lib.hid (HBWU.out.grown hg6 HBWU.out.size (fun q hq => strs_own HOU.out hq)); clear ho6 hg6))
        go_roundw
        case rel => exact ⟨k, some ⟨gv, 0, none⟩, cv', m + 1, X ++ [x], by omega, rfl, rfl, HNX, Lib.hid (by rw [List.length_append, HM.out]; rfl), HO6, HB6⟩
        case measure => simp [intOf]
end Go.Proofs.YtlcpcpmlfegejaaGreatDoor.Arr
set_option maxRecDepth 100000
namespace Go.Proofs.YtlcpcpmlfegejaaGreatDoor
open Go.ChangeMaps Go.ChangeShapes Go.WideShapes Go.ChangeAt Go.RowKit
namespace Arr
theorem ownK : ownKnob Tryz.prog.godebug = none := by kernel_rfl
section
variable {H : Type} {enc : TypeId × Value → H} {P : Program}
theorem post_of_below {f : Func} {s : ChangeSpec} {apart fresh handsOn again : Bool} {W W' : World} {args : Array Value} {v : Value} {ds gs : List (DataW H)} {before pa pv : List MemPlace}
    (hW : DataW.Whole enc P f.params.toList s.vars apart W args.toList ds gs before)
    (hres : ∀ (b : Nat) (sp : Nat → Bool) (hd : Bool), DataW.TrodAll enc P W' b sp hd f.resultTypes.toList (v.resultList f.resultTypes.size) (s.fn H (ds ++ gs)).results [])
    (hargs : ∀ sp : Nat → Bool, (∀ p ∈ before, sp p.block = true) → DataW.TrodAll enc P W' 0 sp true f.params.toList args.toList (s.fn H (ds ++ gs)).args pa)
    (hvars : ∀ sp : Nat → Bool, (∀ p ∈ before, sp p.block = true) → DataW.TrodVars enc P W' sp s.vars (s.fn H (ds ++ gs)).vars pv)
    (hps : before = pa ++ pv) (hb : Below W.heap.size W W')
    (hok : ∀ (j : Nat) (t : TypeId) (r : Value), f.resultTypes[j]? = some t → (v.resultList f.resultTypes.size)[j]? = some r → Value.okWide P W' .any 0 t r) :
    s.post enc P f apart fresh handsOn again W args v W' := by
  have hlt : ∀ p ∈ before, p.block < W.heap.size := fun p hp => hW.lt p hp
  have hold : ∀ p ∈ before, (fun b => decide (b < W.heap.size)) p.block = true := fun p hp => by simpa using hlt p hp
  refine ⟨ds, gs, before, [], pa, pv, hW, hres _ _ _, hargs _ hold, hvars _ hold, World.keptBut_mono (fun p hp => ⟨hp, ?_⟩) (hb.frame (· ∈ before)), fun _ => ?_⟩
  · rw [hps, List.mem_append] at hp
    exact Or.inr hp
  · obtain ⟨_, _, _, _, _, hz, hn⟩ := hW
    refine ⟨hok, _, _, ([] ++ pa) ++ pv, ⟨[] ++ pa, pv, trodAll_append (hargs _ (fun _ _ => rfl)) (hres _ _ _), hvars _ (fun _ _ => rfl), rfl, ?_, ?_⟩, ?_⟩
    · intro b off hp
      have hin : MemPlace.cell b off ∈ before := by rw [hps]; simpa using hp
      rw [hb.frozen (hlt _ hin)]
      exact hz b off hin
    · intro ha
      have := hn ha
      rw [hps] at this
      simpa using this
    · intro p hp _
      rw [hps]
      simpa using hp
end
section
variable {H : Type} {enc : TypeId × Value → H} {P : Program}
theorem trodAll_stays (hl : laidOutB P = true) {W W' : World} (hb : Below W.heap.size W W') (sp : Nat → Bool) :
    ∀ (ts : List TypeId) (vs : List Value) (ds : List (DataW H)) (ps : List MemPlace), (∀ t ∈ ts, P.readableRec t = true) → (∀ t ∈ ts, t < P.types.size) →
      DataW.TrodAll enc P W 0 (fun _ => true) true ts vs ds ps → (∀ x ∈ ps, x.block < W.heap.size) → (∀ x ∈ ps, sp x.block = true) → DataW.TrodAll enc P W' 0 sp true ts vs ds ps := by
  intro ts
  induction ts with
  | nil =>
    intro vs ds ps _ _ h _ _
    obtain ⟨rfl, rfl, rfl⟩ := trodAll_nil h
    exact trodAll_mk0
  | cons t ts ih =>
    intro vs ds ps hr hrow h hlt hsp
    obtain ⟨v, vs', d, ds', p, q, rfl, rfl, rfl, h0, h1⟩ := trodAll_cons h
    exact trodAll_cons_mk (WideElems.Trod_stays hl (hr t (by simp)) (hrow t (by simp)) h0 (fun x hx => hb.same (hlt x (by simp [hx]))) (fun x hx => hsp x (by simp [hx])))
      (ih vs' ds' q (fun t ht => hr t (by simp [ht])) (fun t ht => hrow t (by simp [ht])) h1 (fun x hx => hlt x (by simp [hx])) (fun x hx => hsp x (by simp [hx])))
end
theorem gPow : Tryz.prog.globalNamed "internal/strconv.uint64pow10" = some 5 := by kernel_rfl
theorem gPowType : (Tryz.prog.globals[5]?).map (·.type) = some 249 := by kernel_rfl
theorem cells215 : Tryz.prog.cellsOf 249 = 20 := by kernel_rfl
theorem cells125 : Tryz.prog.cellsOf 137 = 1 := by kernel_rfl
theorem gSyn : Tryz.prog.globalNamed "strconv.ErrSyntax" = some 1 := by kernel_rfl
theorem gSynType : (Tryz.prog.globals[1]?).map (·.type) = some 133 := by kernel_rfl
theorem gRng : Tryz.prog.globalNamed "strconv.ErrRange" = some 2 := by kernel_rfl
theorem gRngType : (Tryz.prog.globals[2]?).map (·.type) = some 133 := by kernel_rfl
theorem starErr : "*" ++ "errors.errorString" = "*errors.errorString" := by decide
theorem rowErr (u : TypeId) (h : Tryz.prog.typeName? 3 u = some "*errors.errorString") : u = 241 :=
  typeName_ptr_named (nm := "errors.errorString") (by rw [starErr]; kernel_rfl) (by kernel_rfl) (by decide) u (by rw [starErr]; exact h)
theorem env_met {W : World} (h : laidMet Tryz.prog Rows.arrayReducedRow.laid W) : Env W := by
  have h3 := laidMet.tail (laidMet.tail h)
  have h4 := laidMet.tail h3
  have h5 := laidMet.tail h4
  refine ⟨Lib.tabIs_of_head gPow gPowType Tryz.underlying249 Tryz.underlying137 cells125 cells215 h3, ?_, ?_⟩
  · obtain ⟨a, s, hv, -, -, -⟩ := laid_sentinel h5 gSyn gSynType Tryz.underlying133 rowErr Tryz.underlying241 Tryz.underlying243 rfl rfl Tryz.underlying9 (by kernel_rfl) (by kernel_rfl)
    exact ⟨_, by simpa using World.var?_cell gSyn hv 0, .inr ⟨_, _, rfl⟩⟩
  · obtain ⟨a, s, hv, -, -, -⟩ := laid_sentinel h4 gRng gRngType Tryz.underlying133 rowErr Tryz.underlying241 Tryz.underlying243 rfl rfl Tryz.underlying9 (by kernel_rfl) (by kernel_rfl)
    exact ⟨_, by simpa using World.var?_cell gRng hv 0, .inr ⟨_, _, rfl⟩⟩
theorem env_laid {W : World} (h : laidMetH Tryz.prog Rows.arrayReducedRow.laid W) : Env W := by
  rw [MakeChecks.laidMetH_plain _ _ _ (by kernel_rfl)] at h
  exact env_met h
theorem laidAll : laidOutB Tryz.prog = true := by kernel_rfl
end Arr
end Go.Proofs.YtlcpcpmlfegejaaGreatDoor
set_option maxRecDepth 100000
namespace Go.Proofs.YtlcpcpmlfegejaaGreatDoor
open Go.ChangeMaps Go.ChangeShapes Go.WideShapes Go.ChangeAt Go.RowKit Go.Deep
namespace Arr
theorem cells9' : Tryz.prog.cellsOf 9 = 1 := by kernel_rfl
theorem at_addr {w : World} {a : Addr} {x : Value} (h : w.cell? a = some x) : ∃ b off, a = ⟨b, off, none⟩ ∧ b < w.heap.size := by
  have hs := World.cell?_spot h
  obtain ⟨b, off, sp⟩ := a
  simp only at hs
  subst hs
  refine ⟨b, off, rfl, Classical.byContradiction fun hx => ?_⟩
  simp [World.cell?, hx] at h
section
variable {H : Type} {enc : TypeId × Value → H} {w : World} {base : Nat} {spare : Nat → Bool} {held : Bool} {v : Value} {y : DataW H × List MemPlace} {n : Nat}
theorem in_strs (h : DataW.trod enc Tryz.prog w base spare held n 22 [v] = some y) : ∃ (q : Option Addr) (c : Nat) (l : List (List UInt8)), v = .slice q l.length c ∧ RdS w q l := by
  rcases open_strings Tryz.underlying22 Tryz.underlying9 cells9' h with ⟨e, -⟩ | ⟨a, len, cap, ss, e, hb, hl, hm, hlen, -, hc, -⟩
  · simp at e
    exact ⟨none, 0, [], e, .inl rfl⟩
  · simp at e
    have hz : len ≤ ss.length := by rw [hlen]; split <;> omega
    have hll : ((ss.take len).map (·.data.toList)).length = len := by simp [hz]
    refine ⟨some a, cap, (ss.take len).map (·.data.toList), by rw [hll]; exact e, ?_⟩
    by_cases h0 : len = 0
    · exact .inl (by rw [hll]; exact h0)
    · have h1 := hc 0 (by omega)
      rw [Addr.add_zero'] at h1
      obtain ⟨b, off, rfl, hlt⟩ := at_addr h1
      refine .inr ⟨b, off, rfl, hlt, fun j hj => ?_⟩
      rw [hll] at hj
      have h2 := hc j (by omega)
      rw [Addr.add_lit] at h2
      have hj2 : j < ss.length := by omega
      rw [h2]
      simp [List.getD_eq_getElem?_getD, hj, hj2]
end
end Arr
end Go.Proofs.YtlcpcpmlfegejaaGreatDoor
set_option maxRecDepth 100000
namespace Go.Proofs.YtlcpcpmlfegejaaGreatDoor
open Go.ChangeMaps Go.ChangeShapes Go.WideShapes Go.ChangeAt Go.RowKit Go.Deep
namespace Arr
section
variable {H : Type} {enc : TypeId × Value → H} {w : World} {base b0 : Nat} {spare : Nat → Bool} {held : Bool} {r : Reach} {v : Value} {d : DataW H} {p : List MemPlace}
theorem in_texts (hv : Value.okWide Tryz.prog w r b0 22 v) (h : DataW.Trod enc Tryz.prog w base spare held 22 v d p) : ∃ (q : Option Addr) (c : Nat) (l : List (List UInt8)), v = .slice q l.length c ∧ RdS w q l := by
  obtain ⟨a0, len0, cap0, rfl⟩ := okWide_slice Tryz.underlying22 hv
  obtain ⟨fuel, hf⟩ := h
  exact in_strs (v := .slice a0 len0 cap0) hf
end
theorem readable22 : Tryz.prog.readableRec 22 = true := by kernel_rfl
theorem inTypes22 : 22 < Tryz.prog.types.size := of_decide_eq_true (by kernel_rfl)
theorem readable3 : Tryz.prog.readableRec 3 = true := by kernel_rfl
theorem inTypes3 : 3 < Tryz.prog.types.size := of_decide_eq_true (by kernel_rfl)
end Arr
end Go.Proofs.YtlcpcpmlfegejaaGreatDoor
