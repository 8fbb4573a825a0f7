/- ArrayMoves: for every array and every two lists of integers the law returns true, and its arguments read as they did. Conditions: the listed variables of Go's library start as the program's text lays them. -/
import Derived.Test.YtigidchicloleaaGreatDoorIK
import Derived.Test.YtigidchicloleaaGreatDoorXP
import Derived.Test.YtigidchicloleaaGreatDoorXB
set_option maxHeartbeats 0
set_option maxRecDepth 100000
namespace Go.Proofs.YtigidchicloleaaGreatDoor
open Go.ChangeMaps Go.ChangeShapes Go.WideShapes Go.ChangeAt Go.RowKit
open Arr
namespace Arr
open Go.Deep in
theorem in_listc {H : Type} {enc : TypeId × Value → H} {w : World} {base b0 : Nat} {spare : Nat → Bool} {held : Bool} {r : Reach} {v : Value} {d : DataW H} {p : List MemPlace} (hv : Value.okWide Tryz.prog w r b0 22 v) (h : DataW.Trod enc Tryz.prog w base spare held 22 v d p) : ∃ (q : Option Addr) (c : Nat) (l : List Int), v = .slice q l.length c ∧ l.length ≤ c ∧ Rd w q l := by
  obtain ⟨a0, len0, cap0, rfl⟩ := okWide_slice Tryz.underlying22 hv
  obtain ⟨fuel, hf⟩ := h
  obtain ⟨q, c, l, e, hr⟩ := in_ints (v := .slice a0 len0 cap0) hf
  refine ⟨q, c, l, e, ?_, hr⟩
  rcases open_ints (cs := [.slice a0 len0 cap0]) Tryz.underlying22 Tryz.underlying3 cells3' hf with ⟨e2, -⟩ | ⟨a, len, cap, zs, e2, hb, hl, -⟩
  · injection e2 with e2 _
    rw [e2] at e
    injection e with e3 e4 e5
    omega
  · injection e2 with e2 _
    rw [e2] at e
    injection e with e3 e4 e5
    omega
end Arr
theorem moves_met (os : Os) (args : Array Value) : laidMetH Tryz.prog Rows.arrayMovesRow.laid ((World.doorLaid Tryz.prog 62 os).forCall (fun _ _ => 0) ⟨#[], args, []⟩).memory := by
  rw [MakeChecks.laidMetH_plain _ _ _ (by kernel_rfl)]
  exact laidMet_of_run' 8 (by kernel_rfl) (by kernel_rfl)
theorem moves_readable : ∀ t ∈ Tryz.f10.params.toList, Tryz.prog.readableRec t = true := by
  rw [Tryz.params10]
  intro t ht
  have ht : t ∈ [25, 22, 22] := ht
  simp only [List.mem_cons, List.not_mem_nil, or_false] at ht
  rcases ht with rfl | rfl | rfl
  · exact readable25
  · exact readable22
  · exact readable22
theorem moves_inTypes : ∀ t ∈ Tryz.f10.params.toList, t < Tryz.prog.types.size := by
  rw [Tryz.params10]
  intro t ht
  have ht : t ∈ [25, 22, 22] := ht
  simp only [List.mem_cons, List.not_mem_nil, or_false] at ht
  rcases ht with rfl | rfl | rfl
  · exact inTypes25
  · exact inTypes22
  · exact inTypes22
theorem moves_lifted (os : Os) (started : os.Started) (H : Type) (enc : TypeId × Value → H) :
    ReturnsInHanded {} Tryz.checked os 10 .any (fun w args => (Rows.arrayMovesSpec.pre enc Tryz.prog Tryz.f10 [] false w args ∧ laidMetH Tryz.prog Rows.arrayMovesRow.laid w) ∧ sizedMet enc Tryz.prog Tryz.f10 (OpenSpec.ofChange Rows.arrayMovesSpec) false w args)
      (Rows.arrayMovesSpec.post enc Tryz.prog Tryz.f10 false true false false) := by
  refine returnsInHanded_of_change_and (C := Tryz.checked) (X := fun w _ => laidMetH Tryz.prog Rows.arrayMovesRow.laid w) (fun _ _ _ hh h => h.of_heap hh) ownK started (by kernel_rfl) Tryz.func10
    (ChangeSpec.witness_shaped (enc := enc) (C := Tryz.checked) (os := os) (X := fun w _ => laidMetH Tryz.prog Rows.arrayMovesRow.laid w) false (World.doorLaid Tryz.prog 62 os) #[.agg #[.slice none 0 0, .slice none 0 0], .slice none 0 0, .slice none 0 0] 8 rfl (World.shaped_of_RefB (by kernel_rfl) (by kernel_rfl)) (by kernel_rfl) (by kernel_rfl) (by kernel_rfl) (moves_met os _)) ?_
  intro W base args ds gs before hval0 hW _ _ hL _
  have hval : ∀ (j : Nat) t v, Tryz.f10.params[j]? = some t → args[j]? = some v → Value.okWide Tryz.prog W .any base t v := hval0
  have hW' := hW
  have hltw : ∀ x ∈ before, x.block < W.heap.size := fun x hx => hW.lt x hx
  obtain ⟨p, q, hA0, hV, hp, hfz, hnd⟩ := hW
  have hA : DataW.TrodAll enc Tryz.prog W 0 (fun _ => true) true Tryz.f10.params.toList args.toList ds p := hA0
  obtain ⟨rfl, rfl⟩ := trodVars_none hV
  rw [List.append_nil] at hp
  have hlt : ∀ x ∈ p, x.block < W.heap.size := fun x hx => hltw x (by rw [hp]; exact hx)
  have hB := hA
  rw [Tryz.params10] at hB hval
  obtain ⟨v0, vs0, d0, ds0, p0, q0, hargs, rfl, rfl, h0, r0⟩ := trodAll_cons hB
  obtain ⟨v1, vs1, d1, ds1, p1, q1, rfl, rfl, rfl, h1, r1⟩ := trodAll_cons r0
  obtain ⟨v2, vs2, d2, ds2, p2, q2, rfl, rfl, rfl, h2, r2⟩ := trodAll_cons r1
  obtain ⟨rfl, rfl, rfl⟩ := trodAll_nil r2
  obtain rfl : args = #[v0, v1, v2] := by cases args; simp_all
  obtain ⟨pa0, qa0, c0, e0, s0, l0, rfl, ra0, rb0⟩ := in_array (hval 0 25 v0 rfl rfl) h0
  obtain ⟨pa1, c1, s1, rfl, hc1, ra1⟩ := in_listc (hval 1 22 v1 rfl rfl) h1
  obtain ⟨pa2, c2, s2, rfl, ra2⟩ := in_list (hval 2 22 v2 rfl rfl) h2
  clear hA0 hval0
  refine (moves_law pa0 qa0 pa1 pa2 c0 e0 c2 c1 _ _ _ _ s0 s1 s2 l0 W (env_laid hL) (Lib.hid rfl) (Lib.hid rfl) (Lib.hid rfl) (Lib.hid rfl) hc1 ra0 rb0 ra1 ra2).mono fun e W' ⟨hb, he⟩ => ?_
  subst he
  exact ⟨_, rfl, post_of_below (pv := []) hW' (fun _ _ _ => trodAll_cons_mk (shut_bool Tryz.underlying4 _) trodAll_mk0)
    (fun sp hsp => trodAll_stays laidAll hb sp _ _ _ _ moves_readable moves_inTypes hA hlt (fun x hx => hsp x (by rw [hp]; exact hx))) (fun _ _ => rfl) (by rw [List.append_nil]; exact hp) hb (ok_one (by kernel_rfl) rfl (okWide_bool_mk Tryz.underlying4 _))⟩
theorem moves_name : Tryz.pinned.checked.prog.funcNamed Rows.arrayMovesRow.func = some 10 := by kernel_rfl
theorem moves_plain (f : FuncId) (fn : Func) (hf : Tryz.pinned.checked.prog.funcNamed "arrayarchive/arrayarchivelaw06.ArrayMoves" = some f) (hfn : Tryz.pinned.checked.prog.funcs[f]? = some fn) :
    true = Tryz.pinned.checked.prog.looks [] ∧ ∀ (j : Nat) t, fn.params[j]? = some t → Tryz.pinned.checked.prog.wantsStandIn t = false := by
  obtain rfl : f = 10 := Option.some.inj ((show Tryz.prog.funcNamed "arrayarchive/arrayarchivelaw06.ArrayMoves" = some 10 by kernel_rfl).symm.trans hf) |>.symm
  obtain rfl : fn = Tryz.f10 := (Option.some.inj (Tryz.func10.symm.trans hfn)).symm
  refine ⟨by kernel_rfl, fun j t ht => ?_⟩
  rw [Tryz.params10] at ht
  have hm : t = 25 ∨ t = 22 ∨ t = 22 := by simpa using Array.mem_of_getElem? ht
  rcases hm with rfl | rfl | rfl
  · exact (show Tryz.prog.wantsStandIn 25 = false by kernel_rfl)
  · exact (show Tryz.prog.wantsStandIn 22 = false by kernel_rfl)
  · exact (show Tryz.prog.wantsStandIn 22 = false by kernel_rfl)
theorem moves_closed : joinedFacts Tryz.pinned.checked.prog 10 Tryz.f10 Rows.arrayMovesSpec Rows.arrayMovesRow = true := by
  have h := twice_closed0
  unfold joinedFacts at h
  simp only [Bool.and_eq_true] at h
  obtain ⟨⟨⟨⟨⟨⟨⟨⟨⟨⟨⟨⟨⟨⟨⟨⟨⟨⟨⟨⟨⟨⟨⟨⟨⟨⟨⟨⟨⟨⟨⟨h0, h1⟩, h2⟩, h3⟩, h4⟩, h5⟩, h6⟩, h7⟩, h8⟩, h9⟩, h10⟩, h11⟩, h12⟩, h13⟩, h14⟩, h15⟩, h16⟩, h17⟩, h18⟩, h19⟩, h20⟩, h21⟩, h22⟩, h23⟩, h24⟩, h25⟩, h26⟩, h27⟩, h28⟩, h29⟩, h30⟩, h31⟩ := h
  refine joined_of ?_ h1 h2 ?_ ?_ ?_ h6 ?_ h8 ?_ ?_ ?_ ?_ ?_ ?_ ?_ ?_ ?_ ?_ ?_ ?_ ?_ h22 ?_ h24 h25 h26 h27 ?_ ?_ ?_ ?_
  all_goals (clear h0 h1 h2 h3 h4 h5 h6 h7 h8 h9 h10 h11 h12 h13 h14 h15 h16 h17 h18 h19 h20 h21 h22 h23 h24 h25 h26 h27 h28 h29 h30 h31)
  all_goals (as_aux_lemma => kernel_rfl)
theorem moves_wrap : Tryz.f10.isWrapper Tryz.pinned.checked.prog Rows.arrayMovesRow.wrapper Rows.arrayMovesRow.mainSum := by
  unfold Func.isWrapper; first | (rw [if_pos (by decide +kernel)]; kernel_rfl) | (rw [if_neg (by decide +kernel)]; exact ⟨rfl, rfl⟩)
theorem moves_inst : Tryz.f10.isInstance Tryz.pinned.checked.prog Rows.arrayMovesRow.origin Rows.arrayMovesRow.targs := of_decide_eq_true (by kernel_rfl)
theorem moves_said : Rows.ArrayMovesSaid :=
  OpenClaim.holds_of_wide 10 Tryz.f10 rfl rfl rfl rfl rfl rfl rfl ⟨rfl, rfl, rfl, rfl, rfl⟩ rfl rfl rfl rfl rfl moves_name Tryz.func10 moves_closed moves_inst moves_wrap
    (fun os started H enc _ => moves_lifted os started H enc)
theorem moves_wf : Rows.arrayMovesRow.wfByText (OpenSpec.ofChange Rows.arrayMovesSpec) = true := by kernel_rfl
theorem moves_goes : false = Rows.arrayMovesRow.goesBy Tryz.pinned.checked.prog := by kernel_rfl
theorem moves_card : Rows.ArrayMovesCardSaid :=
  Claim7.holds_tied_plain_at .later [] _ _ _ _ moves_said (fun _ h => by cases h) moves_wf (fun _ h => by cases h) arrayMoves_row_tie rfl ⟨rfl, rfl⟩ prog_main rfl moves_plain moves_goes
#print axioms moves_card
end Go.Proofs.YtigidchicloleaaGreatDoor
