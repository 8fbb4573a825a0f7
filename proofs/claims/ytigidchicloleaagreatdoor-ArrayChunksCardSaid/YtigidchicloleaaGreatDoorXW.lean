/- ArrayChunks: for every cutting the law returns true, and its argument reads as it did. Conditions: the listed variables of Go's library start as the program's text lays them. -/
import Derived.Test.YtigidchicloleaaGreatDoorXU
import Derived.Test.YtigidchicloleaaGreatDoorXB
set_option maxHeartbeats 0
set_option maxRecDepth 100000
namespace Go.Proofs.YtigidchicloleaaGreatDoor
open Go.ChangeMaps Go.ChangeShapes Go.WideShapes Go.ChangeAt Go.RowKit
open Arr
theorem chunks_met (os : Os) (args : Array Value) : laidMetH Tryz.prog Rows.arrayChunksRow.laid ((World.doorLaid Tryz.prog 62 os).forCall (fun _ _ => 0) ⟨#[], args, []⟩).memory := by
  rw [MakeChecks.laidMetH_plain _ _ _ (by kernel_rfl)]
  exact laidMet_of_run' 8 (by kernel_rfl) (by kernel_rfl)
theorem chunks_readable : ∀ t ∈ Tryz.f6.params.toList, Tryz.prog.readableRec t = true := by
  rw [Tryz.params6]
  intro t ht
  have ht : t ∈ [45] := ht
  simp only [List.mem_cons, List.not_mem_nil, or_false] at ht
  subst ht
  exact readable45
theorem chunks_inTypes : ∀ t ∈ Tryz.f6.params.toList, t < Tryz.prog.types.size := by
  rw [Tryz.params6]
  intro t ht
  have ht : t ∈ [45] := ht
  simp only [List.mem_cons, List.not_mem_nil, or_false] at ht
  subst ht
  exact inTypes45
theorem chunks_lifted (os : Os) (started : os.Started) (H : Type) (enc : TypeId × Value → H) :
    ReturnsInHanded {} Tryz.checked os 6 .any (fun w args => (Rows.arrayChunksSpec.pre enc Tryz.prog Tryz.f6 [] false w args ∧ laidMetH Tryz.prog Rows.arrayChunksRow.laid w) ∧ sizedMet enc Tryz.prog Tryz.f6 (OpenSpec.ofChange Rows.arrayChunksSpec) false w args)
      (Rows.arrayChunksSpec.post enc Tryz.prog Tryz.f6 false true false false) := by
  refine returnsInHanded_of_change_and (C := Tryz.checked) (X := fun w _ => laidMetH Tryz.prog Rows.arrayChunksRow.laid w) (fun _ _ _ hh h => h.of_heap hh) ownK started (by kernel_rfl) Tryz.func6
    (ChangeSpec.witness_shaped (enc := enc) (C := Tryz.checked) (os := os) (X := fun w _ => laidMetH Tryz.prog Rows.arrayChunksRow.laid w) false (World.doorLaid Tryz.prog 62 os) #[.agg #[.slice none 0 0, .slice none 0 0, .slice none 0 0, .slice none 0 0]] 8 rfl (World.shaped_of_RefB (by kernel_rfl) (by kernel_rfl)) (by kernel_rfl) (by kernel_rfl) (by kernel_rfl) (chunks_met os _)) ?_
  intro W base args ds gs before hval0 hW _ _ hL _
  have hval : ∀ (j : Nat) t v, Tryz.f6.params[j]? = some t → args[j]? = some v → Value.okWide Tryz.prog W .any base t v := hval0
  have hW' := hW
  have hltw : ∀ x ∈ before, x.block < W.heap.size := fun x hx => hW.lt x hx
  obtain ⟨p, q, hA0, hV, hp, hfz, hnd⟩ := hW
  have hA : DataW.TrodAll enc Tryz.prog W 0 (fun _ => true) true Tryz.f6.params.toList args.toList ds p := hA0
  obtain ⟨rfl, rfl⟩ := trodVars_none hV
  rw [List.append_nil] at hp
  have hlt : ∀ x ∈ p, x.block < W.heap.size := fun x hx => hltw x (by rw [hp]; exact hx)
  have hB := hA
  rw [Tryz.params6] at hB hval
  obtain ⟨v0, vs0, d0, ds0, p0, q0, hargs, rfl, rfl, h0, r0⟩ := trodAll_cons hB
  obtain ⟨rfl, rfl, rfl⟩ := trodAll_nil r0
  obtain rfl : args = #[v0] := by cases args; simp_all
  obtain ⟨pa0, pb0, pc0, pd0, c0, e0, f0, g0, s0, t0, u0, k0, rfl, ra0, rb0, rc0, rd0⟩ := in_cutting (hval 0 45 v0 rfl rfl) h0
  clear hA0 hval0
  refine (chunks_law pa0 pb0 pc0 pd0 c0 e0 f0 g0 _ _ _ _ s0 t0 u0 k0 W (env_laid hL) (Lib.hid rfl) (Lib.hid rfl) (Lib.hid rfl) (Lib.hid rfl) ra0 rb0 rc0 rd0).mono fun e W' ⟨hb, he⟩ => ?_
  subst he
  exact ⟨_, rfl, post_of_below (pv := []) hW' (fun _ _ _ => trodAll_cons_mk (shut_bool Tryz.underlying4 _) trodAll_mk0)
    (fun sp hsp => trodAll_stays laidAll hb sp _ _ _ _ chunks_readable chunks_inTypes hA hlt (fun x hx => hsp x (by rw [hp]; exact hx))) (fun _ _ => rfl) (by rw [List.append_nil]; exact hp) hb (ok_one (by kernel_rfl) rfl (okWide_bool_mk Tryz.underlying4 _))⟩
theorem chunks_name : Tryz.pinned.checked.prog.funcNamed Rows.arrayChunksRow.func = some 6 := by kernel_rfl
theorem chunks_plain (f : FuncId) (fn : Func) (hf : Tryz.pinned.checked.prog.funcNamed "arrayarchive/arrayarchivelaw06.ArrayChunks" = some f) (hfn : Tryz.pinned.checked.prog.funcs[f]? = some fn) :
    true = Tryz.pinned.checked.prog.looks [] ∧ ∀ (j : Nat) t, fn.params[j]? = some t → Tryz.pinned.checked.prog.wantsStandIn t = false := by
  obtain rfl : f = 6 := Option.some.inj ((show Tryz.prog.funcNamed "arrayarchive/arrayarchivelaw06.ArrayChunks" = some 6 by kernel_rfl).symm.trans hf) |>.symm
  obtain rfl : fn = Tryz.f6 := (Option.some.inj (Tryz.func6.symm.trans hfn)).symm
  refine ⟨by kernel_rfl, fun j t ht => ?_⟩
  rw [Tryz.params6] at ht
  obtain rfl : t = 45 := by simpa using Array.mem_of_getElem? ht
  exact (show Tryz.prog.wantsStandIn 45 = false by kernel_rfl)
theorem chunks_closed : joinedFacts Tryz.pinned.checked.prog 6 Tryz.f6 Rows.arrayChunksSpec Rows.arrayChunksRow = true := by
  have h := twice_closed0
  unfold joinedFacts at h
  simp only [Bool.and_eq_true] at h
  obtain ⟨⟨⟨⟨⟨⟨⟨⟨⟨⟨⟨⟨⟨⟨⟨⟨⟨⟨⟨⟨⟨⟨⟨⟨⟨⟨⟨⟨⟨⟨⟨h0, h1⟩, h2⟩, h3⟩, h4⟩, h5⟩, h6⟩, h7⟩, h8⟩, h9⟩, h10⟩, h11⟩, h12⟩, h13⟩, h14⟩, h15⟩, h16⟩, h17⟩, h18⟩, h19⟩, h20⟩, h21⟩, h22⟩, h23⟩, h24⟩, h25⟩, h26⟩, h27⟩, h28⟩, h29⟩, h30⟩, h31⟩ := h
  refine joined_of ?_ h1 h2 ?_ ?_ ?_ h6 ?_ h8 ?_ ?_ ?_ ?_ ?_ ?_ ?_ ?_ ?_ ?_ ?_ ?_ ?_ h22 ?_ h24 h25 h26 h27 ?_ ?_ ?_ ?_
  all_goals (clear h0 h1 h2 h3 h4 h5 h6 h7 h8 h9 h10 h11 h12 h13 h14 h15 h16 h17 h18 h19 h20 h21 h22 h23 h24 h25 h26 h27 h28 h29 h30 h31)
  all_goals (as_aux_lemma => kernel_rfl)
theorem chunks_wrap : Tryz.f6.isWrapper Tryz.pinned.checked.prog Rows.arrayChunksRow.wrapper Rows.arrayChunksRow.mainSum := by
  unfold Func.isWrapper; first | (rw [if_pos (by decide +kernel)]; kernel_rfl) | (rw [if_neg (by decide +kernel)]; exact ⟨rfl, rfl⟩)
theorem chunks_inst : Tryz.f6.isInstance Tryz.pinned.checked.prog Rows.arrayChunksRow.origin Rows.arrayChunksRow.targs := of_decide_eq_true (by kernel_rfl)
theorem chunks_said : Rows.ArrayChunksSaid :=
  OpenClaim.holds_of_wide 6 Tryz.f6 rfl rfl rfl rfl rfl rfl rfl ⟨rfl, rfl, rfl, rfl, rfl⟩ rfl rfl rfl rfl rfl chunks_name Tryz.func6 chunks_closed chunks_inst chunks_wrap
    (fun os started H enc _ => chunks_lifted os started H enc)
theorem chunks_wf : Rows.arrayChunksRow.wfByText (OpenSpec.ofChange Rows.arrayChunksSpec) = true := by kernel_rfl
theorem chunks_goes : false = Rows.arrayChunksRow.goesBy Tryz.pinned.checked.prog := by kernel_rfl
theorem chunks_card : Rows.ArrayChunksCardSaid :=
  Claim7.holds_tied_plain_at .later [] _ _ _ _ chunks_said (fun _ h => by cases h) chunks_wf (fun _ h => by cases h) arrayChunks_row_tie rfl ⟨rfl, rfl⟩ prog_main rfl chunks_plain chunks_goes
#print axioms chunks_card
end Go.Proofs.YtigidchicloleaaGreatDoor
