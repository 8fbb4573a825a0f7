/- Contracts. -/
import Derived.Test.YtfjnipkpfbkegaaGreatDoorCU
set_option maxHeartbeats 0
set_option maxRecDepth 100000
namespace Go.Proofs.YtfjnipkpfbkegaaGreatDoor
open Go.ChangeMaps Go.ChangeShapes Go.WideShapes Go.ChangeAt Go.RowKit Go.Joins
theorem ymJ {W:World} (h:laidMetH Tryz.prog Rows.quantityReadsRow.laid W):Tab W:=by
 rw [MakeChecks.laidMetH_plain _ _ _ (by kernel_rfl)] at h
 exact Lib.tabIs_of_head ytk yoW Tryz.underlying174 Tryz.underlying100 yoV yoU (laidMet.tail (laidMet.tail h))
theorem yfE:∀ t ∈ Tryz.f3.params.toList,Tryz.prog.readableRec t=true:=by
 rw [Tryz.params3]
 intro t ht
 have ht:t ∈ [9]:=ht
 obtain rfl:=List.mem_singleton.1 ht
 exact ymr
theorem ygp:∀ t ∈ Tryz.f3.params.toList,t<Tryz.prog.types.size:=by
 rw [Tryz.params3]
 intro t ht
 have ht:t ∈ [9]:=ht
 obtain rfl:=List.mem_singleton.1 ht
 exact yoX
theorem ymK (os:Os) (args:Array Value):laidMetH Tryz.prog Rows.quantityReadsRow.laid ((World.doorLaid Tryz.prog 62 os).forCall (fun _ _=>0) ⟨#[],args,[]⟩).memory:=by
 rw [MakeChecks.laidMetH_plain _ _ _ (by kernel_rfl)]
 exact laidMet_of_run' 8 (by kernel_rfl) (by kernel_rfl)
theorem yhB (os:Os) (started:os.Started) (H:Type) (enc:TypeId × Value→H) :
  ReturnsInHanded {} Tryz.checked os 3 .any (fun w args=>(Rows.quantityReadsSpec.pre enc Tryz.prog Tryz.f3 [] false w args∧laidMetH Tryz.prog Rows.quantityReadsRow.laid w)∧sizedMet enc Tryz.prog Tryz.f3 (OpenSpec.ofChange Rows.quantityReadsSpec) false w args)
   (Rows.quantityReadsSpec.post enc Tryz.prog Tryz.f3 false true false false):=by
 refine returnsInHanded_of_change_and (C:=Tryz.checked) (X:=fun w _=>laidMetH Tryz.prog Rows.quantityReadsRow.laid w) (fun _ _ _ hh h=>h.of_heap hh) ytj started (by kernel_rfl) Tryz.func3
  (ChangeSpec.witness_shaped (enc:=enc) (C:=Tryz.checked) (os:=os) (X:=fun w _=>laidMetH Tryz.prog Rows.quantityReadsRow.laid w) false (World.doorLaid Tryz.prog 62 os) #[.string ⟨#[]⟩] 8 rfl (World.shaped_of_RefB (by kernel_rfl) (by kernel_rfl)) (by kernel_rfl) (by kernel_rfl) (by kernel_rfl) (ymK os _)) ?_
 intro W base args ds gs before hval0 hW _ _ hL _
 have yZ:∀ (j:Nat) t v,Tryz.f3.params[j]?=some t→args[j]?=some v→Value.okWide Tryz.prog W .any base t v:=hval0
 have hW':=hW
 obtain ⟨p,q,hA0,hV,hpq,hfz,hnd⟩:=hW
 have hA:DataW.TrodAll enc Tryz.prog W 0 (fun _=>true) true Tryz.f3.params.toList args.toList ds p:=hA0
 have hA':=hA
 rw [Tryz.params3] at hA' yZ
 obtain ⟨v0,vs0,d0,ds0,p0,q0,yok,rfl,-,h0,r0⟩:=trodAll_cons hA'
 obtain ⟨rfl,rfl,-⟩:=trodAll_nil r0
 obtain rfl:args=#[v0]:=by cases args;simp_all
 obtain ⟨rfl,rfl⟩:=trodVars_none hV
 obtain ⟨s,rfl,rfl,rfl,x0⟩:=open_string Tryz.underlying9 (yZ 0 9 v0 rfl rfl) h0
 clear hA0 hval0 hA'
 have hp:before=p:=by rw [hpq,List.append_nil]
 have hlt:∀ x ∈ p,x.block<W.heap.size:=fun x hx=>hW'.lt x (by rw [hp];exact hx)
 refine (ymo s W (ymJ hL)).mono fun e W' ⟨he,hg⟩=>?_
 subst he
 exact ⟨_,rfl,ygk (pa:=p) (pv:=[]) hW' (fun _ _ _=>trodAll_cons_mk (shut_bool Tryz.underlying4 _) trodAll_mk0)
  (fun sp hsp=>ygl yql hg sp _ _ _ _ yfE ygp hA hlt (fun x hx=>hsp x (by rw [hp];exact hx)))
  (fun _ _=>rfl) (by rw [hp,List.append_nil]) hg (ok_one (by kernel_rfl) rfl (okWide_bool_mk Tryz.underlying4 _))⟩
theorem ykV:Tryz.pinned.checked.prog.funcNamed Rows.quantityReadsRow.func=some 3:=by kernel_rfl
theorem yjz (f : FuncId) (fn : Func) (hf : Tryz.pinned.checked.prog.funcNamed "arrayarchive/arrayarchivelaw01.QuantityReads" = some f) (hfn : Tryz.pinned.checked.prog.funcs[f]? = some fn) :
  true=Tryz.pinned.checked.prog.looks []∧∀ (j:Nat) t,fn.params[j]?=some t→Tryz.pinned.checked.prog.wantsStandIn t=false:=by
 obtain rfl : f = 3 := Option.some.inj ((show Tryz.prog.funcNamed "arrayarchive/arrayarchivelaw01.QuantityReads" = some 3 by kernel_rfl).symm.trans hf) |>.symm
 obtain rfl:fn=Tryz.f3:=(Option.some.inj (Tryz.func3.symm.trans hfn)).symm
 refine ⟨by kernel_rfl,fun j t ht=>?_⟩
 rw [Tryz.params3] at ht
 have hm:t=9:=by simpa using Array.mem_of_getElem? ht
 subst hm
 exact (show Tryz.prog.wantsStandIn 9=false by kernel_rfl)
theorem yhC:joinedFacts Tryz.pinned.checked.prog 3 Tryz.f3 Rows.quantityReadsSpec Rows.quantityReadsRow=true :=
 ymp (by as_aux_lemma=>kernel_rfl) (by as_aux_lemma=>kernel_rfl) (by as_aux_lemma=>kernel_rfl) (by as_aux_lemma=>kernel_rfl) (by as_aux_lemma=>kernel_rfl) (by as_aux_lemma=>kernel_rfl) (by as_aux_lemma=>kernel_rfl) (by as_aux_lemma=>kernel_rfl) (by as_aux_lemma=>kernel_rfl) (by as_aux_lemma=>kernel_rfl) (by as_aux_lemma=>kernel_rfl) (by as_aux_lemma=>kernel_rfl) (by as_aux_lemma=>kernel_rfl) (by as_aux_lemma=>kernel_rfl) (by as_aux_lemma=>kernel_rfl) (by as_aux_lemma=>kernel_rfl) (by as_aux_lemma=>kernel_rfl) (by as_aux_lemma=>kernel_rfl) (by as_aux_lemma=>kernel_rfl) (by as_aux_lemma=>kernel_rfl) (by as_aux_lemma=>kernel_rfl) (by as_aux_lemma=>kernel_rfl) (by as_aux_lemma=>kernel_rfl) (by as_aux_lemma=>kernel_rfl) (by as_aux_lemma=>kernel_rfl) (by as_aux_lemma=>kernel_rfl) (by as_aux_lemma=>kernel_rfl) (by as_aux_lemma=>kernel_rfl) (by as_aux_lemma=>kernel_rfl) (by as_aux_lemma=>kernel_rfl) (by as_aux_lemma=>kernel_rfl) (by as_aux_lemma=>kernel_rfl)
theorem ykW:Tryz.f3.isWrapper Tryz.pinned.checked.prog Rows.quantityReadsRow.wrapper Rows.quantityReadsRow.mainSum:=by
 unfold Func.isWrapper;first|(rw [if_pos (by decide +kernel)];kernel_rfl)|(rw [if_neg (by decide +kernel)];exact ⟨rfl,rfl⟩)
theorem ykX:Tryz.f3.isInstance Tryz.pinned.checked.prog Rows.quantityReadsRow.origin Rows.quantityReadsRow.targs:=of_decide_eq_true (by kernel_rfl)
theorem ykY:Rows.QuantityReadsSaid :=
 OpenClaim.holds_of_wide 3 Tryz.f3 rfl rfl rfl rfl rfl rfl rfl ⟨rfl,rfl,rfl,rfl,rfl⟩ rfl rfl rfl rfl rfl ykV Tryz.func3 yhC ykX ykW
  (fun os started H enc _=>yhB os started H enc)
theorem ypf:Rows.quantityReadsRow.wfByText (OpenSpec.ofChange Rows.quantityReadsSpec)=true:=by kernel_rfl
theorem ykZ:false=Rows.quantityReadsRow.goesBy Tryz.pinned.checked.prog:=by kernel_rfl
theorem reads_card:Rows.QuantityReadsCardSaid :=
 Claim7.holds_tied_plain_at .later [] _ _ _ _ ykY (fun _ h=>by cases h) ypf (fun _ h=>by cases h) quantityReads_row_tie rfl ⟨rfl,rfl⟩ ymq rfl yjz ykZ
#print axioms reads_card
end Go.Proofs.YtfjnipkpfbkegaaGreatDoor
