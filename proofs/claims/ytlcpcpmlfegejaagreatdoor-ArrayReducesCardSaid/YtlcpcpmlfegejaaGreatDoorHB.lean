/- The document's Valid of arrays. -/
import Derived.Test.YtlcpcpmlfegejaaGreatDoorGU
import Derived.Test.YtlcpcpmlfegejaaGreatDoorZ05
set_option maxHeartbeats 2000000
set_option maxRecDepth 100000
namespace Go.Proofs.YtlcpcpmlfegejaaGreatDoor.Arr
open Go.RowKit Go.Shelf
open Go.Lib
attribute [local go_sem] Oper.semAt_some
theorem isV_nil:isV []=true:=by kernel_rfl
theorem isV_num (x:List UInt8) (h:x.isEmpty=false):isV x=(num x).isSome:=by
 have:isV x=(x.isEmpty || (num x).isSome):=rfl
 rw [this,h,Bool.false_or]
theorem risvalue_any (x:List UInt8) (w:World):Calls Tryz.prog 27 #[.string ⟨List.toArray x⟩] w fun e w'=>Below w.heap.size w w'∧e=.returned (.bool (isV x)):=by
 by_cases h:x=[]
 ·subst h
  rw [isV_nil]
  exact (risv_nil w).mono (fun e w' h=>⟨h.2,h.1⟩)
 ·have he:x.isEmpty=false:=by cases x with
   | nil=>exact absurd rfl h
   | cons a l=>rfl
  rw [isV_num x he]
  refine (risv_some x h he _ w (Lib.hid fun W _=>rvalid_any ⟨x.toArray⟩ W)).mono (fun e w' h=>⟨h.2,?_⟩)
  simpa using h.1
theorem rvalidA_any (p q:Option Addr) (c d n m:Nat) (s:List Int) (l:List (List UInt8)) (w:World) (hs:Hid (s.length=n)) (hl:Hid (l.length=m)) (hm:m≤5000) (hp:Rd w p s) (hq:RdS w q l) :
  Calls Tryz.prog 83 #[.agg #[.slice p n c,.slice q m d]] w fun e w'=>Below w.heap.size w w'∧e=.returned (.bool (validA s l)):=by
 have HP:=Lib.hid hp
 have HQ:=Lib.hid hq
 have hmi:(m:Int)≤5000:=by omega
 obtain ⟨W0,HW0⟩:∃ W0,Hid (w.alloc (.cells #[.slice p n c,.slice q m d] 31)=W0):=⟨_,Lib.hid rfl⟩
 have HB0:Hid (Below w.heap.size w W0):=Lib.hid (by rw [← HW0.out];exact (Below.refl _ w).alloc (Nat.le_refl _) _)
 have HX0:Hid (W0.heap[w.heap.size]?=some (.cells #[.slice p n c,.slice q m d] 31 (0,0))):=Lib.hid (by rw [← HW0.out];exact World.alloc_heap_new w _)
 have HALL:Hid (∀ W,Below W0.heap.size W0 W→W.cell? ⟨w.heap.size,0,none⟩=some (.slice p n c)∧W.cell? ⟨w.heap.size,1,none⟩=some (.slice q m d)):=Lib.hid (fun W hW=>by
  have h:=(hW.block w.heap.size (Array.getElem?_eq_some_iff.1 HX0.out).1).trans HX0.out
  exact ⟨by simp [World.cell?,h],by simp [World.cell?,h]⟩)
 have HD0:Hid (Below W0.heap.size W0 W0.drew):=Lib.hid ⟨rfl,rfl,rfl,Nat.le_refl _,fun _ _=>rfl⟩
 have HBD:Hid (Below w.heap.size w W0.drew):=Lib.hid (HB0.out.trans ⟨rfl,rfl,rfl,Nat.le_refl _,fun _ _=>rfl⟩)
 have H19:Hid (Calls Tryz.prog 37 #[.slice p n c] W0.drew fun e w'=>W0.drew=w'∧e=.returned (.bool (vs s))):=Lib.hid (by
  have:=rvshape_any p c s W0.drew (HP.out.below HBD.out)
  rwa [hs.out] at this)
 clear hp hq
 cases hv:vs s with
 | false =>
  have e0:validA s l=false:=by unfold validA;rw [hv];rfl
  rw [e0]
  rw [hv] at H19
  clear hv e0
  go_enter Tryz.func83,Tryz.ntmps83
  go_wp2_with fail
  rw [HW0.out]
  refine wp_region_noPanic ?_
  refine wp_region_held_drew (S:=fun W=>W.cell? ⟨w.heap.size,0,none⟩=some (.slice p n c)∧W.cell? ⟨w.heap.size,1,none⟩=some (.slice q m d)) (by kernel_rfl) (HALL.out _ HD0.out) (fun hHeld=>?_)
  refine wpAnyH_take (i:=0) (v:=?v1) rfl (by kernel_rfl) (by kernel_rfl) (by kernel_rfl) (fun _ _ _ h=>h) (Or.inl ⟨by rfl,?hy1⟩) (by assumption) ?rest1
  case hy1 =>
   intro W' hSw
   obtain ⟨e0,e1⟩:=hSw
   go_simp
   with_reducible rfl
  simp only [List.getElem_toArray,List.getElem_cons_zero,Act.put,List.setIfInBounds_toArray,List.set_cons_zero,List.set_cons_succ]
  refine wpAnyH_take (i:=1) (v:=?v2) rfl (by kernel_rfl) (by kernel_rfl) (by kernel_rfl) (fun _ _ _ h=>h) (Or.inl ⟨by rfl,?hy2⟩) (by assumption) ?rest2
  case hy2 =>
   intro W' hSw
   obtain ⟨e0,e1⟩:=hSw
   go_simp
   with_reducible rfl
  simp only [List.getElem_toArray,List.getElem_cons_zero,List.getElem_cons_succ,Act.put,List.setIfInBounds_toArray,List.set_cons_zero,List.set_cons_succ]
  refine wpAnyH_ready (rs:=[2]) (by kernel_rfl) (by simp) ?_
  refine AllReadyH.cons (i:=2) rfl (fun K hK=>?_) AllReadyH.nil
  go_simp
  refine (H19.out).mono ?_
  rintro e w1 ⟨rfl,rfl⟩
  refine hK.out _ _ (HALL.out _ HD0.out) (fun hHeld=>?_)
  clear hK K
  refine wpAnyH_take (i:=3) (v:=?v3) rfl (by kernel_rfl) (by kernel_rfl) (by kernel_rfl) (fun _ _ _ h=>h) (Or.inl ⟨by rfl,?hy3⟩) (by assumption) ?rest3
  case hy3 =>
   intro W' hSw
   obtain ⟨e0,e1⟩:=hSw
   go_simp
   with_reducible rfl
  simp only [List.getElem_toArray,List.getElem_cons_zero,List.getElem_cons_succ,Act.put,List.setIfInBounds_toArray,List.set_cons_zero,List.set_cons_succ]
  refine wpAnyH_take (i:=4) (v:=?v4) rfl (by kernel_rfl) (by kernel_rfl) (by kernel_rfl) (fun _ _ _ h=>h) (Or.inl ⟨by rfl,?hy4⟩) (by assumption) ?rest4
  case hy4 =>
   intro W' hSw
   obtain ⟨e0,e1⟩:=hSw
   go_simp
   with_reducible rfl
  simp only [List.getElem_toArray,List.getElem_cons_zero,List.getElem_cons_succ,Act.put,List.setIfInBounds_toArray,List.set_cons_zero,List.set_cons_succ]
  refine wpAnyH_take (i:=5) (v:=undef) rfl (by kernel_rfl) (by kernel_rfl) (by kernel_rfl) (fun _ _ _ h=>h) (Or.inr ⟨by rfl,rfl⟩) (by assumption) ?_
  simp only [List.getElem_toArray,List.getElem_cons_zero,List.getElem_cons_succ,Act.put,List.setIfInBounds_toArray,List.set_cons_zero,List.set_cons_succ]
  refine wpAnyH_take (i:=6) (v:=undef) rfl (by kernel_rfl) (by kernel_rfl) (by kernel_rfl) (fun _ _ _ h=>h) (Or.inr ⟨by rfl,rfl⟩) (by assumption) ?_
  simp only [List.getElem_toArray,List.getElem_cons_zero,List.getElem_cons_succ,Act.put,List.setIfInBounds_toArray,List.set_cons_zero,List.set_cons_succ]
  refine wpAnyH_take (i:=7) (v:=undef) rfl (by kernel_rfl) (by kernel_rfl) (by kernel_rfl) (fun _ _ _ h=>h) (Or.inr ⟨by rfl,rfl⟩) (by assumption) ?_
  simp only [List.getElem_toArray,List.getElem_cons_zero,List.getElem_cons_succ,Act.put,List.setIfInBounds_toArray,List.set_cons_zero,List.set_cons_succ]
  refine wpAnyH_take (i:=8) (v:=undef) rfl (by kernel_rfl) (by kernel_rfl) (by kernel_rfl) (fun _ _ _ h=>h) (Or.inr ⟨by rfl,rfl⟩) (by assumption) ?_
  simp only [List.getElem_toArray,List.getElem_cons_zero,List.getElem_cons_succ,Act.put,List.setIfInBounds_toArray,List.set_cons_zero,List.set_cons_succ]
  refine wpAnyH_take (i:=9) (v:=undef) rfl (by kernel_rfl) (by kernel_rfl) (by kernel_rfl) (fun _ _ _ h=>h) (Or.inr ⟨by rfl,rfl⟩) (by assumption) ?_
  simp only [List.getElem_toArray,List.getElem_cons_zero,List.getElem_cons_succ,Act.put,List.setIfInBounds_toArray,List.set_cons_zero,List.set_cons_succ]
  refine wpAnyH_take (i:=10) (v:=undef) rfl (by kernel_rfl) (by kernel_rfl) (by kernel_rfl) (fun _ _ _ h=>h) (Or.inr ⟨by rfl,rfl⟩) (by assumption) ?_
  simp only [List.getElem_toArray,List.getElem_cons_zero,List.getElem_cons_succ,Act.put,List.setIfInBounds_toArray,List.set_cons_zero,List.set_cons_succ]
  refine wpAnyH_take (i:=11) (v:=undef) rfl (by kernel_rfl) (by kernel_rfl) (by kernel_rfl) (fun _ _ _ h=>h) (Or.inr ⟨by rfl,rfl⟩) (by assumption) ?_
  simp only [List.getElem_toArray,List.getElem_cons_zero,List.getElem_cons_succ,Act.put,List.setIfInBounds_toArray,List.set_cons_zero,List.set_cons_succ]
  refine wpAnyH_take (i:=12) (v:=?v5) rfl (by kernel_rfl) (by kernel_rfl) (by kernel_rfl) (fun _ _ _ h=>h) (Or.inl ⟨by rfl,?hy5⟩) (by assumption) ?rest5
  case hy5 =>
   intro W' hSw
   obtain ⟨e0,e1⟩:=hSw
   go_simp
   with_reducible rfl
  simp only [List.getElem_toArray,List.getElem_cons_zero,List.getElem_cons_succ,Act.put,List.setIfInBounds_toArray,List.set_cons_zero,List.set_cons_succ]
  refine wpAnyH_done (by kernel_rfl) ?_ _
  refine NoPanic.normal ?_
  go_wp2_with fail
  go_ret
  exact ⟨HBD.out,rfl⟩
 | true =>
  obtain ⟨s0,rfl,hs0⟩:=vs_yes hv
  obtain ⟨N,HN⟩:∃ N,Hid (N=prod s0):=⟨_,rfl⟩
  have iN:(N:Int)≤4096:=by have:=hs0.2.2;rw [← HN.out] at this;omega
  have H44:Hid (Calls Tryz.prog 38 #[.slice p n c] W0.drew fun e w'=>W0.drew=w'∧e=.returned (.int .i64 ((N:Nat):Int))):=Lib.hid (by
   have:=count_any p c s0 W0.drew hs0.1 hs0.2.1 (HP.out.below HBD.out)
   rwa [show s0.length=n by rw [← hs.out,List.length_map],← HN.out] at this)
  have e1:validA (s0.map Int.ofNat) l=(decide (l.length=N)&&l.all isV):=by unfold validA;rw [hv,toNat_map,Bool.true_and,← HN.out]
  rw [e1]
  rw [hv] at H19
  clear hv e1
  by_cases hmN:m=N
  case neg =>
   have hne:¬ (m:Int)=(N:Int):=by omega
   rw [decide_eq_false (p:=l.length=N) (by rw [hl.out];exact hmN),Bool.false_and]
   go_enter Tryz.func83,Tryz.ntmps83
   go_wp2_with fail
   rw [HW0.out]
   refine wp_region_noPanic ?_
   refine wp_region_held_drew (S:=fun W=>W.cell? ⟨w.heap.size,0,none⟩=some (.slice p n c)∧W.cell? ⟨w.heap.size,1,none⟩=some (.slice q m d)) (by kernel_rfl) (HALL.out _ HD0.out) (fun hHeld=>?_)
   refine wpAnyH_take (i:=0) (v:=?v6) rfl (by kernel_rfl) (by kernel_rfl) (by kernel_rfl) (fun _ _ _ h=>h) (Or.inl ⟨by rfl,?hy6⟩) (by assumption) ?rest6
   case hy6 =>
    intro W' hSw
    obtain ⟨e0,e1⟩:=hSw
    go_simp
    with_reducible rfl
   simp only [List.getElem_toArray,List.getElem_cons_zero,Act.put,List.setIfInBounds_toArray,List.set_cons_zero,List.set_cons_succ]
   refine wpAnyH_take (i:=1) (v:=?v7) rfl (by kernel_rfl) (by kernel_rfl) (by kernel_rfl) (fun _ _ _ h=>h) (Or.inl ⟨by rfl,?hy7⟩) (by assumption) ?rest7
   case hy7 =>
    intro W' hSw
    obtain ⟨e0,e1⟩:=hSw
    go_simp
    with_reducible rfl
   simp only [List.getElem_toArray,List.getElem_cons_zero,List.getElem_cons_succ,Act.put,List.setIfInBounds_toArray,List.set_cons_zero,List.set_cons_succ]
   refine wpAnyH_ready (rs:=[2]) (by kernel_rfl) (by simp) ?_
   refine AllReadyH.cons (i:=2) rfl (fun K hK=>?_) AllReadyH.nil
   go_simp
   refine (H19.out).mono ?_
   rintro e w1 ⟨rfl,rfl⟩
   refine hK.out _ _ (HALL.out _ HD0.out) (fun hHeld=>?_)
   clear hK K
   refine wpAnyH_take (i:=3) (v:=?v8) rfl (by kernel_rfl) (by kernel_rfl) (by kernel_rfl) (fun _ _ _ h=>h) (Or.inl ⟨by rfl,?hy8⟩) (by assumption) ?rest8
   case hy8 =>
    intro W' hSw
    obtain ⟨e0,e1⟩:=hSw
    go_simp
    with_reducible rfl
   simp only [List.getElem_toArray,List.getElem_cons_zero,List.getElem_cons_succ,Act.put,List.setIfInBounds_toArray,List.set_cons_zero,List.set_cons_succ]
   refine wpAnyH_take (i:=4) (v:=?v9) rfl (by kernel_rfl) (by kernel_rfl) (by kernel_rfl) (fun _ _ _ h=>h) (Or.inl ⟨by rfl,?hy9⟩) (by assumption) ?rest9
   case hy9 =>
    intro W' hSw
    obtain ⟨e0,e1⟩:=hSw
    go_simp
    with_reducible rfl
   simp only [List.getElem_toArray,List.getElem_cons_zero,List.getElem_cons_succ,Act.put,List.setIfInBounds_toArray,List.set_cons_zero,List.set_cons_succ]
   refine wpAnyH_take (i:=5) (v:=?v10) rfl (by kernel_rfl) (by kernel_rfl) (by kernel_rfl) (fun _ _ _ h=>h) (Or.inl ⟨by rfl,?hy10⟩) (by assumption) ?rest10
   case hy10 =>
    intro W' hSw
    obtain ⟨e0,e1⟩:=hSw
    go_simp
    with_reducible rfl
   simp only [List.getElem_toArray,List.getElem_cons_zero,List.getElem_cons_succ,Act.put,List.setIfInBounds_toArray,List.set_cons_zero,List.set_cons_succ]
   refine wpAnyH_take (i:=6) (v:=?v11) rfl (by kernel_rfl) (by kernel_rfl) (by kernel_rfl) (fun _ _ _ h=>h) (Or.inl ⟨by rfl,?hy11⟩) (by assumption) ?rest11
   case hy11 =>
    intro W' hSw
    obtain ⟨e0,e1⟩:=hSw
    go_simp
    with_reducible rfl
   simp only [List.getElem_toArray,List.getElem_cons_zero,List.getElem_cons_succ,Act.put,List.setIfInBounds_toArray,List.set_cons_zero,List.set_cons_succ]
   refine wpAnyH_take (i:=7) (v:=?v12) rfl (by kernel_rfl) (by kernel_rfl) (by kernel_rfl) (fun _ _ _ h=>h) (Or.inl ⟨by rfl,?hy12⟩) (by assumption) ?rest12
   case hy12 =>
    intro W' hSw
    obtain ⟨e0,e1⟩:=hSw
    go_simp
    with_reducible rfl
   simp only [List.getElem_toArray,List.getElem_cons_zero,List.getElem_cons_succ,Act.put,List.setIfInBounds_toArray,List.set_cons_zero,List.set_cons_succ]
   refine wpAnyH_take (i:=8) (v:=?v13) rfl (by kernel_rfl) (by kernel_rfl) (by kernel_rfl) (fun _ _ _ h=>h) (Or.inl ⟨by rfl,?hy13⟩) (by assumption) ?rest13
   case hy13 =>
    intro W' hSw
    obtain ⟨e0,e1⟩:=hSw
    go_simp
    with_reducible rfl
   simp only [List.getElem_toArray,List.getElem_cons_zero,List.getElem_cons_succ,Act.put,List.setIfInBounds_toArray,List.set_cons_zero,List.set_cons_succ]
   refine wpAnyH_take (i:=9) (v:=?v14) rfl (by kernel_rfl) (by kernel_rfl) (by kernel_rfl) (fun _ _ _ h=>h) (Or.inl ⟨by rfl,?hy14⟩) (by assumption) ?rest14
   case hy14 =>
    intro W' hSw
    obtain ⟨e0,e1⟩:=hSw
    go_simp
    with_reducible rfl
   simp only [List.getElem_toArray,List.getElem_cons_zero,List.getElem_cons_succ,Act.put,List.setIfInBounds_toArray,List.set_cons_zero,List.set_cons_succ]
   refine wpAnyH_ready (rs:=[10]) (by kernel_rfl) (by simp) ?_
   refine AllReadyH.cons (i:=10) rfl (fun K hK=>?_) AllReadyH.nil
   go_simp
   refine (H44.out).mono ?_
   rintro e w1 ⟨rfl,rfl⟩
   refine hK.out _ _ (HALL.out _ HD0.out) (fun hHeld=>?_)
   clear hK K
   refine wpAnyH_take (i:=11) (v:=?v15) rfl (by kernel_rfl) (by kernel_rfl) (by kernel_rfl) (fun _ _ _ h=>h) (Or.inl ⟨by rfl,?hy15⟩) (by assumption) ?rest15
   case hy15 =>
    intro W' hSw
    obtain ⟨e0,e1⟩:=hSw
    go_simp
    with_reducible rfl
   simp only [List.getElem_toArray,List.getElem_cons_zero,List.getElem_cons_succ,Act.put,List.setIfInBounds_toArray,List.set_cons_zero,List.set_cons_succ]
   refine wpAnyH_take (i:=12) (v:=?v16) rfl (by kernel_rfl) (by kernel_rfl) (by kernel_rfl) (fun _ _ _ h=>h) (Or.inl ⟨by rfl,?hy16⟩) (by assumption) ?rest16
   case hy16 =>
    intro W' hSw
    obtain ⟨e0,e1⟩:=hSw
    go_simp
    with_reducible rfl
   simp only [List.getElem_toArray,List.getElem_cons_zero,List.getElem_cons_succ,Act.put,List.setIfInBounds_toArray,List.set_cons_zero,List.set_cons_succ]
   refine wpAnyH_done (by kernel_rfl) ?_ _
   refine NoPanic.normal ?_
   go_wp2_with fail
   go_ret
   exact ⟨HBD.out,rfl⟩
  case pos =>
   subst hmN
   rw [decide_eq_true (p:=l.length=m) hl.out,Bool.true_and]
   obtain ⟨v,HV⟩:∃ v,Hid (v=l.all isV):=⟨_,rfl⟩
   rw [← HV.out]
   have HNO:Hid (∀ k,k<m→isV (l.getD k [])=false→v=false):=Lib.hid (fun k hk h=>by
    rw [HV.out,List.all_eq_false]
    exact ⟨l.getD k [],by rw [List.getD_eq_getElem?_getD,List.getElem?_eq_getElem (by rw [hl.out];exact hk)];exact List.getElem_mem _,by rw [h];simp⟩)
   have HYES:Hid ((∀ k,k<m→isV (l.getD k [])=true)→v=true):=Lib.hid (fun h=>by
    rw [HV.out,List.all_eq_true]
    intro x hx
    obtain ⟨k,hk,e⟩:=List.getElem_of_mem hx
    have:=h k (by rw [← hl.out];exact hk)
    rwa [List.getD_eq_getElem?_getD,List.getElem?_eq_getElem hk,Option.getD_some,e] at this)
   go_enter Tryz.func83,Tryz.ntmps83
   go_wp2_with fail
   rw [HW0.out]
   refine wp_region_noPanic ?_
   refine wp_region_held_drew (S:=fun W=>W.cell? ⟨w.heap.size,0,none⟩=some (.slice p n c)∧W.cell? ⟨w.heap.size,1,none⟩=some (.slice q m d)) (by kernel_rfl) (HALL.out _ HD0.out) (fun hHeld=>?_)
   refine wpAnyH_take (i:=0) (v:=?v17) rfl (by kernel_rfl) (by kernel_rfl) (by kernel_rfl) (fun _ _ _ h=>h) (Or.inl ⟨by rfl,?hy17⟩) (by assumption) ?rest17
   case hy17 =>
    intro W' hSw
    obtain ⟨e0,e1⟩:=hSw
    go_simp
    with_reducible rfl
   simp only [List.getElem_toArray,List.getElem_cons_zero,Act.put,List.setIfInBounds_toArray,List.set_cons_zero,List.set_cons_succ]
   refine wpAnyH_take (i:=1) (v:=?v18) rfl (by kernel_rfl) (by kernel_rfl) (by kernel_rfl) (fun _ _ _ h=>h) (Or.inl ⟨by rfl,?hy18⟩) (by assumption) ?rest18
   case hy18 =>
    intro W' hSw
    obtain ⟨e0,e1⟩:=hSw
    go_simp
    with_reducible rfl
   simp only [List.getElem_toArray,List.getElem_cons_zero,List.getElem_cons_succ,Act.put,List.setIfInBounds_toArray,List.set_cons_zero,List.set_cons_succ]
   refine wpAnyH_ready (rs:=[2]) (by kernel_rfl) (by simp) ?_
   refine AllReadyH.cons (i:=2) rfl (fun K hK=>?_) AllReadyH.nil
   go_simp
   refine (H19.out).mono ?_
   rintro e w1 ⟨rfl,rfl⟩
   refine hK.out _ _ (HALL.out _ HD0.out) (fun hHeld=>?_)
   clear hK K
   refine wpAnyH_take (i:=3) (v:=?v19) rfl (by kernel_rfl) (by kernel_rfl) (by kernel_rfl) (fun _ _ _ h=>h) (Or.inl ⟨by rfl,?hy19⟩) (by assumption) ?rest19
   case hy19 =>
    intro W' hSw
    obtain ⟨e0,e1⟩:=hSw
    go_simp
    with_reducible rfl
   simp only [List.getElem_toArray,List.getElem_cons_zero,List.getElem_cons_succ,Act.put,List.setIfInBounds_toArray,List.set_cons_zero,List.set_cons_succ]
   refine wpAnyH_take (i:=4) (v:=?v20) rfl (by kernel_rfl) (by kernel_rfl) (by kernel_rfl) (fun _ _ _ h=>h) (Or.inl ⟨by rfl,?hy20⟩) (by assumption) ?rest20
   case hy20 =>
    intro W' hSw
    obtain ⟨e0,e1⟩:=hSw
    go_simp
    with_reducible rfl
   simp only [List.getElem_toArray,List.getElem_cons_zero,List.getElem_cons_succ,Act.put,List.setIfInBounds_toArray,List.set_cons_zero,List.set_cons_succ]
   refine wpAnyH_take (i:=5) (v:=?v21) rfl (by kernel_rfl) (by kernel_rfl) (by kernel_rfl) (fun _ _ _ h=>h) (Or.inl ⟨by rfl,?hy21⟩) (by assumption) ?rest21
   case hy21 =>
    intro W' hSw
    obtain ⟨e0,e1⟩:=hSw
    go_simp
    with_reducible rfl
   simp only [List.getElem_toArray,List.getElem_cons_zero,List.getElem_cons_succ,Act.put,List.setIfInBounds_toArray,List.set_cons_zero,List.set_cons_succ]
   refine wpAnyH_take (i:=6) (v:=?v22) rfl (by kernel_rfl) (by kernel_rfl) (by kernel_rfl) (fun _ _ _ h=>h) (Or.inl ⟨by rfl,?hy22⟩) (by assumption) ?rest22
   case hy22 =>
    intro W' hSw
    obtain ⟨e0,e1⟩:=hSw
    go_simp
    with_reducible rfl
   simp only [List.getElem_toArray,List.getElem_cons_zero,List.getElem_cons_succ,Act.put,List.setIfInBounds_toArray,List.set_cons_zero,List.set_cons_succ]
   refine wpAnyH_take (i:=7) (v:=?v23) rfl (by kernel_rfl) (by kernel_rfl) (by kernel_rfl) (fun _ _ _ h=>h) (Or.inl ⟨by rfl,?hy23⟩) (by assumption) ?rest23
   case hy23 =>
    intro W' hSw
    obtain ⟨e0,e1⟩:=hSw
    go_simp
    with_reducible rfl
   simp only [List.getElem_toArray,List.getElem_cons_zero,List.getElem_cons_succ,Act.put,List.setIfInBounds_toArray,List.set_cons_zero,List.set_cons_succ]
   refine wpAnyH_take (i:=8) (v:=?v24) rfl (by kernel_rfl) (by kernel_rfl) (by kernel_rfl) (fun _ _ _ h=>h) (Or.inl ⟨by rfl,?hy24⟩) (by assumption) ?rest24
   case hy24 =>
    intro W' hSw
    obtain ⟨e0,e1⟩:=hSw
    go_simp
    with_reducible rfl
   simp only [List.getElem_toArray,List.getElem_cons_zero,List.getElem_cons_succ,Act.put,List.setIfInBounds_toArray,List.set_cons_zero,List.set_cons_succ]
   refine wpAnyH_take (i:=9) (v:=?v25) rfl (by kernel_rfl) (by kernel_rfl) (by kernel_rfl) (fun _ _ _ h=>h) (Or.inl ⟨by rfl,?hy25⟩) (by assumption) ?rest25
   case hy25 =>
    intro W' hSw
    obtain ⟨e0,e1⟩:=hSw
    go_simp
    with_reducible rfl
   simp only [List.getElem_toArray,List.getElem_cons_zero,List.getElem_cons_succ,Act.put,List.setIfInBounds_toArray,List.set_cons_zero,List.set_cons_succ]
   refine wpAnyH_ready (rs:=[10]) (by kernel_rfl) (by simp) ?_
   refine AllReadyH.cons (i:=10) rfl (fun K hK=>?_) AllReadyH.nil
   go_simp
   refine (H44.out).mono ?_
   rintro e w1 ⟨rfl,rfl⟩
   refine hK.out _ _ (HALL.out _ HD0.out) (fun hHeld=>?_)
   clear hK K
   refine wpAnyH_take (i:=11) (v:=?v26) rfl (by kernel_rfl) (by kernel_rfl) (by kernel_rfl) (fun _ _ _ h=>h) (Or.inl ⟨by rfl,?hy26⟩) (by assumption) ?rest26
   case hy26 =>
    intro W' hSw
    obtain ⟨e0,e1⟩:=hSw
    go_simp
    with_reducible rfl
   simp only [List.getElem_toArray,List.getElem_cons_zero,List.getElem_cons_succ,Act.put,List.setIfInBounds_toArray,List.set_cons_zero,List.set_cons_succ]
   refine wpAnyH_take (i:=12) (v:=?v27) rfl (by kernel_rfl) (by kernel_rfl) (by kernel_rfl) (fun _ _ _ h=>h) (Or.inl ⟨by rfl,?hy27⟩) (by assumption) ?rest27
   case hy27 =>
    intro W' hSw
    obtain ⟨e0,e1⟩:=hSw
    go_simp
    with_reducible rfl
   simp only [List.getElem_toArray,List.getElem_cons_zero,List.getElem_cons_succ,Act.put,List.setIfInBounds_toArray,List.set_cons_zero,List.set_cons_succ]
   refine wpAnyH_done (by kernel_rfl) ?_ _
   refine NoPanic.normal ?_
   go_wp2_with fail
   go_loopw [3] (fun iv wr=>∃ i:Nat,i≤m∧iv=.int .i64 i∧Hid (∀ k,k<i→isV (l.getD k [])=true)∧Hid (Below W0.heap.size W0 wr)) (fun iv _=>m-(Go.RowKit.intOf iv).toNat)
   case atStart=>exact ⟨0,Nat.zero_le _,rfl,Lib.hid (fun k hk=>by omega),HD0⟩
   case round =>
    obtain ⟨i,hi,rfl,HA,HB⟩:=hrel
    have ii:(i:Int)≤(m:Int):=by omega
    obtain ⟨c0,c1⟩:=HALL.out _ HB.out
    have HBW:Hid (Below w.heap.size w wr):=Lib.hid (HB0.out.trans (HB.out.mono HB0.out.size))
    by_cases hlt:i<m
    ·have ilt:(i:Int)<(m:Int):=by omega
     obtain ⟨b,off,x,rfl,-,hcell,HX⟩:=(HQ.out.below HBW.out).at (k:=i) (by rw [hl.out];exact hlt)
     obtain ⟨u,HU⟩:∃ u,Hid (u=isV x):=⟨_,rfl⟩
     have HC:=Lib.hid (risvalue_any x wr)
     rw [← HU.out] at HC
     go_wp2_with fail
     refine (HC.out).mono ?_
     rintro e w1 ⟨hb,rfl⟩
     have HB1:=Lib.hid (HB.out.trans (hb.mono HB.out.size))
     have HBW1:=Lib.hid (HBW.out.trans (hb.mono HBW.out.size))
     clear hb hcell c0 c1
     by_cases hu:u=true
     ·subst hu
      have hst:Hid (∀ k,k<i+1→isV (l.getD k [])=true):=Lib.hid (fun k hk=>by
       by_cases e:k=i
       ·rw [e,← HX.out,← HU.out]
       ·exact HA.out k (by omega))
      go_wp2_with fail
      go_roundw
      case rel=>exact ⟨i+1,by omega,by go_num,hst,HB1⟩
      case measure=>simp [Go.RowKit.intOf];omega
     ·obtain rfl:u=false:=by simpa using hu
      obtain rfl:v=false:=HNO.out i hlt (by rw [← HX.out,← HU.out])
      go_wp2_with fail
      go_ret
      exact ⟨HBW1.out,rfl⟩
    ·obtain rfl:i=m:=by omega
     have ilt:¬ (i:Int)<(i:Int):=by omega
     obtain rfl:v=true:=HYES.out HA.out
     go_wp2_with fail
     go_ret
     exact ⟨HBW.out,rfl⟩
end Go.Proofs.YtlcpcpmlfegejaaGreatDoor.Arr
