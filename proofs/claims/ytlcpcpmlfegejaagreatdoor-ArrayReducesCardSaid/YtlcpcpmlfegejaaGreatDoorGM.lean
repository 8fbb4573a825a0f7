/- Values and arrays: which are valid. -/
import Derived.Test.YtlcpcpmlfegejaaGreatDoorGL
set_option maxHeartbeats 2000000
set_option maxRecDepth 100000
namespace Go.Proofs.YtlcpcpmlfegejaaGreatDoor.Arr
open Go.RowKit Go.Shelf
open Go.Lib
attribute [local go_sem] Oper.semAt_some
def isV (x:List UInt8):Bool:=fitT 5 x
theorem isvalue_any (x:List UInt8) (w:World) (he:Env w):Calls Tryz.prog 62 #[.string ⟨List.toArray x⟩] w fun e w'=>Below w.heap.size w w'∧e=.returned (.bool (isV x)):=by
 have H:=Lib.hid (pfits_list 5 x w he)
 go_enter Tryz.func62,Tryz.ntmps62
 go_wp2_with fail
 refine (H.out).mono ?_
 rintro e w1 ⟨rfl,hb⟩
 have HB:=Lib.hid hb
 clear hb
 go_wp2_with fail
 go_ret
 exact ⟨HB.out,rfl⟩
theorem arevalues_any (p:Option Addr) (c n:Nat) (l:List (List UInt8)) (w:World) (he:Env w) (hl:Hid (l.length=n)) (hn:n≤5000) (h:RdS w p l) :
  Calls Tryz.prog 25 #[.slice p n c] w fun e w'=>Below w.heap.size w w'∧e=.returned (.bool (l.all isV)):=by
 have H:=Lib.hid h
 have HE:=Lib.hid he
 have hni:(n:Int)≤5000:=by omega
 obtain ⟨v,HV⟩:∃ v,Hid (v=l.all isV):=⟨_,rfl⟩
 rw [← HV.out]
 have HNO:Hid (∀ k,k<n→isV (l.getD k [])=false→v=false):=Lib.hid (fun k hk h=>by
  rw [HV.out,List.all_eq_false]
  exact ⟨l.getD k [],by rw [List.getD_eq_getElem?_getD,List.getElem?_eq_getElem (by rw [hl.out];exact hk)];exact List.getElem_mem _,by rw [h];simp⟩)
 have HYES:Hid ((∀ k,k<n→isV (l.getD k [])=true)→v=true):=Lib.hid (fun h=>by
  rw [HV.out,List.all_eq_true]
  intro x hx
  obtain ⟨k,hk,e⟩:=List.getElem_of_mem hx
  have:=h k (by rw [← hl.out];exact hk)
  rwa [List.getD_eq_getElem?_getD,List.getElem?_eq_getElem hk,Option.getD_some,e] at this)
 clear h he
 go_enter Tryz.func25,Tryz.ntmps25
 go_wp2_with fail
 go_loopw [7] (fun iv wr=>∃ i:Nat,i≤n∧iv=.int .i64 i∧Hid (∀ k,k<i→isV (l.getD k [])=true)∧Hid (Below w.heap.size w wr)) (fun iv _=>n-(Go.RowKit.intOf iv).toNat)
 case atStart=>exact ⟨0,Nat.zero_le _,rfl,Lib.hid (fun k hk=>by omega),Lib.hid (Below.refl _ _)⟩
 case round =>
  obtain ⟨i,hi,rfl,HA,HB⟩:=hrel
  have ii:(i:Int)≤(n:Int):=by omega
  by_cases hlt:i<n
  ·have ilt:(i:Int)<(n:Int):=by omega
   obtain ⟨b,off,x,rfl,-,hcell,HX⟩:=(H.out.below HB.out).at (k:=i) (by rw [hl.out];exact hlt)
   obtain ⟨u,HU⟩:∃ u,Hid (u=isV x):=⟨_,rfl⟩
   have HC:=Lib.hid (isvalue_any x wr (HE.out.below HB.out))
   rw [← HU.out] at HC
   go_wp2_with fail
   refine (HC.out).mono ?_
   rintro e w1 ⟨hb,rfl⟩
   have HB1:=Lib.hid (HB.out.trans (hb.mono HB.out.size))
   clear hb hcell
   by_cases hu:u=true
   ·subst hu
    have hst:Hid (∀ k,k<i+1→isV (l.getD k [])=true):=Lib.hid (fun k hk=>by
     by_cases e:k=i
     ·rw [e,← HX.out,← HU.out]
     ·exact HA.out k (by omega))
    go_wp2_with fail
    go_roundw
    case rel=>exact ⟨i+1,by omega,by go_num,hst,HB1⟩
    case measure=>simp [Go.RowKit.intOf];omega
   ·obtain rfl:u=false:=by simpa using hu
    obtain rfl:v=false:=HNO.out i hlt (by rw [← HX.out,← HU.out])
    go_wp2_with fail
    go_ret
    exact ⟨HB1.out,rfl⟩
  ·obtain rfl:i=n:=by omega
   have ilt:¬ (i:Int)<(i:Int):=by omega
   obtain rfl:v=true:=HYES.out HA.out
   go_wp2_with fail
   go_ret
   exact ⟨HB.out,rfl⟩
def validA (s:List Int) (l:List (List UInt8)):Bool:=vs s&&(decide (l.length=prod (s.map Int.toNat))&&l.all isV)
theorem valid_any (p q:Option Addr) (c d n m:Nat) (s:List Int) (l:List (List UInt8)) (w:World) (he:Env w) (hs:Hid (s.length=n)) (hl:Hid (l.length=m)) (hm:m≤5000) (hp:Rd w p s) (hq:RdS w q l) :
  Calls Tryz.prog 50 #[.agg #[.slice p n c,.slice q m d]] w fun e w'=>Below w.heap.size w w'∧e=.returned (.bool (validA s l)):=by
 have HP:=Lib.hid hp
 have HQ:=Lib.hid hq
 have HE:=Lib.hid he
 have hmi:(m:Int)≤5000:=by omega
 obtain ⟨W0,HW0⟩:∃ W0,Hid (w.alloc (.cells #[.slice p n c,.slice q m d] 31)=W0):=⟨_,Lib.hid rfl⟩
 have HB0:Hid (Below w.heap.size w W0):=Lib.hid (by rw [← HW0.out];exact (Below.refl _ w).alloc (Nat.le_refl _) _)
 have HX0:Hid (W0.heap[w.heap.size]?=some (.cells #[.slice p n c,.slice q m d] 31 (0,0))):=Lib.hid (by rw [← HW0.out];exact World.alloc_heap_new w _)
 have HALL:Hid (∀ W,Below W0.heap.size W0 W→W.cell? ⟨w.heap.size,0,none⟩=some (.slice p n c)∧W.cell? ⟨w.heap.size,1,none⟩=some (.slice q m d)):=Lib.hid (fun W hW=>by
  have h:=(hW.block w.heap.size (Array.getElem?_eq_some_iff.1 HX0.out).1).trans HX0.out
  exact ⟨by simp [World.cell?,h],by simp [World.cell?,h]⟩)
 have HD0:Hid (Below W0.heap.size W0 W0.drew):=Lib.hid ⟨rfl,rfl,rfl,Nat.le_refl _,fun _ _=>rfl⟩
 have HBD:Hid (Below w.heap.size w W0.drew):=Lib.hid (HB0.out.trans ⟨rfl,rfl,rfl,Nat.le_refl _,fun _ _=>rfl⟩)
 have H18:Hid (Calls Tryz.prog 79 #[.slice p n c] W0.drew fun e w'=>W0.drew=w'∧e=.returned (.bool (vs s))):=Lib.hid (by
  have:=vshape_any p c s W0.drew (HP.out.below HBD.out)
  rwa [hs.out] at this)
 clear hp hq he
 cases hv:vs s with
 | false =>
  have e0:validA s l=false:=by unfold validA;rw [hv];rfl
  rw [e0]
  rw [hv] at H18
  clear hv e0
  go_enter Tryz.func50,Tryz.ntmps50
  go_wp2_with fail
  rw [HW0.out]
  refine wp_region_noPanic ?_
  refine wp_region_held_drew (S:=fun W=>W.cell? ⟨w.heap.size,0,none⟩=some (.slice p n c)∧W.cell? ⟨w.heap.size,1,none⟩=some (.slice q m d)) (by kernel_rfl) (HALL.out _ HD0.out) (fun hHeld=>?_)
  refine wpAnyH_take (i:=0) (v:=?v1) rfl (by kernel_rfl) (by kernel_rfl) (by kernel_rfl) (fun _ _ _ h=>h) (Or.inl ⟨by rfl,?hy1⟩) (by assumption) ?rest1
  case hy1 =>
   intro W' hSw
   obtain ⟨e0,e1⟩:=hSw
   go_simp
   with_reducible rfl
  simp only [List.getElem_toArray,List.getElem_cons_zero,Act.put,List.setIfInBounds_toArray,List.set_cons_zero,List.set_cons_succ]
  refine wpAnyH_take (i:=1) (v:=?v2) rfl (by kernel_rfl) (by kernel_rfl) (by kernel_rfl) (fun _ _ _ h=>h) (Or.inl ⟨by rfl,?hy2⟩) (by assumption) ?rest2
  case hy2 =>
   intro W' hSw
   obtain ⟨e0,e1⟩:=hSw
   go_simp
   with_reducible rfl
  simp only [List.getElem_toArray,List.getElem_cons_zero,List.getElem_cons_succ,Act.put,List.setIfInBounds_toArray,List.set_cons_zero,List.set_cons_succ]
  refine wpAnyH_ready (rs:=[2]) (by kernel_rfl) (by simp) ?_
  refine AllReadyH.cons (i:=2) rfl (fun K hK=>?_) AllReadyH.nil
  go_simp
  refine (H18.out).mono ?_
  rintro e w1 ⟨rfl,rfl⟩
  refine hK.out _ _ (HALL.out _ HD0.out) (fun hHeld=>?_)
  clear hK K
  refine wpAnyH_take (i:=3) (v:=?v3) rfl (by kernel_rfl) (by kernel_rfl) (by kernel_rfl) (fun _ _ _ h=>h) (Or.inl ⟨by rfl,?hy3⟩) (by assumption) ?rest3
  case hy3 =>
   intro W' hSw
   obtain ⟨e0,e1⟩:=hSw
   go_simp
   with_reducible rfl
  simp only [List.getElem_toArray,List.getElem_cons_zero,List.getElem_cons_succ,Act.put,List.setIfInBounds_toArray,List.set_cons_zero,List.set_cons_succ]
  refine wpAnyH_take (i:=4) (v:=undef) rfl (by kernel_rfl) (by kernel_rfl) (by kernel_rfl) (fun _ _ _ h=>h) (Or.inr ⟨by rfl,rfl⟩) (by assumption) ?_
  simp only [List.getElem_toArray,List.getElem_cons_zero,List.getElem_cons_succ,Act.put,List.setIfInBounds_toArray,List.set_cons_zero,List.set_cons_succ]
  refine wpAnyH_take (i:=5) (v:=undef) rfl (by kernel_rfl) (by kernel_rfl) (by kernel_rfl) (fun _ _ _ h=>h) (Or.inr ⟨by rfl,rfl⟩) (by assumption) ?_
  simp only [List.getElem_toArray,List.getElem_cons_zero,List.getElem_cons_succ,Act.put,List.setIfInBounds_toArray,List.set_cons_zero,List.set_cons_succ]
  refine wpAnyH_take (i:=6) (v:=undef) rfl (by kernel_rfl) (by kernel_rfl) (by kernel_rfl) (fun _ _ _ h=>h) (Or.inr ⟨by rfl,rfl⟩) (by assumption) ?_
  simp only [List.getElem_toArray,List.getElem_cons_zero,List.getElem_cons_succ,Act.put,List.setIfInBounds_toArray,List.set_cons_zero,List.set_cons_succ]
  refine wpAnyH_take (i:=7) (v:=undef) rfl (by kernel_rfl) (by kernel_rfl) (by kernel_rfl) (fun _ _ _ h=>h) (Or.inr ⟨by rfl,rfl⟩) (by assumption) ?_
  simp only [List.getElem_toArray,List.getElem_cons_zero,List.getElem_cons_succ,Act.put,List.setIfInBounds_toArray,List.set_cons_zero,List.set_cons_succ]
  refine wpAnyH_take (i:=8) (v:=undef) rfl (by kernel_rfl) (by kernel_rfl) (by kernel_rfl) (fun _ _ _ h=>h) (Or.inr ⟨by rfl,rfl⟩) (by assumption) ?_
  simp only [List.getElem_toArray,List.getElem_cons_zero,List.getElem_cons_succ,Act.put,List.setIfInBounds_toArray,List.set_cons_zero,List.set_cons_succ]
  refine wpAnyH_take (i:=9) (v:=undef) rfl (by kernel_rfl) (by kernel_rfl) (by kernel_rfl) (fun _ _ _ h=>h) (Or.inr ⟨by rfl,rfl⟩) (by assumption) ?_
  simp only [List.getElem_toArray,List.getElem_cons_zero,List.getElem_cons_succ,Act.put,List.setIfInBounds_toArray,List.set_cons_zero,List.set_cons_succ]
  refine wpAnyH_take (i:=10) (v:=undef) rfl (by kernel_rfl) (by kernel_rfl) (by kernel_rfl) (fun _ _ _ h=>h) (Or.inr ⟨by rfl,rfl⟩) (by assumption) ?_
  simp only [List.getElem_toArray,List.getElem_cons_zero,List.getElem_cons_succ,Act.put,List.setIfInBounds_toArray,List.set_cons_zero,List.set_cons_succ]
  refine wpAnyH_take (i:=11) (v:=?v4) rfl (by kernel_rfl) (by kernel_rfl) (by kernel_rfl) (fun _ _ _ h=>h) (Or.inl ⟨by rfl,?hy4⟩) (by assumption) ?rest4
  case hy4 =>
   intro W' hSw
   obtain ⟨e0,e1⟩:=hSw
   go_simp
   with_reducible rfl
  simp only [List.getElem_toArray,List.getElem_cons_zero,List.getElem_cons_succ,Act.put,List.setIfInBounds_toArray,List.set_cons_zero,List.set_cons_succ]
  refine wpAnyH_take (i:=12) (v:=?v5) rfl (by kernel_rfl) (by kernel_rfl) (by kernel_rfl) (fun _ _ _ h=>h) (Or.inl ⟨by rfl,?hy5⟩) (by assumption) ?rest5
  case hy5 =>
   intro W' hSw
   obtain ⟨e0,e1⟩:=hSw
   go_simp
   with_reducible rfl
  simp only [List.getElem_toArray,List.getElem_cons_zero,List.getElem_cons_succ,Act.put,List.setIfInBounds_toArray,List.set_cons_zero,List.set_cons_succ]
  refine wpAnyH_take (i:=13) (v:=undef) rfl (by kernel_rfl) (by kernel_rfl) (by kernel_rfl) (fun _ _ _ h=>h) (Or.inr ⟨by rfl,rfl⟩) (by assumption) ?_
  simp only [List.getElem_toArray,List.getElem_cons_zero,List.getElem_cons_succ,Act.put,List.setIfInBounds_toArray,List.set_cons_zero,List.set_cons_succ]
  refine wpAnyH_take (i:=14) (v:=undef) rfl (by kernel_rfl) (by kernel_rfl) (by kernel_rfl) (fun _ _ _ h=>h) (Or.inr ⟨by rfl,rfl⟩) (by assumption) ?_
  simp only [List.getElem_toArray,List.getElem_cons_zero,List.getElem_cons_succ,Act.put,List.setIfInBounds_toArray,List.set_cons_zero,List.set_cons_succ]
  refine wpAnyH_take (i:=15) (v:=undef) rfl (by kernel_rfl) (by kernel_rfl) (by kernel_rfl) (fun _ _ _ h=>h) (Or.inr ⟨by rfl,rfl⟩) (by assumption) ?_
  simp only [List.getElem_toArray,List.getElem_cons_zero,List.getElem_cons_succ,Act.put,List.setIfInBounds_toArray,List.set_cons_zero,List.set_cons_succ]
  refine wpAnyH_take (i:=16) (v:=?v6) rfl (by kernel_rfl) (by kernel_rfl) (by kernel_rfl) (fun _ _ _ h=>h) (Or.inl ⟨by rfl,?hy6⟩) (by assumption) ?rest6
  case hy6 =>
   intro W' hSw
   obtain ⟨e0,e1⟩:=hSw
   go_simp
   with_reducible rfl
  simp only [List.getElem_toArray,List.getElem_cons_zero,List.getElem_cons_succ,Act.put,List.setIfInBounds_toArray,List.set_cons_zero,List.set_cons_succ]
  refine wpAnyH_take (i:=17) (v:=?v7) rfl (by kernel_rfl) (by kernel_rfl) (by kernel_rfl) (fun _ _ _ h=>h) (Or.inl ⟨by rfl,?hy7⟩) (by assumption) ?rest7
  case hy7 =>
   intro W' hSw
   obtain ⟨e0,e1⟩:=hSw
   go_simp
   with_reducible rfl
  simp only [List.getElem_toArray,List.getElem_cons_zero,List.getElem_cons_succ,Act.put,List.setIfInBounds_toArray,List.set_cons_zero,List.set_cons_succ]
  refine wpAnyH_done (by kernel_rfl) ?_ _
  refine NoPanic.normal ?_
  clear hHeld
  go_wp2_with fail
  go_ret
  exact ⟨HBD.out,rfl⟩
 | true =>
  obtain ⟨t,hst,ht1,ht2,ht3⟩:=vs_yes hv
  subst hst
  have HT:Hid (t.length=n):=Lib.hid (by rw [← hs.out,List.length_map])
  obtain ⟨P0,HP0⟩:∃ P0,Hid (P0=prod t):=⟨_,rfl⟩
  have iP:(P0:Int)≤4096:=by rw [HP0.out];omega
  have H54:Hid (Calls Tryz.prog 80 #[.slice p n c] W0.drew fun e w'=>W0.drew=w'∧e=.returned (.int .i64 ((P0:Nat):Int))):=Lib.hid (by
   have:=product_any p c t W0.drew ht1 ht2 (HP.out.below HBD.out)
   rwa [HT.out,← HP0.out] at this)
  rw [hv] at H18
  by_cases hme:m=P0
  ·have e0:validA (t.map Int.ofNat) l=l.all isV:=by unfold validA;rw [hv,toNat_map,hl.out,← HP0.out,decide_eq_true hme];rfl
   rw [e0]
   have H55:Hid (Calls Tryz.prog 25 #[.slice q m d] W0.drew fun e w'=>Below W0.drew.heap.size W0.drew w'∧e=.returned (.bool (l.all isV))):=Lib.hid (arevalues_any q d m l W0.drew (HE.out.below HBD.out) hl hm (HQ.out.below HBD.out))
   obtain ⟨u,HU⟩:∃ u,Hid (u=l.all isV):=⟨_,rfl⟩
   rw [← HU.out] at H55 ⊢
   subst hme
   have dq:((m:Int)==(m:Int))=true:=by simp
   clear hv e0 ht1 ht2 ht3
   go_enter Tryz.func50,Tryz.ntmps50
   go_wp2_with fail
   rw [HW0.out]
   refine wp_region_noPanic ?_
   refine wp_region_held_drew (S:=fun W=>W.cell? ⟨w.heap.size,0,none⟩=some (.slice p n c)∧W.cell? ⟨w.heap.size,1,none⟩=some (.slice q m d)) (by kernel_rfl) (HALL.out _ HD0.out) (fun hHeld=>?_)
   refine wpAnyH_take (i:=0) (v:=?v508) rfl (by kernel_rfl) (by kernel_rfl) (by kernel_rfl) (fun _ _ _ h=>h) (Or.inl ⟨by rfl,?hy508⟩) (by assumption) ?rest508
   case hy508 =>
    intro W' hSw
    obtain ⟨e0,e1⟩:=hSw
    go_simp
    with_reducible rfl
   simp only [List.getElem_toArray,List.getElem_cons_zero,Act.put,List.setIfInBounds_toArray,List.set_cons_zero,List.set_cons_succ]
   refine wpAnyH_take (i:=1) (v:=?v509) rfl (by kernel_rfl) (by kernel_rfl) (by kernel_rfl) (fun _ _ _ h=>h) (Or.inl ⟨by rfl,?hy509⟩) (by assumption) ?rest509
   case hy509 =>
    intro W' hSw
    obtain ⟨e0,e1⟩:=hSw
    go_simp
    with_reducible rfl
   simp only [List.getElem_toArray,List.getElem_cons_zero,List.getElem_cons_succ,Act.put,List.setIfInBounds_toArray,List.set_cons_zero,List.set_cons_succ]
   refine wpAnyH_ready (rs:=[2]) (by kernel_rfl) (by simp) ?_
   refine AllReadyH.cons (i:=2) rfl (fun K hK=>?_) AllReadyH.nil
   go_simp
   refine (H18.out).mono ?_
   rintro e w1 ⟨rfl,rfl⟩
   refine hK.out _ _ (HALL.out _ HD0.out) (fun hHeld=>?_)
   clear hK K
   refine wpAnyH_take (i:=3) (v:=?v510) rfl (by kernel_rfl) (by kernel_rfl) (by kernel_rfl) (fun _ _ _ h=>h) (Or.inl ⟨by rfl,?hy510⟩) (by assumption) ?rest510
   case hy510 =>
    intro W' hSw
    obtain ⟨e0,e1⟩:=hSw
    go_simp
    with_reducible rfl
   simp only [List.getElem_toArray,List.getElem_cons_zero,List.getElem_cons_succ,Act.put,List.setIfInBounds_toArray,List.set_cons_zero,List.set_cons_succ]
   refine wpAnyH_take (i:=4) (v:=?v511) rfl (by kernel_rfl) (by kernel_rfl) (by kernel_rfl) (fun _ _ _ h=>h) (Or.inl ⟨by rfl,?hy511⟩) (by assumption) ?rest511
   case hy511 =>
    intro W' hSw
    obtain ⟨e0,e1⟩:=hSw
    go_simp
    with_reducible rfl
   simp only [List.getElem_toArray,List.getElem_cons_zero,List.getElem_cons_succ,Act.put,List.setIfInBounds_toArray,List.set_cons_zero,List.set_cons_succ]
   refine wpAnyH_take (i:=5) (v:=?v512) rfl (by kernel_rfl) (by kernel_rfl) (by kernel_rfl) (fun _ _ _ h=>h) (Or.inl ⟨by rfl,?hy512⟩) (by assumption) ?rest512
   case hy512 =>
    intro W' hSw
    obtain ⟨e0,e1⟩:=hSw
    go_simp
    with_reducible rfl
   simp only [List.getElem_toArray,List.getElem_cons_zero,List.getElem_cons_succ,Act.put,List.setIfInBounds_toArray,List.set_cons_zero,List.set_cons_succ]
   refine wpAnyH_take (i:=6) (v:=?v513) rfl (by kernel_rfl) (by kernel_rfl) (by kernel_rfl) (fun _ _ _ h=>h) (Or.inl ⟨by rfl,?hy513⟩) (by assumption) ?rest513
   case hy513 =>
    intro W' hSw
    obtain ⟨e0,e1⟩:=hSw
    go_simp
    with_reducible rfl
   simp only [List.getElem_toArray,List.getElem_cons_zero,List.getElem_cons_succ,Act.put,List.setIfInBounds_toArray,List.set_cons_zero,List.set_cons_succ]
   refine wpAnyH_take (i:=7) (v:=?v514) rfl (by kernel_rfl) (by kernel_rfl) (by kernel_rfl) (fun _ _ _ h=>h) (Or.inl ⟨by rfl,?hy514⟩) (by assumption) ?rest514
   case hy514 =>
    intro W' hSw
    obtain ⟨e0,e1⟩:=hSw
    go_simp
    with_reducible rfl
   simp only [List.getElem_toArray,List.getElem_cons_zero,List.getElem_cons_succ,Act.put,List.setIfInBounds_toArray,List.set_cons_zero,List.set_cons_succ]
   refine wpAnyH_take (i:=8) (v:=?v515) rfl (by kernel_rfl) (by kernel_rfl) (by kernel_rfl) (fun _ _ _ h=>h) (Or.inl ⟨by rfl,?hy515⟩) (by assumption) ?rest515
   case hy515 =>
    intro W' hSw
    obtain ⟨e0,e1⟩:=hSw
    go_simp
    with_reducible rfl
   simp only [List.getElem_toArray,List.getElem_cons_zero,List.getElem_cons_succ,Act.put,List.setIfInBounds_toArray,List.set_cons_zero,List.set_cons_succ]
   refine wpAnyH_ready (rs:=[9]) (by kernel_rfl) (by simp) ?_
   refine AllReadyH.cons (i:=9) rfl (fun K hK=>?_) AllReadyH.nil
   go_simp
   refine (H54.out).mono ?_
   rintro e w1 ⟨rfl,rfl⟩
   refine hK.out _ _ (HALL.out _ HD0.out) (fun hHeld=>?_)
   clear hK K
   refine wpAnyH_take (i:=10) (v:=?v516) rfl (by kernel_rfl) (by kernel_rfl) (by kernel_rfl) (fun _ _ _ h=>h) (Or.inl ⟨by rfl,?hy516⟩) (by assumption) ?rest516
   case hy516 =>
    intro W' hSw
    obtain ⟨e0,e1⟩:=hSw
    go_simp
    with_reducible rfl
   simp only [List.getElem_toArray,List.getElem_cons_zero,List.getElem_cons_succ,Act.put,List.setIfInBounds_toArray,List.set_cons_zero,List.set_cons_succ]
   refine wpAnyH_take (i:=11) (v:=?v517) rfl (by kernel_rfl) (by kernel_rfl) (by kernel_rfl) (fun _ _ _ h=>h) (Or.inl ⟨by rfl,?hy517⟩) (by assumption) ?rest517
   case hy517 =>
    intro W' hSw
    obtain ⟨e0,e1⟩:=hSw
    go_simp
    with_reducible rfl
   simp only [List.getElem_toArray,List.getElem_cons_zero,List.getElem_cons_succ,Act.put,List.setIfInBounds_toArray,List.set_cons_zero,List.set_cons_succ]
   refine wpAnyH_take (i:=12) (v:=?v518) rfl (by kernel_rfl) (by kernel_rfl) (by kernel_rfl) (fun _ _ _ h=>h) (Or.inl ⟨by rfl,?hy518⟩) (by assumption) ?rest518
   case hy518 =>
    intro W' hSw
    obtain ⟨e0,e1⟩:=hSw
    go_simp
    with_reducible rfl
   simp only [List.getElem_toArray,List.getElem_cons_zero,List.getElem_cons_succ,Act.put,List.setIfInBounds_toArray,List.set_cons_zero,List.set_cons_succ]
   refine wpAnyH_take (i:=13) (v:=?v521) rfl (by kernel_rfl) (by kernel_rfl) (by kernel_rfl) (fun _ _ _ h=>h) (Or.inl ⟨by rfl,?hy521⟩) (by assumption) ?rest521
   case hy521 =>
    intro W' hSw
    obtain ⟨e0,e1⟩:=hSw
    go_simp
    with_reducible rfl
   simp only [List.getElem_toArray,List.getElem_cons_zero,List.getElem_cons_succ,Act.put,List.setIfInBounds_toArray,List.set_cons_zero,List.set_cons_succ]
   refine wpAnyH_take (i:=14) (v:=?v522) rfl (by kernel_rfl) (by kernel_rfl) (by kernel_rfl) (fun _ _ _ h=>h) (Or.inl ⟨by rfl,?hy522⟩) (by assumption) ?rest522
   case hy522 =>
    intro W' hSw
    obtain ⟨e0,e1⟩:=hSw
    go_simp
    with_reducible rfl
   simp only [List.getElem_toArray,List.getElem_cons_zero,List.getElem_cons_succ,Act.put,List.setIfInBounds_toArray,List.set_cons_zero,List.set_cons_succ]
   refine wpAnyH_ready (rs:=[15]) (by kernel_rfl) (by simp) ?_
   refine AllReadyH.cons (i:=15) rfl (fun K hK=>?_) AllReadyH.nil
   go_simp
   refine (H55.out).mono ?_
   rintro e w2 ⟨hb2,rfl⟩
   have HB2:Hid (Below W0.heap.size W0 w2):=Lib.hid (HD0.out.trans hb2)
   refine hK.out _ _ (HALL.out _ HB2.out) (fun hHeld=>?_)
   clear hK K
   refine wpAnyH_take (i:=16) (v:=?v523) rfl (by kernel_rfl) (by kernel_rfl) (by kernel_rfl) (fun _ _ _ h=>h) (Or.inl ⟨by rfl,?hy523⟩) (by assumption) ?rest523
   case hy523 =>
    intro W' hSw
    obtain ⟨e0,e1⟩:=hSw
    go_simp
    with_reducible rfl
   simp only [List.getElem_toArray,List.getElem_cons_zero,List.getElem_cons_succ,Act.put,List.setIfInBounds_toArray,List.set_cons_zero,List.set_cons_succ]
   refine wpAnyH_take (i:=17) (v:=?v524) rfl (by kernel_rfl) (by kernel_rfl) (by kernel_rfl) (fun _ _ _ h=>h) (Or.inl ⟨by rfl,?hy524⟩) (by assumption) ?rest524
   case hy524 =>
    intro W' hSw
    obtain ⟨e0,e1⟩:=hSw
    go_simp
    with_reducible rfl
   simp only [List.getElem_toArray,List.getElem_cons_zero,List.getElem_cons_succ,Act.put,List.setIfInBounds_toArray,List.set_cons_zero,List.set_cons_succ]
   refine wpAnyH_done (by kernel_rfl) ?_ _
   refine NoPanic.normal ?_
   clear hHeld
   go_wp2_with fail
   go_ret
   exact ⟨HB0.out.trans (HB2.out.mono HB0.out.size),rfl⟩
  ·have e0:validA (t.map Int.ofNat) l=false:=by unfold validA;rw [hv,toNat_map,hl.out,← HP0.out,decide_eq_false hme];rfl
   rw [e0]
   have dq:((m:Int)==(P0:Int))=false:=by rw [beq_eq_false_iff_ne];omega
   have dq2:¬ m=P0:=hme
   clear hv e0 ht1 ht2 ht3
   go_enter Tryz.func50,Tryz.ntmps50
   go_wp2_with fail
   rw [HW0.out]
   refine wp_region_noPanic ?_
   refine wp_region_held_drew (S:=fun W=>W.cell? ⟨w.heap.size,0,none⟩=some (.slice p n c)∧W.cell? ⟨w.heap.size,1,none⟩=some (.slice q m d)) (by kernel_rfl) (HALL.out _ HD0.out) (fun hHeld=>?_)
   refine wpAnyH_take (i:=0) (v:=?v8) rfl (by kernel_rfl) (by kernel_rfl) (by kernel_rfl) (fun _ _ _ h=>h) (Or.inl ⟨by rfl,?hy8⟩) (by assumption) ?rest8
   case hy8 =>
    intro W' hSw
    obtain ⟨e0,e1⟩:=hSw
    go_simp
    with_reducible rfl
   simp only [List.getElem_toArray,List.getElem_cons_zero,Act.put,List.setIfInBounds_toArray,List.set_cons_zero,List.set_cons_succ]
   refine wpAnyH_take (i:=1) (v:=?v9) rfl (by kernel_rfl) (by kernel_rfl) (by kernel_rfl) (fun _ _ _ h=>h) (Or.inl ⟨by rfl,?hy9⟩) (by assumption) ?rest9
   case hy9 =>
    intro W' hSw
    obtain ⟨e0,e1⟩:=hSw
    go_simp
    with_reducible rfl
   simp only [List.getElem_toArray,List.getElem_cons_zero,List.getElem_cons_succ,Act.put,List.setIfInBounds_toArray,List.set_cons_zero,List.set_cons_succ]
   refine wpAnyH_ready (rs:=[2]) (by kernel_rfl) (by simp) ?_
   refine AllReadyH.cons (i:=2) rfl (fun K hK=>?_) AllReadyH.nil
   go_simp
   refine (H18.out).mono ?_
   rintro e w1 ⟨rfl,rfl⟩
   refine hK.out _ _ (HALL.out _ HD0.out) (fun hHeld=>?_)
   clear hK K
   refine wpAnyH_take (i:=3) (v:=?v10) rfl (by kernel_rfl) (by kernel_rfl) (by kernel_rfl) (fun _ _ _ h=>h) (Or.inl ⟨by rfl,?hy10⟩) (by assumption) ?rest10
   case hy10 =>
    intro W' hSw
    obtain ⟨e0,e1⟩:=hSw
    go_simp
    with_reducible rfl
   simp only [List.getElem_toArray,List.getElem_cons_zero,List.getElem_cons_succ,Act.put,List.setIfInBounds_toArray,List.set_cons_zero,List.set_cons_succ]
   refine wpAnyH_take (i:=4) (v:=?v11) rfl (by kernel_rfl) (by kernel_rfl) (by kernel_rfl) (fun _ _ _ h=>h) (Or.inl ⟨by rfl,?hy11⟩) (by assumption) ?rest11
   case hy11 =>
    intro W' hSw
    obtain ⟨e0,e1⟩:=hSw
    go_simp
    with_reducible rfl
   simp only [List.getElem_toArray,List.getElem_cons_zero,List.getElem_cons_succ,Act.put,List.setIfInBounds_toArray,List.set_cons_zero,List.set_cons_succ]
   refine wpAnyH_take (i:=5) (v:=?v12) rfl (by kernel_rfl) (by kernel_rfl) (by kernel_rfl) (fun _ _ _ h=>h) (Or.inl ⟨by rfl,?hy12⟩) (by assumption) ?rest12
   case hy12 =>
    intro W' hSw
    obtain ⟨e0,e1⟩:=hSw
    go_simp
    with_reducible rfl
   simp only [List.getElem_toArray,List.getElem_cons_zero,List.getElem_cons_succ,Act.put,List.setIfInBounds_toArray,List.set_cons_zero,List.set_cons_succ]
   refine wpAnyH_take (i:=6) (v:=?v13) rfl (by kernel_rfl) (by kernel_rfl) (by kernel_rfl) (fun _ _ _ h=>h) (Or.inl ⟨by rfl,?hy13⟩) (by assumption) ?rest13
   case hy13 =>
    intro W' hSw
    obtain ⟨e0,e1⟩:=hSw
    go_simp
    with_reducible rfl
   simp only [List.getElem_toArray,List.getElem_cons_zero,List.getElem_cons_succ,Act.put,List.setIfInBounds_toArray,List.set_cons_zero,List.set_cons_succ]
   refine wpAnyH_take (i:=7) (v:=?v14) rfl (by kernel_rfl) (by kernel_rfl) (by kernel_rfl) (fun _ _ _ h=>h) (Or.inl ⟨by rfl,?hy14⟩) (by assumption) ?rest14
   case hy14 =>
    intro W' hSw
    obtain ⟨e0,e1⟩:=hSw
    go_simp
    with_reducible rfl
   simp only [List.getElem_toArray,List.getElem_cons_zero,List.getElem_cons_succ,Act.put,List.setIfInBounds_toArray,List.set_cons_zero,List.set_cons_succ]
   refine wpAnyH_take (i:=8) (v:=?v15) rfl (by kernel_rfl) (by kernel_rfl) (by kernel_rfl) (fun _ _ _ h=>h) (Or.inl ⟨by rfl,?hy15⟩) (by assumption) ?rest15
   case hy15 =>
    intro W' hSw
    obtain ⟨e0,e1⟩:=hSw
    go_simp
    with_reducible rfl
   simp only [List.getElem_toArray,List.getElem_cons_zero,List.getElem_cons_succ,Act.put,List.setIfInBounds_toArray,List.set_cons_zero,List.set_cons_succ]
   refine wpAnyH_ready (rs:=[9]) (by kernel_rfl) (by simp) ?_
   refine AllReadyH.cons (i:=9) rfl (fun K hK=>?_) AllReadyH.nil
   go_simp
   refine (H54.out).mono ?_
   rintro e w1 ⟨rfl,rfl⟩
   refine hK.out _ _ (HALL.out _ HD0.out) (fun hHeld=>?_)
   clear hK K
   refine wpAnyH_take (i:=10) (v:=?v16) rfl (by kernel_rfl) (by kernel_rfl) (by kernel_rfl) (fun _ _ _ h=>h) (Or.inl ⟨by rfl,?hy16⟩) (by assumption) ?rest16
   case hy16 =>
    intro W' hSw
    obtain ⟨e0,e1⟩:=hSw
    go_simp
    with_reducible rfl
   simp only [List.getElem_toArray,List.getElem_cons_zero,List.getElem_cons_succ,Act.put,List.setIfInBounds_toArray,List.set_cons_zero,List.set_cons_succ]
   refine wpAnyH_take (i:=11) (v:=?v17) rfl (by kernel_rfl) (by kernel_rfl) (by kernel_rfl) (fun _ _ _ h=>h) (Or.inl ⟨by rfl,?hy17⟩) (by assumption) ?rest17
   case hy17 =>
    intro W' hSw
    obtain ⟨e0,e1⟩:=hSw
    go_simp
    with_reducible rfl
   simp only [List.getElem_toArray,List.getElem_cons_zero,List.getElem_cons_succ,Act.put,List.setIfInBounds_toArray,List.set_cons_zero,List.set_cons_succ]
   refine wpAnyH_take (i:=12) (v:=?v18) rfl (by kernel_rfl) (by kernel_rfl) (by kernel_rfl) (fun _ _ _ h=>h) (Or.inl ⟨by rfl,?hy18⟩) (by assumption) ?rest18
   case hy18 =>
    intro W' hSw
    obtain ⟨e0,e1⟩:=hSw
    go_simp
    with_reducible rfl
   simp only [List.getElem_toArray,List.getElem_cons_zero,List.getElem_cons_succ,Act.put,List.setIfInBounds_toArray,List.set_cons_zero,List.set_cons_succ]
   refine wpAnyH_take (i:=13) (v:=undef) rfl (by kernel_rfl) (by kernel_rfl) (by kernel_rfl) (fun _ _ _ h=>h) (Or.inr ⟨by rfl,rfl⟩) (by assumption) ?_
   simp only [List.getElem_toArray,List.getElem_cons_zero,List.getElem_cons_succ,Act.put,List.setIfInBounds_toArray,List.set_cons_zero,List.set_cons_succ]
   refine wpAnyH_take (i:=14) (v:=undef) rfl (by kernel_rfl) (by kernel_rfl) (by kernel_rfl) (fun _ _ _ h=>h) (Or.inr ⟨by rfl,rfl⟩) (by assumption) ?_
   simp only [List.getElem_toArray,List.getElem_cons_zero,List.getElem_cons_succ,Act.put,List.setIfInBounds_toArray,List.set_cons_zero,List.set_cons_succ]
   refine wpAnyH_take (i:=15) (v:=undef) rfl (by kernel_rfl) (by kernel_rfl) (by kernel_rfl) (fun _ _ _ h=>h) (Or.inr ⟨by rfl,rfl⟩) (by assumption) ?_
   simp only [List.getElem_toArray,List.getElem_cons_zero,List.getElem_cons_succ,Act.put,List.setIfInBounds_toArray,List.set_cons_zero,List.set_cons_succ]
   refine wpAnyH_take (i:=16) (v:=?v19) rfl (by kernel_rfl) (by kernel_rfl) (by kernel_rfl) (fun _ _ _ h=>h) (Or.inl ⟨by rfl,?hy19⟩) (by assumption) ?rest19
   case hy19 =>
    intro W' hSw
    obtain ⟨e0,e1⟩:=hSw
    go_simp
    with_reducible rfl
   simp only [List.getElem_toArray,List.getElem_cons_zero,List.getElem_cons_succ,Act.put,List.setIfInBounds_toArray,List.set_cons_zero,List.set_cons_succ]
   refine wpAnyH_take (i:=17) (v:=?v20) rfl (by kernel_rfl) (by kernel_rfl) (by kernel_rfl) (fun _ _ _ h=>h) (Or.inl ⟨by rfl,?hy20⟩) (by assumption) ?rest20
   case hy20 =>
    intro W' hSw
    obtain ⟨e0,e1⟩:=hSw
    go_simp
    with_reducible rfl
   simp only [List.getElem_toArray,List.getElem_cons_zero,List.getElem_cons_succ,Act.put,List.setIfInBounds_toArray,List.set_cons_zero,List.set_cons_succ]
   refine wpAnyH_done (by kernel_rfl) ?_ _
   refine NoPanic.normal ?_
   clear hHeld
   go_wp2_with fail
   go_ret
   exact ⟨HBD.out,rfl⟩
end Go.Proofs.YtlcpcpmlfegejaaGreatDoor.Arr
