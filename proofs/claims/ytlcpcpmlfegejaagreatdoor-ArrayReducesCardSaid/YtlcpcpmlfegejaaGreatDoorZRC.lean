/- Total. -/
import Derived.Test.YtlcpcpmlfegejaaGreatDoorGB
import Derived.Test.YtlcpcpmlfegejaaGreatDoorZ05
import Derived.Test.YtlcpcpmlfegejaaGreatDoorZVF
import Derived.Deep.RegionHeld3
import Derived.Deep.QuietTactic
import Derived.BigQuiet
import Derived.Deep.DeepCutAuto
import Derived.OwnWalk
set_option maxHeartbeats 16000000
set_option maxRecDepth 100000
namespace Go.Proofs.YtlcpcpmlfegejaaGreatDoor
open Go.RowKit Big
open Go.Lib Go.Shelf
theorem RatAt.shape {w:World} {x:Value} {s:Bool} {a b:Nat} (h:RatAt w x s a b):∃ b p n c r m d,x=.agg #[.bool b,.slice p n c,.slice r m d]:=by
 obtain ⟨u,v,rfl,hu,hv,-⟩:=h
 obtain ⟨p,n,c,rfl⟩:=hu.slice
 obtain ⟨r,m,d,rfl⟩:=hv.slice
 exact ⟨_,_,_,_,_,_,_,rfl⟩
theorem cmp3_self (a:Nat):cmp3 a a=0:=by simp [cmp3]
theorem cmp3_ne {a b:Nat} (h:¬ a=b):(cmp3 a b==0)=false:=by
 unfold cmp3
 rcases Nat.lt_or_gt_of_ne h with h|h
 ·rw [if_pos h];rfl
 ·rw [if_neg (by omega),if_pos h];rfl
theorem TI.total {W1 W:World} {V cap n m:Nat} {h:Fin n→C7} {qs:List Rat} (H:TI W1 V cap n n m h qs W) (hl:qs.length=n) (hn:n≤1000) (hm:m≤n) (hc:n≤cap):Calls Tryz.prog 131 #[.slice (some ⟨V,0,none⟩) m cap] W (IsPost (sumQ qs) (KK 21 10) W):=by
 obtain ⟨ps,rs,h1,h2,h3⟩:=H.parts
 have e:sumQ qs=sumQ rs:=by rw [h2,List.take_of_length_le (by omega)]
 rw [e]
 refine halves_any 21 10 m (by omega) (by unfold KK;omega) (by omega) _ cap rs W h1 (by omega) (by omega) (.inr ⟨V,0,rfl,H.row.lt,fun j hj=>⟨valC (ps j),?_,(h3 j (by omega)).2.is hn⟩⟩)
 have ha:=(h3 j (by omega)).1
 revert ha
 obtain ⟨s,p,n',c,r,m',d⟩:=ps j
 intro ha
 refine ⟨s,p,n',c,r,m',d,rfl,?_,?_,?_⟩
 ·rw [Nat.zero_add];exact (ha 0 (by omega)).1
 ·rw [Nat.zero_add];exact (ha 1 (by omega)).1
 ·rw [Nat.zero_add];exact (ha 2 (by omega)).1
theorem total_any (b off n c:Nat) (qs:List Rat) (w:World) (hl:qs.length=n) (h0:0<n) (hn:n≤1000) (h:RdQ w (some ⟨b,off,none⟩) qs 20):Calls Tryz.prog 92 #[.slice (some ⟨b,off,none⟩) n c] w (IsPost (sumQ qs) (KK 21 10) w):=by
 have HRES:=hiD (Res.start w)
 obtain ⟨W1,HW1⟩:∃ W1,Hid (w.alloc (.cells #[.bool false,.slice none 0 0,.slice none 0 0] 62)=W1):=⟨_,hiD rfl⟩
 have hb1:Below w.heap.size w W1:=by rw [← HW1.out];exact bea w _
 rw [HW1.out] at HRES
 obtain ⟨hbl,f,hf,hfq⟩:=(h.below hb1).names hl h0
 have HCL:=hiD (clone_rat b off n c f W1 h0 hn hbl hf)
 have HFQ:=hiD hfq
 have HN0:=hiD h0
 have hn1:(n:Int)≤1000:=by omega
 clear h hf hfq hbl h0
 go_enter Tryz.func92,Tryz.ntmps92
 go_wp2_with fail
 rw [HW1.out]
 refine (HCL.out).mono ?_
 rintro e w2 ⟨V,cap,rfl,hb2,hV,hnc,hcm,hrow,hat⟩
 have HSORT:=hiD (sort_rat n V cap 20 f qs W1 w2 HN0.out hn hV hrow.lt hb2 (by unfold most;omega) HFQ.out (fun i k hk=>hat i k hk))
 have HROW2:=hiD hrow
 have HB2:=hiD hb2
 have HV:=hiD hV
 have HNC:=hiD hnc
 clear hb2 hV hrow hat HCL
 go_wp2_with fail
 refine (HSORT.out).mono ?_
 rintro e w3 ⟨rfl,g,hp,hat3,hg3,hblk⟩
 obtain ⟨cur,hcV,hcs,hcN⟩:=HROW2.out
 obtain ⟨cur',hcV',hcs',hcN'⟩:=hblk cur hcV hcN
 have hrow3:SRow w3 V cap:=⟨cur',hcV',by rw [hcs',hcs],hcN'⟩
 have hb3:Below W1.heap.size W1 w3:=HB2.out.grown hg3 HB2.out.size (fun k hk=>by injection hk with hk;have:=HV.out;omega)
 obtain ⟨qs',HQS⟩:∃ qs':List Rat,Hid (qs'=(List.finRange n).map (fun i=>qs.getD (g i).1 0)):=⟨_,hiD rfl⟩
 have hl':qs'.length=n:=by rw [HQS.out];simp
 have hqj:∀ j:Fin n,qs'.getD j.1 0=qs.getD (g j).1 0:=fun j=>by
  rw [HQS.out,List.getD_eq_getElem?_getD,List.getElem?_map,List.getElem?_eq_getElem (by simp)]
  simp
 have hsum:sumQ qs'=sumQ qs:=by
  have e1:qs=(List.finRange n).map (fun i=>qs.getD i.1 0):=by
   apply List.ext_getElem
   ·simp [hl]
   ·intro i h1 h2
    rw [List.getElem_map,List.getD_eq_getElem?_getD,List.getElem?_eq_getElem (by simpa using h1)]
    simp
  have e2:qs'=((List.finRange n).map g).map (fun i=>qs.getD i.1 0):=by rw [HQS.out,List.map_map];rfl
  rw [e2]
  conv=>rhs;rw [e1]
  exact sumQ_perm (hp.map _)
 have HQR:Hid (∀ j:Fin n,RatIs W1 (valC (f (g j))) (qs'.getD j.1 0) 20):=hiD (fun j=>by rw [hqj];exact HFQ.out (g j))
 obtain ⟨hx,HHX⟩:∃ hx:Fin n→C7,Hid (hx=fun i=>f (g i)):=⟨_,hiD rfl⟩
 have HTI:Hid (TI W1 V cap n 0 0 hx qs' w3):=hiD ⟨hb3,hrow3,fun j _=>by rw [HHX.out];exact fun k hk=>hat3 j k hk,fun _=>(false,none,0,0,none,0,0),[],rfl,rfl,fun k hk=>by omega⟩
 have HSUM:=hiD hsum
 have HQR2:Hid (∀ j:Fin n,RatIs W1 (valC (hx j)) (qs'.getD j.1 0) 20):=hiD (fun j=>by rw [HHX.out];exact HQR.out j)
 have HL':=hiD hl'
 have hnc1:(n:Int)≤(cap:Int):=by have:=HNC.out;omega
 have hs0:∀ W,(Instr.sliceAt 57 (.slice (some ⟨V,0,none⟩) n cap) none (some (.int .i64 0)) none).run Tryz.prog W=.ok (.slice (some ⟨V,0,none⟩) 0 cap) W:=fun W=>by
  have:=slice_low V 0 n cap 0 (by omega) (by have:=HNC.out;have:=HN0.out;omega) W
  simpa using this
 clear hp hat3 hg3 hblk hcV hcs hcN hcV' hcs' hcN' hrow3 hb3 hl' hqj hsum HQR HHX HQS HSORT HROW2 HB2 HFQ hl
 go_wp2_with fail
 clear hs0
 go_loopw [4,16] (fun pv iv wr=>∃ i m:Nat,i≤n∧m≤i∧pv=.slice (some ⟨V,0,none⟩) m cap∧iv=.int .i64 (i:Int)∧Hid (TI W1 V cap n i m hx qs' wr)) (fun _ iv _=>n-(intOf iv).toNat)
 case atStart=>exact ⟨0,0,Nat.zero_le _,Nat.le_refl _,rfl,rfl,HTI⟩
 case round =>
  obtain ⟨i,m,hi,hm,rfl,rfl,hti⟩:=hrel
  clear HTI
  have HT:=hiD hti.out
  clear hti
  by_cases hlt:i<n
  ·have hlti:(i:Int)<n:=by omega
   have hi0:(0:Int)≤i:=by omega
   obtain ⟨⟨xb,xp,xn,xc,xr,xm,xd⟩,HX⟩:∃ x,Hid (hx ⟨i,hlt⟩=x):=⟨_,hiD rfl⟩
   have HAT:Hid (AtC wr V i (xb,xp,xn,xc,xr,xm,xd)):=hiD (by rw [← HX.out];exact HT.out.rest ⟨i,hlt⟩ (Nat.le_refl _))
   have t0:wr.cell? ⟨V,i*3,none⟩=some (.bool xb):=(HAT.out 0 (by omega)).1
   have t1:wr.cell? ⟨V,i*3+1,none⟩=some (.slice xp xn xc):=(HAT.out 1 (by omega)).1
   have t2:wr.cell? ⟨V,i*3+2,none⟩=some (.slice xr xm xd):=(HAT.out 2 (by omega)).1
   have HXQ:Hid (RatIs wr (valC (xb,xp,xn,xc,xr,xm,xd)) (qs'.getD i 0) 20):=hiD (by rw [← HX.out];exact (HQR2.out ⟨i,hlt⟩).below HT.out.below)
   have hmi:(m:Int)≤1000:=by omega
   obtain ⟨W6,HW6⟩:∃ W6,Hid (wr.alloc (.cells #[.bool xb,.slice xp xn xc,.slice xr xm xd] 62)=W6):=⟨_,hiD rfl⟩
   obtain ⟨G6,HG6⟩:∃ G6,Hid (wr.heap.size=G6):=⟨_,hiD rfl⟩
   have HT6:Hid (TI W1 V cap n i m hx qs' W6):=hiD (by rw [← HW6.out];exact HT.out.next (bea wr _))
   have HX6:Hid (W6.heap[G6]?=some (.cells #[.bool xb,.slice xp xn xc,.slice xr xm xd] 62 (0,0))):=hiD (by rw [← HW6.out,← HG6.out];exact heap_new _ _)
   have HXQ6:Hid (RatIs W6 (valC (xb,xp,xn,xc,xr,xm,xd)) (qs'.getD i 0) 20):=hiD (by rw [← HW6.out];exact HXQ.out.below (bea wr _))
   have c0:W6.cell? ⟨G6,0,none⟩=some (.bool xb):=by rw [ceh HX6.out];rfl
   have c1:W6.cell? ⟨G6,1,none⟩=some (.slice xp xn xc):=by rw [ceh HX6.out];rfl
   have c2:W6.cell? ⟨G6,2,none⟩=some (.slice xr xm xd):=by rw [ceh HX6.out];rfl
   have HAPP:Hid (∀ W W',Below W6.heap.size W6 W→SRow W' V cap→AtC W' V m (xb,xp,xn,xc,xr,xm,xd)→W.grownBy W' (some V)→(∀ j y,j≠m→AtC W V j y→AtC W' V j y)→TI W1 V cap n (i+1) (m+1) hx qs' W'):=hiD (fun W W' hb hr ha hg ho=>by
    have hH:=HT6.out.next hb
    exact hH.append HV.out hm hlt HL'.out (by rw [HX.out];exact HXQ6.out.below hb) hr (by rw [HX.out];exact ha) hg ho)
   have HROW6:Hid (∀ W,Below W6.heap.size W6 W→SRow W V cap):=hiD (fun W hb=>HT6.out.row.below hb)
   have HMC:Hid (m<cap):=hiD (by have:=HNC.out;omega)
   rcases Nat.eq_zero_or_pos m with hm0|hm0
   ·subst hm0
    go_upto_region 8 with fail
    rw [HW6.out,HG6.out]
    go_quiet (fail)
    go_upto_region 10 with fail
    obtain ⟨WA,HWA⟩:∃ WA,Hid (W6.drewN nq=WA):=⟨_,hiD rfl⟩
    have HBA:Hid (Below W6.heap.size W6 (WA.alloc (.cells #[.bool xb,.slice xp xn xc,.slice xr xm xd] 62))):=hiD (by rw [← HWA.out];exact (below_drewN _ _ _).alloc (by simp) _)
    rw [HWA.out]
    have d0:WA.cell? ⟨G6,0,none⟩=some (.bool xb):=by rw [← HWA.out];exact c0
    have d1:WA.cell? ⟨G6,1,none⟩=some (.slice xp xn xc):=by rw [← HWA.out];exact c1
    have d2:WA.cell? ⟨G6,2,none⟩=some (.slice xr xm xd):=by rw [← HWA.out];exact c2
    have HCB:Hid (∀ c,c<3→(WA.alloc (.cells #[.bool xb,.slice xp xn xc,.slice xr xm xd] 62)).cell? ⟨WA.heap.size,c,none⟩=(encC (xb,xp,xn,xc,xr,xm,xd))[c]?):=hiD (fun c hc=>by rw [ceh (heap_new _ _),List.getElem?_toArray];rfl)
    go_wp2_with (at_builtin;refine wpList_append_in rfl _ _ rfl V 0 cap WA.heap.size (xb,xp,xn,xc,xr,xm,xd) rfl rfl (HROW6.out _ HBA.out) HMC.out HCB.out ?_;intro w7 hr7 ha7 hg7 ho7;have HT7:=hiD (HAPP.out _ _ HBA.out hr7 ha7 hg7 ho7);clear hr7 ha7 hg7 ho7)
    go_roundw
    case rel=>exact ⟨i+1,0+1,by omega,by omega,rfl,by go_num,HT7⟩
    case measure=>simp [intOf];omega
   ·obtain ⟨k,rfl⟩:∃ k,m=k+1:=⟨m-1,by omega⟩
    obtain ⟨ps,rs,hr1,hr2,hr3⟩:=HT6.out.parts
    obtain ⟨⟨yb,yp,yn,yc,yr,ym,yd⟩,HY⟩:∃ y,Hid (ps k=y):=⟨_,hiD rfl⟩
    have HTA:Hid (AtC W6 V k (yb,yp,yn,yc,yr,ym,yd)):=hiD (by rw [← HY.out];exact (hr3 k (by omega)).1)
    have HPA:Hid (PartAt W6 (valC (yb,yp,yn,yc,yr,ym,yd)) (rs.getD k 0) i):=hiD (by rw [← HY.out];exact (hr3 k (by omega)).2)
    have HR1:=hiD hr1
    have HR2:=hiD hr2
    have HR3:=hiD hr3
    clear hr1 hr2 hr3
    go_upto_region 8 with fail
    rw [HW6.out,HG6.out]
    have s0:W6.cell? ⟨V,k*3,none⟩=some (.bool yb):=(HTA.out 0 (by omega)).1
    have s1:W6.cell? ⟨V,k*3+1,none⟩=some (.slice yp yn yc):=(HTA.out 1 (by omega)).1
    have s2:W6.cell? ⟨V,k*3+2,none⟩=some (.slice yr ym yd):=(HTA.out 2 (by omega)).1
    have hk0:(0:Int)≤(k:Int):=by omega
    have hk1:(k:Int)<((k+1:Nat):Int):=by omega
    have hk2:(k:Int)<(k:Int)+1:=by omega
    have hkn:(k:Int).toNat=k:=rfl
    obtain ⟨sq,aq,dq,hq1,hq2,hq3,hq4,hq5⟩:=HPA.out
    obtain ⟨se,ae,de,he1,he2,he3,he4,he5⟩:=HXQ6.out
    have HQ:=hiD (And.intro hq1 (And.intro hq2 (And.intro hq3 (And.intro hq4 hq5))))
    have HE:=hiD (And.intro he1 (And.intro he2 (And.intro he3 (And.intro he4 he5))))
    obtain ⟨uq,vq,hqv,hqu,hqd,-⟩:=hq1
    obtain ⟨ue,ve,hev,heu,hed,-⟩:=he1
    injection hqv with hqv
    injection hev with hev
    simp only [Array.mk.injEq,List.cons.injEq,and_true] at hqv hev
    obtain ⟨-,-,rfl⟩:=hqv
    obtain ⟨-,-,rfl⟩:=hev
    have HC:Hid (∀ k,Calls Tryz.prog 129 #[.slice yr ym yd,.slice xr xm xd] (W6.drewN k) (CmpPost dq de (W6.drewN k))):=hiD (fun k=>compare_nat _ _ dq de 20 _ (by unfold most;omega) hq5 he5 (hqd.drewN k) (hed.drewN k))
    clear hqu hqd heu hed hq2 hq3 hq4 hq5 he2 he3 he4 he5
    go_quiet ((go_at_call 129;exact quiet_of_left (HC.out _)))
    by_cases hcd:dq=de
    ·subst hcd
     simp only [cmp3_self]
     have HADD:Hid (∀ W,Below W6.heap.size W6 W→Calls Tryz.prog 130 #[.agg #[.bool yb,.slice yp yn yc,.slice yr ym yd],.agg #[.bool xb,.slice xp xn xc,.slice xr xm xd]] W (AddPost sq aq dq se ae dq 21 W)):=hiD (fun W hb=>by
      have e21:B64^21=B64*B64^20:=by rw [Nat.pow_succ,Nat.mul_comm]
      have hB:=B64_eq
      have h6:i*B64^20≤B64*B64^20:=Nat.mul_le_mul_right _ (by rw [B64_eq];omega)
      have h7:1*B64^20≤B64*B64^20:=Nat.mul_le_mul_right _ (by rw [B64_eq];omega)
      have hq:=HQ.out
      have he:=HE.out
      exact add_any _ _ sq se aq dq ae dq 21 W (by omega) (by rw [e21];omega) (by rw [e21];omega) (by rw [e21];omega) (by rw [e21];omega) hq.2.2.1 he.2.2.1 (hq.1.below hb) (he.1.below hb))
     have HEND:Hid (∀ W (c1:Bool) (cx:Option Addr) (cn cc:Nat) (cy:Option Addr) (cm cd:Nat),Below W6.heap.size W6 W→(∃ r n m,RatAt W (.agg #[.bool c1,.slice cx cn cc,.slice cy cm cd]) r n m∧0<m∧ratv r n m=ratv sq aq dq+ratv se ae dq∧n≤(addB aq dq ae dq).1∧m=(addB aq dq ae dq).2)→TI W1 V cap n (i+1) (k+1) hx qs' (((W.setCell ⟨V,k*3,none⟩ (.bool c1)).setCell ⟨V,k*3+1,none⟩ (.slice cx cn cc)).setCell ⟨V,k*3+2,none⟩ (.slice cy cm cd))):=hiD (fun W c1 cx cn cc cy cm cd hb hz=>by
      obtain ⟨r,n',m',hz1,hz2,hz3,hz4,hz5⟩:=hz
      have hq:=HQ.out
      have he:=HE.out
      have hH:=HT6.out.next hb
      obtain ⟨W',hW',hsr,hat,hgr,hoth⟩:=put_row hH.row (i:=k) (by have:=HMC.out;omega) (c1,cx,cn,cc,cy,cm,cd)
      have hpart:PartAt W (valC (c1,cx,cn,cc,cy,cm,cd)) (rs.getD k 0+qs'.getD i 0) (i+1):=PartAt.sum hq.2.1 hq.2.2.2.1 hq.2.2.2.2 he.2.2.2.1 he.2.1 hz1 hz2 hz3 hz4 hz5
      have hfin:=hH.merge HV.out hm hlt HL'.out rs ps HR1.out HR2.out (fun j hj=>⟨(HR3.out j hj).1.below HT6.out.row hb,(HR3.out j hj).2.below hb⟩) rfl hpart hsr hat hgr hoth
      rw [hW'] at hfin
      exact hfin)
     have HCEL:Hid (∀ W,Below W6.heap.size W6 W→W.cell? ⟨V,k*3,none⟩=some (.bool yb)∧W.cell? ⟨V,k*3+1,none⟩=some (.slice yp yn yc)∧W.cell? ⟨V,k*3+2,none⟩=some (.slice yr ym yd)∧W.frozen? ⟨V,k*3,none⟩=false∧W.frozen? ⟨V,k*3+1,none⟩=false∧W.frozen? ⟨V,k*3+2,none⟩=false):=hiD (fun W hb=>by
      have h:=HTA.out.below HT6.out.row hb
      exact ⟨(h 0 (by omega)).1,(h 1 (by omega)).1,(h 2 (by omega)).1,(h 0 (by omega)).2,(h 1 (by omega)).2,(h 2 (by omega)).2⟩)
     clear HC
     go_upto_region 9 with fail
     go_region_with
      (go_at_call 130;refine (HADD.out _ (by first|exact (below_drewN _ _ _).trans (Below.refl _ _).drew|exact below_drewN _ _ _)).mono ?_;rintro e wB ⟨z,zr,zn,zm,rfl,hz1,hbB,hz2,hz3,-,-,hz4,hz5⟩;obtain ⟨c1,cx,cn,cc,cy,cm,cd,rfl⟩:=hz1.shape;have HB:Hid (Below W6.heap.size W6 wB):=hiD (Below.trans (by first|exact (below_drewN _ _ _).trans (Below.refl _ _).drew|exact below_drewN _ _ _) (hbB.mono (by first|exact Nat.le_refl _|simp)));have HZ:=hiD (HEND.out wB c1 cx cn cc cy cm cd HB.out ⟨zr,zn,zm,hz1,hz2,hz3,hz4,hz5⟩);clear hz1 hbB hz2 hz3 hz4 hz5;obtain ⟨l0,l1,l2,e0,e1,e2⟩:=HCEL.out _ HB.out)
     all_goals
      go_wp2_with fail
      go_roundw
      case rel=>exact ⟨i+1,k+1,by omega,by omega,rfl,by go_num,HZ⟩
      case measure=>simp [intOf];omega
    ·have hcf:=cmp3_ne hcd
     simp only [hcf]
     go_upto_region 10 with fail
     obtain ⟨WA,HWA⟩:∃ WA,Hid (W6.drewN nq=WA):=⟨_,hiD rfl⟩
     have HBA:Hid (Below W6.heap.size W6 (WA.alloc (.cells #[.bool xb,.slice xp xn xc,.slice xr xm xd] 62))):=hiD (by rw [← HWA.out];exact (below_drewN _ _ _).alloc (by simp) _)
     rw [HWA.out]
     have d0:WA.cell? ⟨G6,0,none⟩=some (.bool xb):=by rw [← HWA.out];exact c0
     have d1:WA.cell? ⟨G6,1,none⟩=some (.slice xp xn xc):=by rw [← HWA.out];exact c1
     have d2:WA.cell? ⟨G6,2,none⟩=some (.slice xr xm xd):=by rw [← HWA.out];exact c2
     have HCB:Hid (∀ c,c<3→(WA.alloc (.cells #[.bool xb,.slice xp xn xc,.slice xr xm xd] 62)).cell? ⟨WA.heap.size,c,none⟩=(encC (xb,xp,xn,xc,xr,xm,xd))[c]?):=hiD (fun c hc=>by rw [ceh (heap_new _ _),List.getElem?_toArray];rfl)
     go_wp2_with (at_builtin;refine wpList_append_in rfl _ _ rfl V (k+1) cap WA.heap.size (xb,xp,xn,xc,xr,xm,xd) rfl rfl (HROW6.out _ HBA.out) HMC.out HCB.out ?_;intro w7 hr7 ha7 hg7 ho7;have HT7:=hiD (HAPP.out _ _ HBA.out hr7 ha7 hg7 ho7);clear hr7 ha7 hg7 ho7)
     go_roundw
     case rel=>exact ⟨i+1,(k+1)+1,by omega,by omega,rfl,by go_num,HT7⟩
     case measure=>simp [intOf];omega
  ·obtain rfl:i=n:=by omega
   have HFIN:=hiD (HT.out.total HL'.out hn hm HNC.out)
   have HRA:=hiD (HRES.out.next HT.out.below)
   go_wp2_with fail
   refine HFIN.out.mono ?_
   rintro e wz ⟨z,rfl,hz,hbz⟩
   obtain ⟨bx,px,nx,cx,rx,mx,dx,rfl⟩:=hz.agg
   have HRC:=hiD (HRA.out.next hbz)
   obtain ⟨z0,z1,z2,l0,l1,l2,f0,f1,f2⟩:=HRC.out.slots
   have HEN:Hid (∀ W9,W9=(((wz.setCell ⟨w.heap.size,0,none⟩ (.bool bx)).setCell ⟨w.heap.size,1,none⟩ (.slice px nx cx)).setCell ⟨w.heap.size,2,none⟩ (.slice rx mx dx))→IsPost (sumQ qs) (KK 21 10) w (.returned (.agg #[.bool bx,.slice px nx cx,.slice rx mx dx])) W9):=hiD (by
    rintro W9 rfl
    rw [← HSUM.out]
    exact ⟨_,rfl,HRC.out.rat3 (Nat.le_refl _) hz _ _ _ _ _ _ _,(HRC.out.put3 (Nat.le_refl _) _ _ _ _ _ _ _).below⟩)
   clear hz hbz
   go_wp2_with fail
   refine bodyPost_ret (v:=.agg #[.bool bx,.slice px nx cx,.slice rx mx dx]) (by simp [results,Tryz.results92,go_sem,l0,l1,l2]) rfl ?_
   exact HEN.out _ rfl
end Go.Proofs.YtlcpcpmlfegejaaGreatDoor
set_option maxHeartbeats 4000000
set_option maxRecDepth 100000
namespace Go.Proofs.YtlcpcpmlfegejaaGreatDoor
open Go.RowKit Big
open Go.Lib Go.Shelf
theorem clone_zero (b off c:Nat) (W:World):Calls Tryz.prog 126 #[.slice (some ⟨b,off,none⟩) 0 c] W fun e w'=>e=.returned (.slice (some ⟨W.heap.size,0,none⟩) 0 0)∧W.grownBy w' none∧W.heap.size<w'.heap.size:=by
 have hq:∀ (w:World),(binOp .eql 57 (.slice (some ⟨b,off,none⟩) 0 c) (.slice none 0 0)).run Tryz.prog w=.ok (.bool false) w:=fun w=>Lib.run_eql_slice_nil w 57 (Tryz.prog.elem 57) (some ⟨b,off,none⟩) 0 c 0 0 elem91
 go_enter Tryz.func126,Tryz.ntmps126
 go_wp2_with fail
 go_ret
 exact ⟨rfl,World.grownBy_alloc W _ none,by simp⟩
theorem sort_zero (V cap:Nat) (w:World) (hVw:V<w.heap.size):Calls Tryz.prog 127 #[.slice (some ⟨V,0,none⟩) 0 cap,.func (.func 128) #[] #[]] w fun e w'=>e=.returned (.tuple #[])∧w.grownBy w' (some V):=by
 have eg:∀ args w,(callFunc 128 args).run Tryz.prog w=.ok (.enter 128 args) w:=enters_of Tryz.func128 (by kernel_rfl) rfl
 have hcl:CmpLays Tryz.prog 128 #[] (fun _:Fin 1=>encC (false,none,0,0,none,0,0)) 3 (fun _ _=>cmp3 0 0) V 0 (#[]:Array (Fin 1)).size w:=by
  intro m os dk hdk x y
  exact bottoms_any (false,none,0,0,none,0,0) (false,none,0,0,none,0,0) 0 0 1 _ (by unfold most;omega) (by decide) (by decide) (NatAt.zero _) (NatAt.zero _)
 have hhold:Go.Sort.HoldsK (fun _:Fin 1=>encC (false,none,0,0,none,0,0)) 3 w V 0 (#[]:Array (Fin 1)):=by
  intro j hj
  rw [Go.Sort.size_flatK] at hj
  simp at hj
 have hcon:=AnyQ.slices_SortFunc Tryz.sortRat 3 Tryz.isAgg62 Tryz.sizeOf62 (fun _:Fin 1=>encC (false,none,0,0,none,0,0)) (fun _=>rfl) (fun x v hv=>by simp [encC] at hv;rcases hv with rfl|rfl|rfl<;>rfl) (fun _ _=>cmp3 0 0) (cmp_swo (fun _=>0)) 128 #[] V 0 cap (#[]:Array (Fin 1)) w eg hcl hhold hVw (by simp)
 refine hcon.mono ?_
 rintro e w' ⟨rfl,d',m,os,hp,-,rfl⟩
 exact ⟨rfl,sortWorld_grown _ _ _ _ _ _ _ _⟩
theorem total_zero (b off c:Nat) (w:World):Calls Tryz.prog 92 #[.slice (some ⟨b,off,none⟩) 0 c] w (IsPost 0 1 w):=by
 have HRES:=hiD (Res.start w)
 have HCL:=hiD (clone_zero b off c)
 have HSO:=hiD sort_zero
 have HHV:=hiD (halves_zero)
 go_enter Tryz.func92,Tryz.ntmps92
 go_wp2_with fail
 obtain ⟨W1,HW1⟩:∃ W1,Hid (w.alloc (.cells #[.bool false,.slice none 0 0,.slice none 0 0] 62)=W1):=⟨_,hiD rfl⟩
 rw [HW1.out] at HRES ⊢
 refine (HCL.out W1).mono ?_
 rintro e w2 ⟨rfl,hg2,hs2⟩
 have HB2:Hid (Below W1.heap.size W1 w2):=hiD ((Below.refl _ _).grown hg2 (Nat.le_refl _) (fun k hk=>by cases hk))
 obtain ⟨V,HV⟩:∃ V,Hid (W1.heap.size=V):=⟨_,hiD rfl⟩
 rw [HV.out] at hs2 ⊢
 have HS2:=hiD hs2
 clear hg2 hs2
 go_wp2_with fail
 refine (HSO.out V 0 w2 HS2.out).mono ?_
 rintro e w3 ⟨rfl,hg3⟩
 have HB3:Hid (Below W1.heap.size W1 w3):=hiD (HB2.out.grown hg3 HB2.out.size (fun k hk=>by injection hk with hk;have:=HV.out;omega))
 clear hg3
 go_wp2_with fail
 go_loopw [4,16] (fun pv iv wr=>∃ p c,pv=.slice p 0 c∧iv=.int .i64 0∧wr=w3) (fun _ _ _=>0)
 case atStart=>exact ⟨_,_,rfl,rfl,rfl⟩
 case round =>
  obtain ⟨p,c',rfl,rfl,rfl⟩:=hrel
  have HRA:=hiD (HRES.out.next HB3.out)
  go_wp2_with fail
  refine (HHV.out _ _ _).mono ?_
  rintro e wz ⟨z,rfl,hz,hbz⟩
  obtain ⟨bx,px,nx,cx,rx,mx,dx,rfl⟩:=hz.agg
  have HRC:=hiD (HRA.out.next hbz)
  obtain ⟨z0,z1,z2,l0,l1,l2,f0,f1,f2⟩:=HRC.out.slots
  have HEN:Hid (∀ W9,W9=(((wz.setCell ⟨w.heap.size,0,none⟩ (.bool bx)).setCell ⟨w.heap.size,1,none⟩ (.slice px nx cx)).setCell ⟨w.heap.size,2,none⟩ (.slice rx mx dx))→IsPost 0 1 w (.returned (.agg #[.bool bx,.slice px nx cx,.slice rx mx dx])) W9):=hiD (by
   rintro W9 rfl
   exact ⟨_,rfl,HRC.out.rat3 (Nat.le_refl _) hz _ _ _ _ _ _ _,(HRC.out.put3 (Nat.le_refl _) _ _ _ _ _ _ _).below⟩)
  clear hz hbz
  go_wp2_with fail
  refine bodyPost_ret (v:=.agg #[.bool bx,.slice px nx cx,.slice rx mx dx]) (by simp [results,Tryz.results92,go_sem,l0,l1,l2]) rfl ?_
  exact HEN.out _ rfl
end Go.Proofs.YtlcpcpmlfegejaaGreatDoor
namespace Go.Proofs.YtlcpcpmlfegejaaGreatDoor
open Go.RowKit Big
open Go.Lib Go.Shelf
theorem mem_madeCells {z:Array Value} {k:Nat} {u:Value} (hz:0<z.size) (h:u ∈ madeCells z k):u ∈ z.toList:=by
 unfold madeCells at h
 rw [Array.mem_map] at h
 obtain ⟨i,-,rfl⟩:=h
 have hm:i%z.size<z.size:=Nat.mod_lt _ hz
 rw [getElem!_pos z (i%z.size) hm]
 simp
def nilC:C7:=(false,none,0,0,none,0,0)
structure NumsIn (W:World) (base:Nat) (v:Value) (xs:List C7) (qs:List Rat):Prop where
 row:NRow W base 62 3 v qs.length (xs.flatMap encC)
 len:xs.length=qs.length
 all:∀ j,j<qs.length→RatIs W (valC (xs.getD j nilC)) (qs.getD j 0) 20
theorem NumsIn.below {W W':World} {base:Nat} {v:Value} {xs:List C7} {qs:List Rat} (h:NumsIn W base v xs qs) (hb:Below W.heap.size W W'):NumsIn W' base v xs qs :=
 ⟨h.row.below hb,h.len,fun j hj=>(h.all j hj).below hb⟩
theorem NumsIn.more {W W':World} {base:Nat} {v v':Value} {xs:List C7} {qs:List Rat} {x:C7} {q:Rat} (h:NumsIn W base v xs qs) (hq:RatIs W (valC x) q 20) (hr:NRow W' base 62 3 v' (qs.length+1) (xs.flatMap encC++encC x)) (hg:W.grownBy W' v.ownBlock):NumsIn W' base v' (xs++[x]) (qs++[q]):=by
 refine ⟨by simpa using hr,by simp [h.len],fun j hj=>?_⟩
 have hlen:=h.len
 by_cases hjk:j<qs.length
 ·rw [List.getD_eq_getElem?_getD,List.getElem?_append_left (by omega),← List.getD_eq_getElem?_getD,List.getD_eq_getElem?_getD (l:=qs++[q]),List.getElem?_append_left hjk,← List.getD_eq_getElem?_getD]
  exact rat_grown h.row hg (h.all j hjk)
 ·have e:j=qs.length:=by simp at hj;omega
  subst e
  rw [List.getD_eq_getElem?_getD,List.getElem?_append_right (by omega),hlen,Nat.sub_self,List.getD_eq_getElem?_getD,List.getElem?_append_right (by omega),Nat.sub_self]
  exact rat_grown h.row hg hq
theorem flat_at:∀ (xs:List C7) (j c:Nat),j<xs.length→c<3→(xs.flatMap encC)[j*3+c]?=(encC (xs.getD j nilC))[c]?:=by
 intro xs
 induction xs with
 | nil=>intro j c h;simp at h
 | cons x xs ih =>
  intro j c hj hc
  rw [List.flatMap_cons]
  cases j with
  | zero=>rw [List.getElem?_append_left (by rw [encC_len];omega)];simp
  | succ j =>
   rw [List.getElem?_append_right (by rw [encC_len];omega),encC_len,show (j+1)*3+c-3=j*3+c by omega,ih j c (by simpa using hj) hc]
   simp
theorem NumsIn.rd {W:World} {base:Nat} {v:Value} {xs:List C7} {qs:List Rat} (h:NumsIn W base v xs qs) (hv:v≠.slice none 0 0):∃ g c,v=.slice (some ⟨g,0,none⟩) qs.length c∧qs.length≤c∧RdQ W (some ⟨g,0,none⟩) qs 20:=by
 obtain ⟨⟨-,hr⟩,-⟩:=h.row
 rcases hr with hr|⟨g,cap,cur,rfl,-,hg,hn,-,hs,ht⟩
 ·exact absurd hr.1 hv
 ·refine ⟨g,cap,rfl,hn,.inr ⟨g,0,rfl,(Array.getElem?_eq_some_iff.1 hg).1,fun j hj=>⟨_,?_,h.all j hj⟩⟩⟩
  have hc:∀ c,c<3→W.cell? ⟨g,0+j*3+c,none⟩=(encC (xs.getD j nilC))[c]?:=fun c hc=>by
   rw [← flat_at xs j c (by rw [h.len];exact hj) hc,← ht,List.getElem?_take_of_lt (by omega),ceh hg,Nat.zero_add,Array.getElem?_toList]
  have h0:=hc 0 (by omega)
  have h1:=hc 1 (by omega)
  have h2:=hc 2 (by omega)
  revert h0 h1 h2
  obtain ⟨s,p,n,c,r,m,d⟩:=xs.getD j nilC
  intro h0 h1 h2
  exact ⟨s,p,n,c,r,m,d,rfl,h0,h1,h2⟩
theorem KK_one:1≤KK 21 10:=by unfold KK;omega
def RdSQ (W:World) (p:Option Addr) (ss:List (List UInt8)):Prop:=ss=[]∨∃ b off,p=some ⟨b,off,none⟩∧b<W.heap.size∧∀ j,j<ss.length→W.cell? ⟨b,off+j,none⟩=some (.string ⟨(ss.getD j []).toArray⟩)
theorem RdSQ.below {W W':World} {p:Option Addr} {ss:List (List UInt8)} (h:RdSQ W p ss) (hB:Below W.heap.size W W'):RdSQ W' p ss:=by
 rcases h with h|⟨b,off,h1,h2,h3⟩
 ·exact .inl h
 ·exact .inr ⟨b,off,h1,Nat.lt_of_lt_of_le h2 hB.size,fun j hj=>(hB.cell (p:=⟨b,off+j,none⟩) h2).trans (h3 j hj)⟩
def numsL (ss:List (List UInt8)):List Rat:=ss.filterMap num
theorem numsL_le (ss:List (List UInt8)):(numsL ss).length≤ss.length:=List.length_filterMap_le _ _
theorem numsL_take {ss:List (List UInt8)} {i:Nat} (h:i<ss.length):numsL (ss.take (i+1))=numsL (ss.take i)++(num (ss.getD i [])).toList:=by
 rw [List.take_succ_eq_append_getElem h,numsL,List.filterMap_append,List.getD_eq_getElem?_getD,List.getElem?_eq_getElem h]
 simp only [Option.getD_some,List.filterMap_cons,List.filterMap_nil]
 cases num ss[i]<;>rfl
end Go.Proofs.YtlcpcpmlfegejaaGreatDoor
namespace Big
theorem sum_step {B p c c' a b s z x y:Nat} (h:z+p*c=x+y) (hs:s+B*c'=c+a+b):(z+p*s)+p*B*c'=(x+p*a)+(y+p*b):=by
 have:p*(s+B*c')=p*(c+a+b):=by rw [hs]
 grind
end Big
namespace Go.Proofs.YtlcpcpmlfegejaaGreatDoor
open Go.RowKit Big
theorem Canon.of_ge {B:Nat} {L:List Nat} {k:Nat} (hd:Dig B L) (hk:L.length=k+1) (h:B^k≤val B L):Canon B L:=by
 refine Canon.of_last hd k hk ?_
 intro h0
 have h1:=val_take_succD B L k
 rw [List.take_of_length_le (by omega),h0,Nat.mul_zero,Nat.add_zero] at h1
 have h2:=val_lt (L.take k) (hd.take k)
 rw [List.length_take,Nat.min_eq_left (by omega)] at h2
 omega
end Go.Proofs.YtlcpcpmlfegejaaGreatDoor
