/- Contracts. -/
import Derived.Test.YtgepehlpjpccaaaGreatDoorHGC
import Derived.Test.YtgepehlpjpccaaaGreatDoorCards
import Derived.Test.YtgepehlpjpccaaaGreatDoorTie
import Derived.ProofKit
import Derived.OpenShut
import Derived.ShutString
import Derived.LaidMore
import Derived.Stop.LaidErr
import Derived.Deep.DeepHandedRow
import Derived.Deep.Strs
set_option maxHeartbeats 4000000
set_option maxRecDepth 100000
namespace Go.Proofs.YtgepehlpjpccaaaGreatDoor
section
open Go.RowKit
open Go.Lib
def jL (d:Int × List Lb) (w:World) (e:Ending) (w':World):Prop :=
 Be w w'∧d.2.length≤4096∧∃ q c,e=.returned (.tuple #[.slice q d.2.length c,.int .i64 d.1])∧Ss w' q d.2
theorem jL.bad {z:Int} {w w':World} (h:Be w w'):jL (z,[]) w (.returned (.tuple #[.slice none 0 0,.int .i64 z])) w':=⟨h,Nat.zero_le _,none,0,rfl,.inl rfl⟩
noncomputable def ybI (k:Int) (n:Nat) (r:Option Lb):Int × List Lb:=match r with
 | some L=>(match gtL k n L with|some xs=>(0,xs)|none=>(5,[]))
 | none=>(5,[])
theorem yhA {k:Int} {n:Nat} {L:Lb} {xs:List Lb} (h:gtL k n L=some xs):ybI k n (some L)=(0,xs):=by
 unfold ybI;simp only [h]
theorem yhB {k:Int} {n:Nat} {L:Lb} (h:gtL k n L=none):ybI k n (some L)=(5,[]):=by
 unfold ybI;simp only [h]
theorem ywY {w:World} {p:Oa} {l:Lb} (h:Bs w p l) (h0:4≤l.length):∃ b off,p=some ⟨b,off,none⟩:=by
 rcases h with h1|⟨b,off,h1,-⟩
 ·omega
 ·exact ⟨b,off,h1⟩
theorem ytX (k N:Int) (p:Oa) (c n:Nat) (ss:List Sg) (q:Oa) (mm cv:Nat) (w:World) (htab:Tab w) (hx:Hid (ss.length=n)) (hs:RdG w p ss) (hp:uC k ss=false) :
  Calls Tryz.prog 25 #[.int .i64 k,.slice p n c,.int .i64 N,.slice q mm cv] w (jL (40,[]) w):=by
 have HV:=h_ (ybl k p c n ss w htab hx hs)
 rw [hp] at HV
 clear hs hp htab
 go_in
 go_wp2_with fail
 refine (HV.out).mono ?_
 rintro e w1 ⟨rfl,hb1⟩
 have yY:=h_ hb1
 clear hb1
 go_wp2
 go_ret2
 exact jL.bad yY.out
theorem ytY (k N:Int) (p:Oa) (c n:Nat) (ss:List Sg) (q:Oa) (mm cv:Nat) (w:World) (htab:Tab w) (hx:Hid (ss.length=n)) (hs:RdG w p ss) (hp:uC k ss=true) (hN:isC N=false) :
  Calls Tryz.prog 25 #[.int .i64 k,.slice p n c,.int .i64 N,.slice q mm cv] w (jL (2,[]) w):=by
 have HV:=h_ (ybl k p c n ss w htab hx hs)
 rw [hp] at HV
 have HIS:=h_ (fun W=>yeL N W)
 rw [hN] at HIS
 clear hs hp htab hN
 go_in
 go_wp2_with fail
 refine (HV.out).mono ?_
 rintro e w1 ⟨rfl,hb1⟩
 have yY:=h_ hb1
 clear hb1
 go_wp2_with fail
 refine (HIS.out _).mono ?_
 rintro e w' ⟨rfl,rfl⟩
 go_wp2
 go_ret2
 exact jL.bad yY.out
theorem yo2 (k N:Int) (p:Oa) (c n:Nat) (ss:List Sg) (q:Oa) (mm cv:Nat) (w:World) (htab:Tab w) (hx:Hid (ss.length=n)) (hs:RdG w p ss) (hp:uC k ss=true) (hN:isC N=true) (hm:mm<4) :
  Calls Tryz.prog 25 #[.int .i64 k,.slice p n c,.int .i64 N,.slice q mm cv] w (jL (5,[]) w):=by
 have HV:=h_ (ybl k p c n ss w htab hx hs)
 rw [hp] at HV
 have HIS:=h_ (fun W=>yeL N W)
 rw [hN] at HIS
 have hm0:(mm:Int)-4<0:=by omega
 clear hs hp htab hN
 go_in
 go_wp2_with fail
 refine (HV.out).mono ?_
 rintro e w1 ⟨rfl,hb1⟩
 have yY:=h_ hb1
 clear hb1
 go_wp2_with fail
 refine (HIS.out _).mono ?_
 rintro e w' ⟨rfl,rfl⟩
 go_wp2
 go_ret2
 exact jL.bad yY.out
theorem yrX (k:Int) (p:Oa) (c n m b0 off mm m0 cv:Nat) (ss:List Sg) (L lb:Lb) (w:World) (he:Env w) (hx:Hid (ss.length=n)) (hs:RdG w p ss) (hp:Hid (uC k ss=true)) (hm:m≤4096) (HWL:Hid (vG L=lb)) (hm0:Hid (L.length=m0)) (hmm:mm=m0+4) (hcv:mm≤cv) (ygC:m0≤20000) (hb:Bs w (some ⟨b0,off,none⟩) lb) :
  Calls Tryz.prog 25 #[.int .i64 k,.slice p n c,.int .i64 (m:Int),.slice (some ⟨b0,off,none⟩) mm cv] w (jL (ybI k m (bkS ss n L)) w):=by
 have HV:=h_ (ybl k p c n ss w he.tab hx hs)
 rw [hp.out] at HV
 have HE:=h_ he
 have HB:=h_ hb
 have HS:=h_ hs
 have hmi:(m:Int)≤4096:=by omega
 have hn4:ss.length≤4:=(ydU hp.out).2.1
 have hni:(n:Int)≤4:=by have:=hx.out;omega
 have hkT:isT k=true:=(ydU hp.out).1
 have HK1:Hid (1≤k∧k≤5):=h_ (by unfold isT at hkT;rw [Bool.and_eq_true,decide_eq_true_eq,decide_eq_true_eq] at hkT;exact hkT)
 obtain ⟨R,HR⟩:=ez (bkS ss n L)
 rw [HR.out]
 have hm0i:m0≤20000:=ygC
 rw [← HWL.out] at HB
 have etk:(vG L).take m0=L:=by unfold vG;rw [← hm0.out,List.take_left]
 have edr:(vG L).drop m0=sumB (Crc.crc L):=by unfold vG;rw [← hm0.out,List.drop_left]
 obtain ⟨X,HX⟩:=ez (Crc.crc L)
 have HBL:Hid (∀ W,Be w W→Bs W (some ⟨b0,off,none⟩) L):=h_ (fun W hW=>by
  have h:=ycd (HB.out.below hW) m0
  rwa [etk] at h)
 have HSM:Hid (∀ W,Be w W→Calls Tryz.prog 55 #[.slice (some ⟨b0,off,none⟩) m0 cv] W (Rp (.agg #[.int .u8 ((X%256:Nat):Int),.int .u8 ((X/256%256:Nat):Int),.int .u8 ((X/65536%256:Nat):Int),.int .u8 ((X/16777216%256:Nat):Int)]) W)):=h_ (fun W hW=>by
  have h:=yd8 (some ⟨b0,off,none⟩) cv L W (by rw [hm0.out];omega) (HBL.out W hW)
  unfold ypa at h
  rwa [HX.out,hm0.out] at h)
 have HEQ:Hid (∀ W G,Be w W→Bs W (some ⟨G,0,none⟩) (sumB X)→Calls Tryz.prog 60 #[.slice (some ⟨G,0,none⟩) 4 4,.slice (some ⟨b0,off+m0,none⟩) 4 (cv-m0)] W (Qp (.bool true) W)):=h_ (fun W G hW hG=>by
  have h1:(sumB X).length=4:=rfl
  have h2:=vH (HB.out.below hW) m0 (by unfold vG;rw [List.length_append,hm0.out];omega) rfl
  rw [edr,HX.out] at h2
  exact ycC _ _ _ _ 4 (sumB X) W (h_ h1) hG h2)
 obtain ⟨c0,HC0⟩:=ez (X%256)
 obtain ⟨c1,HC1⟩:=ez (X/256%256)
 obtain ⟨c2,HC2⟩:=ez (X/65536%256)
 obtain ⟨c4,HC4⟩:=ez (X/16777216%256)
 rw [HC0.out,HC1.out,HC2.out,HC4.out] at HSM
 have h4:(mm:Int)-4=(m0:Int):=by omega
 have g0:¬ (m0:Int)<0:=by omega
 have g1:(m0:Int)≤(mm:Int):=by omega
 have g2:(mm:Int)≤(cv:Int):=by omega
 have g3:(mm:Int)≤100000:=by omega
 have g4:(m0:Int)≤(cv:Int):=by omega
 have g5:mm-m0=4:=by omega
 have g6:¬ cv=m0:=by omega
 have hmc:Hid (m0≤cv):=h_ (by omega)
 have HIS:=h_ (fun W=>GB m hmi W)
 clear hs he hb hmm hcv etk edr ygC hkT
 go_in
 go_wp2_with fail
 refine (HV.out).mono ?_
 rintro e w1 ⟨rfl,hb1⟩
 have yY:=h_ hb1
 clear hb1
 go_wp2_with fail
 refine (HIS.out _).mono ?_
 rintro e w' ⟨rfl,rfl⟩
 go_wp2_with fail
 refine (HSM.out _ yY.out).mono ?_
 rintro e w6 ⟨rfl,hb6⟩
 have HB6:=th yY hb6
 clear hb6
 obtain ⟨W7,HW7⟩:∃ W7,Hid (w6.alloc (.cells #[.int .u8 (c0:Int),.int .u8 (c1:Int),.int .u8 (c2:Int),.int .u8 (c4:Int)] 79)=W7):=⟨_,h_ rfl⟩
 obtain ⟨G,HG⟩:=ez (w6.heap.size)
 have HSB:Hid (Bs W7 (some ⟨G,0,none⟩) (sumB X)):=h_ (by
  refine yk7 (t:=79) ?_
  rw [HC0.out,HC1.out,HC2.out,HC4.out,← HW7.out,← HG.out]
  exact World.alloc_heap_new w6 _)
 have HB7:Hid (Be w W7):=h_ (HB6.out.trans (by rw [← HW7.out];exact (bR.alloc nl _).mono HB6.out.size))
 have HBG:Hid (∀ W,Be W7 W→Be w W∧Bs W (some ⟨G,0,none⟩) (sumB X)):=h_ (fun W hW=>⟨tr HB7.out hW,HSB.out.below hW⟩)
 have HCC:Hid (∀ j,Calls Tryz.prog 60 #[.slice (some ⟨G,0,none⟩) 4 4,.slice (some ⟨b0,off+m0,none⟩) 4 (cv-m0)] (W7.drewN j) fun e w'=>e=.returned (.bool true)∧w'=W7.drewN j):=h_ (fun j=>(HEQ.out (W7.drewN j) G (HBG.out _ (yG _ _ j)).1 (HBG.out _ (yG _ _ j)).2).mono (fun _ _ h=>⟨h.1,h.2.symm⟩))
 go_wp2_with fail
 rw [HW7.out,HG.out]
 go_quiet ((go_at_call 60;exact Calls.quiet_of_same (HCC.out _)))
 go_wp2
 go_loopw [12,13,14] (fun bv ev iv wr=>∃ (j:Nat) (pc:Oa) (lc cc:Nat) (l:Lb),j≤n∧bv=.slice pc lc cc∧ev=.int .i64 0∧iv=.int .i64 ((j:Int)-1)∧Hid (lc=l.length)∧Hid (l.length≤1048576)∧Hid (bkS ss j l=R)∧Hid (lc≤cc)∧Hid (pc=none→cc=0)∧Hid (Bs wr pc l)∧Hid (Be w wr)) (fun _ _ iv _=>(intOf iv+1).toNat)
 case atStart=>exact ⟨n,_,_,_,L,Nat.le_refl _,rfl,rfl,rfl,h_ hm0.out.symm,h_ (by rw [hm0.out];omega),HR,hmc,h_ (by intro h;cases h),h_ (HBL.out _ (HB7.out.trans (yG _ _ _))),h_ (HB7.out.trans (yG _ _ _))⟩
 case round =>
  obtain ⟨j,pc,lc,cc,l,hj,rfl,rfl,rfl,HLC,GL,HRL,ypK,HNC,HO,HBR⟩:=hrel
  cases j with
  | succ i =>
   have hil:i<ss.length:=by rw [hx.out];omega
   have e9:((i+1:Nat):Int)-1=(i:Int):=by omega
   have ilt:(i:Int)<(n:Int):=by omega
   have i0:(i:Int) ≥ 0:=by omega
   obtain ⟨b2,o2,x,y,s,e2,hb2,hd1,hd2,hd3,hx2⟩:=(HS.out.below HBR.out).at (k:=i) hil
   obtain ⟨SZ,HSZ⟩:∃ SZ:ByteArray,Hid (⟨s.toArray⟩=SZ):=⟨_,rfl⟩
   have HSP:Hid ((∀ L,bkL (x,y,s) l=some L→L.length≤1048576)∧Calls Tryz.prog 61 #[.agg #[.int .i64 x,.int .i64 y,.string SZ],.slice pc lc cc] wr (zL (bkL (x,y,s) l) wr)):=h_ (by
    have hok:=yqc hp.out i hil
    rw [hx2.out] at hok
    have h:=yju (l:=l) hok GL.out
    have h2:=h.2.1 pc cc wr (by rw [← HLC.out];exact ypK.out) HNC.out HO.out
    rw [← HLC.out] at h2
    rw [← HSZ.out]
    exact ⟨h.1,h2⟩)
   rw [e9]
   first|(cases e2)|(rw [e2])
   rw [HSZ.out] at hd3
   obtain ⟨r,HBK⟩:=ez (bkL (x,y,s) l)
   have ypM:Hid (bkL (ss.getD i (0,0,[])) l=r):=h_ (by rw [hx2.out];exact HBK.out)
   rw [HBK.out] at HSP
   clear hb2 hil
   cases r with
   | some L2 =>
    have HN:Hid (bkS ss i L2=R):=h_ (by rw [← yjv ypM.out];exact HRL.out)
    obtain ⟨ql,HQQ⟩:=ez (L2.length)
    have HTH:Hid (Calls Tryz.prog 61 #[.agg #[.int .i64 x,.int .i64 y,.string SZ],.slice pc lc cc] wr (yez L2 ql wr)):=h_ (by rw [← HQQ.out];exact HSP.out.2)
    go_wp2_with fail
    refine (HTH.out).mono ?_
    rintro e w5 ⟨hb5,q5,d5,rfl,h51,h52,h53⟩
    have HB5:=th HBR hb5
    have HO5:=h_ h53
    have HL5:Hid (ql=L2.length):=h_ HQQ.out.symm
    clear hb5 h53 hd1 hd2 hd3
    go_wp2
    go_roundw
    case rel=>exact ⟨i,q5,_,d5,L2,by omega,rfl,rfl,by go_num,HL5,h_ (HSP.out.1 L2 rfl),HN,h51,h52,HO5,HB5⟩
    case measure=>simp [intOf]
   | none =>
    obtain rfl:R=none:=by rw [← HRL.out];exact yjw ypM.out
    have HTH:Hid (Calls Tryz.prog 61 #[.agg #[.int .i64 x,.int .i64 y,.string SZ],.slice pc lc cc] wr (zL none wr)):=h_ HSP.out.2
    go_wp2_with fail
    refine (HTH.out).mono ?_
    rintro e w5 ⟨hb5,z,hz,rfl⟩
    have HB5:=th HBR hb5
    have gz:(z != 0)=true:=by rw [bne_iff_ne];exact hz
    have HZN:=h_ hz
    clear hb5 hz hd1 hd2 hd3
    go_wp2
    go_ret2
    exact jL.bad HB5.out
  | zero =>
   have e9:((0:Nat):Int)-1=(-1:Int):=rfl
   rw [e9]
   have ypN:Hid (some l=R):=h_ HRL.out
   have HGP:Hid (Calls Tryz.prog 62 #[.int .i64 k,.int .i64 (m:Int),.slice pc lc cc] wr (yb6 m (gtL k m l) wr)):=h_ (by
    have h:=(yjz HK1.out hm GL.out).1 pc cc wr (by rw [← HLC.out];exact ypK.out) (HE.out.below HBR.out) HO.out
    rwa [← HLC.out] at h)
   obtain ⟨r,HRR⟩:=ez (gtL k m l)
   rw [HRR.out] at HGP
   cases r with
   | some xs =>
    have HF:Hid (ybI k m R=(0,xs)):=h_ (by rw [← ypN.out];exact yhA HRR.out)
    go_wp2_with fail
    refine (HGP.out).mono ?_
    rintro e w5 ⟨hb5,hxl,q5,d5,rfl,hs5⟩
    have HFN:Hid (jL (ybI k m R) w (.returned (.tuple #[.slice q5 m d5,.int .i64 0])) w5):=h_ (by
     rw [HF.out]
     refine ⟨tr HBR.out hb5,by show xs.length≤4096;omega,q5,d5,?_,hs5⟩
     show _=Ending.returned (.tuple #[.slice q5 xs.length d5,.int .i64 0])
     rw [hxl])
    clear hs5 hb5 hxl
    go_wp2
    go_ret2
    exact HFN.out
   | none =>
    have HF:Hid (ybI k m R=(5,[])):=h_ (by rw [← ypN.out];exact yhB HRR.out)
    go_wp2_with fail
    refine (HGP.out).mono ?_
    rintro e w5 ⟨hb5,rfl⟩
    have HFN:Hid (jL (ybI k m R) w (.returned (.tuple #[.slice none 0 0,.int .i64 5])) w5):=h_ (by
     rw [HF.out]
     exact jL.bad (tr HBR.out hb5))
    clear hb5
    go_wp2
    go_ret2
    exact HFN.out
theorem yrY (k N:Int) (p:Oa) (c n:Nat) (ss:List Sg) (q:Oa) (mm cv:Nat) (w:World) (hx:Hid (ss.length=n)) (hs:RdG w p ss) (hp:uC k ss=false) :
  Calls Tryz.prog 26 #[.int .i64 k,.slice p n c,.int .i64 N,.slice q mm cv] w (jL (40,[]) w):=by
 have HV:=h_ (ybG k p c n ss w hx hs)
 rw [hp] at HV
 clear hs hp
 go_in
 go_wp2_with fail
 refine (HV.out).mono ?_
 rintro e w1 ⟨rfl,hb1⟩
 have yY:=h_ hb1
 clear hb1
 go_wp2
 go_ret2
 exact jL.bad yY.out
theorem yrZ (k N:Int) (p:Oa) (c n:Nat) (ss:List Sg) (q:Oa) (mm cv:Nat) (w:World) (hx:Hid (ss.length=n)) (hs:RdG w p ss) (hp:uC k ss=true) (hN:isC N=false) :
  Calls Tryz.prog 26 #[.int .i64 k,.slice p n c,.int .i64 N,.slice q mm cv] w (jL (2,[]) w):=by
 have HV:=h_ (ybG k p c n ss w hx hs)
 rw [hp] at HV
 by_cases h0:N<0
 ·clear hs hp hN
  go_in
  go_wp2_with fail
  refine (HV.out).mono ?_
  rintro e w1 ⟨rfl,hb1⟩
  have yY:=h_ hb1
  clear hb1
  go_wp2
  go_ret2
  exact jL.bad yY.out
 ·have h4:4096<N:=by
   unfold isC at hN
   rw [decide_eq_true (by omega),Bool.true_and,decide_eq_false_iff_not] at hN
   omega
  clear hs hp hN
  go_in
  go_wp2_with fail
  refine (HV.out).mono ?_
  rintro e w1 ⟨rfl,hb1⟩
  have yY:=h_ hb1
  clear hb1
  go_wp2
  go_ret2
  exact jL.bad yY.out
theorem ymW (k:Int) (m:Nat) (p:Oa) (c n:Nat) (ss:List Sg) (q:Oa) (mm cv:Nat) (w:World) (hx:Hid (ss.length=n)) (hs:RdG w p ss) (hp:uC k ss=true) (hm4:m≤4096) (hm:mm<4) :
  Calls Tryz.prog 26 #[.int .i64 k,.slice p n c,.int .i64 (m:Int),.slice q mm cv] w (jL (5,[]) w):=by
 have HV:=h_ (ybG k p c n ss w hx hs)
 rw [hp] at HV
 have hn0:¬ (m:Int)<0:=by omega
 have hn4:¬ (4096:Int)<(m:Int):=by omega
 have yuC:¬ 4096<m:=by omega
 have hd4:decide ((mm:Int)<4)=true:=decide_eq_true (by omega)
 have hm0:(mm:Int)<4:=by omega
 clear hs hp
 go_in
 go_wp2_with fail
 refine (HV.out).mono ?_
 rintro e w1 ⟨rfl,hb1⟩
 have yY:=h_ hb1
 clear hb1
 go_wp2_with fail
 go_quiet (fail)
 go_wp2
 go_ret2
 exact jL.bad (yY.out.trans (yG _ _ _))
theorem ymX (b0 off mm m0 cv:Nat) (lb:Lb) (w:World) (hmm:mm=m0+4) (hl:Hid (lb.length=mm)) (ygC:m0≤20000) (hb:Bs w (some ⟨b0,off,none⟩) lb) :
  ∀ W,Be w W→Calls Tryz.prog 58 #[.slice (some ⟨b0,off,none⟩) m0 cv] W fun e w'=>∃ p3 c3,e=.returned (.slice p3 mm c3)∧Hid (Be w w')∧(convert 39 9 (.slice p3 mm c3)).run Tryz.prog w'=.ok (.string ⟨(vG (lb.take m0)).toArray⟩) w'∧(convert 39 9 (.slice (some ⟨b0,off,none⟩) mm cv)).run Tryz.prog w'=.ok (.string ⟨lb.toArray⟩) w':=fun W hW=>by
 have e1:(lb.take m0).length=m0:=by rw [List.length_take,hl.out];omega
 have h:=yl6 (some ⟨b0,off,none⟩) cv (lb.take m0) W (by rw [e1];exact ygC) (ycd (hb.below hW) m0)
 rw [e1] at h
 refine h.mono ?_
 rintro e w' ⟨v,rfl,hg⟩
 obtain ⟨p3,c3,rfl,hbs,hc⟩:=zA hg.own
 have e2:(vG (lb.take m0)).length=mm:=by unfold vG;rw [List.length_append,e1,hmm];rfl
 rw [e2]
 have hB:Be w w':=tr hW hg.below
 have h1:=zP w' p3 c3 _ hbs
 have h2:=zP w' _ cv lb (hb.below hB)
 rw [e2] at h1
 rw [hl.out] at h2
 exact ⟨p3,c3,rfl,h_ hB,h1,h2⟩
theorem yo3 (k:Int) (p:Oa) (c n m b0 off mm m0 cv:Nat) (ss:List Sg) (lb:Lb) (w:World) (hx:Hid (ss.length=n)) (hs:RdG w p ss) (hp:uC k ss=true) (hm4:m≤4096) (hmm:mm=m0+4) (hl:Hid (lb.length=mm)) (hcv:mm≤cv) (ygC:m0≤20000) (hb:Bs w (some ⟨b0,off,none⟩) lb) :
  Calls Tryz.prog 26 #[.int .i64 k,.slice p n c,.int .i64 (m:Int),.slice (some ⟨b0,off,none⟩) mm cv] w (jL (if vG (lb.take m0)=lb then ybI k m (bkS ss n (lb.take m0)) else (5,[])) w):=by
 obtain ⟨L,HLD⟩:=ez (lb.take m0)
 have HV:=h_ (ybG k p c n ss w hx hs)
 rw [hp] at HV
 have HSF:=h_ (ymX b0 off mm m0 cv lb w hmm hl ygC hb)
 have HCB:Hid (∀ W,Be w W→(convert 39 9 (.slice (some ⟨b0,off,none⟩) mm cv)).run Tryz.prog W=.ok (.string ⟨lb.toArray⟩) W):=h_ (fun W hW=>by
  have h:=zP W (some ⟨b0,off,none⟩) cv lb (hb.below hW)
  rwa [hl.out] at h)
 have HS:=h_ hs
 have HPP:=h_ hp
 have HM4:=h_ hm4
 have hn4:ss.length≤4:=(ydU hp).2.1
 have hni:(n:Int)≤4:=by have:=hx.out;omega
 have hkT:isT k=true:=(ydU hp).1
 have HK1:Hid (1≤k∧k≤5):=h_ (by unfold isT at hkT;rw [Bool.and_eq_true,decide_eq_true_eq,decide_eq_true_eq] at hkT;exact hkT)
 obtain ⟨R,HR⟩:=ez (bkS ss n L)
 have etk:=HLD.out
 have HLL0:Hid (L.length=m0):=h_ (by rw [← etk,List.length_take,hl.out];omega)
 rw [etk,HR.out]
 have HBL:Hid (∀ W,Be w W→Bs W (some ⟨b0,off,none⟩) L):=h_ (fun W hW=>by
  have h:=ycd (hb.below hW) m0
  rwa [etk] at h)
 rw [etk] at HSF
 obtain ⟨X,HX⟩:∃ X:ByteArray,Hid (⟨lb.toArray⟩=X):=⟨_,rfl⟩
 obtain ⟨Y,HY⟩:∃ Y:ByteArray,Hid (⟨(vG L).toArray⟩=Y):=⟨_,rfl⟩
 obtain ⟨bb,HBB⟩:=ez ((Y.toList==X.toList))
 obtain ⟨D,HD⟩:=ez ((if vG L=lb then ybI k m R else (5,[])))
 have HDD:Hid (D=if bb then ybI k m R else (5,[])):=h_ (by
  rw [← HD.out,← HBB.out,← HX.out,← HY.out]
  by_cases h:vG L=lb
  ·rw [if_pos h,h,beq_self_eq_true,if_pos rfl]
  ·rw [if_neg h,if_neg]
   intro e
   rw [beq_iff_eq] at e
   refine h ?_
   simpa using e)
 rw [HX.out] at HCB
 rw [HX.out,HY.out] at HSF
 rw [HD.out]
 have h5:=HBB.out
 have hmc:Hid (m0≤cv):=h_ (by omega)
 have HML:Hid (L.length≤1048576):=h_ (by rw [HLL0.out];omega)
 have hn0:¬ (m:Int)<0:=by omega
 have hn5:¬ (4096:Int)<(m:Int):=by omega
 have yuC:¬ 4096<m:=by omega
 have hd4:decide ((mm:Int)<4)=false:=decide_eq_false (by omega)
 have hm0:¬ (mm:Int)<4:=by omega
 have hmN:¬ mm<4:=by omega
 have h4i:(mm:Int)-4=(m0:Int):=by omega
 have g0:¬ (m0:Int)<0:=by omega
 have g1:(m0:Int)≤(mm:Int):=by omega
 have g2:(mm:Int)≤(cv:Int):=by omega
 have g3:(mm:Int)≤100000:=by omega
 have g4:(m0:Int)≤(cv:Int):=by omega
 have g5:(0:Int)≤(m0:Int):=by omega
 have hwm:IntKind.i64.wrap (m0:Int)=(m0:Int):=by rw [IntKind.wrap_i64];omega
 have g6:m0≤cv:=by omega
 have g7:m0≤mm:=by omega
 have g8:mm≤cv:=by omega
 have hwr:IntKind.i64.wrap ((mm:Int)-4)=(m0:Int):=by rw [IntKind.wrap_i64];omega
 clear hs hp hb hmm ygC hcv hm4 etk hkT hn4
 go_in
 go_wp2_with fail
 refine (HV.out).mono ?_
 rintro e w1 ⟨rfl,hb1⟩
 have yY:=h_ hb1
 clear hb1
 have HALL:Hid (∀ W,Be w1 W→Be w W∧(convert 39 9 (.slice (some ⟨b0,off,none⟩) mm cv)).run Tryz.prog W=.ok (.string X) W):=h_ (fun W hW=>by
  have h:=tr yY.out hW
  exact ⟨h,HCB.out W h⟩)
 go_wp2_with fail
 refine wp_region_noPanic ?_
 refine wp_region_held_drew (S:=(fun W=>Be w W∧(convert 39 9 (.slice (some ⟨b0,off,none⟩) mm cv)).run Tryz.prog W=.ok (.string X) W)) (by kernel_rfl) (HALL.out _ bR.drew) (fun hHeld=>?_)
 refine wpAnyH_take (i := 0) (oi := { dst := some 25, op := Op.move (Operand.tmp 3), type := 39, pos := "ref.go:309", after := #[], guard := none }) (v := ?v0) rfl (by kernel_rfl) (by kernel_rfl) (by kernel_rfl) (fun _ _ _ h => h) (Or.inl ⟨by rfl, ?hy0⟩) (by assumption) ?rest0
 case hy0 =>
  intro w hSw
  (try dsimp only at hSw)
  go_simp
  all_goals (with_reducible rfl)
 simp only [Act.put,List.setIfInBounds_toArray,List.set_cons_zero,List.set_cons_succ]
 refine wpAnyH_take (i := 1) (oi := { dst := some 26, op := Op.call { callee := Callee.builtin Builtin.len, args := #[Operand.tmp 25], argTypes := #[39] }, type := 3, pos := "ref.go:309", after := #[{ on := 0, ground := Ground.data }], guard := none }) (v := ?v1) rfl (by kernel_rfl) (by kernel_rfl) (by kernel_rfl) (fun _ _ _ h => h) (Or.inl ⟨by rfl, ?hy1⟩) (by assumption) ?rest1
 case hy1 =>
  intro w hSw
  (try dsimp only at hSw)
  go_simp
  all_goals (with_reducible rfl)
 simp only [Act.put,List.setIfInBounds_toArray,List.set_cons_zero,List.set_cons_succ]
 refine wpAnyH_take (i := 2) (oi := { dst := some 27, op := Op.binOp BinOp.lss 3 (Operand.tmp 26) (Operand.const (Value.int IntKind.i64 4)) 3, type := 4, pos := "ref.go:309", after := #[{ on := 1, ground := Ground.data }], guard := none }) (v := ?v2) rfl (by kernel_rfl) (by kernel_rfl) (by kernel_rfl) (fun _ _ _ h => h) (Or.inl ⟨by rfl, ?hy2⟩) (by assumption) ?rest2
 case hy2 =>
  intro w hSw
  (try dsimp only at hSw)
  go_simp
  all_goals (with_reducible rfl)
 simp only [Act.put,List.setIfInBounds_toArray,List.set_cons_zero,List.set_cons_succ]
 refine wpAnyH_take (i := 3) (oi := { dst := some 28, op := Op.move (Operand.tmp 27), type := 4, pos := "ref.go:309", after := #[{ on := 2, ground := Ground.data }], guard := none }) (v := ?v3) rfl (by kernel_rfl) (by kernel_rfl) (by kernel_rfl) (fun _ _ _ h => h) (Or.inl ⟨by rfl, ?hy3⟩) (by assumption) ?rest3
 case hy3 =>
  intro w hSw
  (try dsimp only at hSw)
  go_simp
  all_goals (with_reducible rfl)
 simp only [Act.put,List.setIfInBounds_toArray,List.set_cons_zero,List.set_cons_succ]
 refine wpAnyH_take (i := 4) (oi := { dst := some 29, op := Op.move (Operand.tmp 3), type := 39, pos := "ref.go:309", after := #[{ on := 3, ground := Ground.guard }], guard := some (3, false) }) (v := ?v4) rfl (by kernel_rfl) (by kernel_rfl) (by kernel_rfl) (fun _ _ _ h => h) (Or.inl ⟨by rfl, ?hy4⟩) (by assumption) ?rest4
 case hy4 =>
  intro w hSw
  (try dsimp only at hSw)
  go_simp
  all_goals (with_reducible rfl)
 simp only [Act.put,List.setIfInBounds_toArray,List.set_cons_zero,List.set_cons_succ]
 refine wpAnyH_take (i := 5) (oi := { dst := some 30, op := Op.move (Operand.tmp 3), type := 39, pos := "ref.go:309", after := #[{ on := 3, ground := Ground.guard }], guard := some (3, false) }) (v := ?v5) rfl (by kernel_rfl) (by kernel_rfl) (by kernel_rfl) (fun _ _ _ h => h) (Or.inl ⟨by rfl, ?hy5⟩) (by assumption) ?rest5
 case hy5 =>
  intro w hSw
  (try dsimp only at hSw)
  go_simp
  all_goals (with_reducible rfl)
 simp only [Act.put,List.setIfInBounds_toArray,List.set_cons_zero,List.set_cons_succ]
 refine wpAnyH_take (i := 6) (oi := { dst := some 31, op := Op.call { callee := Callee.builtin Builtin.len, args := #[Operand.tmp 30], argTypes := #[39] }, type := 3, pos := "ref.go:309", after := #[{ on := 5, ground := Ground.data }, { on := 3, ground := Ground.guard }], guard := some (3, false) }) (v := ?v6) rfl (by kernel_rfl) (by kernel_rfl) (by kernel_rfl) (fun _ _ _ h => h) (Or.inl ⟨by rfl, ?hy6⟩) (by assumption) ?rest6
 case hy6 =>
  intro w hSw
  (try dsimp only at hSw)
  go_simp
  all_goals (with_reducible rfl)
 simp only [Act.put,List.setIfInBounds_toArray,List.set_cons_zero,List.set_cons_succ]
 refine wpAnyH_take (i := 7) (oi := { dst := some 32, op := Op.binOp BinOp.sub 3 (Operand.tmp 31) (Operand.const (Value.int IntKind.i64 4)) 3, type := 3, pos := "ref.go:309", after := #[{ on := 6, ground := Ground.data }, { on := 3, ground := Ground.guard }], guard := some (3, false) }) (v := ?v7) rfl (by kernel_rfl) (by kernel_rfl) (by kernel_rfl) (fun _ _ _ h => h) (Or.inl ⟨by rfl, ?hy7⟩) (by assumption) ?rest7
 case hy7 =>
  intro w hSw
  (try dsimp only at hSw)
  go_simp
  all_goals (with_reducible rfl)
 simp only [Act.put,List.setIfInBounds_toArray,List.set_cons_zero,List.set_cons_succ]
 refine wpAnyH_take (i := 11) (oi := { dst := some 36, op := Op.move (Operand.tmp 3), type := 39, pos := "ref.go:309", after := #[{ on := 3, ground := Ground.guard }], guard := some (3, false) }) (v := ?v11) rfl (by kernel_rfl) (by kernel_rfl) (by kernel_rfl) (fun _ _ _ h => h) (Or.inl ⟨by rfl, ?hy11⟩) (by assumption) ?rest11
 case hy11 =>
  intro w hSw
  (try dsimp only at hSw)
  go_simp
  all_goals (with_reducible rfl)
 simp only [Act.put,List.setIfInBounds_toArray,List.set_cons_zero,List.set_cons_succ]
 refine wpAnyH_take (i := 12) (oi := { dst := some 37, op := Op.convert 39 9 (Operand.tmp 36), type := 9, pos := "ref.go:309", after := #[{ on := 11, ground := Ground.data }, { on := 3, ground := Ground.guard }], guard := some (3, false) }) (v := ?v12) rfl (by kernel_rfl) (by kernel_rfl) (by kernel_rfl) (fun _ _ _ h => h) (Or.inl ⟨by rfl, ?hy12⟩) (by assumption) ?rest12
 case hy12 =>
  intro w hSw
  (try dsimp only at hSw)
  go_simp
  all_goals (with_reducible rfl)
 simp only [Act.put,List.setIfInBounds_toArray,List.set_cons_zero,List.set_cons_succ]
 refine wpAnyH_take (i := 8) (oi := { dst := some 33, op := Op.slice 39 (Operand.tmp 29) none (some (Operand.tmp 32)) none, type := 39, pos := "ref.go:309", after := #[{ on := 4, ground := Ground.data }, { on := 7, ground := Ground.data }, { on := 3, ground := Ground.guard }], guard := some (3, false) }) (v := ?v8) rfl (by kernel_rfl) (by kernel_rfl) (by kernel_rfl) (fun _ _ _ h => h) (Or.inl ⟨by rfl, ?hy8⟩) (by assumption) ?rest8
 case hy8 =>
  intro w hSw
  (try dsimp only at hSw)
  go_simp
  all_goals (with_reducible rfl)
 simp only [Act.put,List.setIfInBounds_toArray,List.set_cons_zero,List.set_cons_succ]
 refine wpAnyH_ready (rs := [9]) (by kernel_rfl) (by simp) (AllReadyH.cons (o := { dst := some 34, op := Op.call { callee := Callee.value (Operand.func 58), args := #[Operand.tmp 33], argTypes := #[39] }, type := 39, pos := "ref.go:309", after := #[{ on := 8, ground := Ground.data }, { on := 3, ground := Ground.chain }, { on := 3, ground := Ground.guard }], guard := some (3, false) }) rfl (fun K hK => ?_) AllReadyH.nil)
 go_simp
 go_at_call 58
 refine (HSF.out _ hHeld.1).mono ?_
 rintro e w7 ⟨p3,c3,rfl,h7,hc7,hd7⟩
 go_wp2_with fail
 refine hK.out _ _ ⟨h7.out,hd7⟩ (fun hHeld2=>?_)
 clear hK K
 refine wpAnyH_ready (rs := [10]) (by kernel_rfl) (by simp) (AllReadyH.cons (o := { dst := some 35, op := Op.convert 39 9 (Operand.tmp 34), type := 9, pos := "ref.go:309", after := #[{ on := 9, ground := Ground.data }, { on := 3, ground := Ground.guard }], guard := some (3, false) }) rfl (fun K hK => ?_) AllReadyH.nil)
 go_simp
 refine hK.out _ _ hHeld2 (fun hHeld3=>?_)
 clear hK K
 refine wpAnyH_take (i := 13) (oi := { dst := some 38, op := Op.binOp BinOp.neq 9 (Operand.tmp 35) (Operand.tmp 37) 9, type := 4, pos := "ref.go:309", after := #[{ on := 10, ground := Ground.data }, { on := 12, ground := Ground.data }, { on := 3, ground := Ground.guard }], guard := some (3, false) }) (v := ?v13) rfl (by kernel_rfl) (by kernel_rfl) (by kernel_rfl) (fun _ _ _ h => h) (Or.inl ⟨by rfl, ?hy13⟩) (by assumption) ?rest13
 case hy13 =>
  intro w hSw
  (try dsimp only at hSw)
  go_simp
  all_goals (with_reducible rfl)
 simp only [Act.put,List.setIfInBounds_toArray,List.set_cons_zero,List.set_cons_succ]
 refine wpAnyH_take (i := 14) (oi := { dst := some 39, op := Op.pick (Operand.tmp 28) (Operand.const (Value.bool true)) (Operand.tmp 38), type := 4, pos := "ref.go:309", after := #[{ on := 3, ground := Ground.data }, { on := 13, ground := Ground.data }], guard := none }) (v := ?v14) rfl (by kernel_rfl) (by kernel_rfl) (by kernel_rfl) (fun _ _ _ h => h) (Or.inl ⟨by rfl, ?hy14⟩) (by assumption) ?rest14
 case hy14 =>
  intro w hSw
  (try dsimp only at hSw)
  go_simp
  all_goals (with_reducible rfl)
 simp only [Act.put,List.setIfInBounds_toArray,List.set_cons_zero,List.set_cons_succ]
 refine wpAnyH_done (by kernel_rfl) ?_ _
 refine NoPanic.normal ?_
 have HB7:=h_ h7.out
 clear h7 hc7 hd7 h5
 cases bb with
 | false =>
 obtain rfl:D=(5,[]):=HDD.out
 go_wp2
 go_ret2
 exact jL.bad HB7.out
 | true =>
 obtain rfl:D=ybI k m R:=HDD.out
 go_wp2
 go_loopw [3,10,11,12] (fun bv iv uv ev wr=>∃ (j:Nat) (pc:Oa) (lc cc:Nat) (l:Lb),j≤n∧bv=.slice pc lc cc∧iv=.int .i64 ((j:Int)-1)∧Hid (lc=l.length)∧Hid (l.length≤1048576)∧Hid (bkS ss j l=R)∧Hid (lc≤cc)∧Hid (pc=none→cc=0)∧Hid (Bs wr pc l)∧Hid (Be w wr)) (fun _ iv _ _ _=>(intOf iv+1).toNat)
 case atStart=>exact ⟨n,_,_,_,L,Nat.le_refl _,rfl,rfl,h_ HLL0.out.symm,HML,HR,hmc,h_ (by intro h;cases h),h_ (HBL.out _ HB7.out),HB7⟩
 case round =>
  obtain ⟨j,pc,lc,cc,l,hj,rfl,rfl,HLC,GL,HRL,ypK,HNC,HO,HBR⟩:=hrel
  cases j with
  | succ i =>
   have hil:i<ss.length:=by rw [hx.out];omega
   have e9:((i+1:Nat):Int)-1=(i:Int):=by omega
   have ilt:(i:Int)<(n:Int):=by omega
   have i0:(i:Int) ≥ 0:=by omega
   obtain ⟨b2,o2,x,y,s,e2,hb2,hd1,hd2,hd3,hx2⟩:=(HS.out.below HBR.out).at (k:=i) hil
   obtain ⟨SZ,HSZ⟩:∃ SZ:ByteArray,Hid (⟨s.toArray⟩=SZ):=⟨_,rfl⟩
   have HSP:Hid ((∀ L,bkL (x,y,s) l=some L→L.length≤1048576)∧Calls Tryz.prog 63 #[.agg #[.int .i64 x,.int .i64 y,.string SZ],.slice pc lc cc] wr (zL (bkL (x,y,s) l) wr)):=h_ (by
    have hok:=yqc HPP.out i hil
    rw [hx2.out] at hok
    have h:=yju (l:=l) hok GL.out
    have h2:=h.2.2 pc cc wr (by rw [← HLC.out];exact ypK.out) HNC.out HO.out
    rw [← HLC.out] at h2
    rw [← HSZ.out]
    exact ⟨h.1,h2⟩)
   rw [e9]
   first|(cases e2)|(rw [e2])
   rw [HSZ.out] at hd3
   obtain ⟨r,HBK⟩:=ez (bkL (x,y,s) l)
   have ypM:Hid (bkL (ss.getD i (0,0,[])) l=r):=h_ (by rw [hx2.out];exact HBK.out)
   rw [HBK.out] at HSP
   clear hb2 hil
   cases r with
   | some L2 =>
    have HN:Hid (bkS ss i L2=R):=h_ (by rw [← yjv ypM.out];exact HRL.out)
    obtain ⟨ql,HQQ⟩:=ez (L2.length)
    have HTH:Hid (Calls Tryz.prog 63 #[.agg #[.int .i64 x,.int .i64 y,.string SZ],.slice pc lc cc] wr (yez L2 ql wr)):=h_ (by rw [← HQQ.out];exact HSP.out.2)
    go_wp2_with fail
    refine (HTH.out).mono ?_
    rintro e w5 ⟨hb5,q5,d5,rfl,h51,h52,h53⟩
    have HB5:=th HBR hb5
    have HO5:=h_ h53
    have HL5:Hid (ql=L2.length):=h_ HQQ.out.symm
    clear hb5 h53 hd1 hd2 hd3
    go_wp2
    go_roundw
    case rel=>exact ⟨i,q5,_,d5,L2,by omega,rfl,by go_num,HL5,h_ (HSP.out.1 L2 rfl),HN,h51,h52,HO5,HB5⟩
    case measure=>simp [intOf]
   | none =>
    obtain rfl:R=none:=by rw [← HRL.out];exact yjw ypM.out
    have HTH:Hid (Calls Tryz.prog 63 #[.agg #[.int .i64 x,.int .i64 y,.string SZ],.slice pc lc cc] wr (zL none wr)):=h_ HSP.out.2
    go_wp2_with fail
    refine (HTH.out).mono ?_
    rintro e w5 ⟨hb5,z,hz,rfl⟩
    have HB5:=th HBR hb5
    have gz:(z != 0)=true:=by rw [bne_iff_ne];exact hz
    have HZN:=h_ hz
    clear hb5 hz hd1 hd2 hd3
    go_wp2
    go_ret2
    exact jL.bad HB5.out
  | zero =>
   have e9:((0:Nat):Int)-1=(-1:Int):=rfl
   rw [e9]
   have ypN:Hid (some l=R):=h_ HRL.out
   have HGP:Hid (Calls Tryz.prog 64 #[.int .i64 k,.int .i64 (m:Int),.slice pc lc cc] wr (yb6 m (gtL k m l) wr)):=h_ (by
    have h:=(yjz HK1.out HM4.out GL.out).2 pc cc wr (by rw [← HLC.out];exact ypK.out) HO.out
    rwa [← HLC.out] at h)
   obtain ⟨r,HRR⟩:=ez (gtL k m l)
   rw [HRR.out] at HGP
   cases r with
   | some xs =>
    have HF:Hid (ybI k m R=(0,xs)):=h_ (by rw [← ypN.out];exact yhA HRR.out)
    go_wp2_with fail
    refine (HGP.out).mono ?_
    rintro e w5 ⟨hb5,hxl,q5,d5,rfl,hs5⟩
    have HFN:Hid (jL (ybI k m R) w (.returned (.tuple #[.slice q5 m d5,.int .i64 0])) w5):=h_ (by
     rw [HF.out]
     refine ⟨tr HBR.out hb5,by show xs.length≤4096;have:=HM4.out;omega,q5,d5,?_,hs5⟩
     show _=Ending.returned (.tuple #[.slice q5 xs.length d5,.int .i64 0])
     rw [hxl])
    clear hs5 hb5 hxl
    go_wp2
    go_ret2
    exact HFN.out
   | none =>
    have HF:Hid (ybI k m R=(5,[])):=h_ (by rw [← ypN.out];exact yhB HRR.out)
    go_wp2_with fail
    refine (HGP.out).mono ?_
    rintro e w5 ⟨hb5,rfl⟩
    have HFN:Hid (jL (ybI k m R) w (.returned (.tuple #[.slice none 0 0,.int .i64 5])) w5):=h_ (by
     rw [HF.out]
     exact jL.bad (tr HBR.out hb5))
    clear hb5
    go_wp2
    go_ret2
    exact HFN.out
theorem yr0 (k N:Int) (p q:Oa) (c n mm cv:Nat) (ss:List Sg) (lb:Lb) (w:World) (he:Env w) (hx:Hid (ss.length=n)) (hs:RdG w p ss) (hl:Hid (lb.length=mm)) (hcv:mm≤cv) (h300:mm≤300) (hb:Bs w q lb) :
  ∃ D:Int × List Lb,
   (∀ W,Be w W→Calls Tryz.prog 25 #[.int .i64 k,.slice p n c,.int .i64 N,.slice q mm cv] W (jL D W)) ∧
   (∀ W,Be w W→Calls Tryz.prog 26 #[.int .i64 k,.slice p n c,.int .i64 N,.slice q mm cv] W (jL D W)):=by
 by_cases hp:uC k ss=true
 case neg =>
  rw [Bool.not_eq_true] at hp
  exact ⟨(40,[]),fun W hW=>ytX k N p c n ss q mm cv W (he.below hW).tab hx (hs.below hW) hp,fun W hW=>yrY k N p c n ss q mm cv W hx (hs.below hW) hp⟩
 by_cases hN:isC N=true
 case neg =>
  rw [Bool.not_eq_true] at hN
  exact ⟨(2,[]),fun W hW=>ytY k N p c n ss q mm cv W (he.below hW).tab hx (hs.below hW) hp hN,fun W hW=>yrZ k N p c n ss q mm cv W hx (hs.below hW) hp hN⟩
 obtain ⟨m,rfl,hm⟩:∃ m:Nat,N=m∧m≤4096:=by
  unfold isC at hN
  rw [Bool.and_eq_true,decide_eq_true_eq,decide_eq_true_eq] at hN
  exact ⟨N.toNat,by omega,by omega⟩
 by_cases h4:mm<4
 ·exact ⟨(5,[]),fun W hW=>yo2 k m p c n ss q mm cv W (he.below hW).tab hx (hs.below hW) hp hN h4,fun W hW=>ymW k m p c n ss q mm cv W hx (hs.below hW) hp hm h4⟩
 obtain ⟨b0,off,rfl⟩:=ywY hb (by rw [hl.out];omega)
 obtain ⟨m0,hmm⟩:∃ m0,mm=m0+4:=⟨mm-4,by omega⟩
 have e1:(lb.take m0).length=m0:=by rw [List.length_take,hl.out];omega
 refine ⟨if vG (lb.take m0)=lb then ybI k m (bkS ss n (lb.take m0)) else (5,[]),fun W hW=>?_,fun W hW=>yo3 k p c n m b0 off mm m0 cv ss lb W hx (hs.below hW) hp hm hmm hl hcv (by omega) (hb.below hW)⟩
 by_cases hw:vG (lb.take m0)=lb
 ·rw [if_pos hw]
  exact yrX k p c n m b0 off mm m0 cv ss (lb.take m0) lb W (he.below hW) hx (hs.below hW) (h_ hp) hm (h_ hw) (h_ e1) hmm hcv (by omega) (hb.below hW)
 ·have hne:Hid (sumB (Crc.crc (lb.take m0))≠lb.drop m0):=h_ fun e=>hw (by unfold vG;rw [e,List.take_append_drop])
  rw [if_neg hw]
  refine (yl5 k p c n m b0 off mm m0 cv ss lb W (he.below hW) hx (hs.below hW) hp hm hmm hl hcv (by omega) (hb.below hW) hne).mono ?_
  rintro e w' ⟨rfl,h⟩
  exact jL.bad h
theorem yk1 (k N:Int) (p q:Oa) (c d n m:Nat) (ss:List Sg) (lb:Lb) (w:World) (he:Env w) (hx:Hid (ss.length=n)) (hs:RdG w p ss) (hy:Hid (lb.length=m)) (hmd:m≤d) (hq:Bs w q lb) :
  Calls Tryz.prog 6 #[.agg #[.int .i64 k,.slice p n c,.int .i64 N,.slice q m d]] w fun e w'=>Be w w'∧e=.returned (.bool true):=by
 have HE:=h_ he
 have HS:=h_ hs
 have HQ:=h_ hq
 have yp2:Hid (∀ W,Be w W→Calls Tryz.prog 10 #[] W (Rp (.bool true) W)):=h_ (fun W hW=>yrQ W (HE.out.below hW))
 obtain ⟨W0,HW0⟩:∃ W0,Hid (w.alloc (.cells #[.int .i64 k,.slice p n c,.int .i64 N,.slice q m d] 48)=W0):=⟨_,h_ rfl⟩
 have HB0:Hid (Be w W0):=h_ (by rw [← HW0.out];exact bR.alloc nl _)
 obtain ⟨B,HBX⟩:=ez (w.heap.size)
 have yd6:Hid (W0.heap[B]?=some (.cells #[.int .i64 k,.slice p n c,.int .i64 N,.slice q m d] 48 (0,0))):=h_ (by rw [← HW0.out,← HBX.out];exact World.alloc_heap_new w _)
 have HCELL:Hid (∀ W:World,Be W0 W→W.cell? ⟨B,0,none⟩=some (.int .i64 k)∧W.cell? ⟨B,1,none⟩=some (.slice p n c)∧W.cell? ⟨B,2,none⟩=some (.int .i64 N)∧W.cell? ⟨B,3,none⟩=some (.slice q m d)):=h_ (fun W hW=>by
  have h:=(hW.block B (Array.getElem?_eq_some_iff.1 yd6.out).1).trans yd6.out
  exact ⟨by simp [World.cell?,h],by simp [World.cell?,h],by simp [World.cell?,h],by simp [World.cell?,h]⟩)
 have HR0:=h_ (Below.refl W0.heap.size W0)
 obtain ⟨hc0,hc1,hc2,hc3⟩:=HCELL.out W0 HR0.out
 have HST:Hid (∀ W,Be w W→Calls Tryz.prog 9 #[.slice p n c] W (Qp (.bool (ydo ss)) W)):=h_ (fun W hW=>yon p c n ss W hx (HS.out.below hW))
 obtain ⟨bs,HBS⟩:∃ b,Hid (ydo ss=b):=⟨_,rfl⟩
 rw [HBS.out] at HST
 by_cases hm:300<m
 ·have hmi:(300:Int)<(m:Int):=by omega
  clear he hs hq
  go_in
  go_wp2_with fail
  rw [HW0.out,HBX.out]
  go_wp2_with fail
  refine (yp2.out _ HB0.out).mono ?_
  rintro e w9 ⟨rfl,hb9⟩
  have HB9:=th HB0 hb9
  clear hb9
  go_wp2
  go_ret
  exact ⟨HB9.out,rfl⟩
 have hmi:¬ (300:Int)<(m:Int):=by omega
 have hmi2:(m:Int)≤300:=by omega
 obtain ⟨⟨z,xs⟩,hD1,hD2⟩:=yr0 k N p q c n m d ss lb w he hx hs hy hmd (by omega) hq
 have HD1:=h_ hD1
 have HD2:=h_ hD2
 clear he hs hq hD1 hD2
 cases bs with
 | true =>
  go_in
  go_wp2_with fail
  rw [HW0.out,HBX.out]
  go_wp2_with fail
  refine (HST.out _ HB0.out).mono ?_
  rintro e w' ⟨rfl,rfl⟩
  go_wp2_with fail
  refine (yp2.out _ HB0.out).mono ?_
  rintro e w9 ⟨rfl,hb9⟩
  have HB9:=th HB0 hb9
  clear hb9
  go_wp2
  go_ret
  exact ⟨HB9.out,rfl⟩
 | false =>
  go_in
  go_wp2_with fail
  rw [HW0.out,HBX.out]
  go_wp2_with fail
  refine (HST.out _ HB0.out).mono ?_
  rintro e w' ⟨rfl,rfl⟩
  go_wp2_with fail
  refine (HD1.out _ HB0.out).mono ?_
  rintro e w1 ⟨hb1,hx4,q1,d1,rfl,hs1⟩
  have HX4:Hid (xs.length≤4096):=h_ hx4
  obtain ⟨l,HL⟩:=ez (xs.length)
  have yY:=th HB0 hb1
  have HS1:Hid (Ss w1 q1 xs):=h_ hs1
  obtain ⟨kc0,kc1,kc2,kc3⟩:=HCELL.out w1 hb1
  have HLA:Hid (∀ W e w',jL (z,xs) W e w'→Be W w'∧∃ q c,e=.returned (.tuple #[.slice q l c,.int .i64 z])∧Ss w' q xs):=h_ (fun W e w' h=>by
   obtain ⟨h1,-,q,c,h2,h3⟩:=h
   refine ⟨h1,q,c,?_,h3⟩
   rw [← HL.out];exact h2)
  clear hb1 hc0 hc1 hc2 hc3 hs1 hx4
  have e1:(z,xs).2.length=l:=HL.out
  have e2:(z,xs).1=z:=rfl
  rw [e1,e2]
  clear e1 e2
  go_wp2_with fail
  refine (HD2.out _ yY.out).mono ?_
  intro e w2 h2
  obtain ⟨hb2,q2,d2,rfl,hs2⟩:=HLA.out _ _ _ h2
  have vK:=th yY hb2
  have HSM:Hid (Calls Tryz.prog 20 #[.slice q1 l d1,.slice q2 l d2] w2 fun e w'=>Be w2 w'∧e=.returned (.bool true)):=h_ (yrS q1 q2 d1 d2 l xs w2 HL (by rw [← HL.out];exact HX4.out) (HS1.out.below hb2) hs2)
  clear hb2 kc0 kc1 kc2 kc3 hs2 h2
  go_wp2_with fail
  refine (HSM.out).mono ?_
  rintro e w3 ⟨hb3,rfl⟩
  have HB3:=th vK hb3
  clear hb3
  go_wp2_with fail
  refine (yp2.out _ HB3.out).mono ?_
  rintro e w9 ⟨rfl,hb9⟩
  have HB9:=th HB3 hb9
  clear hb9
  go_wp2
  go_ret
  exact ⟨HB9.out,rfl⟩
end
section
open Go.ChangeMaps Go.ChangeShapes Go.WideShapes Go.ChangeAt Go.RowKit
theorem ywZ:ownKnob Tryz.prog.godebug=none:=by kernel_rfl
section
variable {H : Type} {enc : TypeId × Value → H} {P : Program}
theorem yg4 {f:Func} {s:ChangeSpec} {apart fresh handsOn again:Bool} {W W':World} {args:Array Value} {v:Value} {ds gs:List (DataW H)} {before pa pv:List MemPlace}
  (hW:DataW.Whole enc P f.params.toList s.vars apart W args.toList ds gs before)
  (zH:∀ (b:Nat) (sp:Nat→Bool) (hd:Bool),DataW.TrodAll enc P W' b sp hd f.resultTypes.toList (v.resultList f.resultTypes.size) (s.fn H (ds++gs)).results [])
  (yp3:∀ sp:Nat→Bool,(∀ p ∈ before,sp p.block=true)→DataW.TrodAll enc P W' 0 sp true f.params.toList args.toList (s.fn H (ds++gs)).args pa)
  (hvars:∀ sp:Nat→Bool,(∀ p ∈ before,sp p.block=true)→DataW.TrodVars enc P W' sp s.vars (s.fn H (ds++gs)).vars pv)
  (hps:before=pa++pv) (hb:Be W W')
  (hok:∀ (j:Nat) (t:TypeId) (r:Value),f.resultTypes[j]?=some t→(v.resultList f.resultTypes.size)[j]?=some r→Value.okWide P W' .any 0 t r) :
  s.post enc P f apart fresh handsOn again W args v W':=by
 have hlt:∀ p ∈ before,p.block<W.heap.size:=fun p hp=>hW.lt p hp
 have hold:∀ p ∈ before,(fun b=>decide (b<W.heap.size)) p.block=true:=fun p hp=>by simpa using hlt p hp
 refine ⟨ds,gs,before,[],pa,pv,hW,zH _ _ _,yp3 _ hold,hvars _ hold,World.keptBut_mono (fun p hp=>⟨hp,?_⟩) (hb.frame (· ∈ before)),fun _=>?_⟩
 ·rw [hps,List.mem_append] at hp
  exact Or.inr hp
 ·obtain ⟨_,_,_,_,_,hz,hn⟩:=hW
  refine ⟨hok,_,_,([]++pa)++pv,⟨[]++pa,pv,trodAll_append (yp3 _ (fun _ _=>rfl)) (zH _ _ _),hvars _ (fun _ _=>rfl),rfl,?_,?_⟩,?_⟩
  ·intro b off hp
   have hin:MemPlace.cell b off ∈ before:=by rw [hps];simpa using hp
   rw [hb.frozen (hlt _ hin)]
   exact hz b off hin
  ·intro ha
   have:=hn ha
   rw [hps] at this
   simpa using this
  ·intro p hp _
   rw [hps]
   simpa using hp
end
section
variable {H : Type} {enc : TypeId × Value → H} {P : Program}
theorem yg5 (hl:laidOutB P=true) {W W':World} (hb:Be W W') (sp:Nat→Bool) :
  ∀ (ts:List TypeId) (vs:List Value) (ds:List (DataW H)) (ps:List MemPlace),(∀ t ∈ ts,P.readableRec t=true)→(∀ t ∈ ts,t<P.types.size) →
   DataW.TrodAll enc P W 0 (fun _=>true) true ts vs ds ps→(∀ x ∈ ps,x.block<W.heap.size)→(∀ x ∈ ps,sp x.block=true)→DataW.TrodAll enc P W' 0 sp true ts vs ds ps:=by
 intro ts
 induction ts with
 | nil =>
  intro vs ds ps _ _ h _ _
  obtain ⟨rfl,rfl,rfl⟩:=trodAll_nil h
  exact trodAll_mk0
 | cons t ts ih =>
  intro vs ds ps hr uJ h hlt hsp
  obtain ⟨v,vs',d,ds',p,q,rfl,rfl,rfl,h0,h1⟩:=trodAll_cons h
  exact trodAll_cons_mk (WideElems.Trod_stays hl (hr t (by simp)) (uJ t (by simp)) h0 (fun x hx=>hb.same (hlt x (by simp [hx]))) (fun x hx=>hsp x (by simp [hx])))
   (ih vs' ds' q (fun t ht=>hr t (by simp [ht])) (fun t ht=>uJ t (by simp [ht])) h1 (fun x hx=>hlt x (by simp [hx])) (fun x hx=>hsp x (by simp [hx])))
end
theorem yw0 : Tryz.prog.globalNamed "internal/strconv.uint64pow10" = some 4 := by kernel_rfl
theorem yr1:(Tryz.prog.globals[4]?).map (·.type)=some 259:=by kernel_rfl
theorem yr2:Tryz.prog.cellsOf 259=20:=by kernel_rfl
theorem ytZ:Tryz.prog.cellsOf 86=1:=by kernel_rfl
theorem yvp:Tryz.prog.cellsOf 5=1:=by kernel_rfl
theorem yvQ : Tryz.prog.globalNamed "strconv.ErrSyntax" = some 0 := by kernel_rfl
theorem yr3:(Tryz.prog.globals[0]?).map (·.type)=some 125:=by kernel_rfl
theorem yvR : Tryz.prog.globalNamed "strconv.ErrRange" = some 1 := by kernel_rfl
theorem yr4:(Tryz.prog.globals[1]?).map (·.type)=some 125:=by kernel_rfl
theorem ynG : "*" ++ "errors.errorString" = "*errors.errorString" := by decide
theorem yqu (u : TypeId) (h : Tryz.prog.typeName? 3 u = some "*errors.errorString") : u = 252 :=
 typeName_ptr_named (nm := "errors.errorString") (by rw [ynG]; kernel_rfl) (by kernel_rfl) (by decide) u (by rw [ynG]; exact h)
theorem yt0 {W:World} (h:laidMet Tryz.prog Rows.codecValidRow.laid W):Env W:=by
 have h3:=laidMet.tail (laidMet.tail h)
 have h4:=laidMet.tail h3
 have h5:=laidMet.tail h4
 refine ⟨Lib.tabIs_of_head yw0 yr1 Tryz.underlying259 Tryz.underlying86 ytZ yr2 h3,?_,?_⟩
 ·obtain ⟨a,s,hv,-,-,-⟩:=laid_sentinel h5 yvQ yr3 Tryz.underlying125 yqu Tryz.underlying252 Tryz.underlying254 rfl rfl Tryz.underlying9 (by kernel_rfl) (by kernel_rfl)
  exact ⟨_,by simpa using World.var?_cell yvQ hv 0,.inr ⟨_,_,rfl⟩⟩
 ·obtain ⟨a,s,hv,-,-,-⟩:=laid_sentinel h4 yvR yr4 Tryz.underlying125 yqu Tryz.underlying252 Tryz.underlying254 rfl rfl Tryz.underlying9 (by kernel_rfl) (by kernel_rfl)
  exact ⟨_,by simpa using World.var?_cell yvR hv 0,.inr ⟨_,_,rfl⟩⟩
theorem yr5 {W:World} (h:laidMetH Tryz.prog Rows.codecValidRow.laid W):Env W:=by
 rw [MakeChecks.laidMetH_plain _ _ _ (by kernel_rfl)] at h
 exact yt0 h
theorem yt1:laidOutB Tryz.prog=true:=by kernel_rfl
section
variable {H : Type} {enc : TypeId × Value → H} {w : World} {base b0 : Nat} {spare : Nat → Bool} {yjn : Bool} {r : Reach} {v : Value} {d : DataW H} {p : List MemPlace}
end
theorem yvq:Tryz.prog.cellsOf 9=1:=by kernel_rfl
theorem ynH {w:World} {a:Addr} {x:Value} (h:w.cell? a=some x):∃ b off,a=⟨b,off,none⟩∧b<w.heap.size:=by
 have hs:=World.cell?_spot h
 obtain ⟨b,off,sp⟩:=a
 simp only at hs
 subst hs
 refine ⟨b,off,rfl,Classical.byContradiction fun hx=>?_⟩
 simp [World.cell?,hx] at h
section
open Go.Deep
variable {H : Type} {enc : TypeId × Value → H} {w : World} {base b0 : Nat} {spare : Nat → Bool} {yjn : Bool} {v : Value} {y : DataW H × List MemPlace} {n : Nat} {r : Reach} {d : DataW H} {p : List MemPlace}
end
section
open Go.Deep
variable {H : Type} {enc : TypeId × Value → H} {w : World} {base b0 : Nat} {spare : Nat → Bool} {yjn : Bool} {v : Value} {y : DataW H × List MemPlace} {n : Nat} {r : Reach} {d : DataW H} {p : List MemPlace}
theorem ynI:Tryz.prog.cellsOf 3=1:=by kernel_rfl
theorem yr6:Tryz.prog.cellsOf 45=3:=by kernel_rfl
theorem yo4 (h:DataW.trod enc Tryz.prog w base spare yjn n 22 [v]=some y):∃ (q:Oa) (c:Nat) (l:List Sg),v=.slice q l.length c∧RdG w q l:=by
 rcases open_slice Tryz.underlying22 h with ⟨e,-⟩|⟨a,len,cap,m,n2,D,Pl,e,hb,hl,hm,hmm,-,hi⟩
 ·simp at e
  exact ⟨none,0,[],e,.inl rfl⟩
 ·simp at e
  have hlm:len≤m:=by rw [hmm];split<;>omega
  rw [yr6] at hi
  have each:∀ i,i<len→∃ z:Sg,w.cell? (a.add (i*3))=some (.int .i64 z.1)∧w.cell? (a.add (i*3+1))=some (.int .i64 z.2.1)∧w.cell? (a.add (i*3+2))=some (.string ⟨z.2.2.toArray⟩):=fun i hil=>by
   obtain ⟨cs,hcs,ht⟩:=hi i (by omega)
   obtain ⟨-,hlen,hat⟩:=World.cells?_some hcs
   obtain ⟨y0,y1,y2,n3,-,-,g0,g1,g2⟩:=trod_struct3 Tryz.underlying45 ht
   obtain ⟨z0,e0,-,-⟩:=DataW.trod_int Tryz.underlying3 g0
   obtain ⟨z1,e1,-,-⟩:=DataW.trod_int Tryz.underlying3 g1
   obtain ⟨s2,e2,-⟩:=DataW.trod_string Tryz.underlying9 g2
   have c0:=hat 0 (by omega)
   have c1:=hat 1 (by omega)
   have c2:=hat 2 (by omega)
   match cs,hlen with
   | [x0,x1,x2],_ =>
    simp [ynI,yvq] at e0 e1 e2
    subst e0 e1 e2
    refine ⟨(z0,z1,s2.data.toList),?_,?_,?_⟩
    ·simpa [Addr.add] using c0
    ·rw [← Go.Deep.add_add];exact c1
    ·rw [← Go.Deep.add_add];simpa using c2
  refine ⟨some a,cap,(List.range len).map (fun i=>if hil:i<len then (each i hil).choose else (0,0,[])),by simpa using e,?_⟩
  by_cases h0:len=0
  ·exact .inl (by simpa using h0)
  ·obtain ⟨zz,h1,-⟩:=each 0 (by omega)
   rw [Nat.zero_mul,Addr.add_zero'] at h1
   obtain ⟨b,off,rfl,hlt⟩:=ynH h1
   refine .inr ⟨b,off,rfl,hlt,fun j hj=>?_⟩
   have hjl:j<len:=by simpa using hj
   have h2:=(each j hjl).choose_spec
   have e3:((List.range len).map (fun i=>if hil:i<len then (each i hil).choose else (0,0,[]))).getD j (0,0,[])=(each j hjl).choose:=by
    rw [List.getD_eq_getElem?_getD,List.getElem?_map,List.getElem?_range hjl]
    show (if hil:j<len then (each j hil).choose else (0,0,[]))=_
    rw [dif_pos hjl]
   rw [e3]
   revert h2
   generalize (each j hjl).choose=zc
   intro h2
   rw [Addr.add_lit,Addr.add_lit,Addr.add_lit] at h2
   simpa [Nat.add_assoc] using h2
end
end
end Go.Proofs.YtgepehlpjpccaaaGreatDoor
