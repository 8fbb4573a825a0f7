/- Contracts. -/
import Derived.Test.YtgepehlpjpccaaaGreatDoorYK
namespace Go.Proofs.YtgepehlpjpccaaaGreatDoor
set_option maxHeartbeats 8000000
set_option maxRecDepth 100000
section
open Go.RowKit
open Go.Lib
theorem yjr (k:Int) (p q:Option Addr) (c d n m:Nat) (ss:List Sg) (xs:List (List UInt8)) (w:World) (he:Env w) (hx:Hid (ss.length=n)) (hs:RdG w p ss) (hy:Hid (xs.length=m)) (hm:m≤100) (hq:Ss w q xs) (HPO:Hid (vG k ss=true)) (HBR:Hid (uU ss=false)) (HCV:Hid (uA k (uE ss xs)=0)) :
  Calls Tryz.prog 22 #[.int .i64 k,.slice p n c,.slice q m d] w fun e w'=>∃ v,e=.returned (.tuple #[v,.int .i64 0])∧PutG w (vS (ydH k ss xs)) w' v:=by
 have HE:=Lib.hid he
 have HS:=Lib.hid hs
 have HQ:=Lib.hid hq
 have HV:=Lib.hid (yaa k p c n ss w he.tab hx hs)
 rw [HPO.out] at HV
 have HRA:Hid (∀ W,Below w.heap.size w W→Calls Tryz.prog 35 #[.slice p n c] W fun e w'=>e=.returned (.bool false)∧W=w'):=Lib.hid (fun W hW=>by
  have h:=ybv p c n ss W hx (HS.out.below hW)
  rwa [HBR.out] at h)
 have hni:(n:Int)≤4:=by have:=(vM HPO.out).2.1;rw [hx.out] at this;omega
 obtain ⟨P,HPE⟩:∃ P,Hid (yat k (uE ss xs)=P):=⟨_,rfl⟩
 have HPL:Hid (P.length≤8313):=Lib.hid (by rw [← HPE.out];exact yeq HCV.out (by rw [ybf,hy.out];exact hm))
 have HPT:Hid (∀ W,Below w.heap.size w W→Calls Tryz.prog 34 #[.int .i64 k,.slice q m d] W fun e w'=>∃ v,e=.returned (.tuple #[v,.int .i64 0])∧PutG W P w' v):=Lib.hid (fun W hW=>by
  have hvx:uE ss xs=xs:=by unfold uE;rw [HBR.out];rfl
  rw [← HPE.out,hvx]
  exact ygu k q d m xs W hy (by omega) (HQ.out.below hW) (HE.out.below hW) (Lib.hid (by have:=HCV.out;rwa [hvx] at this)))
 clear he hs hq
 go_enter Tryz.func22,Tryz.ntmps22
 go_wp2_with fail
 refine (HV.out).mono ?_
 rintro e w1 ⟨rfl,hb1⟩
 have zG:=Lib.hid hb1
 clear hb1
 go_wp2_with fail
 refine (HRA.out _ zG.out).mono ?_
 rintro e w' ⟨rfl,rfl⟩
 have HBF:=zG
 go_wp2_with fail
 refine (HPT.out _ zG.out).mono ?_
 rintro e w3 ⟨v3,rfl,hg3⟩
 have HO3:Hid (w3.ownsRow w.heap.size 5 1 v3 P.length (zS P)):=Lib.hid (yeY hg3.own HBF.out.size)
 have HB3:Hid (Below w.heap.size w w3):=Lib.hid (HBF.out.trans (hg3.below.mono HBF.out.size))
 clear hg3
 go_wp2_with fail
 go_loopw [10,11,12] (fun bv ev iv wr=>∃ (i:Nat) (v:Value),i≤n∧v=bv∧ev=.int .i64 0∧iv=.int .i64 i∧Hid (wr.ownsRow w.heap.size 5 1 v (yag ss i P).length (zS (yag ss i P)))∧Hid (Below w.heap.size w wr)) (fun _ _ iv _=>n-(intOf iv).toNat)
 case atStart=>exact ⟨0,v3,Nat.zero_le _,rfl,rfl,rfl,HO3,HB3⟩
 case round =>
  obtain ⟨i,v,hi,rfl,rfl,rfl,HO,HB⟩:=hrel
  have ii:(i:Int)≤(n:Int):=by omega
  by_cases hlt:i<n
  ·have ilt:(i:Int)<(n:Int):=by omega
   have hil:i<ss.length:=by rw [hx.out];exact hlt
   obtain ⟨b2,o2,x,y,s,e2,hb2,hd1,hd2,hd3,hx2⟩:=(HS.out.below HB.out).at (k:=i) hil
   have HTH:Hid (Calls Tryz.prog 54 #[.agg #[.int .i64 x,.int .i64 y,.string ⟨s.toArray⟩],v] wr (yaB w.heap.size (yag ss (i+1) P) wr)):=Lib.hid (by
    have h:=yfy (x,y,s) v (yag ss i P) w.heap.size wr HB.out.size (by have:=ycf HPO.out i hil;rwa [hx2.out] at this) (by have h1:=ybs (l:=P) (ycf HPO.out) (by have:=HPL.out;omega) (vM HPO.out).2.1 i (by omega);have:=HPL.out;have:=(vM HPO.out).2.1;omega) HO.out
    rwa [ydo hil,hx2.out])
   first|(cases e2)|(rw [e2])
   obtain ⟨SZ,HSZ⟩:∃ SZ:ByteArray,Hid (⟨s.toArray⟩=SZ):=⟨_,rfl⟩
   rw [HSZ.out] at hd3 HTH
   clear hb2 hil
   go_wp2_with fail
   refine (HTH.out).mono ?_
   rintro e w5 ⟨hb5,v5,rfl,ho5⟩
   have HB5:=Lib.hid (HB.out.trans (hb5.mono HB.out.size))
   have HO5:=Lib.hid ho5
   clear hb5 ho5 hd1 hd2 hd3
   go_wp2_with fail
   go_roundw
   case rel=>exact ⟨i+1,v5,by omega,rfl,rfl,by go_num,HO5,HB5⟩
   case measure=>simp [intOf];omega
  ·obtain rfl:i=n:=by omega
   have ilt:¬ (i:Int)<(i:Int):=by omega
   obtain ⟨L,HL⟩:∃ L,Hid (yag ss i P=L):=⟨_,rfl⟩
   rw [HL.out] at HO
   have HLL:Hid (L.length≤9000):=Lib.hid (by
    have h1:=ybs (l:=P) (ycf HPO.out) (by have:=HPL.out;omega) (vM HPO.out).2.1 ss.length (Nat.le_refl _)
    rw [hx.out,HL.out] at h1
    have:=HPL.out;have h4:=(vM HPO.out).2.1;rw [hx.out] at h4;omega)
   obtain ⟨pv,cv,rfl,hbs,hcv⟩:=zE HO.out
   obtain ⟨m0,HM0⟩:∃ m0,Hid (L.length=m0):=⟨_,rfl⟩
   obtain ⟨X,HX⟩:∃ X,Hid (Crc.crc L=X):=⟨_,rfl⟩
   have HSM:Hid (Calls Tryz.prog 55 #[.slice pv m0 cv] wr fun e w'=>e=.returned (.agg #[.int .u8 ((X%256:Nat):Int),.int .u8 ((X/256%256:Nat):Int),.int .u8 ((X/65536%256:Nat):Int),.int .u8 ((X/16777216%256:Nat):Int)])∧Below wr.heap.size wr w'):=Lib.hid (by
    have h:=ycG pv cv L wr (by have:=HLL.out;omega) hbs
    unfold ym2 at h
    rwa [HX.out,HM0.out] at h)
   obtain ⟨c0,HC0⟩:∃ c0,Hid (X%256=c0):=⟨_,rfl⟩
   obtain ⟨c1,HC1⟩:∃ c1,Hid (X/256%256=c1):=⟨_,rfl⟩
   obtain ⟨c2,HC2⟩:∃ c2,Hid (X/65536%256=c2):=⟨_,rfl⟩
   obtain ⟨c4,HC4⟩:∃ c4,Hid (X/16777216%256=c4):=⟨_,rfl⟩
   rw [HC0.out,HC1.out,HC2.out,HC4.out] at HSM
   rw [HM0.out] at HO ⊢
   clear hbs hcv
   go_wp2_with fail
   refine (HSM.out).mono ?_
   rintro e w6 ⟨rfl,hb6⟩
   have HB6:=Lib.hid (HB.out.trans (hb6.mono HB.out.size))
   obtain ⟨W7,HW7⟩:∃ W7,Hid (w6.alloc (.cells #[.int .u8 (c0:Int),.int .u8 (c1:Int),.int .u8 (c2:Int),.int .u8 (c4:Int)] 79)=W7):=⟨_,Lib.hid rfl⟩
   obtain ⟨G,HG⟩:∃ G,Hid (w6.heap.size=G):=⟨_,rfl⟩
   have HSB:Hid (Bs W7 (some ⟨G,0,none⟩) (sumB X)):=Lib.hid (by
    refine ymz (t:=79) ?_
    rw [HC0.out,HC1.out,HC2.out,HC4.out,← HW7.out,← HG.out]
    exact World.alloc_heap_new w6 _)
   have hb7:Below w6.heap.size w6 W7:=by rw [← HW7.out];exact (Below.refl _ _).alloc (Nat.le_refl _) _
   have HO7:Hid (W7.ownsRow w.heap.size 5 1 (.slice pv m0 cv) m0 (zS L)):=Lib.hid (GK (GK HO.out hb6) hb7)
   have HB7:Hid (Below w.heap.size w W7):=Lib.hid (HB6.out.trans (hb7.mono HB6.out.size))
   have yqw:Hid (w.heap.size≤W7.heap.size):=Lib.hid HB7.out.size
   have HLB:Hid (m0+4≤140737488355328):=Lib.hid (by have:=HLL.out;have:=HM0.out;omega)
   clear hb6 hb7
   go_wp2_with (first|(rw [HW7.out,HG.out];at_builtin;refine zY rfl (.tmp 64) (.tmp 65) rfl w.heap.size (.slice pv m0 cv) m0 L rfl HM0.out.symm HO7.out (some ⟨G,0,none⟩) 4 4 (sumB X) rfl rfl HSB.out HLB.out yqw.out ?_)|(at_builtin;rw [HW7.out,HG.out];refine zY rfl (.tmp 64) (.tmp 65) rfl w.heap.size (.slice pv m0 cv) m0 L rfl HM0.out.symm HO7.out (some ⟨G,0,none⟩) 4 4 (sumB X) rfl rfl HSB.out HLB.out yqw.out ?_))
   intro v9 w9 hg9
   have uW:Hid (PutG w (vS L) w9 v9):=Lib.hid ⟨by unfold vS;rw [HX.out];exact hg9.own,HB7.out.grown hg9.grown HB7.out.size (fun _ e=>GR HO7.out e)⟩
   clear hg9
   go_wp2_with fail
   go_ret2
   exact ⟨v9,rfl,by rw [ydH,HPE.out,hx.out,HL.out];exact uW.out⟩
theorem yjs (k:Int) (p q:Option Addr) (c d n m:Nat) (ss:List Sg) (xs:List (List UInt8)) (w:World) (he:Env w) (hx:Hid (ss.length=n)) (hs:RdG w p ss) (hy:Hid (xs.length=m)) (hm:m≤100) (hq:Ss w q xs) (HPO:Hid (vG k ss=true)) (HBR:Hid (uU ss=true)) (HCX:Hid (uA k xs=0)) (HAN:Hid (xs.any (vF k (vJ ss))=false)) (HCV:Hid (uA k (uE ss xs)=0)) :
  Calls Tryz.prog 22 #[.int .i64 k,.slice p n c,.slice q m d] w fun e w'=>∃ v,e=.returned (.tuple #[v,.int .i64 0])∧PutG w (vS (ydH k ss xs)) w' v:=by
 have HE:=Lib.hid he
 have HS:=Lib.hid hs
 have HQ:=Lib.hid hq
 have HV:=Lib.hid (yaa k p c n ss w he.tab hx hs)
 rw [HPO.out] at HV
 have HRA:Hid (∀ W,Below w.heap.size w W→Calls Tryz.prog 35 #[.slice p n c] W fun e w'=>e=.returned (.bool true)∧W=w'):=Lib.hid (fun W hW=>by
  have h:=ybv p c n ss W hx (HS.out.below hW)
  rwa [HBR.out] at h)
 have hni:(n:Int)≤4:=by have:=(vM HPO.out).2.1;rw [hx.out] at this;omega
 obtain ⟨P,HPE⟩:∃ P,Hid (yat k (uE ss xs)=P):=⟨_,rfl⟩
 have HPL:Hid (P.length≤8313):=Lib.hid (by rw [← HPE.out];exact yeq HCV.out (by rw [ybf,hy.out];exact hm))
 have yqx:0<ss.length:=(yed HPO.out HBR.out).2
 have hn0:(0:Int)<(n:Int):=by have:=hx.out;omega
 obtain ⟨b1,o1,x0,y0,s0,e1,hbl,hc1,hc2,hc3,hx1⟩:=HS.out.at (k:=0) yqx
 subst e1
 rw [Nat.zero_mul,Nat.add_zero] at hc3
 have yqy:vJ ss=s0:=by unfold vJ;rw [hx1.out]
 obtain ⟨Z,HZ⟩:∃ Z:ByteArray,Hid (⟨s0.toArray⟩=Z):=⟨_,rfl⟩
 rw [HZ.out] at hc3
 have HZS:Hid (Z.data.toList=vJ ss):=Lib.hid (by rw [← HZ.out,yqy])
 have HPC:Hid (ych Z.data.toList=true):=Lib.hid (by rw [HZS.out];exact (yed HPO.out HBR.out).1)
 have HC3:=Lib.hid hc3
 have HBL:=Lib.hid hbl
 clear hc1 hc2 hc3 hbl yqx yqy
 obtain ⟨ys,HYS⟩:∃ ys,Hid (yiL xs (vJ ss)=ys):=⟨_,rfl⟩
 have HYL:Hid (ys.length=m):=Lib.hid (by rw [← HYS.out,ygI,hy.out])
 have HRN:Hid (∀ W,Below w.heap.size w W→Calls Tryz.prog 18 #[.int .i64 k,.slice q m d,.string Z] W fun e w'=>∃ q2,e=.returned (.tuple #[.slice q2 m m,.int .i64 0])∧Ss w' q2 ys∧Below W.heap.size W w'):=Lib.hid (fun W hW=>by
  refine (ygZ k q d m xs Z W hy (by omega) (HQ.out.below hW) (HE.out.below hW) HPC HCX).mono ?_
  rintro e w' ⟨hb2,⟨hyes,-⟩|⟨-,q2,rfl,hs2⟩⟩
  ·rw [HZS.out,HAN.out] at hyes;cases hyes
  ·rw [HZS.out,HYS.out] at hs2;exact ⟨q2,rfl,hs2,hb2⟩)
 have HPT:Hid (∀ W q2,Below w.heap.size w W→Ss W q2 ys→Calls Tryz.prog 34 #[.int .i64 k,.slice q2 m m] W fun e w'=>∃ v,e=.returned (.tuple #[v,.int .i64 0])∧PutG W P w' v):=Lib.hid (fun W q2 hW hS=>by
  have hvx:uE ss xs=ys:=by unfold uE;rw [HBR.out];exact HYS.out
  rw [← HPE.out,hvx]
  exact ygu k q2 m m ys W HYL (by omega) hS (HE.out.below hW) (Lib.hid (by have:=HCV.out;rwa [hvx] at this)))
 clear he hs hq
 go_enter Tryz.func22,Tryz.ntmps22
 go_wp2_with fail
 refine (HV.out).mono ?_
 rintro e w1 ⟨rfl,hb1⟩
 have zG:=Lib.hid hb1
 have hc3:=(hb1.cell (p:=⟨b1,o1+2,none⟩) HBL.out).trans HC3.out
 clear hb1
 go_wp2_with fail
 refine (HRA.out _ zG.out).mono ?_
 rintro e w' ⟨rfl,rfl⟩
 go_wp2_with fail
 refine (HRN.out _ zG.out).mono ?_
 rintro e w2 ⟨q2,rfl,hs2,hb2⟩
 have HBF:=Lib.hid (zG.out.trans (hb2.mono zG.out.size))
 have HPT2:=Lib.hid (HPT.out w2 q2 HBF.out hs2)
 clear hb2 hc3 hs2
 go_wp2_with fail
 refine (HPT2.out).mono ?_
 rintro e w3 ⟨v3,rfl,hg3⟩
 have HO3:Hid (w3.ownsRow w.heap.size 5 1 v3 P.length (zS P)):=Lib.hid (yeY hg3.own HBF.out.size)
 have HB3:Hid (Below w.heap.size w w3):=Lib.hid (HBF.out.trans (hg3.below.mono HBF.out.size))
 clear hg3
 go_wp2_with fail
 go_loopw [10,11,12] (fun bv ev iv wr=>∃ (i:Nat) (v:Value),i≤n∧v=bv∧ev=.int .i64 0∧iv=.int .i64 i∧Hid (wr.ownsRow w.heap.size 5 1 v (yag ss i P).length (zS (yag ss i P)))∧Hid (Below w.heap.size w wr)) (fun _ _ iv _=>n-(intOf iv).toNat)
 case atStart=>exact ⟨0,v3,Nat.zero_le _,rfl,rfl,rfl,HO3,HB3⟩
 case round =>
  obtain ⟨i,v,hi,rfl,rfl,rfl,HO,HB⟩:=hrel
  have ii:(i:Int)≤(n:Int):=by omega
  by_cases hlt:i<n
  ·have ilt:(i:Int)<(n:Int):=by omega
   have hil:i<ss.length:=by rw [hx.out];exact hlt
   obtain ⟨b2,o2,x,y,s,e2,hb2,hd1,hd2,hd3,hx2⟩:=(HS.out.below HB.out).at (k:=i) hil
   have HTH:Hid (Calls Tryz.prog 54 #[.agg #[.int .i64 x,.int .i64 y,.string ⟨s.toArray⟩],v] wr (yaB w.heap.size (yag ss (i+1) P) wr)):=Lib.hid (by
    have h:=yfy (x,y,s) v (yag ss i P) w.heap.size wr HB.out.size (by have:=ycf HPO.out i hil;rwa [hx2.out] at this) (by have h1:=ybs (l:=P) (ycf HPO.out) (by have:=HPL.out;omega) (vM HPO.out).2.1 i (by omega);have:=HPL.out;have:=(vM HPO.out).2.1;omega) HO.out
    rwa [ydo hil,hx2.out])
   first|(cases e2)|(rw [e2])
   obtain ⟨SZ,HSZ⟩:∃ SZ:ByteArray,Hid (⟨s.toArray⟩=SZ):=⟨_,rfl⟩
   rw [HSZ.out] at hd3 HTH
   clear hb2 hil
   go_wp2_with fail
   refine (HTH.out).mono ?_
   rintro e w5 ⟨hb5,v5,rfl,ho5⟩
   have HB5:=Lib.hid (HB.out.trans (hb5.mono HB.out.size))
   have HO5:=Lib.hid ho5
   clear hb5 ho5 hd1 hd2 hd3
   go_wp2_with fail
   go_roundw
   case rel=>exact ⟨i+1,v5,by omega,rfl,rfl,by go_num,HO5,HB5⟩
   case measure=>simp [intOf];omega
  ·obtain rfl:i=n:=by omega
   have ilt:¬ (i:Int)<(i:Int):=by omega
   obtain ⟨L,HL⟩:∃ L,Hid (yag ss i P=L):=⟨_,rfl⟩
   rw [HL.out] at HO
   have HLL:Hid (L.length≤9000):=Lib.hid (by
    have h1:=ybs (l:=P) (ycf HPO.out) (by have:=HPL.out;omega) (vM HPO.out).2.1 ss.length (Nat.le_refl _)
    rw [hx.out,HL.out] at h1
    have:=HPL.out;have h4:=(vM HPO.out).2.1;rw [hx.out] at h4;omega)
   obtain ⟨pv,cv,rfl,hbs,hcv⟩:=zE HO.out
   obtain ⟨m0,HM0⟩:∃ m0,Hid (L.length=m0):=⟨_,rfl⟩
   obtain ⟨X,HX⟩:∃ X,Hid (Crc.crc L=X):=⟨_,rfl⟩
   have HSM:Hid (Calls Tryz.prog 55 #[.slice pv m0 cv] wr fun e w'=>e=.returned (.agg #[.int .u8 ((X%256:Nat):Int),.int .u8 ((X/256%256:Nat):Int),.int .u8 ((X/65536%256:Nat):Int),.int .u8 ((X/16777216%256:Nat):Int)])∧Below wr.heap.size wr w'):=Lib.hid (by
    have h:=ycG pv cv L wr (by have:=HLL.out;omega) hbs
    unfold ym2 at h
    rwa [HX.out,HM0.out] at h)
   obtain ⟨c0,HC0⟩:∃ c0,Hid (X%256=c0):=⟨_,rfl⟩
   obtain ⟨c1,HC1⟩:∃ c1,Hid (X/256%256=c1):=⟨_,rfl⟩
   obtain ⟨c2,HC2⟩:∃ c2,Hid (X/65536%256=c2):=⟨_,rfl⟩
   obtain ⟨c4,HC4⟩:∃ c4,Hid (X/16777216%256=c4):=⟨_,rfl⟩
   rw [HC0.out,HC1.out,HC2.out,HC4.out] at HSM
   rw [HM0.out] at HO ⊢
   clear hbs hcv
   go_wp2_with fail
   refine (HSM.out).mono ?_
   rintro e w6 ⟨rfl,hb6⟩
   have HB6:=Lib.hid (HB.out.trans (hb6.mono HB.out.size))
   obtain ⟨W7,HW7⟩:∃ W7,Hid (w6.alloc (.cells #[.int .u8 (c0:Int),.int .u8 (c1:Int),.int .u8 (c2:Int),.int .u8 (c4:Int)] 79)=W7):=⟨_,Lib.hid rfl⟩
   obtain ⟨G,HG⟩:∃ G,Hid (w6.heap.size=G):=⟨_,rfl⟩
   have HSB:Hid (Bs W7 (some ⟨G,0,none⟩) (sumB X)):=Lib.hid (by
    refine ymz (t:=79) ?_
    rw [HC0.out,HC1.out,HC2.out,HC4.out,← HW7.out,← HG.out]
    exact World.alloc_heap_new w6 _)
   have hb7:Below w6.heap.size w6 W7:=by rw [← HW7.out];exact (Below.refl _ _).alloc (Nat.le_refl _) _
   have HO7:Hid (W7.ownsRow w.heap.size 5 1 (.slice pv m0 cv) m0 (zS L)):=Lib.hid (GK (GK HO.out hb6) hb7)
   have HB7:Hid (Below w.heap.size w W7):=Lib.hid (HB6.out.trans (hb7.mono HB6.out.size))
   have yqw:Hid (w.heap.size≤W7.heap.size):=Lib.hid HB7.out.size
   have HLB:Hid (m0+4≤140737488355328):=Lib.hid (by have:=HLL.out;have:=HM0.out;omega)
   clear hb6 hb7
   go_wp2_with (first|(rw [HW7.out,HG.out];at_builtin;refine zY rfl (.tmp 64) (.tmp 65) rfl w.heap.size (.slice pv m0 cv) m0 L rfl HM0.out.symm HO7.out (some ⟨G,0,none⟩) 4 4 (sumB X) rfl rfl HSB.out HLB.out yqw.out ?_)|(at_builtin;rw [HW7.out,HG.out];refine zY rfl (.tmp 64) (.tmp 65) rfl w.heap.size (.slice pv m0 cv) m0 L rfl HM0.out.symm HO7.out (some ⟨G,0,none⟩) 4 4 (sumB X) rfl rfl HSB.out HLB.out yqw.out ?_))
   intro v9 w9 hg9
   have uW:Hid (PutG w (vS L) w9 v9):=Lib.hid ⟨by unfold vS;rw [HX.out];exact hg9.own,HB7.out.grown hg9.grown HB7.out.size (fun _ e=>GR HO7.out e)⟩
   clear hg9
   go_wp2_with fail
   go_ret2
   exact ⟨v9,rfl,by rw [ydH,HPE.out,hx.out,HL.out];exact uW.out⟩
theorem yoF {w:World} {p:Option Addr} {l:List UInt8} (h:Bs w p l) (n:Nat):Bs w p (l.take n):=by
 rcases h with h0|⟨b,off,h1,h2,h3⟩
 ·exact .inl (by rw [List.length_take,h0];omega)
 ·refine .inr ⟨b,off,h1,h2,fun j hj=>?_⟩
  rw [List.length_take] at hj
  rw [h3 j (by omega),List.getD_eq_getElem?_getD,List.getD_eq_getElem?_getD,List.getElem?_take_of_lt (by omega)]
theorem yub (k:Int) (p q:Option Addr) (c d n m:Nat) (ss:List Sg) (xs:List (List UInt8)) (w:World) (he:Env w) (hx:Hid (ss.length=n)) (hs:RdG w p ss) (hy:Hid (xs.length=m)) (hm:m≤100) (hq:Ss w q xs) (z:Int) (hz:z≠0) (HZ:ydG k ss xs=z) :
  Calls Tryz.prog 22 #[.int .i64 k,.slice p n c,.slice q m d] w fun e w'=>e=.returned (.tuple #[.slice none 0 0,.int .i64 z])∧Below w.heap.size w w':=by
 unfold ydG at HZ
 by_cases h1:vG k ss=false
 ·rw [if_pos h1] at HZ
  rw [← HZ]
  exact yhc k p q c d n m ss w he hx hs h1
 rw [if_neg h1] at HZ
 have h1:vG k ss=true:=by simpa using h1
 cases hr:uU ss with
 | true =>
  rw [hr,Bool.true_and] at HZ
  exact ymi k p q c d n m ss xs w he hx hs hy hm hq (Lib.hid h1) (Lib.hid hr) z hz (Lib.hid HZ)
 | false =>
  by_cases hc:uA k xs≠0
  ·rw [if_pos hc] at HZ
   exact ymj k p q c d n m ss xs w he hx hs hy hm hq (Lib.hid h1) (Lib.hid hr) z hz (Lib.hid HZ)
  ·rw [if_neg hc,hr,Bool.false_and,if_neg (by decide)] at HZ;exact absurd HZ.symm hz
theorem ykE (k:Int) (p q:Option Addr) (c d n m:Nat) (ss:List Sg) (xs:List (List UInt8)) (w:World) (he:Env w) (hx:Hid (ss.length=n)) (hs:RdG w p ss) (hy:Hid (xs.length=m)) (hm:m≤100) (hq:Ss w q xs) (HZ:ydG k ss xs=0) :
  Calls Tryz.prog 22 #[.int .i64 k,.slice p n c,.slice q m d] w fun e w'=>∃ v,e=.returned (.tuple #[v,.int .i64 0])∧PutG w (vS (ydH k ss xs)) w' v:=by
 obtain ⟨h1,h2,h3,h4⟩:=yae HZ
 cases hr:uU ss with
 | true=>exact yjs k p q c d n m ss xs w he hx hs hy hm hq (Lib.hid h1) (Lib.hid hr) (Lib.hid h2) (Lib.hid (h3 hr)) (Lib.hid h4)
 | false=>exact yjr k p q c d n m ss xs w he hx hs hy hm hq (Lib.hid h1) (Lib.hid hr) (Lib.hid h4)
theorem ysa {k:Int} {ss:List Sg} {xs:List (List UInt8)} (h:ydG k ss xs=0) (hm:xs.length≤100):(ydH k ss xs).length≤9000:=by
 obtain ⟨h1,-,-,h4⟩:=yae h
 have hp:=yeq h4 (by rw [ybf];exact hm)
 have h2:=ybs (l:=yat k (uE ss xs)) (ycf h1) (by omega) (vM h1).2.1 ss.length (Nat.le_refl _)
 have h3:=(vM h1).2.1
 unfold ydH
 omega
end
theorem yuc (l:List UInt8):∀ x,l.foldl (fun x (c:UInt8)=>x*256+c.toNat) x=x*256^l.length+nb l:=by
 induction l with
 | nil=>intro x;simp [nb]
 | cons c l ih =>
  intro x
  have h0:nb (c::l)=(0*256+c.toNat)*256^l.length+nb l:=by show List.foldl _ _ (c::l)=_;rw [List.foldl_cons,ih]
  rw [List.foldl_cons,ih,h0,List.length_cons,Nat.pow_succ,Nat.add_mul,Nat.zero_mul,Nat.zero_add,Nat.mul_comm (256^l.length) 256,← Nat.mul_assoc,Nat.add_assoc]
theorem yi9 (c:UInt8) (l:List UInt8):nb (c::l)=c.toNat*256^l.length+nb l:=by
 show List.foldl _ _ (c::l)=_
 rw [List.foldl_cons,yuc,Nat.zero_mul,Nat.zero_add]
theorem yka (x:Nat):∀ n,nb (be n x)=x%256^n
 | 0=>by rw [be,Nat.pow_zero,Nat.mod_one];rfl
 | n+1=>by
  rw [be,yi9,jI,yka x n,show (UInt8.ofNat (x/256^n%256)).toNat=x/256^n%256 by rw [UInt8.toNat_ofNat'];exact Nat.mod_mod _ _,@Nat.pow_succ 256 n,@Nat.mod_mul (256^n) 256 x,Nat.mul_comm,Nat.add_comm]
theorem ygk {x y:Nat}:∀ n,x%256^n=y%256^n→be n x=be n y
 | 0,_=>rfl
 | n+1,h=>by
  rw [Nat.pow_succ] at h
  have h1:x/256^n%256=y/256^n%256:=by rw [← Nat.mod_mul_right_div_self,← Nat.mod_mul_right_div_self,h]
  have h2:x%256^n=y%256^n:=by rw [← Nat.mod_mul_right_mod x (256^n) 256,← Nat.mod_mul_right_mod y (256^n) 256,h]
  rw [be,be,h1,ygk n h2]
theorem yq3:∀ (n:Nat) (l:List UInt8),l.length=n→be n (nb l)=l
 | 0,l,h=>by rw [List.eq_nil_of_length_eq_zero h];rfl
 | n+1,[],h=>by cases h
 | n+1,c::l,h=>by
  have hl:l.length=n:=by simpa using h
  have hp:0<256^n:=Nat.pow_pos (by decide)
  have hlt:nb l<256^n:=by have:=yeD l;rwa [hl] at this
  have e1:nb (c::l)/256^n%256=c.toNat:=by
   rw [yi9,hl,Nat.mul_comm,Nat.mul_add_div hp,Nat.div_eq_of_lt hlt,Nat.add_zero]
   exact Nat.mod_eq_of_lt c.toNat_lt
  have e2:be n (nb (c::l))=be n (nb l):=ygk n (by rw [yi9,hl,Nat.mul_comm,Nat.mul_add_mod])
  rw [be,e1,e2,yq3 n l hl,UInt8.ofNat_toNat]
theorem yxE {n:Nat} (h:n≤8):256^n ∣ jM:=by
 have:jM=256^n*256^(8-n):=by rw [← Nat.pow_add,show n+(8-n)=8 by omega]
 exact ⟨_,this⟩
theorem yng {M x y:Nat} (h:(M:Int) ∣ (x:Int)-(y:Int)):x%M=y%M:=by
 have h1:(x:Int)%(M:Int)=(y:Int)%(M:Int):=Int.emod_eq_emod_iff_emod_sub_eq_zero.2 (Int.emod_eq_zero_of_dvd h)
 have h2:((x%M:Nat):Int)=((y%M:Nat):Int):=by rw [Int.natCast_emod,Int.natCast_emod];exact h1
 exact Int.ofNat.inj h2
theorem ynh {M x y:Nat} (h:x%M=y%M):(M:Int) ∣ (x:Int)-(y:Int):=by
 refine Int.dvd_of_emod_eq_zero (Int.emod_eq_emod_iff_emod_sub_eq_zero.1 ?_)
 rw [← Int.natCast_emod,← Int.natCast_emod,h]
theorem ysb {M s a g:Nat} (hM:M ∣ jM) (ha:a<jM) (h:s%M=a%M):((s+(g+jM-a)%jM%M)%jM)%M=g%M:=by
 rw [Nat.mod_mod_of_dvd _ hM,Nat.add_mod,Nat.mod_mod,Nat.mod_mod_of_dvd _ hM,← Nat.add_mod]
 refine yng ?_
 have h1:=ynh h
 have h2:(M:Int) ∣ (jM:Int):=Int.natCast_dvd_natCast.2 hM
 have e:((s+(g+jM-a):Nat):Int)-(g:Int)=((s:Int)-(a:Int))+(jM:Int):=by omega
 rw [e]
 exact Int.dvd_add h1 h2
def GM (a g:Nat):Nat × Nat:=((a+g)%jM,(a+g)%jM)
theorem yfL (n x:Nat) (R:List UInt8):(be n x++R).take n=be n x:=by
 rw [List.take_append_of_le_length (by rw [jI];exact Nat.le_refl _),List.take_of_length_le (by rw [jI];exact Nat.le_refl _)]
theorem yfM (n x:Nat) (R:List UInt8):(be n x++R).drop n=R:=by
 have:=List.drop_left (l₁:=be n x) (l₂:=R)
 rwa [jI] at this
theorem s_d {n:Nat} (hn:n≤8):∀ (k a s:Nat) (l:List UInt8),k*n≤l.length→a<jM→s%256^n=a%256^n→chR GM n k s (chR GY n k a l)=l
 | 0,_,_,_,_,_,_=>rfl
 | k+1,a,s,l,hl,ha,h=>by
  rw [Nat.succ_mul] at hl
  have ht:(l.take n).length=n:=by rw [List.length_take];omega
  have hg:nb (l.take n)<jM:=yge (by omega)
  have hm:((s+(nb (l.take n)+jM-a)%jM%256^n)%jM)%256^n=nb (l.take n)%256^n:=ysb (yxE hn) ha h
  rw [chR,chR,yfL,yfM,yka]
  simp only [GM,GY]
  rw [s_d hn k _ _ _ (by rw [List.length_drop];omega) hg hm,ygk n hm,yq3 n _ ht,List.take_append_drop]
def ytz (l:List UInt8) (n:Nat):List UInt8:=chR GM n (l.length/n) 0 l
theorem yud (l:List UInt8) {n:Nat} (hn:n≤8):ytz (yiK l n) n=l:=by
 unfold ytz;rw [yfw];exact s_d hn _ 0 0 l (Nat.div_mul_le_self _ _) (by decide) rfl
def ydF (l:List UInt8) (n:Nat):List UInt8:=yeC l (l.length/n) n (l.length/n)++l.drop (l.length/n*n)
theorem ycC (l:List UInt8) {n:Nat}:(ydF l n).length=l.length:=by
 unfold ydF
 rw [List.length_append,jJ,List.length_drop]
 have:=Nat.div_mul_le_self l.length n
 omega
theorem ypu (l:List UInt8) {n i j:Nat} (hi:i<l.length/n) (hj:j<n):(ydF l n).getD (i*n+j) 0=l.getD (j*(l.length/n)+i) 0:=by
 unfold ydF
 rw [List.getD_eq_getElem?_getD,List.getElem?_append_left (by rw [jJ];exact ybG hi hj),← List.getD_eq_getElem?_getD]
 exact yeT l _ n _ i j hi hj
theorem yni (l:List UInt8) {n t:Nat} (h:l.length/n*n≤t):(ydF l n).getD t 0=l.getD t 0:=by
 unfold ydF
 rw [List.getD_eq_getElem?_getD,List.getElem?_append_right (by rw [jJ];exact h),jJ,List.getElem?_drop,show l.length/n*n+(t-l.length/n*n)=t by omega,← List.getD_eq_getElem?_getD]
theorem yhU (l:List UInt8) {n:Nat} (hn:0<n):ydF (yaM l n) n=l:=by
 refine ygw (by rw [ycC,jX]) fun t ht=>?_
 rw [ycC,jX] at ht
 by_cases h:t<l.length/n*n
 ·obtain ⟨i,j,hi,hj,rfl⟩:=yaI h hn
  have h1:=ypu (yaM l n) (n:=n) (i:=i) (j:=j) (by rw [jX];exact hi) hj
  rw [jX] at h1
  rw [h1,yiq l hi hj]
 ·rw [yni _ (by rw [jX];omega),ygQ _ (by omega)]
def cp:Nat→Nat→List UInt8→List UInt8
 | 0,_,o=>o
 | n+1,d,o=>cp n d (o++[o.getD (o.length-d) 0])
theorem yhV (d:Nat):∀ n o,(cp n d o).length=o.length+n
 | 0,_=>rfl
 | n+1,o=>by rw [cp,yhV d n];simp;omega
def und (out b:List UInt8):Option (List UInt8) :=
 match b with
 | []=>some out
 | c::r =>
  if c.toNat<128 then
   if r.length<c.toNat+1 then none else und (out++r.take (c.toNat+1)) (r.drop (c.toNat+1))
  else if r.length<2 then none
  else if nb (r.take 2)=0∨out.length<nb (r.take 2) then none
  else und (cp (c.toNat-124) (nb (r.take 2)) out) (r.drop 2)
termination_by b.length
decreasing_by all_goals simp_wf;omega
theorem yfN (out:List UInt8):und out []=some out:=by rw [und]
theorem yeO {out r:List UInt8} {c:UInt8} (h:c.toNat<128) (hr:c.toNat+1≤r.length):und out (c::r)=und (out++r.take (c.toNat+1)) (r.drop (c.toNat+1)):=by
 rw [und,if_pos h,if_neg (by omega)]
theorem yew {out r:List UInt8} {c:UInt8} (h:c.toNat<128) (hr:r.length<c.toNat+1):und out (c::r)=none:=by
 rw [und,if_pos h,if_pos hr]
theorem yhW {out r:List UInt8} {c:UInt8} (h:128≤c.toNat) (hr:r.length<2):und out (c::r)=none:=by
 rw [und,if_neg (by omega),if_pos hr]
theorem yoG {out r:List UInt8} {c:UInt8} (h:128≤c.toNat) (hr:2≤r.length) (hd:nb (r.take 2)=0∨out.length<nb (r.take 2)):und out (c::r)=none:=by
 rw [und,if_neg (by omega),if_neg (by omega),if_pos hd]
theorem ygl {out r:List UInt8} {c:UInt8} (h:128≤c.toNat) (hr:2≤r.length) (hd:¬ (nb (r.take 2)=0∨out.length<nb (r.take 2))):und out (c::r)=und (cp (c.toNat-124) (nb (r.take 2)) out) (r.drop 2):=by
 rw [und,if_neg (by omega),if_neg (by omega),if_neg hd]
set_option maxHeartbeats 1600000
section
open Go.RowKit
open Go.Lib
def Tok (B:Nat) (w:World) (v:Value) (l:List UInt8) (n:Int) (e:Ending) (w':World):Prop:=∃ v',e=.returned (.tuple #[v',.int .i64 n,.int .i64 0])∧Grew B w v l w' v'
theorem yjt (B:Nat) (q:Option Addr) (o l:List UInt8) (co b0 off cap d n:Nat) (w:World) (hB:B≤w.heap.size) (ho:w.ownsRow B 5 1 (.slice q o.length co) o.length (zS o)) (hl:l.length=n) (hb:Bs w (some ⟨b0,off,none⟩) l) (hd0:(l.getD 0 0).toNat=d) (hno:(o.length:Int)≤500000) (hn:d+2≤n) (hcap:n≤cap) :
  Calls Tryz.prog 165 #[.slice q o.length co,.slice (some ⟨b0,off,none⟩) n cap] w (Tok B w (.slice q o.length co) (o++(l.drop 1).take (d+1)) ((d:Int)+2)):=by
 obtain ⟨i0,hi,hz0,hz1,hz2⟩:=info_parts ya6
 have hd:(d:Int)≤255:=by have:=(l.getD 0 0).toNat_lt;omega
 have hc:w.cell? ⟨b0,off,none⟩=some (.int .u8 (d:Int)):=by
  rcases hb with h0|⟨b1,o1,h1,h2,h3⟩
  ·omega
  ·cases h1
   have:=h3 0 (by omega)
   rw [hd0] at this;exact this
 have hs:=Lib.hid (ya8 hb 1 (d+1) (by omega) rfl)
 have yhq:=Lib.hid (hs.out.news (Below.refl _ _) _ rfl)
 have hul:Hid ((zS ((l.drop 1).take (d+1))).length=(d+1)*1):=Lib.hid (by rw [ycu];simp;omega)
 obtain ⟨k,hk⟩:∃ k,Hid (k=o.length):=⟨_,rfl⟩
 rw [← hk.out] at ho hno ⊢
 have hlen:Hid (k+(d+1)≤maxLen∧(k+(d+1))*1≤140737488355328∧B≤w.heap.size):=Lib.hid ⟨by unfold maxLen;omega,by omega,hB⟩
 have yW:=Lib.hid ho
 have HB:=Lib.hid hB
 have yD:Hid (∀ v' w',w'.ownsRow B 5 1 v' (k+(d+1)) (zS o++zS ((l.drop 1).take (d+1)))→w.grownBy w' (Value.slice q k co).ownBlock→(v'.ownBlock=(Value.slice q k co).ownBlock∨v'.ownBlock=some w.heap.size)→Tok B w (.slice q k co) (o++(l.drop 1).take (d+1)) ((d:Int)+2) (.returned (.tuple #[v',.int .i64 ((d:Int)+2),.int .i64 0])) w'):=Lib.hid (fun v' w' h1 h2 h3=>⟨v',rfl,by
  refine ⟨?_,h2,h3.imp id fun h=>⟨_,h,Nat.le_refl _⟩⟩
  have e:(o++(l.drop 1).take (d+1)).length=k+(d+1):=by simp;rw [hk.out];omega
  rw [e,zS,List.map_append];exact h1⟩)
 obtain ⟨L,HL⟩:∃ L,Hid (L=(l.drop 1).take (d+1)):=⟨_,rfl⟩
 rw [← HL.out] at yD hul yhq ⊢
 clear hb hd0 ho hB hl hs
 have t1:decide (1048576<(k:Int)+((d:Int)+2)-1)=false:=by simp;omega
 have t2:decide ((n:Int)<(d:Int)+2)=false:=by simp;omega
 have e1:(1:Int)+(d:Int)+1=((d+2:Nat):Int):=by omega
 go_enter Tryz.func165,Tryz.ntmps165
 go_wp2_with (at_builtin;refine wpList_append_own_at _ rfl (.tmp 24) (.tmp 27) 39 rfl B 5 i0 (.int .u8 0) 1 1 Tryz.underlying39 hi hz0 hz1 hz2 rfl (by decide) _ _ _ rfl yW.out ⟨b0,off+1,none⟩ (d+1) (cap-1) (zS L) rfl hul.out yhq.out (yi6 L) hlen.out.1 hlen.out.2.1 HB.out ?_)
 intro v5 w5 yQ yS _ ye1
 have HE:=Lib.hid (yD.out v5 w5 yQ yS ye1)
 clear yQ yS ye1
 go_wp2_with fail
 go_ret3
 exact HE.out
end
end Go.Proofs.YtgepehlpjpccaaaGreatDoor
