/- Contracts. -/
import Derived.Test.YtgepehlpjpccaaaGreatDoorNKJ
namespace Go.Proofs.YtgepehlpjpccaaaGreatDoor
open Go.RowKit
open Go.Lib
set_option maxHeartbeats 8000000
set_option maxRecDepth 100000
theorem yer {w X W:World} {E:Nat} (h:X.grownBy W (some E)) (hb:Below E w X) (hE:E≤X.heap.size):Below E w W :=
 ⟨h.os.trans hb.os,h.tape.trans hb.tape,h.output.trans hb.output,Nat.le_trans hb.size h.size,fun k hk=>(h.block k (by omega) (by intro e;injection e with e;omega)).trans (hb.block k hk)⟩
theorem yrb {W W':World} {p:Option Addr} {l:List UInt8} {E:Nat} (h:Bs W p l) (hb:Below E W W') (hne:∀ b off,p=some ⟨b,off,none⟩→0<l.length→b<E):Bs W' p l:=by
 rcases h with h0|⟨b,off,hp,hlt,hc⟩
 ·exact .inl h0
 ·refine .inr ⟨b,off,hp,Nat.lt_of_lt_of_le hlt hb.size,fun j hj=>?_⟩
  have h1:=hb.block b (hne b off hp (by omega))
  have h2:=hc j hj
  simp only [World.cell?] at h2 ⊢
  rw [h1];exact h2
theorem yiA {w W:World} {E V i:Nat} {v:Value} (h:Below E w W) (hV:E≤V):Below E w (W.setCell ⟨V,i,none⟩ v):=h.setCell (p:=⟨V,i,none⟩) hV v
structure RdI (W2:World) (E V n:Nat) (k:Int) (xs:List (List UInt8)) (i:Nat) (W:World):Prop where
 below:Below E W2 W
 rdr:Rdr W E (left k xs i)
 vals:ybz W V n i xs
theorem RdI.store {W2 W w5:World} {E V n i:Nat} {k:Int} {xs:List (List UInt8)} (h:RdI W2 E V n k xs i W) (hi:i<n) (hE:E<V) (hr:Rdr w5 E (left k xs (i+1))) (hg:W.grownBy w5 (some E)) (hE2:E≤W.heap.size):RdI W2 E V n k xs (i+1) (w5.setCell ⟨V,i,none⟩ (.string ⟨(xs.getD i []).toArray⟩)):=by
 have hv:ybz w5 V n i xs:=h.vals.keep (by
  obtain ⟨cs,h1,-⟩:=h.vals
  exact hg.block V (Array.getElem?_eq_some_iff.1 h1).1 (by intro e;injection e with e;omega))
 refine ⟨yiA (yer hg h.below hE2) (by omega),?_,hv.put hi⟩
 obtain ⟨p,c,h1,h2,h3,h4⟩:=hr
 refine ⟨p,c,(Below.heap_setCell _ _ _ _ (by show E≠V;omega)).trans h1,yrb h2 (yiA (Below.refl _ _) (by omega)) h4,h3,h4⟩
theorem RdI.skip {W2 W w5:World} {E V n i:Nat} {k:Int} {xs:List (List UInt8)} (h:RdI W2 E V n k xs i W) (hE:E<V) (he:xs.getD i []=[]) (hr:Rdr w5 E (left k xs (i+1))) (hg:W.grownBy w5 (some E)) (hE2:E≤W.heap.size):RdI W2 E V n k xs (i+1) w5:=by
 have hv:ybz w5 V n i xs:=h.vals.keep (by
  obtain ⟨cs,h1,-⟩:=h.vals
  exact hg.block V (Array.getElem?_eq_some_iff.1 h1).1 (by intro e;injection e with e;omega))
 exact ⟨yer hg h.below hE2,hr,hv.skip he⟩
theorem yj9 (k:Int) (p:Option Addr) (c n m:Nat) (xs:List (List UInt8)) (w:World) (hx:Hid (xs.length=n)) (hn:n≤4096) (hm:Hid ((yat k xs).length=m)) (hmc:m≤c) (hb:Bs w p (yat k xs)) (HZ:Hid (uA k xs=0)) (he:Env w) :
  Calls Tryz.prog 113 #[.int .i64 k,.int .i64 (n:Int),.slice p m c] w fun e w'=>Below w.heap.size w w'∧∃ q,e=.returned (.slice q n n)∧Ss w' q xs:=by
 have HB:=Lib.hid hb
 have HE:=Lib.hid he
 clear hb he
 have hk:isT k=true∧xs.all (uB k)=true:=by
  have h:=HZ.out
  unfold uA at h
  by_cases h1:isT k=false
  ·rw [if_pos h1] at h;cases h
  ·rw [if_neg h1] at h
   by_cases h2:xs.all (uB k)=false
   ·rw [if_pos h2] at h;cases h
   ·exact ⟨by simpa using h1,by simpa using h2⟩
 have HK1:Hid (1≤k∧k≤5):=Lib.hid (by
  have h:=hk.1
  unfold isT at h
  rw [Bool.and_eq_true,decide_eq_true_eq,decide_eq_true_eq] at h
  exact h)
 have HFA:Hid (∀ x ∈ xs,uB k x=true):=Lib.hid (List.all_eq_true.1 hk.2)
 obtain ⟨P,HPD⟩:∃ P,Hid ((n+7)/8=P):=⟨_,rfl⟩
 have hP:P≤512:=by have:=HPD.out;omega
 have hPi:((n:Int)+7)/8=(P:Int):=by have:=HPD.out;omega
 have hni:(n:Int)≤4096:=by omega
 have HPR:=Lib.hid (fun W=>ycF n hni W)
 rw [hPi] at HPR
 have ytO:Hid (yat k xs=stP xs P n++left k xs 0):=Lib.hid (by rw [ykF,hx.out,HPD.out])
 have HTK:Hid ((yat k xs).take P=stP xs P n∧(yat k xs).drop P=left k xs 0):=Lib.hid (by
  rw [ytO.out]
  have e:=uK xs P n
  exact ⟨List.take_left' e,List.drop_left' e⟩)
 have HPTL:Hid ((yat k xs).length≤1000000000):=Lib.hid (by
  rw [ytO.out,List.length_append,uK]
  have:=ykG HFA.out 0
  have:=hx.out
  omega)
 obtain ⟨E,HEE⟩:∃ E,Hid (E=w.heap.size):=⟨_,rfl⟩
 obtain ⟨W1,vK⟩:∃ W1,Hid (w.alloc (.cells #[.slice p m c] 168)=W1):=⟨_,rfl⟩
 have zG:Hid (Below E w W1):=Lib.hid (by rw [← vK.out];exact (Below.refl _ _).alloc (by rw [HEE.out];exact Nat.le_refl _) _)
 have HR1:Hid (Rdr W1 E (yat k xs)):=Lib.hid (by
  refine ⟨p,c,?_,?_,by rw [hm.out];exact hmc,fun b off e h0=>?_⟩
  ·rw [hm.out,← vK.out,HEE.out];exact heap_alloc_new _ _
  ·refine yrb HB.out zG.out (fun b off e h0=>?_)
   rcases HB.out with h|⟨b',off',hp,hlt,-⟩
   ·omega
   ·rw [hp] at e;cases e;rw [HEE.out];exact hlt
  ·rcases HB.out with h|⟨b',off',hp,hlt,-⟩
   ·omega
   ·rw [hp] at e;cases e;rw [HEE.out];exact hlt)
 have HTAKE:=Lib.hid (yei E P (yat k xs) W1 (by omega) HPTL.out HR1.out)
 have hee:w.heap.size=E:=HEE.out.symm
 have HENV0:Hid (∀ W,Below E w W→Env W):=Lib.hid (fun W hW=>HE.out.below (by rwa [HEE.out] at hW))
 obtain ⟨Z,hZ,hmk⟩:=yip n (by omega)
 have HZS:=Lib.hid hZ
 clear hk hZ hPi
 go_enter Tryz.func113,Tryz.ntmps113
 go_wp2_with fail
 rw [vK.out]
 refine (HPR.out _).mono ?_
 rintro e w' ⟨rfl,rfl⟩
 go_wp2_with fail
 refine (HTAKE.out).mono ?_
 rintro e W2 ⟨pp,cc,rfl,hpb,hpc,hpr,hpg,hpe⟩
 rw [HTK.out.1] at hpb hpc hpe ⊢
 rw [HTK.out.2] at hpr
 rw [uK] at hpc ⊢
 have HPB:=Lib.hid hpb
 have HPE:=Lib.hid hpe
 have HPL:Hid ((stP xs P n).length=P):=Lib.hid (uK _ _ _)
 have HE1:Hid (E<W1.heap.size):=Lib.hid (by rw [← vK.out,HEE.out];simp)
 have HBE:Hid (Below E w W2):=Lib.hid (yer hpg zG.out (Nat.le_of_lt HE1.out))
 have HE2':Hid (E<W2.heap.size):=Lib.hid (Nat.lt_of_lt_of_le HE1.out hpg.size)
 have HE2:Hid (E≤W2.heap.size):=Lib.hid (Nat.le_of_lt HE2'.out)
 have HENV:Hid (∀ W,Below E W2 W→Env W):=Lib.hid (fun W hW=>HENV0.out W (HBE.out.trans hW))
 obtain ⟨V,HVV⟩:∃ V,Hid (W2.heap.size=V):=⟨_,rfl⟩
 have HEV:Hid (E<V):=Lib.hid (by rw [← HVV.out];exact HE2'.out)
 obtain ⟨W3,HW3⟩:∃ W3,Hid (W2.alloc (.cells Z 9)=W3):=⟨_,rfl⟩
 have HI0:Hid (RdI W2 E V n k xs 0 W3):=Lib.hid (by
  have hb3:Below W2.heap.size W2 W3:=by rw [← HW3.out];exact (Below.refl _ _).alloc (Nat.le_refl _) _
  refine ⟨hb3.mono HE2.out,yb9 hpr hb3,Z,?_,HZS.out.1,fun j hj=>?_⟩
  ·rw [← HW3.out,← HVV.out];exact heap_alloc_new _ _
  ·rw [if_neg (by omega)];exact HZS.out.2 j hj)
 clear hpb hpc hpr hpg hpe
 go_wp2_with fail
 rw [HW3.out,HVV.out]
 clear hmk hee
 go_loopw [22] (fun iv wr=>∃ i:Nat,i≤n∧iv=.int .i64 i∧Hid (RdI W2 E V n k xs i wr)) (fun iv _=>n-(intOf iv).toNat)
 case atStart=>exact ⟨0,Nat.zero_le _,rfl,HI0⟩
 case round =>
  obtain ⟨i,hi9,rfl,HK⟩:=hrel
  have ii:(i:Int)≤(n:Int):=by omega
  by_cases hlt:i<n
  ·have ilt:(i:Int)<(n:Int):=by omega
   have hil:i<xs.length:=by rw [hx.out];exact hlt
   have HF:Hid (uB k (xs.getD i [])=true):=Lib.hid (HFA.out _ (by rw [List.getD_eq_getElem?_getD,List.getElem?_eq_getElem hil];exact List.getElem_mem _))
   obtain ⟨x,HXX⟩:∃ x,Hid (xs.getD i []=x):=⟨_,rfl⟩
   rw [HXX.out] at HF
   obtain ⟨j,HJ⟩:∃ j,Hid (i/8=j):=⟨_,rfl⟩
   obtain ⟨r,HR⟩:∃ r,Hid (i%8=r):=⟨_,rfl⟩
   have hjP:j<P:=by have:=HJ.out;have:=HPD.out;omega
   have hr8:r<8:=by have:=HR.out;omega
   obtain ⟨b1,o1,d,e1,hb1,hc1,hd,hd255⟩:=(yrb HPB.out HK.out.below HPE.out).at (k:=j) (by rw [HPL.out];exact hjP)
   subst e1
   obtain ⟨bt,HBT⟩:∃ bt,Hid (decide (x≠[])=bt):=⟨_,rfl⟩
   have yiQ:bits .and .u8 ((d:Int)/2^r) 1=(if bt then 1 else 0):=by
    have h:=yul ((stP xs P n).getD j 0) r
    have h2:=yoJ xs P n (by have:=HPD.out;omega) i (by have:=HPD.out;omega)
    rw [HJ.out,HR.out,HXX.out] at h2
    rw [hd.out] at h h2
    rw [h,h2,← HBT.out]
    by_cases hxe:x=[]
    ·rw [decide_eq_false (fun h=>h.2 hxe),decide_eq_false (fun h=>h hxe)]
    ·rw [decide_eq_true ⟨hlt,hxe⟩,decide_eq_true hxe]
   have hdi:(i:Int)/8=(j:Int):=by have:=HJ.out;omega
   have hmi:(i:Int)%8=(r:Int):=by have:=HR.out;omega
   have ijP:(j:Int)<(P:Int):=by omega
   have ij5:(j:Int)≤512:=by omega
   have HES:Hid (E≤wr.heap.size):=Lib.hid (Nat.le_trans HE2.out HK.out.below.size)
   have HLL:Hid (left k xs i=uL k x++left k xs (i+1)):=Lib.hid (by rw [yum hil,HXX.out])
   have HTB:Hid (∀ W,wr.grownBy W (some E)→Tab W):=Lib.hid (fun W hW=>(HENV.out W (yer hW HK.out.below HES.out)).tab)
   have HLN:Hid ((left k xs i).length≤1000000000):=Lib.hid (by have:=ykG HFA.out i;have:=hx.out;omega)
   clear hb1 hd hil
   by_cases h5:k=5
   ·have g5:(k != 5)=false:=by rw [h5];rfl
    have H5:=Lib.hid h5
    clear h5
    cases bt with
    | true =>
     have hxe:x≠[]:=by have:=HBT.out;simpa using this
     have HTX:=Lib.hid (yuj E (left k xs i) wr HLN.out HK.out.rdr)
     have ydN:=ypz (x:=x) (R:=left k xs (i+1)) hxe (yd9 HF.out)
     rw [← H5.out,← HLL.out] at ydN
     rw [ydN.1,ydN.2] at HTX
     rw [if_pos rfl] at yiQ
     clear ydN hxe
     go_wp2_with fail
     refine (HTX.out).mono ?_
     rintro e w5 ⟨rfl,hr5,hg5⟩
     have HST:Hid (RdI W2 E V n k xs (i+1) (w5.setCell ⟨V,i,none⟩ (.string ⟨x.toArray⟩))):=Lib.hid (by
      have:=HK.out.store hlt HEV.out hr5 hg5 HES.out
      rwa [HXX.out] at this)
     have hv5:ybz w5 V n i xs:=HK.out.vals.keep (by
      obtain ⟨cs,h1,-⟩:=HK.out.vals
      exact hg5.block V (Array.getElem?_eq_some_iff.1 h1).1 (by intro e;injection e with e;have:=HEV.out;omega))
     obtain ⟨gc,gf⟩:=hv5.old hlt
     obtain ⟨W6,HW6⟩:∃ W6,Hid (w5.setCell ⟨V,i,none⟩ (.string ⟨x.toArray⟩)=W6):=⟨_,rfl⟩
     rw [HW6.out] at HST
     clear hv5 hr5 hg5
     go_wp2_with fail
     rw [HW6.out]
     go_roundw
     case rel=>exact ⟨i+1,by omega,by go_num,HST⟩
     case measure=>simp [intOf];omega
    | false =>
     have hxe:x=[]:=by have:=HBT.out;simpa using this
     rw [if_neg (by simp)] at yiQ
     have HK2:Hid (RdI W2 E V n k xs (i+1) wr):=Lib.hid (HK.out.skip HEV.out (by rw [HXX.out];exact hxe) (by
      have h:=HK.out.rdr
      have e0:uL k x=[]:=by unfold uL;rw [if_pos H5.out,if_pos hxe]
      rw [HLL.out,e0] at h
      exact h) ⟨rfl,rfl,rfl,Nat.le_refl _,fun _ _ _=>rfl⟩ HES.out)
     clear hxe
     go_wp2_with fail
     go_roundw
     case rel=>exact ⟨i+1,by omega,by go_num,HK2⟩
     case measure=>simp [intOf];omega
   ·have g5:(k != 5)=true:=by rw [bne_iff_ne];exact h5
    have H5:=Lib.hid h5
    clear h5
    have hkk:1≤k∧k≤4:=by have:=HK1.out;have:=H5.out;omega
    have hw:vA k=1∨vA k=2∨vA k=4∨vA k=8:=by
     have h:k=1∨k=2∨k=3∨k=4:=by omega
     rcases h with h|h|h|h
     ·rw [h];exact .inl rfl
     ·rw [h];exact .inr (.inl rfl)
     ·rw [h];exact .inr (.inr (.inl rfl))
     ·rw [h];exact .inr (.inr (.inr rfl))
    have HIN:=Lib.hid (ynl E (vA k) (left k xs i) wr hw HLN.out HK.out.rdr HTB.out)
    have ynd:=ysh (x:=x) (R:=left k xs (i+1)) H5.out
    rw [← HLL.out] at ynd
    rw [ynd.1,ynd.2] at HIN
    clear hw ynd
    cases bt with
    | true =>
     have hxe:x≠[]:=by have:=HBT.out;simpa using this
     rw [ysg HF.out hkk.1 hkk.2 hxe] at HIN
     rw [if_pos rfl] at yiQ
     clear hxe hkk
     go_wp2_with fail
     refine (yb8 k _).mono ?_
     rintro e w' ⟨rfl,rfl⟩
     go_wp2_with fail
     refine (HIN.out).mono ?_
     rintro e w5 ⟨rfl,hr5,hg5⟩
     have HST:Hid (RdI W2 E V n k xs (i+1) (w5.setCell ⟨V,i,none⟩ (.string ⟨x.toArray⟩))):=Lib.hid (by
      have:=HK.out.store hlt HEV.out hr5 hg5 HES.out
      rwa [HXX.out] at this)
     have hv5:ybz w5 V n i xs:=HK.out.vals.keep (by
      obtain ⟨cs,h1,-⟩:=HK.out.vals
      exact hg5.block V (Array.getElem?_eq_some_iff.1 h1).1 (by intro e;injection e with e;have:=HEV.out;omega))
     obtain ⟨gc,gf⟩:=hv5.old hlt
     obtain ⟨W6,HW6⟩:∃ W6,Hid (w5.setCell ⟨V,i,none⟩ (.string ⟨x.toArray⟩)=W6):=⟨_,rfl⟩
     rw [HW6.out] at HST
     clear hv5 hr5 hg5
     go_wp2_with fail
     rw [HW6.out]
     go_roundw
     case rel=>exact ⟨i+1,by omega,by go_num,HST⟩
     case measure=>simp [intOf];omega
    | false =>
     have hxe:x=[]:=by have:=HBT.out;simpa using this
     rw [if_neg (by simp)] at yiQ
     obtain ⟨T,HT⟩:∃ T,Hid (Lib.itoa (sgI (vA k) (nb (be (vA k) (vT x))))=T):=⟨_,rfl⟩
     rw [HT.out] at HIN
     have HXE:=Lib.hid hxe
     clear hxe hkk
     go_wp2_with fail
     refine (yb8 k _).mono ?_
     rintro e w' ⟨rfl,rfl⟩
     go_wp2_with fail
     refine (HIN.out).mono ?_
     rintro e w5 ⟨rfl,hr5,hg5⟩
     have HK2:Hid (RdI W2 E V n k xs (i+1) w5):=Lib.hid (HK.out.skip HEV.out (by rw [HXX.out];exact HXE.out) hr5 hg5 HES.out)
     clear hr5 hg5
     go_wp2_with fail
     go_roundw
     case rel=>exact ⟨i+1,by omega,by go_num,HK2⟩
     case measure=>simp [intOf];omega
  ·obtain rfl:i=n:=by omega
   have ilt:¬ (i:Int)<(i:Int):=by omega
   have uW:Hid (Below w.heap.size w wr∧∃ q,(.returned (.slice (some ⟨V,0,none⟩) i i):Ending)=.returned (.slice q i i)∧Ss wr q xs):=Lib.hid ⟨by
    have h:=HBE.out.trans HK.out.below
    rwa [HEE.out] at h,_,rfl,HK.out.vals.reads hx.out⟩
   go_wp2_with fail
   go_ret
   exact uW.out
set_option maxHeartbeats 2000000
theorem yvm (k:Int) (p:Option Addr) (c n m:Nat) (xs:List (List UInt8)) (w:World) (hx:Hid (xs.length=n)) (hn:n≤4096) (hm:Hid ((yat k xs).length=m)) (hmc:m≤c) (hb:Bs w p (yat k xs)) (HZ:Hid (uA k xs=0)) (he:Env w) :
  Calls Tryz.prog 62 #[.int .i64 k,.int .i64 (n:Int),.slice p m c] w fun e w'=>∃ q,e=.returned (.tuple #[.slice q n n,.int .i64 0])∧Ss w' q xs∧Below w.heap.size w w':=by
 have HB:=Lib.hid hb
 have HE:=Lib.hid he
 have HRV:=Lib.hid (yj9 k p c n m xs w hx hn hm hmc hb HZ he)
 clear hb he
 have hkT:isT k=true:=by
  have h:=HZ.out
  unfold uA at h
  by_cases h1:isT k=false
  ·rw [if_pos h1] at h;cases h
  ·simpa using h1
 have HT:=Lib.hid (fun W=>ydW k W)
 rw [hkT] at HT
 have hni:(n:Int)≤4096:=by omega
 obtain ⟨P,HPD⟩:∃ P,Hid ((n+7)/8=P):=⟨_,rfl⟩
 have hPi:((n:Int)+7)/8=(P:Int):=by have:=HPD.out;omega
 have HPR:=Lib.hid (fun W=>ycF n hni W)
 rw [hPi] at HPR
 have hPm:P≤m:=by
  rw [← hm.out,ykF,List.length_append,uK,hx.out,HPD.out];omega
 have hlt:¬ (m:Int)<(P:Int):=by omega
 clear hkT hPi hPm
 go_enter Tryz.func62,Tryz.ntmps62
 go_wp2_with fail
 refine (HT.out _).mono ?_
 rintro e w' ⟨rfl,rfl⟩
 go_wp2_with fail
 refine (yda n hni _).mono ?_
 rintro e w' ⟨rfl,rfl⟩
 go_wp2_with fail
 refine (HPR.out _).mono ?_
 rintro e w' ⟨rfl,rfl⟩
 go_wp2_with fail
 refine (HRV.out).mono ?_
 rintro e w1 ⟨hb1,q,rfl,hq⟩
 have zG:=Lib.hid hb1
 have HQ:=Lib.hid hq
 have ytO:=Lib.hid (ygu k q n n xs w1 hx hn hq (HE.out.below hb1) HZ)
 clear hb1 hq
 go_wp2_with fail
 refine (ytO.out).mono ?_
 rintro e w2 ⟨v2,rfl,hpg⟩
 obtain ⟨p2,c2,rfl,hbs,-⟩:=zE hpg.own
 have HB12:=Lib.hid hpg.below
 have HEQ:=Lib.hid (ycN p2 p c2 c m (yat k xs) w2 hm hbs ((HB.out.below zG.out).below hpg.below))
 rw [hm.out]
 clear hpg hbs
 go_wp2_with fail
 refine (HEQ.out).mono ?_
 rintro e w' ⟨rfl,rfl⟩
 have uW:Hid (Ss w2 q xs∧Below w.heap.size w w2):=Lib.hid ⟨HQ.out.below HB12.out,zG.out.trans (HB12.out.mono zG.out.size)⟩
 go_wp2_with fail
 go_ret2
 exact ⟨q,rfl,uW.out.1,uW.out.2⟩
set_option maxHeartbeats 4000000
theorem ymm (k:Int) (p:Option Addr) (c n m b0 off mm m0 cv:Nat) (ss:List Sg) (ys:List (List UInt8)) (L P:List UInt8) (w:World) (he:Env w) (hx:Hid (ss.length=n)) (hs:RdG w p ss) (hp:Hid (vG k ss=true)) (hy:Hid (ys.length=m)) (hm:m≤100) (HCV:Hid (uA k ys=0)) (HPE:Hid (yat k ys=P)) (HLE:Hid (yag ss n P=L)) (hm0:Hid (L.length=m0)) (hmm:mm=m0+4) (hcv:mm≤cv) (hb:Bs w (some ⟨b0,off,none⟩) (vS L)) :
  Calls Tryz.prog 25 #[.int .i64 k,.slice p n c,.int .i64 (m:Int),.slice (some ⟨b0,off,none⟩) mm cv] w fun e w'=>∃ q,e=.returned (.tuple #[.slice q m m,.int .i64 0])∧Ss w' q ys∧Below w.heap.size w w':=by
 have HV:=Lib.hid (yaa k p c n ss w he.tab hx hs)
 rw [hp.out] at HV
 have HE:=Lib.hid he
 have HB:=Lib.hid hb
 have HS:=Lib.hid hs
 have hmi:(m:Int)≤4096:=by omega
 have hn4:ss.length≤4:=(vM hp.out).2.1
 have hni:(n:Int)≤4:=by have:=hx.out;omega
 have HPL:Hid (P.length≤8313):=Lib.hid (by rw [← HPE.out];exact yeq HCV.out (by rw [hy.out];exact hm))
 have HTL:Hid (∀ j,j≤n→(yag ss j P).length≤8800):=Lib.hid (fun j hj=>by
  have h1:=ybs (l:=P) (ycf hp.out) (by have:=HPL.out;omega) hn4 j (by rw [hx.out];exact hj)
  have:=HPL.out;have:=hx.out;omega)
 have hm0i:m0≤8800:=by have h1:=HTL.out n (Nat.le_refl _);rw [HLE.out,hm0.out] at h1;exact h1
 have etk:(vS L).take m0=L:=by unfold vS;rw [← hm0.out,List.take_left]
 have edr:(vS L).drop m0=sumB (Crc.crc L):=by unfold vS;rw [← hm0.out,List.drop_left]
 obtain ⟨X,HX⟩:∃ X,Hid (Crc.crc L=X):=⟨_,rfl⟩
 have HBL:Hid (∀ W,Below w.heap.size w W→Bs W (some ⟨b0,off,none⟩) L):=Lib.hid (fun W hW=>by
  have h:=yoF (HB.out.below hW) m0
  rwa [etk] at h)
 have HSM:Hid (∀ W,Below w.heap.size w W→Calls Tryz.prog 55 #[.slice (some ⟨b0,off,none⟩) m0 cv] W fun e w'=>e=.returned (.agg #[.int .u8 ((X%256:Nat):Int),.int .u8 ((X/256%256:Nat):Int),.int .u8 ((X/65536%256:Nat):Int),.int .u8 ((X/16777216%256:Nat):Int)])∧Below W.heap.size W w'):=Lib.hid (fun W hW=>by
  have h:=ycG (some ⟨b0,off,none⟩) cv L W (by rw [hm0.out];omega) (HBL.out W hW)
  unfold ym2 at h
  rwa [HX.out,hm0.out] at h)
 have HEQ:Hid (∀ W G,Below w.heap.size w W→Bs W (some ⟨G,0,none⟩) (sumB X)→Calls Tryz.prog 60 #[.slice (some ⟨G,0,none⟩) 4 4,.slice (some ⟨b0,off+m0,none⟩) 4 (cv-m0)] W fun e w'=>e=.returned (.bool true)∧W=w'):=Lib.hid (fun W G hW hG=>by
  have h1:(sumB X).length=4:=rfl
  have h2:=yaA (HB.out.below hW) m0 (by unfold vS;rw [List.length_append,hm0.out];omega) rfl
  rw [edr,HX.out] at h2
  exact ycN _ _ _ _ 4 (sumB X) W (Lib.hid h1) hG h2)
 obtain ⟨c0,HC0⟩:∃ c0,Hid (X%256=c0):=⟨_,rfl⟩
 obtain ⟨c1,HC1⟩:∃ c1,Hid (X/256%256=c1):=⟨_,rfl⟩
 obtain ⟨c2,HC2⟩:∃ c2,Hid (X/65536%256=c2):=⟨_,rfl⟩
 obtain ⟨c4,HC4⟩:∃ c4,Hid (X/16777216%256=c4):=⟨_,rfl⟩
 rw [HC0.out,HC1.out,HC2.out,HC4.out] at HSM
 have h4:(mm:Int)-4=(m0:Int):=by omega
 have g0:¬ (m0:Int)<0:=by omega
 have g1:(m0:Int)≤(mm:Int):=by omega
 have g2:(mm:Int)≤(cv:Int):=by omega
 have g3:(mm:Int)≤100000:=by omega
 have g4:(m0:Int)≤(cv:Int):=by omega
 have g5:mm-m0=4:=by omega
 have g6:¬ cv=m0:=by omega
 have hmc:Hid (m0≤cv):=Lib.hid (by omega)
 have HIS:=Lib.hid (fun W=>yda m hmi W)
 clear hs he hb hmm hcv etk edr
 go_enter Tryz.func25,Tryz.ntmps25
 go_wp2_with fail
 refine (HV.out).mono ?_
 rintro e w1 ⟨rfl,hb1⟩
 have zG:=Lib.hid hb1
 clear hb1
 go_wp2_with fail
 refine (HIS.out _).mono ?_
 rintro e w' ⟨rfl,rfl⟩
 go_wp2_with fail
 refine (HSM.out _ zG.out).mono ?_
 rintro e w6 ⟨rfl,hb6⟩
 have HB6:=Lib.hid (zG.out.trans (hb6.mono zG.out.size))
 clear hb6
 obtain ⟨W7,HW7⟩:∃ W7,Hid (w6.alloc (.cells #[.int .u8 (c0:Int),.int .u8 (c1:Int),.int .u8 (c2:Int),.int .u8 (c4:Int)] 79)=W7):=⟨_,Lib.hid rfl⟩
 obtain ⟨G,HG⟩:∃ G,Hid (w6.heap.size=G):=⟨_,rfl⟩
 have HSB:Hid (Bs W7 (some ⟨G,0,none⟩) (sumB X)):=Lib.hid (by
  refine ymz (t:=79) ?_
  rw [HC0.out,HC1.out,HC2.out,HC4.out,← HW7.out,← HG.out]
  exact World.alloc_heap_new w6 _)
 have HB7:Hid (Below w.heap.size w W7):=Lib.hid (HB6.out.trans (by rw [← HW7.out];exact ((Below.refl _ _).alloc (Nat.le_refl _) _).mono HB6.out.size))
 have HBG:Hid (∀ W,Below W7.heap.size W7 W→Below w.heap.size w W∧Bs W (some ⟨G,0,none⟩) (sumB X)):=Lib.hid (fun W hW=>⟨HB7.out.trans (hW.mono HB7.out.size),HSB.out.below hW⟩)
 have HCC:Hid (∀ j,Calls Tryz.prog 60 #[.slice (some ⟨G,0,none⟩) 4 4,.slice (some ⟨b0,off+m0,none⟩) 4 (cv-m0)] (W7.drewN j) fun e w'=>e=.returned (.bool true)∧w'=W7.drewN j):=Lib.hid (fun j=>(HEQ.out (W7.drewN j) G (HBG.out _ (yG _ _ j)).1 (HBG.out _ (yG _ _ j)).2).mono (fun _ _ h=>⟨h.1,h.2.symm⟩))
 go_wp2_with fail
 rw [HW7.out,HG.out]
 go_quiet ((go_at_call 60;exact Calls.quiet_of_same (HCC.out _)))
 go_wp2_with fail
 go_loopw [12,13,14] (fun bv ev iv wr=>∃ (j:Nat) (pc:Option Addr) (lc cc:Nat),j≤n∧bv=.slice pc lc cc∧ev=.int .i64 0∧iv=.int .i64 ((j:Int)-1)∧Hid (lc=(yag ss j P).length)∧Hid (lc≤cc)∧Hid (pc=none→cc=0)∧Hid (Bs wr pc (yag ss j P))∧Hid (Below w.heap.size w wr)) (fun _ _ iv _=>(intOf iv+1).toNat)
 case atStart=>exact ⟨n,_,_,_,Nat.le_refl _,rfl,rfl,rfl,Lib.hid (by rw [HLE.out,hm0.out]),hmc,Lib.hid (by intro h;cases h),Lib.hid (by rw [HLE.out];exact HBL.out _ (HB7.out.trans (yG _ _ _))),Lib.hid (HB7.out.trans (yG _ _ _))⟩
 case round =>
  obtain ⟨j,pc,lc,cc,hj,rfl,rfl,rfl,HLC,HCC2,HNC,HO,HBR⟩:=hrel
  cases j with
  | succ i =>
   have hil:i<ss.length:=by rw [hx.out];omega
   have e9:((i+1:Nat):Int)-1=(i:Int):=by omega
   have ilt:(i:Int)<(n:Int):=by omega
   have i0:(i:Int) ≥ 0:=by omega
   obtain ⟨b2,o2,x,y,s,e2,hb2,hd1,hd2,hd3,hx2⟩:=(HS.out.below HBR.out).at (k:=i) hil
   obtain ⟨Q,HQ⟩:∃ Q,Hid (yag ss i P=Q):=⟨_,rfl⟩
   have HTH:Hid (Calls Tryz.prog 61 #[.agg #[.int .i64 x,.int .i64 y,.string ⟨s.toArray⟩],.slice pc lc cc] wr (ybO Q Q.length wr)):=Lib.hid (by
    have e1:=ydo (l:=P) hil
    rw [hx2.out,HQ.out] at e1
    have hq:Q.length≤10000:=by have:=HTL.out i (by omega);rw [HQ.out] at this;omega
    exact ytq (x,y,s) pc lc cc Q wr (by have:=ycf hp.out i hil;rwa [hx2.out] at this) hq (Lib.hid (by rw [HLC.out,e1])) HCC2.out HNC.out (by have:=HO.out;rwa [e1] at this))
   rw [e9]
   first|(cases e2)|(rw [e2])
   obtain ⟨SZ,HSZ⟩:∃ SZ:ByteArray,Hid (⟨s.toArray⟩=SZ):=⟨_,rfl⟩
   rw [HSZ.out] at hd3 HTH
   have HQL:Hid (Q.length=(yag ss i P).length):=Lib.hid (by rw [HQ.out])
   obtain ⟨ql,HQQ⟩:∃ ql,Hid (Q.length=ql):=⟨_,rfl⟩
   rw [HQQ.out] at HTH
   clear hb2 hil
   go_wp2_with fail
   refine (HTH.out).mono ?_
   rintro e w5 ⟨hb5,q5,d5,rfl,h51,h52,h53⟩
   have HB5:=Lib.hid (HBR.out.trans (hb5.mono HBR.out.size))
   have HO5:Hid (Bs w5 q5 (yag ss i P)):=Lib.hid (by rw [HQ.out];exact h53)
   have HL5:Hid (ql=(yag ss i P).length):=Lib.hid (by rw [← HQQ.out,HQL.out])
   clear hb5 h53 hd1 hd2 hd3
   go_wp2_with fail
   go_roundw
   case rel=>exact ⟨i,q5,_,d5,by omega,rfl,rfl,by go_num,HL5,h51,h52,HO5,HB5⟩
   case measure=>simp [intOf]
  | zero =>
   have e9:((0:Nat):Int)-1=(-1:Int):=rfl
   rw [e9]
   have HGP:Hid (Calls Tryz.prog 62 #[.int .i64 k,.int .i64 (m:Int),.slice pc lc cc] wr fun e w'=>∃ q,e=.returned (.tuple #[.slice q m m,.int .i64 0])∧Ss w' q ys∧Below wr.heap.size wr w'):=Lib.hid (by
    have h1:yag ss 0 P=yat k ys:=by rw [yix,HPE.out]
    have h2:=HO.out
    rw [h1] at h2
    exact yvm k pc cc m lc ys wr hy (by omega) (Lib.hid (by rw [HLC.out,h1])) HCC2.out h2 HCV (HE.out.below HBR.out))
   go_wp2_with fail
   refine (HGP.out).mono ?_
   rintro e w5 ⟨q5,rfl,hs5,hb5⟩
   have HS5:=Lib.hid hs5
   have HB5:=Lib.hid (HBR.out.trans (hb5.mono HBR.out.size))
   clear hs5 hb5
   go_wp2_with fail
   go_ret2
   exact ⟨q5,rfl,HS5.out,HB5.out⟩
theorem yqk:yfH 1 [(1,0,[53])]=([53,47,50],0):=by kernel_rfl
theorem yoy (w:World) (ht:Tab w):Calls Tryz.prog 28 #[] w fun e w'=>e=.returned (.bool true)∧Below w.heap.size w w':=by
 obtain ⟨W1,vK⟩:∃ W1,Hid (w.alloc (.cells #[.int .i64 1,.int .i64 0,.string ⟨#[53]⟩] 45)=W1):=⟨_,Lib.hid rfl⟩
 have zG:Hid (Below w.heap.size w W1):=Lib.hid (by rw [← vK.out];exact (Below.refl _ _).alloc (Nat.le_refl _) _)
 have HL:Hid (Calls Tryz.prog 11 #[.int .i64 1,.slice (some ⟨w.heap.size,0,none⟩) 1 1] W1 (ygx ([53,47,50],0) W1)):=Lib.hid (by
  have hb:W1.heap[w.heap.size]?=some (.cells #[.int .i64 1,.int .i64 0,.string ⟨#[53]⟩] 45 (0,0)):=by rw [← vK.out];exact World.alloc_heap_new w _
  have h:=yk9 1 (some ⟨w.heap.size,0,none⟩) 1 1 [(1,0,[53])] W1 (ht.below zG.out) (Lib.hid rfl) (.inr ⟨_,_,rfl,(Array.getElem?_eq_some_iff.1 hb).1,fun j hj=>by
   obtain rfl:j=0:=by simp at hj;omega
   refine ⟨?_,?_,?_⟩<;>simp [World.cell?,hb]⟩)
  rwa [yqk] at h)
 clear ht
 go_enter Tryz.func28,Tryz.ntmps28
 go_wp2_with fail
 rw [vK.out]
 refine (HL.out).mono ?_
 rintro e w2 ⟨rfl,hb2⟩
 have uV:Hid (Below w.heap.size w w2):=Lib.hid (zG.out.trans (hb2.mono zG.out.size))
 have hs:((⟨#[53,47,50]⟩:ByteArray)==(⟨#[53,47,50]⟩:ByteArray))=true:=by decide
 clear hb2
 go_wp2_with fail
 go_ret
 exact ⟨by first|rfl|simp,uV.out⟩
def RdP (w:World) (p:Option Addr) (ps:List (List Sg)):Prop:=ps.length=0∨∃ b off,p=some ⟨b,off,none⟩∧b<w.heap.size∧∀ j,j<ps.length→∃ q c,w.cell? ⟨b,off+j,none⟩=some (.slice q (ps.getD j []).length c)∧(ps.getD j []).length≤c∧RdG w q (ps.getD j [])
theorem RdP.below {w w':World} {p:Option Addr} {ps:List (List Sg)} (h:RdP w p ps) (hb:Below w.heap.size w w'):RdP w' p ps:=h.imp id fun ⟨b,off,h1,h2,h3⟩ =>
 ⟨b,off,h1,Nat.lt_of_lt_of_le h2 hb.size,fun j hj=>by
  obtain ⟨q,c,h4,hc,h5⟩:=h3 j hj
  exact ⟨q,c,(hb.cell (p:=⟨b,off+j,none⟩) h2).trans h4,hc,h5.below hb⟩⟩
theorem RdP.at {w:World} {p:Option Addr} {ps:List (List Sg)} (h:RdP w p ps) {k:Nat} (hk:k<ps.length):∃ b off q c ss,p=some ⟨b,off,none⟩∧b<w.heap.size∧w.cell? ⟨b,off+k,none⟩=some (.slice q ss.length c)∧ss.length≤c∧RdG w q ss∧Hid (ps.getD k []=ss):=by
 rcases h with h0|⟨b,off,h1,h2,h3⟩
 ·omega
 ·obtain ⟨q,c,h4,hc,h5⟩:=h3 k hk
  exact ⟨b,off,q,c,_,h1,h2,h4,hc,h5,Lib.hid rfl⟩
theorem yoz (k:Int) (p q:Option Addr) (c d n m:Nat) (ps:List (List Sg)) (xs:List (List UInt8)) (w:World) (hx:Hid (ps.length=n)) (hs:RdP w p ps) (hy:Hid (xs.length=m)) (hq:Ss w q xs) :
  Calls Tryz.prog 27 #[.agg #[.int .i64 k,.slice p n c,.slice q m d]] w fun e w'=>Below w.heap.size w w'∧(e=.returned (.bool true)∨e=.returned (.bool false)∧n≤4∧m≤30):=by
 have HS:=Lib.hid hs
 have HQ:=Lib.hid hq
 obtain ⟨W0,HW0⟩:∃ W0,Hid (w.alloc (.cells #[.int .i64 k,.slice p n c,.slice q m d] 54)=W0):=⟨_,Lib.hid rfl⟩
 have HB0:Hid (Below w.heap.size w W0):=Lib.hid (by rw [← HW0.out];exact (Below.refl _ _).alloc (Nat.le_refl _) _)
 obtain ⟨B,HBX⟩:∃ B,Hid (w.heap.size=B):=⟨_,rfl⟩
 have HBB:Hid (Below B w W0):=Lib.hid (by rw [← HBX.out];exact HB0.out)
 have uZ:Hid (W0.heap[B]?=some (.cells #[.int .i64 k,.slice p n c,.slice q m d] 54 (0,0))):=Lib.hid (by rw [← HW0.out,← HBX.out];exact World.alloc_heap_new w _)
 have ynb:Hid (∀ W:World,W.heap[B]?=W0.heap[B]?→W.cell? ⟨B,0,none⟩=some (.int .i64 k)∧W.cell? ⟨B,1,none⟩=some (.slice p n c)∧W.cell? ⟨B,2,none⟩=some (.slice q m d)):=Lib.hid (fun W hW=>by
  have h:=hW.trans uZ.out
  exact ⟨by simp [World.cell?,h],by simp [World.cell?,h],by simp [World.cell?,h]⟩)
 obtain ⟨hc0,hc1,hc2⟩:=ynb.out W0 rfl
 clear hs hq
 by_cases h4:4<n
 ·have h1:(4:Int)<(n:Int):=by omega
  go_enter Tryz.func27,Tryz.ntmps27
  go_wp2_with fail
  rw [HW0.out,HBX.out]
  go_wp2_with fail
  go_ret
  exact ⟨by first|exact HB0.out|exact HBB.out,.inl rfl⟩
 have h4i:¬ (4:Int)<(n:Int):=by omega
 have h4j:(n:Int)≤4:=by omega
 by_cases h30:30<m
 ·have h1:(30:Int)<(m:Int):=by omega
  go_enter Tryz.func27,Tryz.ntmps27
  go_wp2_with fail
  rw [HW0.out,HBX.out]
  go_wp2_with fail
  go_ret
  exact ⟨by first|exact HB0.out|exact HBB.out,.inl rfl⟩
 have h30i:¬ (30:Int)<(m:Int):=by omega
 have h30j:(m:Int)≤30:=by omega
 have uW:Hid (n≤4∧m≤30):=Lib.hid ⟨by omega,by omega⟩
 go_enter Tryz.func27,Tryz.ntmps27
 go_wp2_with fail
 rw [HW0.out,HBX.out]
 go_wp2_with fail
 go_loopw [3] (fun iv wr=>∃ i:Nat,i≤m∧iv=.int .i64 i∧W0=wr) (fun iv _=>m-(intOf iv).toNat)
 case atStart=>exact ⟨0,Nat.zero_le _,rfl,rfl⟩
 case round =>
  obtain ⟨i,hi,rfl,rfl⟩:=hrel
  have ii:(i:Int)≤(m:Int):=by omega
  by_cases hlt:i<m
  ·have ilt:(i:Int)<(m:Int):=by omega
   obtain ⟨b1,o1,x,e1,-,hc3,hx1⟩:=(HQ.out.below HB0.out).at (k:=i) (by rw [hy.out];exact hlt)
   subst e1
   obtain ⟨mx,HM⟩:∃ m,Hid (x.length=m):=⟨_,rfl⟩
   have hsz:(⟨x.toArray⟩:ByteArray).size=mx:=by rw [← ByteArray.size_data];simpa using HM.out
   obtain ⟨X,HX⟩:∃ X:ByteArray,Hid (⟨x.toArray⟩=X):=⟨_,rfl⟩
   rw [HX.out] at hc3 hsz
   by_cases h2:200<mx
   ·have h3:(200:Int)<(mx:Int):=by omega
    go_wp2_with fail
    go_ret
    exact ⟨by first|exact HB0.out|exact HBB.out,.inl rfl⟩
   ·have h3:¬ (200:Int)<(mx:Int):=by omega
    go_wp2_with fail
    go_roundw
    case rel=>exact ⟨i+1,by omega,by go_num,by first|rfl|trivial⟩
    case measure=>simp [intOf];omega
  ·obtain rfl:i=m:=by omega
   have ilt:¬ (i:Int)<(i:Int):=by omega
   go_wp2_with fail
   go_loopw [4] (fun iv wr=>∃ j:Nat,j≤n∧iv=.int .i64 j∧W0=wr) (fun iv _=>n-(intOf iv).toNat)
   case atStart=>exact ⟨0,Nat.zero_le _,rfl,rfl⟩
   case round =>
    obtain ⟨j,hj,rfl,rfl⟩:=hrel
    have jj:(j:Int)≤(n:Int):=by omega
    by_cases hjl:j<n
    ·have jlt:(j:Int)<(n:Int):=by omega
     obtain ⟨b2,o2,q2,c2,ss,e2,-,hc4,-,hrg,hss⟩:=(HS.out.below HB0.out).at (k:=j) (by rw [hx.out];exact hjl)
     subst e2
     obtain ⟨ns,HNS⟩:∃ ns,Hid (ss.length=ns):=⟨_,rfl⟩
     rw [HNS.out] at hc4
     have HRG:=Lib.hid hrg
     clear hrg
     by_cases h6:6<ns
     ·have h7:(6:Int)<(ns:Int):=by omega
      have h8:(0:Int)<(ns:Int):=by omega
      have hnl:(ns:Int)≤9223372036854775807→True:=fun _=>trivial
      go_wp2_with fail
      go_loopw [5] (fun iv wr=>iv=.int .i64 0∧W0=wr) (fun iv _=>0)
      case atStart=>exact ⟨rfl,rfl⟩
      case round =>
       obtain ⟨rfl,rfl⟩:=hrel
       go_wp2_with fail
       go_ret
       exact ⟨by first|exact HB0.out|exact HBB.out,.inl rfl⟩
     ·have h7:¬ (6:Int)<(ns:Int):=by omega
      have h9:(ns:Int)≤6:=by omega
      go_wp2_with fail
      go_loopw [5] (fun iv wr=>∃ l:Nat,l≤ns∧iv=.int .i64 l∧W0=wr) (fun iv _=>ns-(intOf iv).toNat)
      case atStart=>exact ⟨0,Nat.zero_le _,rfl,rfl⟩
      case round =>
       obtain ⟨l,hl,rfl,rfl⟩:=hrel
       have ll:(l:Int)≤(ns:Int):=by omega
       by_cases hll:l<ns
       ·have llt:(l:Int)<(ns:Int):=by omega
        obtain ⟨b3,o3,x,y,z,e3,-,hd1,hd2,hd3,hx3⟩:=HRG.out.at (k:=l) (by rw [HNS.out];exact hll)
        first|(cases e3)|(rw [e3] at hc4)
        obtain ⟨mz,HMZ⟩:∃ m,Hid (z.length=m):=⟨_,rfl⟩
        have hsz:(⟨z.toArray⟩:ByteArray).size=mz:=by rw [← ByteArray.size_data];simpa using HMZ.out
        obtain ⟨Z,HZ⟩:∃ Z:ByteArray,Hid (⟨z.toArray⟩=Z):=⟨_,rfl⟩
        rw [HZ.out] at hd3 hsz
        by_cases h2:200<mz
        ·have h3:(200:Int)<(mz:Int):=by omega
         go_wp2_with fail
         go_ret
         exact ⟨by first|exact HB0.out|exact HBB.out,.inl rfl⟩
        ·have h3:¬ (200:Int)<(mz:Int):=by omega
         go_wp2_with fail
         go_roundw
         case rel=>exact ⟨l+1,by omega,by go_num,by first|rfl|trivial⟩
         case measure=>simp [intOf];omega
       ·obtain rfl:l=ns:=by omega
        have llt:¬ (l:Int)<(l:Int):=by omega
        go_wp2_with fail
        go_roundw
        case rel=>exact ⟨j+1,by omega,by go_num,by first|rfl|trivial⟩
        case measure=>simp [intOf];omega
    ·obtain rfl:j=n:=by omega
     have jlt:¬ (j:Int)<(j:Int):=by omega
     go_wp2_with fail
     go_ret
     exact ⟨by first|exact HB0.out|exact HBB.out,.inr ⟨rfl,uW.out⟩⟩
end Go.Proofs.YtgepehlpjpccaaaGreatDoor
