/- Contracts. -/
import Derived.Test.YtgepehlpjpccaaaGreatDoorYX
import Derived.Test.YtgepehlpjpccaaaGreatDoorYV
namespace Go.Proofs.YtgepehlpjpccaaaGreatDoor
open Go.RowKit
open Go.Lib
set_option maxHeartbeats 4000000
set_option maxRecDepth 100000
section
theorem ymn (L:List UInt8):(vS L).length=L.length+4:=by
 unfold vS;rw [List.length_append];rfl
theorem ypm {k:Int} {p:Option Addr} {c n m:Nat} {ss:List Sg} {xs ys:List (List UInt8)} {w W1:World} {v:Value} (he:Env w) (hx:Hid (ss.length=n)) (hs:RdG w p ss) (hy:Hid (xs.length=m)) (hm:m≤100) (HZ:ydG k ss xs=0) (HV:Hid (uE ss xs=ys)) (hb0:Below w.heap.size w W1) {B:Nat} (ho:W1.ownsRow B 5 1 v (vS (ydH k ss xs)).length (zS (vS (ydH k ss xs)))) :
  ∃ b off mm cv,v=.slice (some ⟨b,off,none⟩) mm cv∧(mm:Int)≤100000∧Hid (∀ W,Below W1.heap.size W1 W→Calls Tryz.prog 25 #[.int .i64 k,.slice p n c,.int .i64 (m:Int),v] W fun e w'=>∃ q,e=.returned (.tuple #[.slice q m m,.int .i64 0])∧Ss w' q ys∧Below W.heap.size W w'):=by
 obtain ⟨pv,cv,rfl,hbs,hcv⟩:=zE ho
 have hl:=ymn (ydH k ss xs)
 have hel:=ysa HZ (by rw [hy.out];exact hm)
 obtain ⟨h1,-,-,h4⟩:=yae HZ
 obtain ⟨b,off,rfl⟩:=yjn hbs (by omega)
 refine ⟨b,off,_,cv,rfl,by omega,Lib.hid fun W hW=>?_⟩
 have hBW:Below w.heap.size w W:=hb0.trans (hW.mono hb0.size)
 have hyl:ys.length=m:=by rw [← HV.out,ybf,hy.out]
 refine ymm k p c n m b off _ (ydH k ss xs).length cv ss ys (ydH k ss xs) (yat k ys) W (he.below hBW) hx (hs.below hBW) (Lib.hid h1) (Lib.hid hyl) hm (Lib.hid (by rw [← HV.out];exact h4)) (Lib.hid rfl) (Lib.hid ?_) (Lib.hid rfl) hl hcv (hbs.below hW)
 unfold ydH
 rw [HV.out,hx.out]
theorem yql (k:Int) (pw p q:Option Addr) (cw c d n m:Nat) (ss:List Sg) (xs ys:List (List UInt8)) (w:World) (he:Env w) (hx:Hid (ss.length=n)) (hs:RdG w p ss) (hy:Hid (xs.length=m)) (hm:m≤100) (hq:Ss w q xs) (HZ:ydG k ss xs=0) (HV:Hid (uE ss xs=ys)) (hw:Ss w pw ys) :
  Calls Tryz.prog 30 #[.slice pw m cw,.int .i64 k,.slice p n c,.slice q m d] w fun e w'=>e=.returned (.bool true)∧Below w.heap.size w w':=by
 have HE:=Lib.hid he
 have HS:=Lib.hid hs
 have HWY:=Lib.hid hw
 have HZZ:=Lib.hid HZ
 have HYL:Hid (ys.length=m):=Lib.hid (by rw [← HV.out,ybf,hy.out])
 have HEN:=Lib.hid (ykE k p q c d n m ss xs w he hx hs hy hm hq HZ)
 have hmi:(m:Int)≤100:=by omega
 have hmm:((m:Int) != (m:Int))=false:=by simp
 clear he hs hq hw HZ
 go_enter Tryz.func30,Tryz.ntmps30
 go_wp2_with fail
 refine (HEN.out).mono ?_
 rintro e w1 ⟨v,rfl,hg⟩
 have zG:Hid (Below w.heap.size w w1):=Lib.hid hg.below
 have hde:=ypm (c:=c) HE.out hx HS.out hy hm HZZ.out HV hg.below hg.own
 clear hg
 obtain ⟨b,off,mm,cv,rfl,hmv,HD⟩:=hde
 have HDC:=Lib.hid (HD.out w1 (Below.refl _ _))
 clear HD
 go_wp2_with fail
 refine (HDC.out).mono ?_
 rintro e w2 ⟨q2,rfl,hs2,hb2⟩
 have HS2:=Lib.hid hs2
 have uV:Hid (Below w.heap.size w w2):=Lib.hid (zG.out.trans (hb2.mono zG.out.size))
 clear hs2 hb2
 go_wp2_with fail
 go_loopw [13] (fun iv wr=>∃ i r:Nat,i≤m∧iv=.int .i64 i∧wr=w2.drewN r) (fun iv _=>m-(intOf iv).toNat)
 case atStart=>exact ⟨0,0,Nat.zero_le _,rfl,rfl⟩
 case round =>
  obtain ⟨i,r,hi,rfl,rfl⟩:=hrel
  have ii:(i:Int)≤(m:Int):=by omega
  by_cases hlt:i<m
  ·have ilt:(i:Int)<(m:Int):=by omega
   obtain ⟨b1,o1,x,e1,-,hc1,hx1⟩:=HS2.out.at (k:=i) (by rw [HYL.out];exact hlt)
   obtain ⟨b2,o2,y,e2,-,hc2,hx2⟩:=(HWY.out.below uV.out).at (k:=i) (by rw [HYL.out];exact hlt)
   subst e1
   subst e2
   obtain rfl:x=y:=by rw [← hx1.out,← hx2.out]
   obtain ⟨X,HX⟩:∃ X:ByteArray,Hid (⟨x.toArray⟩=X):=⟨_,rfl⟩
   rw [HX.out] at hc1 hc2
   go_wp2_with fail
   go_quiet (fail)
   go_wp2_with fail
   go_roundw
   case rel=>exact ⟨i+1,_,by omega,by go_num,rfl⟩
   case measure=>simp [intOf];omega
  ·obtain rfl:i=m:=by omega
   have ilt:¬ (i:Int)<(i:Int):=by omega
   go_wp2_with fail
   go_ret
   exact ⟨rfl,uV.out.trans (yG _ _ r)⟩
theorem yvn:num [50]=some 2:=by kernel_rfl
theorem ytw (b:Rat):b/2=b*jF:=by
 have h2:(2:Rat)*jF=1:=by have:=yb5;grind
 have h3:(2:Rat)≠0:=by decide
 rw [Rat.div_def]
 have h4:(2:Rat)⁻¹=jF:=by
  have h5:(2:Rat)⁻¹*(2*jF)=jF:=by rw [← Rat.mul_assoc,Rat.inv_mul_cancel 2 h3,Rat.one_mul]
  rw [h2,Rat.mul_one] at h5
  exact h5
 rw [h4]
theorem ypn {k:Int} {ss:List Sg} (hp:vG k ss=true):∃ t,yfH k ss=(t,0)∧((t=[]∧num t=none)∨∃ q,num t=some q∧((uU ss=false∧q=0)∨(uU ss=true∧∃ b,num (vJ ss)=some b∧0<b∧q=b*jF))):=by
 unfold yfH
 rw [if_neg (by rw [hp];decide)]
 cases hr:uU ss with
 | false=>exact ⟨[48],by rw [if_pos rfl],.inr ⟨0,yen,.inl ⟨rfl,rfl⟩⟩⟩
 | true =>
  rw [if_neg (by decide)]
  obtain ⟨b,hb,hb0⟩:=ytv (yed hp hr).1
  have e:ymZ (vJ ss) [50]=GT (b/2):=by
   unfold ymZ opT
   rw [if_neg (by decide),hb,yvn]
  refine ⟨_,rfl,?_⟩
  rw [e]
  by_cases h:GT (b/2)=[]
  ·exact .inl ⟨h,by rw [h,ycr]⟩
  ·exact .inr ⟨b/2,yjf h,.inr ⟨rfl,b,hb,hb0,ytw b⟩⟩
theorem ytx {k:Int} {ss:List Sg} {xs ys:List (List UInt8)} {t:List UInt8} {q:Rat} (HZ:ydG k ss xs=0) (HV:uE ss xs=ys) (ht:yfH k ss=(t,0)) (hq:num t=some q):∀ j,j<xs.length→yc7 q (xs.getD j []) (ys.getD j []):=by
 intro j hj
 obtain ⟨h1,h2,h3,h4⟩:=yae HZ
 obtain ⟨t2,ht2,hc⟩:=ypn h1
 obtain rfl:t2=t:=by rw [ht] at ht2;exact (Prod.mk.inj ht2).1.symm
 rcases hc with ⟨-,hn⟩|⟨q2,hq2,⟨hr,rfl⟩|⟨hr,b,hb,hb0,rfl⟩⟩
 ·rw [hn] at hq;cases hq
 ·obtain rfl:q=0:=Option.some.inj (hq.symm.trans hq2)
  have e:ys=xs:=by rw [← HV];unfold uE;rw [hr];rfl
  rw [e]
  exact ⟨rfl,by grind,by grind⟩
 ·obtain rfl:q=b*jF:=Option.some.inj (hq.symm.trans hq2)
  have e:ys=yiL xs (vJ ss):=by rw [← HV];unfold uE;rw [hr];rfl
  rw [e,ypi hj]
  have hm:xs.getD j [] ∈ xs:=by rw [List.getD_eq_getElem?_getD,List.getElem?_eq_getElem hj];exact List.getElem_mem hj
  have hf:=ylh h2 _ hm
  have yiZ:vF k (vJ ss) (xs.getD j [])=false:=by
   have:=h3 hr
   rw [List.any_eq_false] at this
   simpa using this _ hm
  obtain ⟨-,-,hn1,hn2⟩:=yow hb hb0 hf yiZ
  obtain ⟨x,hx⟩:∃ x,xs.getD j []=x:=⟨_,rfl⟩
  rw [hx] at hn1 hn2 hf ⊢
  refine ⟨hn1,?_⟩
  have hh:b*jF+b*jF=b:=by rw [← Rat.mul_add,yb5,Rat.mul_one]
  cases hnx:num x with
  | none =>
   have hx0:x=[]:=by
    rcases yiz hf with h|h
    ·exact h
    ·rw [hnx] at h;cases h
   rw [hx0,yjq]
   constructor<;>grind
  | some a =>
   obtain ⟨g1,g2⟩:=hn2 (by rw [hnx];rfl)
   obtain ⟨c,hc⟩:∃ c,num (yaV x (vJ ss))=some c:=Option.isSome_iff_exists.1 (by rw [← hn1,hnx];rfl)
   have ea:qv x=a:=by unfold qv;rw [hnx];rfl
   have ec:qv (yaV x (vJ ss))=c:=by unfold qv;rw [hc];rfl
   rw [ymB hnx,ymB hc]
   rw [ea,ec] at g1 g2
   constructor<;>grind
theorem yc7.refl0 (x:List UInt8):yc7 0 x x:=⟨rfl,by grind,by grind⟩
theorem yc7.trans {s q:Rat} {x y z:List UInt8} (h1:yc7 s x y) (h2:yc7 q y z):yc7 (s+q) x z:=by
 obtain ⟨a1,a2,a3⟩:=h1
 obtain ⟨b1,b2,b3⟩:=h2
 exact ⟨a1.trans b1,by grind,by grind⟩
theorem yqm {k:Int} {ss:List Sg} {xs ys:List (List UInt8)} (HZ:ydG k ss xs=0) (HV:uE ss xs=ys) (hr:uU ss=true) (h1:1<ss.length):ydG k (ss.take 1) xs=0∧uE (ss.take 1) xs=ys:=by
 obtain ⟨p1,p2,p3,p4⟩:=yae HZ
 have hg:(ss.take 1).getD 0 (0,0,[])=ss.getD 0 (0,0,[]):=by
  rw [List.getD_eq_getElem?_getD,List.getD_eq_getElem?_getD,List.getElem?_take_of_lt (by omega)]
 have hl:(ss.take 1).length=1:=by rw [List.length_take];omega
 have hst:vJ (ss.take 1)=vJ ss:=by unfold vJ;rw [hg]
 have hrf:uU (ss.take 1)=true:=by
  unfold uU at hr ⊢
  rw [hg,hl]
  rw [Bool.and_eq_true] at hr ⊢
  exact ⟨by decide,hr.2⟩
 have hv:uE (ss.take 1) xs=uE ss xs:=by unfold uE;rw [hrf,hr,hst]
 have hp:vG k (ss.take 1)=true:=by
  obtain ⟨a1,a2,a3⟩:=vM p1
  refine yjm a1 (by rw [hl];omega) (fun i hi=>?_)
  obtain rfl:i=0:=by omega
  have:=a3 0 (by omega)
  unfold ya2 at this ⊢
  rw [hg];exact this
 refine ⟨?_,by rw [hv,HV]⟩
 unfold ydG
 rw [if_neg (by rw [hp];decide),if_neg (by rw [p2];exact fun h=>h rfl),hrf,hst]
 rw [if_neg (by rw [p3 hr];decide)]
theorem ywJ {W:World} {p:Option Addr} {xs:List (List UInt8)} {g:Nat} {a:Bool} {p1 p2:Option Addr} {n1 c1 n2 c2:Nat} (h:Ss W p xs) (hb:W.heap[g]?=some (.cells #[.bool a,.slice p1 n1 c1,.slice p2 n2 c2] 59 (0,0))) (v0 v1 v2:Value):Ss (((W.setCell ⟨g,0,none⟩ v0).setCell ⟨g,1,none⟩ v1).setCell ⟨g,2,none⟩ v2) p xs:=by
 rcases h with h0|⟨b,off,hp,hlt,hc⟩
 ·exact .inl h0
 ·by_cases h0:xs.length=0
  ·exact .inl h0
  ·have hne:b≠g:=by
    intro e
    have h1:=hc 0 (by omega)
    rw [e,Nat.add_zero] at h1
    rcases (by omega:off=0∨off=1∨off=2∨3≤off) with rfl|rfl|rfl|h3
    ·simp [World.cell?,hb] at h1
    ·simp [World.cell?,hb] at h1
    ·simp [World.cell?,hb] at h1
    ·simp [World.cell?,hb,h3] at h1
   have e:(((W.setCell ⟨g,0,none⟩ v0).setCell ⟨g,1,none⟩ v1).setCell ⟨g,2,none⟩ v2).heap[b]?=W.heap[b]?:=by
    rw [Below.heap_setCell _ _ _ _ hne,Below.heap_setCell _ _ _ _ hne,Below.heap_setCell _ _ _ _ hne]
   refine .inr ⟨b,off,hp,?_,fun j hj=>?_⟩
   ·obtain ⟨x,hx⟩:∃ x,W.heap[b]?=some x:=⟨_,Array.getElem?_eq_getElem hlt⟩
    exact (Array.getElem?_eq_some_iff.1 (e.trans hx)).1
   ·have h1:=hc j hj
    unfold World.cell? at h1 ⊢
    simp only [e]
    exact h1
structure LossI (w:World) (B GS:Nat) (k:Int) (p q:Option Addr) (n c m d:Nat) (s:Rat) (W:World):Prop where
 below:Below w.heap.size w W
 xbox:W.heap[B]?=some (.cells #[.int .i64 k,.slice p n c,.slice q m d] 54 (0,0))
 sum:∃ b p n c p2 n2 c2,W.heap[GS]?=some (.cells #[.bool b,.slice p n c,.slice p2 n2 c2] 59 (0,0))∧uM W (.agg #[.bool b,.slice p n c,.slice p2 n2 c2]) s
section
variable {w W W' : World} {B GS : Nat} {k : Int} {p q : Option Addr} {n c m d : Nat} {s : Rat}
theorem LossI.next (h:LossI w B GS k p q n c m d s W) (hb:Below W.heap.size W W'):LossI w B GS k p q n c m d s W':=by
 obtain ⟨b,p1,n1,c1,p2,n2,c2,h1,h2⟩:=h.sum
 exact ⟨h.below.trans (hb.mono h.below.size),(hb.block _ (Array.getElem?_eq_some_iff.1 h.xbox).1).trans h.xbox,b,p1,n1,c1,p2,n2,c2,(hb.block _ (Array.getElem?_eq_some_iff.1 h1).1).trans h1,h2.below hb⟩
theorem LossI.resa (h:LossI w B GS k p q n c m d s W):Resa GS w W:=by
 obtain ⟨b,p3,n3,c3,p4,n4,c4,h3,h4⟩:=h.sum
 exact ⟨(Array.getElem?_eq_some_iff.1 h3).1,h.below,_,_,_,h3,zD _,yK _ _ _,yK _ _ _⟩
theorem LossI.cells (h:LossI w B GS k p q n c m d s W):W.cell? ⟨B,0,none⟩=some (.int .i64 k)∧W.cell? ⟨B,1,none⟩=some (.slice p n c)∧W.cell? ⟨B,2,none⟩=some (.slice q m d) :=
 ⟨by simp [World.cell?,h.xbox],by simp [World.cell?,h.xbox],by simp [World.cell?,h.xbox]⟩
theorem LossI.put {s2:Rat} {a:Bool} {p1 p2:Option Addr} {n1 c1 n2 c2:Nat} (h:LossI w B GS k p q n c m d s W) (hg:w.heap.size≤GS) (hne:B≠GS) (h2:uM W (.agg #[.bool a,.slice p1 n1 c1,.slice p2 n2 c2]) s2) :
  LossI w B GS k p q n c m d s2 (((W.setCell ⟨GS,0,none⟩ (.bool a)).setCell ⟨GS,1,none⟩ (.slice p1 n1 c1)).setCell ⟨GS,2,none⟩ (.slice p2 n2 c2)):=by
 obtain ⟨b,p3,n3,c3,p4,n4,c4,h3,h4⟩:=h.sum
 have hr:Resa GS w W:=⟨(Array.getElem?_eq_some_iff.1 h3).1,h.below,_,_,_,h3,zD _,yK _ _ _,yK _ _ _⟩
 refine ⟨((h.below.setCell (p:=⟨GS,0,none⟩) hg _).setCell (p:=⟨GS,1,none⟩) hg _).setCell (p:=⟨GS,2,none⟩) hg _,?_,a,p1,n1,c1,p2,n2,c2,?_,h2.put3 hr hg a p1 p2 n1 c1 n2 c2⟩
 ·rw [Below.heap_setCell _ _ _ _ hne,Below.heap_setCell _ _ _ _ hne,Below.heap_setCell _ _ _ _ hne]
  exact h.xbox
 ·have e1:=ycZ W GS 0 (.bool a) _ _ h3
  have e2:=ycZ _ GS 1 (.slice p1 n1 c1) _ _ e1
  have e3:=ycZ _ GS 2 (.slice p2 n2 c2) _ _ e2
  rw [e3];simp
end
theorem yvo {i:Nat} {s q:Rat} (h1:QLt (6*i+10) s) (h2:QLt 5 q):QLt (6*(i+1)+10) (s+q):=by
 have h:=h1.add h2
 generalize 6*i+10+5+1=K at h ⊢
 exact h
theorem yty {w:World} {p:Option Addr} {l:List Sg} (h:RdG w p l):RdG w p (l.take 1):=by
 rcases h with h0|⟨b,off,h1,h2,h3⟩
 ·exact .inl (by rw [List.length_take,h0];rfl)
 ·refine .inr ⟨b,off,h1,h2,fun j hj=>?_⟩
  rw [List.length_take] at hj
  rw [show (l.take 1).getD j (0,0,[])=l.getD j (0,0,[]) by rw [List.getD_eq_getElem?_getD,List.getD_eq_getElem?_getD,List.getElem?_take_of_lt (by omega)]]
  exact h3 j (by omega)
end
end Go.Proofs.YtgepehlpjpccaaaGreatDoor
