/- Contracts. -/
import Derived.Test.YtgepehlpjpccaaaGreatDoorPart03
import Derived.Deep.RegionHeld3
set_option maxHeartbeats 6400000
set_option maxRecDepth 100000
namespace Go.Proofs.YtgepehlpjpccaaaGreatDoor
open Go.RowKit Big
theorem yok (hi lo y:Nat) (w:World) (hy:hi<y) (hyB:y<yB) (ypy:lo<yB) :
  Calls Tryz.prog 220 #[.int .u64 hi,.int .u64 lo,.int .u64 y] w fun e w'=>e=.returned (.tuple #[.int .u64 (((hi*yB+lo)/y:Nat):Int),.int .u64 (((hi*yB+lo)%y:Nat):Int)])∧∃ k,w.drewN k=w':=by
 refine (yem hi lo y w hy hyB ypy).mono ?_
 rintro e w' ⟨q,r,rfl,hw,h1,h2⟩
 have ylI:0<y:=by omega
 have e1:(hi*yB+lo)/y=q:=by rw [← h1,Nat.mul_comm,Nat.mul_add_div ylI,Nat.div_eq_of_lt h2];rfl
 have e2:(hi*yB+lo)%y=r:=by rw [← h1,Nat.mul_comm,Nat.mul_add_mod,Nat.mod_eq_of_lt h2]
 exact ⟨by rw [e1,e2],hw⟩
theorem ymd {P:Program} {f:FuncId} {args:Array Value} {w:World} {a n:Nat} {v:Value}
  (h:Calls P f args (w.drewN (a+n)) fun e w'=>e=.returned v∧∃ k,(w.drewN (a+n)).drewN k=w'):Calls P f args (w.drewN (a+n)) fun e w''=>e=.returned v∧∃ m,w''=w.drewN (a+m) :=
 h.mono fun _ _ ⟨he,k,hk⟩=>⟨he,n+k,by rw [← hk,World.drewN_drewN,Nat.add_assoc]⟩
def yfK (L:List Nat) (g off m:Nat) (y:List Nat) (w:World) (e:Ending) (w':World):Prop :=
 ∃ L' q:_,Put L off (m+1) L'∧yO yB (yR L' off (m+1))∧q<yB∧q*yC yB y+yC yB (yR L' off (m+1))=yC yB (yR L off (m+1))∧yC yB (yR L' off (m+1))<yC yB y ∧
  e=.returned (.int .u64 ((q:Nat):Int))∧Only g w w'∧zV w' g 86 L'
theorem yjQ {v G D R P Q:Nat} (h:v+G*D=R+P*1) (hv:v<P) (hQ:Q=R/D) (hD:0<D):1≤G∧Q≤G-1:=by
 have h1:R<G*D:=by omega
 have h2:Q<G:=by rw [hQ,Nat.div_lt_iff_lt_mul hD];exact h1
 omega
theorem take_add {v v2 G D R P c:Nat} (h:v+G*D=R+P*1) (h2:v2+P*c=v+D) (hG:1≤G) (hc:c≤1):v2+(G-1)*D=R+P*(1-c):=by
 obtain ⟨k,rfl⟩:∃ k,G=k+1:=⟨G-1,by omega⟩
 have h3:(k+1)*D=k*D+D:=by grind
 have:c=0∨c=1:=by omega
 rcases this with rfl|rfl
 ·rw [Nat.add_sub_cancel];omega
 ·rw [Nat.add_sub_cancel];omega
theorem yhe {v G D R:Nat} (h:v+G*D=R) (hD:0<D) (hQ:R/D≤G):v<D:=by
 apply Nat.lt_of_not_le;intro h1
 have h2:(G+1)*D≤R:=by
  have:(G+1)*D=G*D+D:=by grind
  omega
 have:=(Nat.le_div_iff_mul_le hD).2 h2
 omega
theorem yme (R D r1 r0 d1 low P:Nat) (hR:R=(r1*yB+r0)*P+low) (GS:low<P) (hD:d1*P≤D) (hd:0<d1):R/D≤(r1*yB+r0)/d1 :=
 yfG (q:=R/D) (D:=D) (R:=R) (P:=P) (low:=low) hd (Nat.div_mul_le_self _ _) hD hR GS
def flag (b:Bool):Nat:=if b then 1 else 0
theorem ynn (c:Nat) (h:c≤1):flag ((c:Int)==1)=c:=by
 have:c=0∨c=1:=by omega
 rcases this with rfl|rfl<;>rfl
theorem yjR (c:Nat) (h:c≤1):flag (!((c:Int)==1))=1-c:=by
 have:c=0∨c=1:=by omega
 rcases this with rfl|rfl<;>rfl
theorem yeE (g off m cz:Nat) (L:List Nat) (q:Oa) (d:Nat) (y:List Nat) (w:World) (hm0:m+1≤yK) (hm1:1≤m) (hL:off+(m+1)≤L.length)
  (hz:zV w g 86 L) (hy:Rd w q m y) (hq:m=0∨∀ b o,q=some ⟨b,o,none⟩→b≠g) (dL:yO yB (yR L off (m+1))) (dy:yO yB y) (yjk:0<y.getD (m-1) 0) (hR:yC yB (yR L off (m+1))<yC yB y*yB) :
  Calls Tryz.prog 186 #[.slice (some ⟨g,off,none⟩) (m+1) cz,.slice q m d] w (yfK L g off m y w):=by
 have hm:(m:Int)+1≤4294967296:=by unfold yK at hm0;omega
 have hmi:(1:Int)≤m:=by omega
 obtain ⟨bq,oq,d1,rfl,hbq,hcq,hd1⟩:=hy.at (k:=m-1) (by omega)
 have hr1:=hz.cell (off+m) (by omega)
 obtain ⟨r1,hr1'⟩:∃ a,Hid (L.getD (off+m) 0=a):=⟨_,yA rfl⟩
 rw [hr1'.out] at hr1
 have hr0:=hz.cell (off+(m-1)) (by omega)
 obtain ⟨r0,hr0'⟩:∃ a,Hid (L.getD (off+(m-1)) 0=a):=⟨_,yA rfl⟩
 rw [hr0'.out] at hr0
 have HR:=yA hR
 clear hR
 have ypY:y.length=m:=hy.len
 have dd1:d1<yB:=by rw [← hd1.out];exact dy.getD yU _
 have dr1:r1<yB:=by rw [← hr1'.out,← ybV L off (m+1) m (by omega)];exact dL.getD yU _
 have dr0:r0<yB:=by rw [← hr0'.out,← ybV L off (m+1) (m-1) (by omega)];exact dL.getD yU _
 rw [hd1.out] at yjk
 have ycg:d1*yB^(m-1)≤yC yB y:=by
  have h1:=yN yB y (m-1)
  rw [show m-1+1=m from by omega,List.take_of_length_le (by omega),hd1.out,Nat.mul_comm] at h1
  omega
 have hD0:0<yC yB y:=Nat.lt_of_lt_of_le (Nat.mul_pos yjk (Nat.pow_pos yU)) ycg
 have hRsplit:yC yB (yR L off (m+1))=(r1*yB+r0)*yB^(m-1)+yC yB (yR L off (m-1))∧yC yB (yR L off (m-1))<yB^(m-1):=by
  have e1:yR L off (m+1)=yR L off (m-1)++[r0]++[r1]:=by
   rw [yai L off m (by omega),hr1'.out]
   have:=yai L off (m-1) (by omega)
   rw [show m-1+1=m from by omega,hr0'.out] at this
   rw [this]
  have hl:(yR L off (m-1)).length=m-1:=zM _ _ _ (by omega)
  have hlt:=vE (yR L off (m-1)) (by rw [e1] at dL;exact dL.left.left)
  rw [hl] at hlt
  refine ⟨?_,hlt⟩
  rw [e1,jJ,jJ,List.length_append,hl]
  simp only [List.length_singleton,Nat.pow_succ]
  grind
 have HD0:=yA hD0
 have Hysplit:=yA ycg
 have HRsplit:=yA hRsplit
 clear ycg hRsplit ypY
 have hzd:∀ k,zV (w.drewN k) g 86 L:=fun k=>hz
 have hyd:∀ k,Rd (w.drewN k) (some ⟨bq,oq,none⟩) m y:=fun k=>hy.below (yG _ _ _)
 have honlyd:∀ k,Only g w (w.drewN k):=fun k=>⟨rfl,rfl,rfl,rfl,fun _ _=>rfl⟩
 by_cases hlt:r1<d1
 ·have ht:decide (r1<d1)=true:=decide_eq_true hlt
  have hGB:(r1*yB+r0)/d1<yB:=ydv hlt dr0
  have HG:Hid (yC yB (yR L off (m+1))/yC yB y≤(r1*yB+r0)/d1):=yA (yme _ _ r1 r0 d1 _ _ HRsplit.out.1 HRsplit.out.2 Hysplit.out yjk)
  have yco:=fun W=>yok r1 r0 d1 W hlt dd1 dr0
  obtain ⟨G0,hG0⟩:∃ G0,Hid (G0=(r1*yB+r0)/d1):=⟨_,yA rfl⟩
  rw [← hG0.out] at hGB HG yco
  have Hdiv:=yA yco
  clear yco
  go_in
  go_wp2_with fail
  go_quiet (fail)
  go_wp2_with fail
  go_quiet ((go_at_call 220;exact ymd (Hdiv.out _)))
  go_wp2_with fail
  refine (ybM g off m cz 86 L (some ⟨bq,oq,none⟩) d y G0 _ (by unfold maxLen;omega) hL (hzd _) (hyd _) hq dL dy hGB).mono ?_
  rintro e w3 ⟨L1,c1,zQ,uG,hc1,zT,rfl,ho,uJ⟩
  have yJ:Hid (Put L off (m+1) L1∧yO yB (yR L1 off (m+1))∧G0<yB∧yC yB (yR L off (m+1))/yC yB y≤G0∧yC yB (yR L1 off (m+1))+G0*yC yB y=yC yB (yR L off (m+1))+yB^(m+1)*flag ((c1:Int)==1)) :=
   yA ⟨zQ,uG,hGB,HG.out,by rw [ynn c1 hc1,Nat.mul_comm];exact zT⟩
  have hom:Only g w w3:=(honlyd _).trans ho
  clear zQ uG zT ho hGB
  go_wp2
  go_loopw [6,7] (fun gv nv wr=>∃ (G:Nat) (b:Bool) (L':List Nat),gv=.int .u64 G∧nv=.bool b∧Hid (Put L off (m+1) L'∧yO yB (yR L' off (m+1))∧G<yB∧yC yB (yR L off (m+1))/yC yB y≤G∧yC yB (yR L' off (m+1))+G*yC yB y=yC yB (yR L off (m+1))+yB^(m+1)*flag b)∧Only g w wr∧zV wr g 86 L') (fun gv nv _=>(intOf gv).toNat)
  case atStart=>exact ⟨G0,_,L1,rfl,rfl,yJ,hom,uJ⟩
  case round =>
   obtain ⟨G,b,L',rfl,rfl,hinv',hom',hrow'⟩:=hrel
   clear yJ hom uJ
   cases b with
   | false =>
    have yF:yfK L g off m y w (.returned (.int .u64 (G:Int))) wr:=by
     obtain ⟨i1,i2,i3,i4,i5⟩:=hinv'.out
     have i5':yC yB (yR L' off (m+1))+G*yC yB y=yC yB (yR L off (m+1)):=by rw [i5];simp [flag]
     refine ⟨L',G,i1,i2,i3,by rw [Nat.add_comm];exact i5',yhe i5' hD0 i4,rfl,hom',hrow'⟩
    have Hfin:=yA yF
    clear yF
    go_wp2
    go_ret
    exact Hfin.out
   | true =>
    obtain ⟨i1,i2,i3,i4,i5⟩:=hinv'.out
    have hlt':=vE _ i2
    rw [zM _ _ _ (by rw [i1.length];exact hL)] at hlt'
    have hl:=yjQ (Q:=yC yB (yR L off (m+1))/yC yB y) i5 hlt' rfl hD0
    have ya9:=ybC g off (m+1) cz 86 L' (some ⟨bq,oq,none⟩) m d y wr (by unfold maxLen;omega) (by rw [i1.length];exact hL) (by omega) hrow' (hom'.rd hy hq) hq i2 dy
    have Hadd:=yA ya9
    have Hl:=yA hl
    have g1:(1:Int)≤G:=by omega
    have g2:(G:Int)≤18446744073709551615:=ypb i3
    clear ya9 hl hlt' i1 i2 i3 i4 i5
    go_wp2_with fail
    refine Hadd.out.mono ?_
    rintro e w4 ⟨L2,c2,ybb,yi7,hc2,yi8,rfl,ho2,ypZ⟩
    have ybd:Hid (Put L off (m+1) L2∧yO yB (yR L2 off (m+1))∧G-1<yB∧yC yB (yR L off (m+1))/yC yB y≤G-1∧yC yB (yR L2 off (m+1))+(G-1)*yC yB y=yC yB (yR L off (m+1))+yB^(m+1)*flag (!((c2:Int)==1))):=by
     obtain ⟨i1,i2,i3,i4,i5⟩:=hinv'.out
     exact yA ⟨i1.trans ybb,yi7,by omega,Hl.out.2,by rw [yjR c2 hc2];exact take_add i5 yi8 Hl.out.1 hc2⟩
    clear yi8 yi7 ybb
    go_wp2
    go_roundw
    case rel=>exact ⟨G-1,_,L2,by go_num,rfl,ybd,hom'.trans ho2,ypZ⟩
    case measure=>simp [intOf];omega
 ·have ht:decide (r1<d1)=false:=decide_eq_false hlt
  have hGB:18446744073709551615<yB:=by rw [yS];omega
  have HG:Hid (yC yB (yR L off (m+1))/yC yB y≤18446744073709551615):=yA (by
   have h1:yC yB (yR L off (m+1))/yC yB y<yB:=by rw [Nat.div_lt_iff_lt_mul hD0,Nat.mul_comm];exact HR.out
   have h2:=yS;omega)
  go_in
  go_wp2_with fail
  go_quiet (fail)
  go_wp2_with fail
  refine (ybM g off m cz 86 L (some ⟨bq,oq,none⟩) d y 18446744073709551615 _ (by unfold maxLen;omega) hL (hzd _) (hyd _) hq dL dy hGB).mono ?_
  rintro e w3 ⟨L1,c1,zQ,uG,hc1,zT,rfl,ho,uJ⟩
  have yJ:Hid (Put L off (m+1) L1∧yO yB (yR L1 off (m+1))∧18446744073709551615<yB∧yC yB (yR L off (m+1))/yC yB y≤18446744073709551615∧yC yB (yR L1 off (m+1))+18446744073709551615*yC yB y=yC yB (yR L off (m+1))+yB^(m+1)*flag ((c1:Int)==1)) :=
   yA ⟨zQ,uG,hGB,HG.out,by rw [ynn c1 hc1,Nat.mul_comm];exact zT⟩
  have hom:Only g w w3:=(honlyd _).trans ho
  clear zQ uG zT ho hGB
  go_wp2
  go_loopw [6,7] (fun gv nv wr=>∃ (G:Nat) (b:Bool) (L':List Nat),gv=.int .u64 G∧nv=.bool b∧Hid (Put L off (m+1) L'∧yO yB (yR L' off (m+1))∧G<yB∧yC yB (yR L off (m+1))/yC yB y≤G∧yC yB (yR L' off (m+1))+G*yC yB y=yC yB (yR L off (m+1))+yB^(m+1)*flag b)∧Only g w wr∧zV wr g 86 L') (fun gv nv _=>(intOf gv).toNat)
  case atStart=>exact ⟨18446744073709551615,_,L1,rfl,rfl,yJ,hom,uJ⟩
  case round =>
   obtain ⟨G,b,L',rfl,rfl,hinv',hom',hrow'⟩:=hrel
   clear yJ hom uJ
   cases b with
   | false =>
    have yF:yfK L g off m y w (.returned (.int .u64 (G:Int))) wr:=by
     obtain ⟨i1,i2,i3,i4,i5⟩:=hinv'.out
     have i5':yC yB (yR L' off (m+1))+G*yC yB y=yC yB (yR L off (m+1)):=by rw [i5];simp [flag]
     refine ⟨L',G,i1,i2,i3,by rw [Nat.add_comm];exact i5',yhe i5' hD0 i4,rfl,hom',hrow'⟩
    have Hfin:=yA yF
    clear yF
    go_wp2
    go_ret
    exact Hfin.out
   | true =>
    obtain ⟨i1,i2,i3,i4,i5⟩:=hinv'.out
    have hlt':=vE _ i2
    rw [zM _ _ _ (by rw [i1.length];exact hL)] at hlt'
    have hl:=yjQ (Q:=yC yB (yR L off (m+1))/yC yB y) i5 hlt' rfl hD0
    have ya9:=ybC g off (m+1) cz 86 L' (some ⟨bq,oq,none⟩) m d y wr (by unfold maxLen;omega) (by rw [i1.length];exact hL) (by omega) hrow' (hom'.rd hy hq) hq i2 dy
    have Hadd:=yA ya9
    have Hl:=yA hl
    have g1:(1:Int)≤G:=by omega
    have g2:(G:Int)≤18446744073709551615:=ypb i3
    clear ya9 hl hlt' i1 i2 i3 i4 i5
    go_wp2_with fail
    refine Hadd.out.mono ?_
    rintro e w4 ⟨L2,c2,ybb,yi7,hc2,yi8,rfl,ho2,ypZ⟩
    have ybd:Hid (Put L off (m+1) L2∧yO yB (yR L2 off (m+1))∧G-1<yB∧yC yB (yR L off (m+1))/yC yB y≤G-1∧yC yB (yR L2 off (m+1))+(G-1)*yC yB y=yC yB (yR L off (m+1))+yB^(m+1)*flag (!((c2:Int)==1))):=by
     obtain ⟨i1,i2,i3,i4,i5⟩:=hinv'.out
     exact yA ⟨i1.trans ybb,yi7,by omega,Hl.out.2,by rw [yjR c2 hc2];exact take_add i5 yi8 Hl.out.1 hc2⟩
    clear yi8 yi7 ybb
    go_wp2
    go_roundw
    case rel=>exact ⟨G-1,_,L2,by go_num,rfl,ybd,hom'.trans ho2,ypZ⟩
    case measure=>simp [intOf];omega
def yce (a b:Nat) (w:World) (e:Ending) (w':World):Prop :=
 ∃ v u,e=.returned (.tuple #[v,u])∧yI w' v (a/b)∧yI w' u (a%b)∧Be w w'
theorem yh1 {a b:Nat} (h:a<b):jH a b=-1:=by simp [jH,h]
theorem ye8 {a b:Nat} (h:¬ a<b):jH a b=0∨jH a b=1:=by
 unfold jH;rw [if_neg h];split
 ·exact .inr rfl
 ·exact .inl rfl
theorem yiw (u v:Value) (a b K:Nat) (w:World) (hK:K≤yK) (ha:a<yB^K) (hb:b<yB^K) (hu:yI w u a) (hv:yI w v b) (hlt:a<b):Calls Tryz.prog 140 #[u,v] w (yce a b w):=by
 have hc:=yaQ u v a b K w hK ha hb hu hv
 rw [show GN a b w=GN a b w from rfl] at hc
 have Hc:=yA hc
 have yF:Hid (∀ k,yce a b w (.returned (.tuple #[.slice none 0 0,u])) (w.drewN k)):=yA fun k =>
  ⟨_,_,rfl,by rw [Nat.div_eq_of_lt hlt];exact yI.zero _,by rw [Nat.mod_eq_of_lt hlt];exact hu.drewN k,yG _ _ _⟩
 have yaa:=yh1 hlt
 have Hcmp:=yA yaa
 clear hc yaa hu hv hlt
 go_in
 go_wp2_with fail
 refine Hc.out.mono ?_
 rintro e w1 ⟨rfl,k,rfl⟩
 rw [Hcmp.out]
 go_wp2
 go_ret2
 exact yF.out k
theorem yfL {y:List Nat} (h:y.length=1):∃ d,y=[d]:=by
 match y,h with
 | [d],_=>exact ⟨d,rfl⟩
theorem yqg (w:World) (d:Nat) (t:TypeId):Rd (w.alloc (.cells #[.int .u64 (d:Int)] t)) (some ⟨w.heap.size,0,none⟩) 1 [d]:=by
 refine ⟨rfl,.inr ⟨_,_,rfl,by simp,fun j hj=>?_⟩⟩
 obtain rfl:j=0:=by omega
 have h:(w.alloc (.cells #[.int .u64 (d:Int)] t)).heap[w.heap.size]?=some (.cells #[.int .u64 (d:Int)] t):=by
  show (w.heap.push _)[_]?=_
  simp
 unfold World.cell?
 rw [h];rfl
theorem yix (p:Oa) (n c:Nat) (x:List Nat) (q:Oa) (d:Nat) (y:List Nat) (w:World) (hn:n≤yK) (hx:Rd w p n x) (hy:Rd w q 1 y) (cx:yV yB x) (cy:yV yB y) (hge:¬ yC yB x<yC yB y)
  (hc:Hid (Calls Tryz.prog 137 #[.slice p n c,.slice q 1 d] w (GN (yC yB x) (yC yB y) w))) :
  Calls Tryz.prog 140 #[.slice p n c,.slice q 1 d] w (yce (yC yB x) (yC yB y) w):=by
 obtain ⟨bq,oq,t,rfl,hbq,hcq,ht⟩:=hy.at (k:=0) (by omega)
 obtain ⟨t',hyt⟩:=yfL hy.len
 obtain rfl:t'=t:=by rw [hyt] at ht;exact ht.out
 subst hyt
 have hyv:yC yB [t']=t':=by simp [yC]
 rw [hyv] at hc hge ⊢
 have ht0:0<t':=by
  have:=cy.2;simp at this;omega
 have htB:t'<yB:=cy.1 t' (by simp)
 have yaa:jH (yC yB x) t'=0∨jH (yC yB x) t'=1:=ye8 hge
 obtain ⟨z,hz,hz0⟩:∃ z:Int,Hid (jH (yC yB x) t'=z)∧(0:Int)≤z:=⟨_,yA rfl,by rcases yaa with h|h<;>rw [h]<;>omega⟩
 have hcq':∀ k,(w.drewN k).cell? ⟨bq,oq,none⟩=some (.int .u64 (t':Int)):=fun k=>hcq
 have hdl:∀ k,Hid (Calls Tryz.prog 183 #[.slice p n c,.int .u64 t'] (w.drewN k) (yjO (yC yB x) t' (w.drewN k))):=fun k=>yA (yeh p n c x t' _ hn (hx.below (yG _ _ _)) cx.1 ht0 htB)
 have hmodB:yC yB x%t'<yB:=Nat.lt_trans (Nat.mod_lt _ ht0) htB
 obtain ⟨r,hr⟩:∃ r,Hid (yC yB x%t'=r):=⟨_,yA rfl⟩
 rw [hr.out] at hmodB
 clear yaa hge hyv
 go_in
 go_wp2_with fail
 refine hc.out.mono ?_
 rintro e w1 ⟨rfl,k,rfl⟩
 rw [hz.out]
 have hcqk:=hcq' k
 have hdlk:=hdl k
 clear hcq' hdl
 go_wp2_with fail
 refine hdlk.out.mono ?_
 rintro e w2 ⟨v2,rfl,hv2,hb2⟩
 rw [hr.out]
 go_wp2_with fail
 have hb3:Be w w2:=(yG _ _ _).trans hb2
 have ht:∀ T,Hid (Calls Tryz.prog 136 #[.slice (some ⟨w2.heap.size,0,none⟩) 1 1] (w2.alloc (.cells #[.int .u64 (r:Int)] T)) (jB (yC yB [r]) (w2.alloc (.cells #[.int .u64 (r:Int)] T)))):=fun T =>
  yA (yac _ 1 1 [r] _ _ (by unfold maxLen;omega) (by omega) (yqg w2 r T) (yO.one hmodB) bR)
 refine (ht _).out.mono ?_
 rintro e w4 ⟨v4,rfl,hv4,hb4⟩
 have yF:Hid (yce (yC yB x) t' w (.returned (.tuple #[v2,v4])) w4):=by
  have hb5:Be w2 w4:=(bR.alloc nl _).trans (hb4.mono (by simp))
  refine yA ⟨v2,v4,rfl,hv2.below hb5,?_,tr hb3 hb5⟩
  rw [hr.out]
  have:yC yB [r]=r:=by simp [yC]
  rw [← this];exact hv4
 clear hv4 hb4 hb3
 go_wp2
 go_ret2
 exact yF.out
end Go.Proofs.YtgepehlpjpccaaaGreatDoor
namespace Big
open Go.Proofs.YtgepehlpjpccaaaGreatDoor
theorem ycp (B:Nat) (L:List Nat) (i n:Nat) (h:i+n≤L.length):yC B (L.drop i)=yC B (yR L i n)+B^n*yC B (L.drop (i+n)):=by
 have h1:=vB B (L.drop i) n (by simp;omega)
 rw [List.drop_drop] at h1
 exact h1
theorem yjS {B D i m:Nat} {L:List Nat} (hl:i+(m+1)≤L.length) (hB:0<B) (hD:D<B^m) (hL:yC B L<D*B^(i+1)):yC B (L.drop (i+(m+1)))=0∧yC B (yR L i (m+1))<D*B:=by
 have h1:=vB B L i (by omega)
 have h2:=ycp B L i (m+1) hl
 have hp:0<B^i:=Nat.pow_pos hB
 have h3:D*B^(i+1)=D*B*B^i:=by rw [Nat.pow_succ];grind
 have h4:yC B (L.drop i)<D*B:=by
  apply Nat.lt_of_mul_lt_mul_right (a:=B^i)
  rw [← h3]
  have:yC B (L.drop i)*B^i=B^i*yC B (L.drop i):=Nat.mul_comm _ _
  omega
 have h5:D*B≤B^m*B:=Nat.mul_le_mul_right _ (Nat.le_of_lt hD)
 rw [← Nat.pow_succ] at h5
 have h6:yC B (L.drop (i+(m+1)))=0:=by
  apply Nat.eq_zero_of_not_pos;intro h7
  have h8:B^(m+1)*1≤B^(m+1)*yC B (L.drop (i+(m+1))):=Nat.mul_le_mul_left _ h7
  have h9:B^m.succ=B^(m+1):=rfl
  omega
 refine ⟨h6,?_⟩
 rw [h6,Nat.mul_zero,Nat.add_zero] at h2
 omega
theorem yrr {B D i m q:Nat} {L L':List Nat} (hl:i+(m+1)≤L.length) (hB:0<B) (hD:D<B^m) (hL:yC B L<D*B^(i+1)) (uG:yO B L) (zQ:Put L i (m+1) L') (hq:q*D+yC B (yR L' i (m+1))=yC B (yR L i (m+1))) (hlt:yC B (yR L' i (m+1))<D) :
  yC B L'<D*B^i∧yC B L=yC B L'+q*D*B^i:=by
 obtain ⟨h0,-⟩:=yjS hl hB hD hL
 have h1:=vB B L i (by omega)
 have h2:=vB B L' i (by rw [zQ.length];omega)
 have h3:=ycp B L i (m+1) hl
 have h4:=ycp B L' i (m+1) (by rw [zQ.length];exact hl)
 rw [zQ.behind,h0] at h4
 rw [h0] at h3
 rw [zQ.before] at h2
 have h5:=vE (L.take i) (uG.take i)
 rw [List.length_take,Nat.min_eq_left (by omega)] at h5
 generalize yC B (yR L' i (m+1))=R' at *
 generalize yC B (yR L i (m+1))=R at *
 rw [Nat.mul_zero,Nat.add_zero] at h3 h4
 rw [h4] at h2
 rw [h3,← hq] at h1
 constructor
 ·have h6:B^i*(R'+1)≤B^i*D:=Nat.mul_le_mul_left _ hlt
  rw [Nat.mul_add,Nat.mul_comm _ D] at h6
  omega
 ·rw [h1,h2];grind
theorem yno {B D i q Y V V' X:Nat} (h:X=Y*D*B^(i+1)+V) (hV:V=V'+q*D*B^i):X=(q+B*Y)*D*B^i+V':=by
 rw [h,hV,Nat.pow_succ];grind
theorem ytu {a b P q r:Nat} (hP:0<P) (hb:0<b) (h:P*a=q*(P*b)+r) (hr:r<P*b):q=a/b∧r/P=a%b:=by
 have h1:(P*a)/(P*b)=q:=by
  rw [h,Nat.mul_comm q,Nat.mul_add_div (Nat.mul_pos hP hb),Nat.div_eq_of_lt hr];rfl
 have h2:(P*a)%(P*b)=r:=by
  rw [h,Nat.mul_comm q,Nat.mul_add_mod,Nat.mod_eq_of_lt hr]
 rw [Nat.mul_div_mul_left _ _ hP] at h1
 rw [Nat.mul_mod_mul_left] at h2
 exact ⟨h1.symm,by rw [← h2,Nat.mul_div_cancel_left _ hP]⟩
theorem yiy {B P Q t m V low:Nat} (hB:P*Q=B) (ht:t*P<B) (hV:V=low+B^m*t) (GS:low<B^m) (hP:0<P):P*V<B^(m+1):=by
 have h1:t<Q:=by
  apply Nat.lt_of_mul_lt_mul_right (a:=P)
  rw [Nat.mul_comm Q,hB];exact ht
 have h2:(t+1)*P≤Q*P:=Nat.mul_le_mul_right _ h1
 rw [Nat.mul_comm Q,hB] at h2
 have h3:V<B^m*(t+1):=by rw [Nat.mul_add,Nat.mul_one];omega
 have h4:P*V<P*(B^m*(t+1)):=Nat.mul_lt_mul_of_pos_left h3 hP
 have h5:P*(B^m*(t+1))=B^m*((t+1)*P):=by grind
 have h6:B^m*((t+1)*P)≤B^m*B:=Nat.mul_le_mul_left _ h2
 rw [Nat.pow_succ];omega
end Big
namespace Go.Proofs.YtgepehlpjpccaaaGreatDoor
open Go.RowKit Big
theorem yiz (p:Oa) (n c:Nat) (x:List Nat) (q:Oa) (m' d:Nat) (y:List Nat) (w:World) (hn:n+2≤yK) (hmn:m'+2≤n) (hx:Rd w p n x) (hy:Rd w q (m'+2) y) (cx:yV yB x) (cy:yV yB y) (hge:¬ yC yB x<yC yB y)
  (hc:Hid (Calls Tryz.prog 137 #[.slice p n c,.slice q (m'+2:Nat) d] w (GN (yC yB x) (yC yB y) w))) :
  Calls Tryz.prog 140 #[.slice p n c,.slice q (m'+2:Nat) d] w (yce (yC yB x) (yC yB y) w):=by
 obtain ⟨m,hm⟩:∃ m,Hid (m=m'+2):=⟨_,yA rfl⟩
 rw [← hm.out] at hy hc hmn ⊢
 have hm2:(2:Int)≤m:=by have:=hm.out;omega
 have hmn':(m:Int)≤n:=by omega
 have hnb:(n:Int)≤4294967294:=by unfold yK at hn;omega
 obtain ⟨i0,hi,hz0,hz1,hz2⟩:=info_parts vP
 obtain ⟨bq,oq,t,rfl,hbq,hcq,ht⟩:=hy.at (k:=m-1) (by omega)
 have htB:t<yB:=by rw [← ht.out];exact cy.1.getD yU _
 have ypY:y.length=m:=hy.len
 have yp0:x.length=n:=hx.len
 have ht0:0<t:=by
  have h1:=cy.2
  rw [List.getLast?_eq_getElem?,ypY] at h1
  have h2:=ht.out
  rw [List.getD_eq_getElem?_getD] at h2
  apply Nat.pos_of_ne_zero;intro h3
  rw [List.getElem?_eq_getElem (by omega)] at h1 h2
  simp at h2
  exact h1 (by rw [h2,h3])
 obtain ⟨s,hLZ,hs,hsB,hs63⟩:=yjM t ht0 htB
 have hpq:=yb4 s hs
 have hP:0<2^s:=Nat.pow_pos (by omega)
 have ycg:yC yB y=yC yB (y.take (m-1))+yB^(m-1)*t∧yC yB (y.take (m-1))<yB^(m-1):=by
  have h1:=yN yB y (m-1)
  rw [show m-1+1=m from by omega,List.take_of_length_le (by omega),ht.out] at h1
  have h2:=vE (y.take (m-1)) (cy.1.take _)
  rw [List.length_take,Nat.min_eq_left (by omega)] at h2
  exact ⟨h1,h2⟩
 have hDm:2^s*yC yB y<yB^m:=by
  have:=yiy hpq hsB ycg.1 ycg.2 hP
  rwa [show m-1+1=m from by omega] at this
 have ylM:yB^(m-1)≤yC yB y:=by
  have h1:yB^(m-1)*1≤yB^(m-1)*t:=Nat.mul_le_mul_left _ ht0
  omega
 have hypos:0<yC yB y:=Nat.lt_of_lt_of_le (Nat.pow_pos yU) ylM
 have yuK:=vE x cx.1
 rw [yp0] at yuK
 obtain ⟨z,hz,hz0'⟩:∃ z:Int,Hid (jH (yC yB x) (yC yB y)=z)∧(0:Int)≤z:=⟨_,yA rfl,by rcases ye8 hge with h|h<;>rw [h]<;>omega⟩
 have yhO:Hid (2^s*yC yB x<2^s*yC yB y*yB^(n-m+1)):=yA (by
  have h1:2^s*yC yB x<2^s*yB^n:=Nat.mul_lt_mul_of_pos_left yuK hP
  have h2:yB^(m-1)*yB^(n-m+1)≤yC yB y*yB^(n-m+1):=Nat.mul_le_mul_right _ ylM
  rw [← Nat.pow_add,show m-1+(n-m+1)=n from by omega] at h2
  have h3:2^s*yB^n≤2^s*(yC yB y*yB^(n-m+1)):=Nat.mul_le_mul_left _ h2
  rw [Nat.mul_assoc];omega)
 have HD:=yA (And.intro hDm (And.intro ylM (And.intro hypos (And.intro hP yp0))))
 have hcq':∀ k,(w.drewN k).cell? ⟨bq,oq+(m-1),none⟩=some (.int .u64 (t:Int)):=fun k=>hcq
 have hsx:∀ k,Hid (Calls Tryz.prog 185 #[.slice p n c,.int .i64 s] (w.drewN k) (yh0 (yC yB x) s n (w.drewN k))):=fun k=>yA (yeP p n c x s _ (by omega) (hx.below (yG _ _ _)) cx.1 hs)
 have htI:(t:Int)≤18446744073709551615:=ypb htB
 have ht0':(0:Int)≤t:=by omega
 clear hDm ylM hypos yuK ycg hge hsB hs63 hpq yp0 hP
 go_in
 go_wp2_with fail
 refine hc.out.mono ?_
 rintro e w1 ⟨rfl,k,rfl⟩
 rw [hz.out]
 have hcqk:=hcq' k
 have hsxk:=hsx k
 clear hcq' hsx
 have hm1:((m:Int)==1)=false:=by rw [beq_eq_false_iff_ne];omega
 go_wp2_with fail
 refine (Go.Proofs.Tryz.bits_LeadingZeros64 _ _ ht0' htI).mono ?_
 rintro e w' ⟨rfl,rfl⟩
 rw [show (64-(Lib.bitLen (t:Int).toNat:Int))=s from hLZ.out]
 go_wp2_with fail
 refine hsxk.out.mono ?_
 rintro e w2 ⟨Lx,rfl,hrx,hlx,hdx,hvx,hbx⟩
 have hb2:Be w w2:=(yG _ _ _).trans hbx
 have hsy:Hid (Calls Tryz.prog 185 #[.slice (some ⟨bq,oq,none⟩) m d,.int .i64 s] w2 (yh0 (yC yB y) s m w2)):=yA (yeP (some ⟨bq,oq,none⟩) m d y s _ (by omega) (hy.below hb2) cy.1 hs)
 go_wp2_with fail
 refine hsy.out.mono ?_
 rintro e w3 ⟨Ly,rfl,hry,hly,hdy,hvy,hby⟩
 have hrx3:zV w3 w.heap.size 86 Lx:=Below.row hby hrx hrx.lt
 have hb3:Be w w3:=tr hb2 hby
 have hg12:w.heap.size<w2.heap.size:=hrx.lt
 have hg23:w2.heap.size<w3.heap.size:=hry.lt
 have HX:=yA (And.intro hlx (And.intro hdx hvx))
 have HY:=yA (And.intro hly (And.intro hdy hvy))
 clear hlx hdx hvx hly hdy hvy hrx hbx hby hb2
 go_wp2_with (at_make;refine wpList_make_full _ rfl _ _ 96 rfl w3.heap.size 86 i0 (.int .u64 0) 1 Tryz.underlying96 hi hz0 hz1 _ _ _ _ (n-m+1) rfl rfl (by omega) (by omega) ?b2 ?b3 nl ?_)
 case b2=>rw [hz2];omega
 case b3=>unfold maxLen;omega
 intro w4 yP zB
 have hrq:zV w4 w3.heap.size 86 (List.replicate (n-m+1) 0):=jN yP
 have ysu:Be w3 w4:=bR.grown zB nl (fun k h=>by cases h)
 have hrx4:zV w4 w.heap.size 86 Lx:=Below.row ysu hrx3 (by omega)
 have hry4:zV w4 w2.heap.size 86 Ly:=Below.row ysu hry hg23
 have hb4:Be w w4:=tr hb3 ysu
 clear yP zB ysu hrx3 hry hb3
 obtain ⟨Dl,hDl⟩:∃ Dl,Hid (Dl=(Ly.drop 0).take m):=⟨_,yA rfl⟩
 have HDl:Hid (yO yB Dl∧yC yB Dl=2^s*yC yB y∧0<Dl.getD (m-1) 0∧Dl.length=m):=yA (by
  obtain ⟨y1,y2,y3⟩:=HY.out
  obtain ⟨d1,d2,d3,d4,-⟩:=HD.out
  have e0:Dl=Ly.take m:=by rw [hDl.out,List.drop_zero]
  have hd:yO yB Dl:=by rw [e0];exact y2.take m
  have hl:Dl.length=m:=by rw [e0,List.length_take,y1];omega
  have hv:yC yB Dl=2^s*yC yB y:=by
   have h1:=vB yB Ly m (by omega)
   rw [← e0,y3] at h1
   have h2:yC yB (Ly.drop m)=0:=by
    apply Nat.eq_zero_of_not_pos;intro h3
    have:yB^m*1≤yB^m*yC yB (Ly.drop m):=Nat.mul_le_mul_left _ h3
    omega
   rw [h2] at h1;omega
  refine ⟨hd,hv,?_,hl⟩
  apply Nat.pos_of_ne_zero;intro h0
  have h1:=yN yB Dl (m-1)
  rw [show m-1+1=m from by omega,List.take_of_length_le (by omega),h0,Nat.mul_zero,Nat.add_zero,hv] at h1
  have h2:=vE (Dl.take (m-1)) (hd.take _)
  rw [List.length_take,hl,Nat.min_eq_left (by omega)] at h2
  have h3:1*yC yB y≤2^s*yC yB y:=Nat.mul_le_mul_right _ d4
  omega)
 go_wp2
 go_loopw [12] (fun i wr=>∃ (k:Nat) (z:Int) (L Q:List Nat),k≤n-m+1∧i=.int .i64 z∧z+1=k∧zV wr w.heap.size 86 L∧zV wr w2.heap.size 86 Ly∧zV wr w3.heap.size 86 Q∧Be w wr ∧
   Hid (L.length=n+1∧yO yB L∧Q.length=n-m+1∧yO yB (Q.drop k)∧yC yB L<2^s*yC yB y*yB^k∧2^s*yC yB x=yC yB (Q.drop k)*(2^s*yC yB y)*yB^k+yC yB L)) (fun i _=>(intOf i+1).toNat)
 case atStart=>exact ⟨n-m+1,((n-m:Nat):Int),Lx,List.replicate (n-m+1) 0,Nat.le_refl _,rfl,by omega,hrx4,hry4,hrq,hb4,yA (by
   obtain ⟨x1,x2,x3⟩:=HX.out
   refine ⟨x1,x2,by simp,by rw [List.drop_of_length_le (by simp)];exact yO.nil _,by rw [x3];exact yhO.out,?_⟩
   rw [List.drop_of_length_le (by simp),x3,ynl];simp)⟩
 case round =>
  obtain ⟨k,z',L,Q,hk,rfl,hz',hrL,hrY,hrQ,ygz,yJ⟩:=hrel
  clear hrx4 hry4 hrq hb4
  by_cases h0:k=0
  ·obtain rfl:z'=-1:=by omega
   subst h0
   have yF:Hid (yC yB Q=yC yB x/yC yB y∧yC yB L/2^s=yC yB x%yC yB y∧yO yB Q∧Q.length=n-m+1∧L.length=n+1∧yO yB L):=yA (by
    obtain ⟨i1,i2,i3,i4,i5,i6⟩:=yJ.out
    obtain ⟨d1,d2,d3,d4,-⟩:=HD.out
    rw [List.drop_zero] at i4 i6
    rw [Nat.pow_zero,Nat.mul_one] at i5 i6
    obtain ⟨e1,e2⟩:=ytu d4 d3 i6 i5
    exact ⟨e1,e2,i4,i3,i1,i2⟩)
   have hsb:=ygY w.heap.size (n+1) (n+1) L s wr (by omega) (by omega) hrL yF.out.2.2.2.2.1 yF.out.2.2.2.2.2 hs
   have Hsb:=yA hsb
   clear hsb hz' yJ
   go_wp2_with fail
   refine Hsb.out.mono ?_
   rintro e w5 ⟨L5,rfl,hr5,hl5,hd5,hv5,ho5⟩
   have yuL:zV w5 w3.heap.size 86 Q:=ho5.row hrQ (by omega)
   have hb5:=Only.below ygz ho5 nl
   have ht1:=yab (some ⟨w3.heap.size,0,none⟩) (n-m+1) (n-m+1) Q w5 (by unfold maxLen;omega) nl (yuL.rd0 _ yF.out.2.2.2.1.symm)
   have ht2:=yab (some ⟨w.heap.size,0,none⟩) (n+1) (n+1) L5 w5 (by unfold maxLen;omega) nl (hr5.rd0 _ hl5.symm)
   have Ht1:=yA ht1
   have Ht2:=yA ht2
   have hq1:Hid (∀ e w',ygv (some ⟨w3.heap.size,0,none⟩) (n-m+1) (n-m+1) Q w5 e w'→∃ v,e=.returned v∧w5=w'∧Hid (yI w5 v (yC yB x/yC yB y))):=yA (by
    intro e w' h
    obtain ⟨j,hj,rfl,rfl,ylK,hv⟩:=ydG yF.out.2.2.2.1 yF.out.2.2.1 h
    exact ⟨_,rfl,rfl,yA ⟨_,j,_,_,rfl,by omega,(yuL.rd0 _ yF.out.2.2.2.1.symm).take j hj,ylK,by rw [hv];exact yF.out.1⟩⟩)
   have hq2:Hid (∀ e w',ygv (some ⟨w.heap.size,0,none⟩) (n+1) (n+1) L5 w5 e w'→∃ v,e=.returned v∧w5=w'∧Hid (yI w5 v (yC yB x%yC yB y))):=yA (by
    intro e w' h
    obtain ⟨j,hj,rfl,rfl,ylK,hv⟩:=ydG hl5 hd5 h
    exact ⟨_,rfl,rfl,yA ⟨_,j,_,_,rfl,by omega,(hr5.rd0 _ hl5.symm).take j hj,ylK,by rw [hv,hv5];exact yF.out.2.1⟩⟩)
   clear ht1 ht2 yuL
   go_wp2_with fail
   refine Ht1.out.mono ?_
   intro e w6 h6
   obtain ⟨v6,rfl,rfl,hv6⟩:=hq1.out e w6 h6
   clear h6
   go_wp2_with fail
   refine Ht2.out.mono ?_
   intro e w7 h7
   obtain ⟨v7,rfl,rfl,hv7⟩:=hq2.out e w7 h7
   clear h7
   go_wp2
   go_ret2
   exact ⟨v6,v7,rfl,hv6.out,hv7.out,hb5⟩
  ·obtain ⟨j,rfl⟩:∃ j:Nat,z'=j:=⟨z'.toNat,by omega⟩
   obtain rfl:k=j+1:=by omega
   clear hz' h0
   have hjn:(j:Int)+m≤n:=by omega
   have ypz:Hid ((j+(m+1)≤L.length)∧yO yB (yR L j (m+1))∧yC yB (yR L j (m+1))<yC yB Dl*yB∧L.length=n+1∧Q.length=n-m+1):=yA (by
    obtain ⟨i1,i2,i3,i4,i5,i6⟩:=yJ.out
    have hl:j+(m+1)≤L.length:=by omega
    have h1:=yjS hl yU HD.out.1 i5
    rw [HDl.out.2.1]
    exact ⟨hl,(i2.drop j).take _,h1.2,i1,i3⟩)
   have hrd:Rd wr (some ⟨w2.heap.size,0,none⟩) m Dl:=by
    rw [hDl.out];exact hrY.rd 0 m (by rw [HY.out.1];omega)
   have htm:=yeE w.heap.size j m (n+1-j) L (some ⟨w2.heap.size,0,none⟩) (m+1) Dl wr (by omega) (by omega) ypz.out.1 hrL hrd (.inr fun b o h=>by cases h;omega) ypz.out.2.1 HDl.out.1 HDl.out.2.2.1 ypz.out.2.2.1
   have Htm:=yA htm
   have hjc:¬ n+1=j:=by omega
   clear htm hrd
   go_wp2_with fail
   rw [show j+m+1-j=m+1 from by omega]
   refine Htm.out.mono ?_
   rintro e w5 ⟨L',qd,zQ,hdig',hqB,hqe,yuM,rfl,ho5,hr5⟩
   have hinv':Hid (L'.length=n+1∧yO yB L'∧(Q.set j qd).length=n-m+1∧yO yB ((Q.set j qd).drop j)∧yC yB L'<2^s*yC yB y*yB^j∧2^s*yC yB x=yC yB ((Q.set j qd).drop j)*(2^s*yC yB y)*yB^j+yC yB L'):=yA (by
    obtain ⟨i1,i2,i3,i4,i5,i6⟩:=yJ.out
    obtain ⟨p1,-,-,-,-⟩:=ypz.out
    rw [HDl.out.2.1] at hqe yuM
    obtain ⟨s1,s2⟩:=yrr p1 yU HD.out.1 i5 i2 zQ hqe yuM
    have hjQ:j<(Q.set j qd).length:=by rw [List.length_set];omega
    have hd:(Q.set j qd).drop (j+1)=Q.drop (j+1):=List.drop_set_of_lt (by omega)
    have hg:(Q.set j qd).getD j 0=qd:=by rw [List.getD_eq_getElem?_getD,List.getElem?_set_self (by omega)];rfl
    have hv:=jZ (Q.set j qd) j hjQ
    rw [hd,hg] at hv
    refine ⟨by rw [zQ.length];exact i1,?_,by rw [List.length_set];exact i3,?_,s1,?_⟩
    ·have e1:L'=L'.take j++(yR L' j (m+1)++L'.drop (j+(m+1))):=by
      have h1:L'.drop j=yR L' j (m+1)++L'.drop (j+(m+1)):=by
       rw [← List.drop_drop];exact (List.take_append_drop _ _).symm
      rw [← h1,List.take_append_drop]
     rw [e1,zQ.before,zQ.behind]
     exact (i2.take j).append (hdig'.append (i2.drop _))
    ·rw [List.drop_eq_getElem_cons hjQ,hd]
     have:(Q.set j qd)[j]=qd:=by simp
     rw [this]
     exact (yO.one hqB).append i4
    ·rw [hv];exact yno i6 s2)
   have hY5:zV w5 w2.heap.size 86 Ly:=ho5.row hrY (by omega)
   have hQ5:zV w5 w3.heap.size 86 Q:=ho5.row hrQ (by omega)
   have zS:=hQ5.cell j (by rw [ypz.out.2.2.2.2];omega)
   have vW:=hQ5.free j
   have hb5:=Only.below ygz ho5 nl
   have hL6:∀ u,zV (w5.setCell ⟨w3.heap.size,j,none⟩ u) w.heap.size 86 L':=fun u=>(Below.heap_setCell _ _ _ _ (by simp;omega)).trans hr5
   have hY6:∀ u,zV (w5.setCell ⟨w3.heap.size,j,none⟩ u) w2.heap.size 86 Ly:=fun u=>(Below.heap_setCell _ _ _ _ (by simp;omega)).trans hY5
   have hB6:∀ u,Be w (w5.setCell ⟨w3.heap.size,j,none⟩ u):=fun u=>hb5.setCell (by simp;omega) _
   have HL6:=yA hL6
   have HY6:=yA hY6
   have HB6:=yA hB6
   clear zQ hdig' hqe yuM yJ hL6 hY6 hB6
   go_wp2
   go_roundw
   case rel=>exact ⟨j,(j:Int)-1,L',_,by omega,rfl,by omega,HL6.out _,HY6.out _,hQ5.set _ _,HB6.out _,hinv'⟩
   case measure=>simp [intOf]
theorem ykA (u v:Value) (a b K:Nat) (w:World) (hK:K+2≤yK) (ha:a<yB^K) (hb:b<yB^K) (hb0:0<b) (hu:yI w u a) (hv:yI w v b):Calls Tryz.prog 140 #[u,v] w (yce a b w):=by
 by_cases hlt:a<b
 ·exact yiw u v a b K w (by omega) ha hb hu hv hlt
 ·have hc:=yaQ u v a b K w (by omega) ha hb hu hv
  obtain ⟨p,n,c,x,rfl,h1,h2,h3,h4⟩:=hu
  obtain ⟨q,m,d,y,rfl,g1,g2,g3,g4⟩:=hv
  have hn:=yaj h3 h4 ha h2
  have hmn:m≤n:=by
   have:=yV.length_le g3 h3.1 (by rw [h4,g4];omega)
   rw [h2.len,g2.len] at this;exact this
  subst h4 g4
  have hm0:m≠0:=by
   rintro rfl
   have:y=[]:=List.eq_nil_of_length_eq_zero g2.len
   rw [this] at hb0;simp [yC] at hb0
  by_cases hm1:m=1
  ·subst hm1
   exact yix p n c x q d y w (by omega) h2 g2 h3 g3 hlt (yA hc)
  ·obtain ⟨m',rfl⟩:∃ m',m=m'+2:=⟨m-2,by omega⟩
   exact yiz p n c x q m' d y w (by omega) hmn h2 g2 h3 g3 hlt (yA hc)
def ytv (a b:Nat) (w:World) (e:Ending) (w':World):Prop:=e=.returned (.int .u64 ((Nat.gcd a b:Nat):Int))∧∃ k,w.drewN k=w'
theorem ybN (a b:Nat) (w:World):Calls Tryz.prog 243 #[.int .u64 a,.int .u64 b] w (ytv a b w):=by
 go_in
 go_wp2
 go_loopw [0,1] (fun xv yv wr=>∃ (x y t:Nat),xv=.int .u64 x∧yv=.int .u64 y∧Hid (Nat.gcd x y=Nat.gcd a b)∧wr=w.drewN t) (fun _ yv _=>(intOf yv).toNat)
 case atStart=>exact ⟨a,b,0,rfl,rfl,yA rfl,rfl⟩
 case round =>
  obtain ⟨x,y,t,rfl,rfl,hg,rfl⟩:=hrel
  by_cases h0:y=0
  ·subst h0
   have hx:Hid (Nat.gcd a b=x):=yA (by rw [← hg.out,Nat.gcd_zero_right])
   go_wp2
   go_ret
   exact ⟨by rw [hx.out];rfl,t,rfl⟩
  ·have h1:((y:Int) != 0)=true:=by simpa using h0
   have h2:(1:Int)≤y:=by omega
   have h3:(0:Int)≤x:=by omega
   have hlt:Hid (x%y<y):=yA (Nat.mod_lt _ (by omega))
   have hg':Hid (Nat.gcd y (x%y)=Nat.gcd a b):=yA (by rw [← hg.out,Nat.gcd_comm x y,Nat.gcd_rec y x,Nat.gcd_comm])
   have he:Hid ((x:Int)%y=((x%y:Nat):Int)):=yA (Int.natCast_emod _ _).symm
   clear h0
   go_wp2_with fail
   go_quiet (fail)
   go_wp2
   go_roundw
   case rel=>exact ⟨y,x%y,_,rfl,by rw [he.out],hg',World.drewN_drewN _ _ _⟩
   case measure=>simp only [intOf];rw [he.out];have:=hlt.out;omega
end Go.Proofs.YtgepehlpjpccaaaGreatDoor
namespace Go.Proofs.YtgepehlpjpccaaaGreatDoor
open Go.RowKit Big
theorem yol {l:List Nat} (h:yV yB l) (k:Nat):l.length≤k↔yC yB l<yB^k:=by
 constructor
 ·intro h1
  have h2:=vE l h.1
  have h3:yB^l.length≤yB^k:=Nat.pow_le_pow_right yU h1
  omega
 ·intro h1;exact yjI h rfl h1
def yaV (a b lim:Nat) (w:World) (e:Ending) (w':World):Prop :=
 Be w w' ∧
 (
  (a/Nat.gcd a b<yB^lim∧b/Nat.gcd a b<yB^lim∧∃ v u,e=.returned (.tuple #[v,u,.bool true])∧yI w' v (a/Nat.gcd a b)∧yI w' u (b/Nat.gcd a b)) ∨
  (¬ (a/Nat.gcd a b<yB^lim∧b/Nat.gcd a b<yB^lim)∧e=.returned (.tuple #[.slice none 0 0,.slice none 0 0,.bool false])))
structure Frac (a b lim K X Y T LT U LU:Nat):Prop where
 top:a=T*X+LT*Y
 bot:b=U*X+LU*Y
 gcd:Nat.gcd X Y=Nat.gcd a b
 hX:X<yB^K
 hY:Y<yB^K
 hT:T<yB^lim
 hLT:LT<yB^lim
 hU:U<yB^lim
 hLU:LU<yB^lim
theorem Frac.start {a b lim K:Nat} (ha:a<yB^K) (hb:b<yB^K) (hl:1≤lim):Frac a b lim K a b 1 0 0 1:=by
 have h1:1<yB^lim:=by
  have:yB^1≤yB^lim:=Nat.pow_le_pow_right yU hl
  rw [Nat.pow_one,yS] at this;rw [yS];omega
 exact ⟨by omega,by omega,rfl,ha,hb,h1,by omega,by omega,h1⟩
theorem Frac.done {a b lim K X T LT U LU:Nat} (h:Frac a b lim K X 0 T LT U LU) (hb:0<b):a/Nat.gcd a b=T∧b/Nat.gcd a b=U:=by
 have hg:=h.gcd
 rw [Nat.gcd_zero_right] at hg
 have h1:=h.top
 have h2:=h.bot
 rw [Nat.mul_zero,Nat.add_zero] at h1 h2
 rw [← hg]
 have hX:0<X:=by
  apply Nat.pos_of_ne_zero;rintro rfl;omega
 exact ⟨by rw [h1,Nat.mul_div_cancel _ hX],by rw [h2,Nat.mul_div_cancel _ hX]⟩
theorem Frac.step {a b lim K X Y T LT U LU:Nat} (h:Frac a b lim K X Y T LT U LU):a=(X/Y*T+LT)*Y+T*(X%Y)∧b=(X/Y*U+LU)*Y+U*(X%Y)∧Nat.gcd Y (X%Y)=Nat.gcd a b:=by
 have hx:X=X/Y*Y+X%Y:=(Nat.div_add_mod' X Y).symm
 refine ⟨yha h.top hx,yha h.bot hx,?_⟩
 rw [← h.gcd,Nat.gcd_comm X Y,Nat.gcd_rec Y X,Nat.gcd_comm]
theorem Frac.next {a b lim K X Y T LT U LU:Nat} (h:Frac a b lim K X Y T LT U LU) (hY:0<Y) (h1:X/Y*T+LT<yB^lim) (h2:X/Y*U+LU<yB^lim):Frac a b lim K Y (X%Y) (X/Y*T+LT) T (X/Y*U+LU) U:=by
 obtain ⟨s1,s2,s3⟩:=h.step
 have:=Nat.mod_lt X hY
 have:=h.hY
 exact ⟨s1,s2,s3,h.hY,by omega,h1,h.hT,h2,h.hU⟩
theorem Frac.long {a b lim K X Y T LT U LU:Nat} (h:Frac a b lim K X Y T LT U LU) (hY:0<Y) (hn:¬ (X/Y*T+LT<yB^lim∧X/Y*U+LU<yB^lim)):¬ (a/Nat.gcd a b<yB^lim∧b/Nat.gcd a b<yB^lim):=by
 obtain ⟨s1,s2,s3⟩:=h.step
 have hgY:Nat.gcd a b≤Y:=by rw [← s3];exact Nat.gcd_le_left _ hY
 have hgp:0<Nat.gcd a b:=by rw [← s3];exact Nat.gcd_pos_of_pos_left _ hY
 have key:∀ c V R:Nat,c=V*Y+R→V≤c/Nat.gcd a b:=by
  intro c V R hc
  rw [Nat.le_div_iff_mul_le hgp]
  have:V*Nat.gcd a b≤V*Y:=Nat.mul_le_mul_left _ hgY
  omega
 have k1:=key a _ _ s1
 have k2:=key b _ _ s2
 intro hc;apply hn;omega
theorem yI.len {w:World} {p:Oa} {n c x:Nat} (h:yI w (.slice p n c) x) (k:Nat):n≤k↔x<yB^k:=by
 obtain ⟨p',n',c',l,h1,h2,h3,h4,h5⟩:=h
 cases h1
 rw [← h5,← h3.len];exact yol h4 k
theorem yI.slice {w:World} {v:Value} {x:Nat} (h:yI w v x):∃ p n c,v=.slice p n c:=by
 obtain ⟨p,n,c,l,h1,_⟩:=h;exact ⟨p,n,c,h1⟩
theorem vO {q t l K lim:Nat} (hq:q<yB^K) (ht:t<yB^lim) (hl:l<yB^lim):q*t<yB^(K+lim)∧l<yB^(K+lim):=by
 rw [Nat.pow_add]
 have hK:0<yB^K:=Nat.pow_pos yU
 constructor
 ·exact Nat.mul_lt_mul'' hq ht
 ·have:1*yB^lim≤yB^K*yB^lim:=Nat.mul_le_mul_right _ hK
  omega
theorem ya6 (w:World) (d:Nat) (t:TypeId) (h0:0<d) (hd:d<yB):yI (w.alloc (.cells #[.int .u64 (d:Int)] t)) (.slice (some ⟨w.heap.size,0,none⟩) 1 1) d :=
 ⟨_,1,1,[d],rfl,Nat.le_refl _,yqg w d t,⟨yO.one hd,by simp;omega⟩,by simp [yC]⟩
theorem ykB (u v:Value) (a b lim K:Nat) (w:World) (hK:K+lim≤1073741824) (hlim:1≤lim) (ha:a<yB^K) (hb:b<yB^K) (hb0:0<b) (hu:yI w u a) (hv:yI w v b)
  (hne:∀ p n c q m d,u=.slice p n c→v=.slice q m d→¬ (n=1∧m=1)):Calls Tryz.prog 212 #[u,v,.int .i64 lim] w (yaV a b lim w):=by
 obtain ⟨p,n,c,rfl⟩:=hu.slice
 obtain ⟨q,m,d,rfl⟩:=hv.slice
 have hn1:=hne p n c q m d rfl rfl
 have HK:=yA hK
 clear hne hK
 have yaF:((n:Int)==1)=false∨(((n:Int)==1)=true∧((m:Int)==1)=false):=by
  by_cases h:n=1
  ·subst h;exact .inr ⟨rfl,by rw [beq_eq_false_iff_ne];omega⟩
  ·exact .inl (by rw [beq_eq_false_iff_ne];omega)
 clear hn1
 have hst:Hid (∃ X T LT U LU:Nat,yI ((w.alloc (Obj.cells #[Value.int IntKind.u64 1] 86)).alloc (Obj.cells #[Value.int IntKind.u64 1] 86)) (.slice p n c) X∧yI ((w.alloc (Obj.cells #[Value.int IntKind.u64 1] 86)).alloc (Obj.cells #[Value.int IntKind.u64 1] 86)) (.slice q m d) b ∧
   yI ((w.alloc (Obj.cells #[Value.int IntKind.u64 1] 86)).alloc (Obj.cells #[Value.int IntKind.u64 1] 86)) (.slice (some ⟨w.heap.size,0,none⟩) 1 1) T∧yI ((w.alloc (Obj.cells #[Value.int IntKind.u64 1] 86)).alloc (Obj.cells #[Value.int IntKind.u64 1] 86)) (.slice none 0 0) LT ∧
   yI ((w.alloc (Obj.cells #[Value.int IntKind.u64 1] 86)).alloc (Obj.cells #[Value.int IntKind.u64 1] 86)) (.slice none 0 0) U∧yI ((w.alloc (Obj.cells #[Value.int IntKind.u64 1] 86)).alloc (Obj.cells #[Value.int IntKind.u64 1] 86)) (.slice (some ⟨w.heap.size+1,0,none⟩) 1 1) LU ∧
   Hid (Frac a b lim K X b T LT U LU)∧Be w ((w.alloc (Obj.cells #[Value.int IntKind.u64 1] 86)).alloc (Obj.cells #[Value.int IntKind.u64 1] 86))):=yA (by
  have hb1:Be w (w.alloc (Obj.cells #[Value.int IntKind.u64 1] 86)):=bR.alloc nl _
  have hb2:Below (w.alloc (Obj.cells #[Value.int IntKind.u64 1] 86)).heap.size (w.alloc (Obj.cells #[Value.int IntKind.u64 1] 86)) ((w.alloc (Obj.cells #[Value.int IntKind.u64 1] 86)).alloc (Obj.cells #[Value.int IntKind.u64 1] 86)):=bR.alloc nl _
  have h12:=hb1.trans (hb2.mono (by simp))
  have hB1:1<yB:=by rw [yS];omega
  have n1:=ya6 w 1 86 (by omega) hB1
  have n2:=ya6 (w.alloc (Obj.cells #[Value.int IntKind.u64 1] 86)) 1 86 (by omega) hB1
  rw [World.size_alloc] at n2
  exact ⟨a,1,0,0,1,hu.below h12,hv.below h12,n1.below hb2,yI.zero _,yI.zero _,n2,yA (Frac.start ha hb hlim),h12⟩)
 clear hu hv ha hb
 go_in
 rcases yaF with e1|⟨e1,e2⟩
 all_goals
  go_wp2
  go_loopg [0,1,10,11,12,13] b (fun k xv yv tv ltv uv luv wr=>∃ X T LT U LU:Nat,yI wr xv X∧yI wr yv k∧yI wr tv T∧yI wr ltv LT∧yI wr uv U∧yI wr luv LU∧Hid (Frac a b lim K X k T LT U LU)∧Be w wr)
  case atStart=>exact hst.out
  case round =>
   obtain ⟨X,T,LT,U,LU,hX,hY,hT,hLT,hU,hLU,hF,hB⟩:=hrel
   obtain ⟨px,nx,cx,rfl⟩:=hX.slice
   obtain ⟨py,ny,cy,rfl⟩:=hY.slice
   have HX:=yA hX
   have HY:=yA hY
   have HT:=yA hT
   have HLT:=yA hLT
   have HU:=yA hU
   have HLU:=yA hLU
   clear hX hY hT hLT hU hLU
   by_cases h0:gk=0
   ·subst h0
    have hny:ny=0:=by
     have:=(HY.out.len 0).2 (by simp);omega
    subst hny
    have yF:Hid (∀ tv uv,yI wr tv T→yI wr uv U→yaV a b lim w (.returned (.tuple #[tv,uv,.bool true])) wr):=yA (by
     intro tv uv h1 h2
     obtain ⟨e1,e2⟩:=hF.out.done hb0
     refine ⟨hB,.inl ⟨by rw [e1];exact hF.out.hT,by rw [e2];exact hF.out.hU,tv,uv,rfl,by rw [e1];exact h1,by rw [e2];exact h2⟩⟩)
    go_wp2_with fail
    refine (jS _ _ _ _).mono ?_
    rintro e w1 ⟨rfl,rfl⟩
    go_wp2
    go_ret3
    exact yF.out _ _ HT.out HU.out
   ·have hny:ny≠0:=by
     intro h;apply h0
     have:=(HY.out.len 0).1 (by omega);simp at this;exact this
    have hnz:((ny:Int)==0)=false:=by rw [beq_eq_false_iff_ne];omega
    clear hny
    go_wp2_with fail
    refine (jS _ _ _ _).mono ?_
    rintro e w1 ⟨rfl,rfl⟩
    rw [hnz]
    go_wp2_with fail
    have hdv:Hid (Calls Tryz.prog 140 #[.slice px nx cx,.slice py ny cy] wr (yce X gk wr)):=yA (ykA _ _ X gk K wr (by have:=HK.out;unfold yK;omega) hF.out.hX hF.out.hY (by omega) HX.out HY.out)
    refine hdv.out.mono ?_
    rintro e w2 ⟨vq,vr,rfl,hvq,hvr,hb2⟩
    have hq:Hid (X/gk<yB^K):=yA (Nat.lt_of_le_of_lt (Nat.div_le_self _ _) hF.out.hX)
    obtain ⟨Q,hQ⟩:∃ Q,Hid (Q=X/gk):=⟨_,yA rfl⟩
    obtain ⟨R,hR⟩:∃ R,Hid (R=X%gk):=⟨_,yA rfl⟩
    rw [← hQ.out] at hvq hq
    rw [← hR.out] at hvr
    have hm1:Hid (Calls Tryz.prog 133 #[vq,u10] w2 (jB (Q*T) w2)):=yA (yb3 _ _ Q T (K+lim) w2 (by have:=HK.out;omega)
     (by have:=(vO hq.out hF.out.hT hF.out.hT).2;have h2:yB^K≤yB^(K+lim):=Nat.pow_le_pow_right yU (by omega);have:=hq.out;omega)
     (vO hq.out hF.out.hT hF.out.hT).2 hvq (HT.out.below hb2))
    go_wp2_with fail
    refine hm1.out.mono ?_
    rintro e w3 ⟨v3,rfl,hv3,hb3⟩
    have hm2:Hid (Calls Tryz.prog 138 #[v3,u11] w3 (jB (Q*T+LT) w3)):=yA (yd0 _ _ _ LT (K+lim) w3 (by have:=HK.out;unfold yK;omega)
     (vO hq.out hF.out.hT hF.out.hLT).1 (vO hq.out hF.out.hT hF.out.hLT).2 hv3 ((HLT.out.below hb2).below hb3))
    go_wp2_with fail
    refine hm2.out.mono ?_
    rintro e w4 ⟨v4,rfl,hv4,hb4⟩
    have ypA:Be w2 w4:=tr hb3 hb4
    have hm3:Hid (Calls Tryz.prog 133 #[vq,u12] w4 (jB (Q*U) w4)):=yA (yb3 _ _ Q U (K+lim) w4 (by have:=HK.out;omega)
     (by have:=(vO hq.out hF.out.hU hF.out.hU).2;have h2:yB^K≤yB^(K+lim):=Nat.pow_le_pow_right yU (by omega);have:=hq.out;omega)
     (vO hq.out hF.out.hU hF.out.hU).2 (hvq.below ypA) ((HU.out.below hb2).below ypA))
    go_wp2_with fail
    refine hm3.out.mono ?_
    rintro e w5 ⟨v5,rfl,hv5,hb5⟩
    have ysv:Be w2 w5:=tr ypA hb5
    have hm4:Hid (Calls Tryz.prog 138 #[v5,u13] w5 (jB (Q*U+LU) w5)):=yA (yd0 _ _ _ LU (K+lim) w5 (by have:=HK.out;unfold yK;omega)
     (vO hq.out hF.out.hU hF.out.hLU).1 (vO hq.out hF.out.hU hF.out.hLU).2 hv5 ((HLU.out.below hb2).below ysv))
    go_wp2_with fail
    refine hm4.out.mono ?_
    rintro e w6 ⟨v6,rfl,hv6,hb6⟩
    have ysw:Be w2 w6:=tr ysv hb6
    have ysx:Be w4 w6:=tr hb5 hb6
    have yss:Be w w6:=hB.trans ((tr hb2 ysw).mono hB.size)
    have ysy:Be wr w6:=tr hb2 ysw
    obtain ⟨pt,nt,ct,rfl⟩:=hv4.slice
    obtain ⟨pu,nu,cu,rfl⟩:=hv6.slice
    have hlen1:Hid (nt≤lim↔Q*T+LT<yB^lim):=yA (hv4.len lim)
    have hlen2:Hid (nu≤lim↔Q*U+LU<yB^lim):=yA (hv6.len lim)
    have hNext:Hid (Q*T+LT<yB^lim→Q*U+LU<yB^lim→Frac a b lim K gk R (Q*T+LT) T (Q*U+LU) U):=yA (by
     rw [hQ.out,hR.out];exact fun h1 h2=>hF.out.next (by omega) h1 h2)
    have hLong:Hid (¬ (Q*T+LT<yB^lim∧Q*U+LU<yB^lim)→yaV a b lim w (.returned (.tuple #[.slice none 0 0,.slice none 0 0,.bool false])) w6):=yA (by
     rw [hQ.out];exact fun h=>⟨yss,.inr ⟨hF.out.long (by omega) h,rfl⟩⟩)
    have yuJ:Hid (R<gk):=yA (by rw [hR.out];exact Nat.mod_lt _ (by omega))
    have H1:=yA ((HY.out).below ysy)
    have H2:=yA (hvr.below ysw)
    have H3:=yA (hv4.below ysx)
    have H4:=yA (HT.out.below ysy)
    have H5:=yA hv6
    have H6:=yA (HU.out.below ysy)
    have hfk:(Hid (¬ nt≤lim)∧decide (lim<nt)=true)∨(Hid (nt≤lim)∧decide (lim<nt)=false∧((Hid (¬ nu≤lim)∧decide (lim<nu)=true)∨(Hid (nu≤lim)∧decide (lim<nu)=false))):=by
     by_cases h1:nt≤lim
     ·refine .inr ⟨yA h1,decide_eq_false (by omega),?_⟩
      by_cases h2:nu≤lim
      ·exact .inr ⟨yA h2,decide_eq_false (by omega)⟩
      ·exact .inl ⟨yA h2,decide_eq_true (by omega)⟩
     ·exact .inl ⟨yA h1,decide_eq_true (by omega)⟩
    clear hv3 hv4 hv5 hv6 hvq hvr hb2 hb3 hb4 hb5 hb6 ypA ysv ysw ysx ysy h0 hB
    rcases hfk with ⟨f1,f2⟩|⟨f1,f2,⟨f3,f4⟩|⟨f3,f4⟩⟩
    ·go_wp2
     go_ret3
     exact hLong.out (fun h=>f1.out (hlen1.out.2 h.1))
    ·go_wp2
     go_ret3
     exact hLong.out (fun h=>f3.out (hlen2.out.2 h.2))
    ·go_wp2_with fail
     go_roundg R
     case measure=>exact yuJ.out
     case rel=>exact ⟨gk,Q*T+LT,T,Q*U+LU,U,H1.out,H2.out,H3.out,H4.out,H5.out,H6.out,yA (hNext.out (hlen1.out.1 f1.out) (hlen2.out.1 f3.out)),yss⟩
theorem yiA (p q:Oa) (c d a b lim:Nat) (w:World) (hlim:1≤lim) (hu:yI w (.slice p 1 c) a) (hv:yI w (.slice q 1 d) b):Calls Tryz.prog 212 #[.slice p 1 c,.slice q 1 d,.int .i64 lim] w (yaV a b lim w):=by
 obtain ⟨p',n',c',x,h1,h2,h3,h4,h5⟩:=hu
 obtain ⟨q',m',d',y,g1,g2,g3,g4,g5⟩:=hv
 cases h1
 cases g1
 obtain ⟨bx,ox,a',rfl,hbx,hcx,hax⟩:=h3.at (k:=0) (by omega)
 obtain ⟨by',oy,b',rfl,hby,hcy,hay⟩:=g3.at (k:=0) (by omega)
 obtain ⟨a0,hx⟩:=yfL h3.len
 obtain ⟨b0,hy⟩:=yfL g3.len
 subst hx hy
 have ea:a0=a':=hax.out
 have eb:b0=b':=hay.out
 subst ea eb
 have ea:a0=a:=by rw [← h5];simp [yC]
 have eb:b0=b:=by rw [← g5];simp [yC]
 subst ea eb
 have ha0:0<a0:=by have:=h4.2;simp at this;omega
 have hb0:0<b0:=by have:=g4.2;simp at this;omega
 have haB:a0<yB:=h4.1 _ (by simp)
 have hbB:b0<yB:=g4.1 _ (by simp)
 have ysz:=fun W=>ybN a0 b0 W
 have hg0:0<Nat.gcd a0 b0:=Nat.gcd_pos_of_pos_left _ ha0
 obtain ⟨g,hg⟩:∃ g,Hid (g=Nat.gcd a0 b0):=⟨_,yA rfl⟩
 have hgg:∀ W,Calls Tryz.prog 243 #[.int .u64 a0,.int .u64 b0] W fun e w'=>e=.returned (.int .u64 ((g:Nat):Int))∧∃ k,W.drewN k=w':=fun W=>by rw [hg.out];exact ybN a0 b0 W
 rw [← hg.out] at hg0
 have Hgg:=yA hgg
 obtain ⟨qa,hqa⟩:∃ qa,Hid (qa=a0/g):=⟨_,yA rfl⟩
 obtain ⟨qb,hqb⟩:∃ qb,Hid (qb=b0/g):=⟨_,yA rfl⟩
 have ea:(a0:Int)/g=(qa:Int):=by rw [hqa.out];exact (Int.natCast_ediv _ _).symm
 have eb:(b0:Int)/g=(qb:Int):=by rw [hqb.out];exact (Int.natCast_ediv _ _).symm
 have wa:IntKind.u64.wrap (qa:Int)=qa:=jP _ (by rw [hqa.out];have:=Nat.div_le_self a0 g;omega)
 have wb:IntKind.u64.wrap (qb:Int)=qb:=jP _ (by rw [hqb.out];have:=Nat.div_le_self b0 g;omega)
 have hx0:∀ k,(w.drewN k).cell? ⟨bx,ox,none⟩=some (.int .u64 (a0:Int)):=fun k=>hcx
 have hy0:∀ k,(w.drewN k).cell? ⟨by',oy,none⟩=some (.int .u64 (b0:Int)):=fun k=>hcy
 have hx1:∀ k o,((w.drewN k).alloc o).cell? ⟨bx,ox,none⟩=some (.int .u64 (a0:Int)):=fun k o=>(((Below.refl _ (w.drewN k)).alloc nl o).cell (p:=⟨bx,ox,none⟩) hbx).trans hcx
 have hy1:∀ k o,((w.drewN k).alloc o).cell? ⟨by',oy,none⟩=some (.int .u64 (b0:Int)):=fun k o=>(((Below.refl _ (w.drewN k)).alloc nl o).cell (p:=⟨by',oy,none⟩) hby).trans hcy
 have hgne:¬ g=0:=by omega
 have i1:(1:Int)≤g:=by omega
 have i2:(0:Int)≤a0:=by omega
 have i3:(0:Int)≤b0:=by omega
 have ylr:0<qa:=by rw [hqa.out,hg.out];exact Nat.div_pos (Nat.gcd_le_left _ ha0) (by rw [← hg.out];exact hg0)
 have yls:0<qb:=by rw [hqb.out,hg.out];exact Nat.div_pos (Nat.gcd_le_right _ hb0) (by rw [← hg.out];exact hg0)
 have yuN:qa<yB:=by rw [hqa.out];have:=Nat.div_le_self a0 g;omega
 have yuO:qb<yB:=by rw [hqb.out];have:=Nat.div_le_self b0 g;omega
 have yjj:yB≤yB^lim:=by
  have:=Nat.pow_le_pow_right yU hlim
  rwa [Nat.pow_one] at this
 have hf:∀ v u w',Be w w'→yI w' v qa→yI w' u qb→yaV a0 b0 lim w (.returned (.tuple #[v,u,.bool true])) w':=by
  intro v u w' k1 k2 k3
  have e1:a0/Nat.gcd a0 b0=qa:=by rw [hqa.out,hg.out]
  have e2:b0/Nat.gcd a0 b0=qb:=by rw [hqb.out,hg.out]
  exact ⟨k1,.inl ⟨by rw [e1];omega,by rw [e2];omega,v,u,rfl,by rw [e1];exact k2,by rw [e2];exact k3⟩⟩
 have hbb:∀ k (o1 o2:Obj),Be w (((w.drewN k).alloc o1).alloc o2):=fun k o1 o2 =>
  ((yG w.heap.size w k).alloc nl o1).alloc (by simp) o2
 have hab:∀ (W:World) (o:Obj),Be W (W.alloc o):=fun W o=>bR.alloc nl o
 have hfin1:Hid (∀ k,yaV a0 b0 lim w (.returned (.tuple #[.slice (some ⟨w.heap.size,0,none⟩) 1 1,.slice (some ⟨w.heap.size+1,0,none⟩) 1 1,.bool true])) (((w.drewN k).alloc (.cells #[.int .u64 (qa:Int)] 86)).alloc (.cells #[.int .u64 (qb:Int)] 86))):=yA (by
  intro k
  have n1:=ya6 (w.drewN k) qa 86 ylr yuN
  have n2:=ya6 ((w.drewN k).alloc (.cells #[.int .u64 (qa:Int)] 86)) qb 86 yls yuO
  rw [World.size_alloc] at n2
  exact hf _ _ _ (hbb _ _ _) (n1.below (hab _ _)) n2)
 have hfin2:Hid (∀ k,yaV a0 b0 lim w (.returned (.tuple #[.slice (some ⟨w.heap.size+1,0,none⟩) 1 1,.slice (some ⟨w.heap.size,0,none⟩) 1 1,.bool true])) (((w.drewN k).alloc (.cells #[.int .u64 (qb:Int)] 86)).alloc (.cells #[.int .u64 (qa:Int)] 86))):=yA (by
  intro k
  have n1:=ya6 (w.drewN k) qb 86 yls yuO
  have n2:=ya6 ((w.drewN k).alloc (.cells #[.int .u64 (qb:Int)] 86)) qa 86 ylr yuN
  rw [World.size_alloc] at n2
  exact hf _ _ _ (hbb _ _ _) n2 (n1.below (hab _ _)))
 clear ylr yls yuN yuO yjj hf hbb hab
 clear ysz hgg h2 g2 h3 g3 h4 g4 h5 g5 hax hay haB hbB ha0 hb0 hg0
 go_in
 go_wp2_with fail
 go_quiet ((go_at_call 243;exact Calls.quiet_of ((Hgg.out _).mono fun _ _ h=>⟨h.1,h.2.elim fun k hk=>⟨k,hk.symm⟩⟩)))
 go_wp2_with fail
 go_region
 ·go_wp2
  go_ret3
  exact hfin1.out _
 ·go_wp2
  go_ret3
  exact hfin2.out _
theorem ymf (u v:Value) (a b lim K:Nat) (w:World) (hK:K+lim≤1073741824) (hlim:1≤lim) (ha:a<yB^K) (hb:b<yB^K) (hb0:0<b) (hu:yI w u a) (hv:yI w v b):Calls Tryz.prog 212 #[u,v,.int .i64 lim] w (yaV a b lim w):=by
 obtain ⟨p,n,c,rfl⟩:=hu.slice
 obtain ⟨q,m,d,rfl⟩:=hv.slice
 by_cases h:n=1∧m=1
 ·obtain ⟨rfl,rfl⟩:=h
  exact yiA p q c d a b lim w hlim hu hv
 ·refine ykB _ _ a b lim K w hK hlim ha hb hb0 hu hv ?_
  intro p' n' c' q' m' d' h1 h2 h3
  cases h1;cases h2;exact h h3
def ymg (s:Bool) (n:Nat) (u v:Value) (w:World) (e:Ending) (w':World):Prop :=
 e=.returned (.agg #[.bool (s&&!((n:Int)==0)),u,v])∧Be w w'
theorem ymh (s:Bool) (p q:Oa) (n c m d:Nat) (w:World) :
  Calls Tryz.prog 132 #[.bool s,.slice p n c,.slice q m d] w (ymg s n (.slice p n c) (.slice q m d) w):=by
 cases s with
 | false =>
  go_in
  go_wp2
  refine bodyPost_ret (v:=.agg #[.bool false,.slice p n c,.slice q m d]) (by simp [results,Tryz.results132,go_sem]) rfl ?_
  exact ⟨rfl,bR.alloc nl _⟩
 | true =>
  go_in
  go_wp2_with fail
  refine (jS _ _ _ _).mono ?_
  rintro e w1 ⟨rfl,rfl⟩
  go_wp2
  refine bodyPost_ret (v:=.agg #[.bool (!((n:Int)==0)),.slice p n c,.slice q m d]) (by simp [results,Tryz.results132,go_sem]) rfl ?_
  exact ⟨rfl,bR.alloc nl _⟩
def vM (w:World) (x:Value) (s:Bool) (a b:Nat):Prop:=∃ u v,x=.agg #[.bool s,u,v]∧yI w u a∧yI w v b∧(s=true→0<a)
theorem vM.below {w w':World} {x:Value} {s:Bool} {a b:Nat} (h:vM w x s a b) (hb:Be w w'):vM w' x s a b:=by
 obtain ⟨u,v,h1,h2,h3,h4⟩:=h
 exact ⟨u,v,h1,h2.below hb,h3.below hb,h4⟩
theorem jF {w:World} {p:Oa} {n c x:Nat} (h:yI w (.slice p n c) x):n=0↔x=0:=by
 have:=h.len 0
 rw [Nat.pow_zero] at this
 omega
theorem uZ (s:Bool) (u v:Value) (a b:Nat) (w:World) (hu:yI w u a) (hv:yI w v b) :
  Calls Tryz.prog 132 #[.bool s,u,v] w (Rp (.agg #[.bool (s&&!(a==0)),u,v]) w):=by
 obtain ⟨p,n,c,rfl⟩:=hu.slice
 obtain ⟨q,m,d,rfl⟩:=hv.slice
 refine (ymh s p q n c m d w).mono ?_
 rintro e w' ⟨rfl,hb⟩
 refine ⟨?_,hb⟩
 have:=jF hu
 have e:(((n:Int)==0):Bool)=(a==0):=by
  rw [Bool.eq_iff_iff,beq_iff_eq,beq_iff_eq];omega
 rw [e]
def ydS (s:Bool) (a b:Nat) (w:World) (e:Ending) (w':World):Prop:=∃ x,e=.returned x∧vM w' x (s&&!(a==0)) a b∧Be w w'
def vU (v:Value):Prop:=∀ k n,v≠.int k n
theorem zI (b:Bool):vU (.bool b):=fun _ _ h=>by cases h
theorem yW (p:Oa) (n c:Nat):vU (.slice p n c):=fun _ _ h=>by cases h
structure Two (B:Nat) (s:Bool) (u1 v1:Value) (t:Bool) (u2 v2:Value) (w0 W:World):Prop where
 size:B+3≤W.heap.size
 below:Be w0 W
 x:W.heap[B]?=some (.cells #[.bool s,u1,v1] 98 (0,0))
 y:W.heap[B+1]?=some (.cells #[.bool t,u2,v2] 98 (0,0))
 z:∃ z0 z1 z2,W.heap[B+1+1]?=some (.cells #[z0,z1,z2] 98 (0,0))∧vU z0∧vU z1∧vU z2
variable {B : Nat} {s : Bool} {u1 v1 : Value} {t : Bool} {u2 v2 : Value} {w0 W W' : World}
theorem Two.next (h:Two B s u1 v1 t u2 v2 w0 W) (hb:Be W W'):Two B s u1 v1 t u2 v2 w0 W':=by
 have hs:=h.size
 exact ⟨Nat.le_trans hs hb.size,tr h.below hb,(hb.block _ (by omega)).trans h.x,(hb.block _ (by omega)).trans h.y,h.z.elim fun z0 k=>k.elim fun z1 k=>k.elim fun z2 k=>⟨z0,z1,z2,(hb.block _ (by omega)).trans k.1,k.2⟩⟩
theorem Two.drew (h:Two B s u1 v1 t u2 v2 w0 W):Two B s u1 v1 t u2 v2 w0 W.drew:=⟨h.size,h.below.drew,h.x,h.y,h.z⟩
theorem zG (W:World) (o:Obj):(W.alloc o).heap[W.heap.size]?=some o:=by show (W.heap.push _)[_]?=_;simp
theorem yaH (W:World) (o:Obj) (b:Nat) (h:b<W.heap.size):(W.alloc o).heap[b]?=W.heap[b]?:=Below.heap_alloc _ _ _ h
theorem Two.start (w:World) (s:Bool) (u1 v1:Value) (t:Bool) (u2 v2:Value) :
  Two w.heap.size s u1 v1 t u2 v2 w (((w.alloc (.cells #[.bool s,u1,v1] 98)).alloc (.cells #[.bool t,u2,v2] 98)).alloc (.cells #[.bool false,.slice none 0 0,.slice none 0 0] 98)):=by
 have hb:∀ (W:World) (o:Obj),Be W (W.alloc o):=fun W o=>bR.alloc nl o
 refine ⟨by simp,((hb _ _).trans ((hb _ _).mono (by simp))).trans ((hb _ _).mono (by simp;omega)),?_,?_,⟨.bool false,.slice none 0 0,.slice none 0 0,?_,zI _,yW _ _ _,yW _ _ _⟩⟩
 ·rw [yaH _ _ _ (by simp;omega),yaH _ _ _ (by simp),zG]
 ·rw [yaH _ _ _ (by simp),show w.heap.size+1=(w.alloc (.cells #[.bool s,u1,v1] 98)).heap.size from by simp,zG]
 ·rw [show w.heap.size+1+1=((w.alloc (.cells #[.bool s,u1,v1] 98)).alloc (.cells #[.bool t,u2,v2] 98)).heap.size from by simp,zG]
theorem zW {b:Nat} {c:Array Value} {T:TypeId} (h:W.heap[b]?=some (.cells c T (0,0))) (i:Nat):W.cell? ⟨b,i,none⟩=c[i]?:=by
 unfold World.cell?;rw [h];rfl
theorem GX {b:Nat} {c:Array Value} {T:TypeId} (h:W.heap[b]?=some (.cells c T (0,0))) (i:Nat):W.frozen? ⟨b,i,none⟩=false:=by
 unfold World.frozen?;rw [h];simp
theorem Two.all (h:Two B s u1 v1 t u2 v2 w0 W):Two B s u1 v1 t u2 v2 w0 W∧W.cell? ⟨B,0,none⟩=some (.bool s)∧W.cell? ⟨B,1,none⟩=some u1∧W.cell? ⟨B,2,none⟩=some v1 ∧
  W.cell? ⟨B+1,0,none⟩=some (.bool t)∧W.cell? ⟨B+1,1,none⟩=some u2∧W.cell? ⟨B+1,2,none⟩=some v2 :=
 ⟨h,zW h.x 0,zW h.x 1,zW h.x 2,zW h.y 0,zW h.y 1,zW h.y 2⟩
theorem Two.slots (h:Two B s u1 v1 t u2 v2 w0 W):∃ z0 z1 z2,W.cell? ⟨B+1+1,0,none⟩=some z0∧W.cell? ⟨B+1+1,1,none⟩=some z1∧W.cell? ⟨B+1+1,2,none⟩=some z2 ∧
  W.frozen? ⟨B+1+1,0,none⟩=false∧W.frozen? ⟨B+1+1,1,none⟩=false∧W.frozen? ⟨B+1+1,2,none⟩=false:=by
 obtain ⟨z0,z1,z2,hz,-⟩:=h.z
 exact ⟨z0,z1,z2,zW hz 0,zW hz 1,zW hz 2,GX hz 0,GX hz 1,GX hz 2⟩
theorem jU (g k:Nat) (c:Array Value) (T:TypeId) (v:Value) (h:W.heap[g]?=some (.cells c T (0,0))):(W.setCell ⟨g,k,none⟩ v).heap[g]?=some (.cells (c.setIfInBounds k v) T (0,0)):=by
 have hlt:=(Array.getElem?_eq_some_iff.1 h).1
 have hv:=(Array.getElem?_eq_some_iff.1 h).2
 unfold World.setCell
 rw [Array.getElem?_eq_getElem (by simpa using hlt),Array.getElem_modify]
 simp [hv]
theorem Two.put1 (h:Two B s u1 v1 t u2 v2 w0 W) (hB:w0.heap.size≤B) (k:Nat) (hk:k<3) (a:Value) (ha:vU a):Two B s u1 v1 t u2 v2 w0 (W.setCell ⟨B+1+1,k,none⟩ a):=by
 obtain ⟨z0,z1,z2,hz,n0,n1,n2⟩:=h.z
 refine ⟨by rw [World.size_setCell];exact h.size,h.below.setCell (by simp;omega) _,(Below.heap_setCell _ _ _ _ (by simp;omega)).trans h.x,(Below.heap_setCell _ _ _ _ (by simp)).trans h.y,?_⟩
 have h1:=jU (B+1+1) k _ 98 a hz
 match k,hk with
 | 0,_=>exact ⟨_,_,_,h1,ha,n1,n2⟩
 | 1,_=>exact ⟨_,_,_,h1,n0,ha,n2⟩
 | 2,_=>exact ⟨_,_,_,h1,n0,n1,ha⟩
theorem Two.put3 (h:Two B s u1 v1 t u2 v2 w0 W) (hB:w0.heap.size≤B) (a:Bool) (p q:Oa) (n c m d:Nat):Two B s u1 v1 t u2 v2 w0 (((W.setCell ⟨B+1+1,0,none⟩ (.bool a)).setCell ⟨B+1+1,1,none⟩ (.slice p n c)).setCell ⟨B+1+1,2,none⟩ (.slice q m d)) :=
 ((h.put1 hB 0 (by omega) _ (zI _)).put1 hB 1 (by omega) _ (yW _ _ _)).put1 hB 2 (by omega) _ (yW _ _ _)
theorem Two.rd (h:Two B s u1 v1 t u2 v2 w0 W) {p:Oa} {n:Nat} {l:List Nat} (hr:Rd W p n l) (k:Nat) (a:Value):Rd (W.setCell ⟨B+1+1,k,none⟩ a) p n l:=by
 refine ⟨hr.len,?_⟩
 rcases hr.cell with h0|⟨b,off,hp,hlt,hc⟩
 ·exact .inl h0
 ·by_cases hn:n=0
  ·exact .inl hn
  refine .inr ⟨b,off,hp,by rw [World.size_setCell];exact hlt,fun j hj=>?_⟩
  have hne:b≠B+1+1:=by
   rintro rfl
   obtain ⟨z0,z1,z2,hz,n0,n1,n2⟩:=h.z
   have h1:=hc 0 (by omega)
   rw [zW hz] at h1
   match yuP:off+0,h1 with
   | 0,h1=>simp at h1;exact n0 _ _ h1
   | 1,h1=>simp at h1;exact n1 _ _ h1
   | 2,h1=>simp at h1;exact n2 _ _ h1
   | k+3,h1=>simp at h1
  rw [← hc j hj]
  exact World.cell?_of_block (w:=W) (Below.heap_setCell _ _ _ _ hne)
theorem Two.nat1 (h:Two B s u1 v1 t u2 v2 w0 W) {v:Value} {x:Nat} (hx:yI W v x) (k:Nat) (a:Value):yI (W.setCell ⟨B+1+1,k,none⟩ a) v x:=by
 obtain ⟨p,n,c,l,h1,h2,h3,h4⟩:=hx
 exact ⟨p,n,c,l,h1,h2,h.rd h3 k a,h4⟩
theorem Two.nat3 (h:Two B s u1 v1 t u2 v2 w0 W) (hB:w0.heap.size≤B) {v:Value} {x:Nat} (hx:yI W v x) (a:Bool) (p q:Oa) (n c m d:Nat):yI (((W.setCell ⟨B+1+1,0,none⟩ (.bool a)).setCell ⟨B+1+1,1,none⟩ (.slice p n c)).setCell ⟨B+1+1,2,none⟩ (.slice q m d)) v x :=
 ((h.put1 hB 0 (by omega) _ (zI _)).put1 hB 1 (by omega) _ (yW _ _ _)).nat1 ((h.put1 hB 0 (by omega) _ (zI _)).nat1 (h.nat1 hx _ _) _ _) _ _
end Go.Proofs.YtgepehlpjpccaaaGreatDoor
namespace Big
open Go.Proofs.YtgepehlpjpccaaaGreatDoor
def yX (s:Bool) (a b:Nat):Rat:=(if s then -(a:Rat) else (a:Rat))/(b:Rat)
end Big
namespace Go.Proofs.YtgepehlpjpccaaaGreatDoor
open Go.RowKit Big
structure One (B:Nat) (s:Bool) (u1 v1:Value) (w0 W:World):Prop where
 size:B+2≤W.heap.size
 below:Be w0 W
 x:W.heap[B]?=some (.cells #[.bool s,u1,v1] 98 (0,0))
 z:∃ z0 z1 z2,W.heap[B+1]?=some (.cells #[z0,z1,z2] 98 (0,0))∧vU z0∧vU z1∧vU z2
section
variable {B : Nat} {s : Bool} {u1 v1 : Value} {w0 W W' : World}
theorem One.next (h:One B s u1 v1 w0 W) (hb:Be W W'):One B s u1 v1 w0 W':=by
 have hs:=h.size
 exact ⟨Nat.le_trans hs hb.size,tr h.below hb,(hb.block _ (by omega)).trans h.x,h.z.elim fun z0 k=>k.elim fun z1 k=>k.elim fun z2 k=>⟨z0,z1,z2,(hb.block _ (by omega)).trans k.1,k.2⟩⟩
theorem One.start (w:World) (s:Bool) (u1 v1:Value):One w.heap.size s u1 v1 w ((w.alloc (.cells #[.bool s,u1,v1] 98)).alloc (.cells #[.bool false,.slice none 0 0,.slice none 0 0] 98)):=by
 have hb:∀ (W:World) (o:Obj),Be W (W.alloc o):=fun W o=>bR.alloc nl o
 refine ⟨by simp,(hb _ _).trans ((hb _ _).mono (by simp)),?_,⟨.bool false,.slice none 0 0,.slice none 0 0,?_,zI _,yW _ _ _,yW _ _ _⟩⟩
 ·rw [yaH _ _ _ (by simp),zG]
 ·rw [show w.heap.size+1=(w.alloc (.cells #[.bool s,u1,v1] 98)).heap.size from by simp,zG]
theorem One.cells (h:One B s u1 v1 w0 W):W.cell? ⟨B,0,none⟩=some (.bool s)∧W.cell? ⟨B,1,none⟩=some u1∧W.cell? ⟨B,2,none⟩=some v1:=⟨zW h.x 0,zW h.x 1,zW h.x 2⟩
theorem One.slots (h:One B s u1 v1 w0 W):∃ z0 z1 z2,W.cell? ⟨B+1,0,none⟩=some z0∧W.cell? ⟨B+1,1,none⟩=some z1∧W.cell? ⟨B+1,2,none⟩=some z2 ∧
  W.frozen? ⟨B+1,0,none⟩=false∧W.frozen? ⟨B+1,1,none⟩=false∧W.frozen? ⟨B+1,2,none⟩=false:=by
 obtain ⟨z0,z1,z2,hz,-⟩:=h.z
 exact ⟨z0,z1,z2,zW hz 0,zW hz 1,zW hz 2,GX hz 0,GX hz 1,GX hz 2⟩
theorem One.put1 (h:One B s u1 v1 w0 W) (hB:w0.heap.size≤B) (k:Nat) (hk:k<3) (a:Value) (ha:vU a):One B s u1 v1 w0 (W.setCell ⟨B+1,k,none⟩ a):=by
 obtain ⟨z0,z1,z2,hz,n0,n1,n2⟩:=h.z
 refine ⟨by rw [World.size_setCell];exact h.size,h.below.setCell (by simp;omega) _,(Below.heap_setCell _ _ _ _ (by simp)).trans h.x,?_⟩
 have h1:=jU (B+1) k _ 98 a hz
 match k,hk with
 | 0,_=>exact ⟨_,_,_,h1,ha,n1,n2⟩
 | 1,_=>exact ⟨_,_,_,h1,n0,ha,n2⟩
 | 2,_=>exact ⟨_,_,_,h1,n0,n1,ha⟩
theorem One.put3 (h:One B s u1 v1 w0 W) (hB:w0.heap.size≤B) (a:Bool) (p q:Oa) (n c m d:Nat):One B s u1 v1 w0 (((W.setCell ⟨B+1,0,none⟩ (.bool a)).setCell ⟨B+1,1,none⟩ (.slice p n c)).setCell ⟨B+1,2,none⟩ (.slice q m d)) :=
 ((h.put1 hB 0 (by omega) _ (zI _)).put1 hB 1 (by omega) _ (yW _ _ _)).put1 hB 2 (by omega) _ (yW _ _ _)
theorem ynp {g:Nat} {z0 z1 z2:Value} (hz:W.heap[g]?=some (.cells #[z0,z1,z2] 98 (0,0))) (n0:vU z0) (n1:vU z1) (n2:vU z2) {v:Value} {x:Nat} (hx:yI W v x) (k:Nat) (a:Value):yI (W.setCell ⟨g,k,none⟩ a) v x:=by
 obtain ⟨p,n,c,l,h1,h2,hr,h4⟩:=hx
 refine ⟨p,n,c,l,h1,h2,⟨hr.len,?_⟩,h4⟩
 rcases hr.cell with h0|⟨b,off,hp,hlt,hc⟩
 ·exact .inl h0
 ·by_cases hn:n=0
  ·exact .inl hn
  refine .inr ⟨b,off,hp,by rw [World.size_setCell];exact hlt,fun j hj=>?_⟩
  have hne:b≠g:=by
   rintro rfl
   have h1:=hc 0 (by omega)
   rw [zW hz] at h1
   match yuP:off+0,h1 with
   | 0,h1=>simp at h1;exact n0 _ _ h1
   | 1,h1=>simp at h1;exact n1 _ _ h1
   | 2,h1=>simp at h1;exact n2 _ _ h1
   | k+3,h1=>simp at h1
  rw [← hc j hj]
  exact World.cell?_of_block (w:=W) (Below.heap_setCell _ _ _ _ hne)
theorem One.nat1 (h:One B s u1 v1 w0 W) {v:Value} {x:Nat} (hx:yI W v x) (k:Nat) (a:Value):yI (W.setCell ⟨B+1,k,none⟩ a) v x:=by
 obtain ⟨z0,z1,z2,hz,n0,n1,n2⟩:=h.z
 exact ynp hz n0 n1 n2 hx k a
theorem One.nat3 (h:One B s u1 v1 w0 W) (hB:w0.heap.size≤B) {v:Value} {x:Nat} (hx:yI W v x) (a:Bool) (p q:Oa) (n c m d:Nat):yI (((W.setCell ⟨B+1,0,none⟩ (.bool a)).setCell ⟨B+1,1,none⟩ (.slice p n c)).setCell ⟨B+1,2,none⟩ (.slice q m d)) v x :=
 ((h.put1 hB 0 (by omega) _ (zI _)).put1 hB 1 (by omega) _ (yW _ _ _)).nat1 ((h.put1 hB 0 (by omega) _ (zI _)).nat1 (h.nat1 hx _ _) _ _) _ _
end
structure Res (B:Nat) (w0 W:World):Prop where
 size:B+1≤W.heap.size
 below:Be w0 W
 z:∃ z0 z1 z2,W.heap[B]?=some (.cells #[z0,z1,z2] 98 (0,0))∧vU z0∧vU z1∧vU z2
section
variable {B : Nat} {w0 W W' : World}
theorem Res.next (h:Res B w0 W) (hb:Be W W'):Res B w0 W':=by
 have hs:=h.size
 exact ⟨Nat.le_trans hs hb.size,tr h.below hb,h.z.elim fun z0 k=>k.elim fun z1 k=>k.elim fun z2 k=>⟨z0,z1,z2,(hb.block _ (by omega)).trans k.1,k.2⟩⟩
theorem Res.slots (h:Res B w0 W):∃ z0 z1 z2,W.cell? ⟨B,0,none⟩=some z0∧W.cell? ⟨B,1,none⟩=some z1∧W.cell? ⟨B,2,none⟩=some z2∧W.frozen? ⟨B,0,none⟩=false∧W.frozen? ⟨B,1,none⟩=false∧W.frozen? ⟨B,2,none⟩=false:=by
 obtain ⟨z0,z1,z2,hz,-⟩:=h.z
 exact ⟨z0,z1,z2,zW hz 0,zW hz 1,zW hz 2,GX hz 0,GX hz 1,GX hz 2⟩
theorem Res.put1 (h:Res B w0 W) (hB:w0.heap.size≤B) (k:Nat) (hk:k<3) (a:Value) (ha:vU a):Res B w0 (W.setCell ⟨B,k,none⟩ a):=by
 obtain ⟨z0,z1,z2,hz,n0,n1,n2⟩:=h.z
 refine ⟨by rw [World.size_setCell];exact h.size,h.below.setCell (by simp;omega) _,?_⟩
 have h1:=jU B k _ 98 a hz
 match k,hk with
 | 0,_=>exact ⟨_,_,_,h1,ha,n1,n2⟩
 | 1,_=>exact ⟨_,_,_,h1,n0,ha,n2⟩
 | 2,_=>exact ⟨_,_,_,h1,n0,n1,ha⟩
theorem Res.put3 (h:Res B w0 W) (hB:w0.heap.size≤B) (a:Bool) (p q:Oa) (n c m d:Nat):Res B w0 (((W.setCell ⟨B,0,none⟩ (.bool a)).setCell ⟨B,1,none⟩ (.slice p n c)).setCell ⟨B,2,none⟩ (.slice q m d)) :=
 ((h.put1 hB 0 (by omega) _ (zI _)).put1 hB 1 (by omega) _ (yW _ _ _)).put1 hB 2 (by omega) _ (yW _ _ _)
theorem Res.nat1 (h:Res B w0 W) {v:Value} {x:Nat} (hx:yI W v x) (k:Nat) (a:Value):yI (W.setCell ⟨B,k,none⟩ a) v x:=by
 obtain ⟨z0,z1,z2,hz,n0,n1,n2⟩:=h.z
 exact ynp hz n0 n1 n2 hx k a
theorem Res.nat3 (h:Res B w0 W) (hB:w0.heap.size≤B) {v:Value} {x:Nat} (hx:yI W v x) (a:Bool) (p q:Oa) (n c m d:Nat):yI (((W.setCell ⟨B,0,none⟩ (.bool a)).setCell ⟨B,1,none⟩ (.slice p n c)).setCell ⟨B,2,none⟩ (.slice q m d)) v x :=
 ((h.put1 hB 0 (by omega) _ (zI _)).put1 hB 1 (by omega) _ (yW _ _ _)).nat1 ((h.put1 hB 0 (by omega) _ (zI _)).nat1 (h.nat1 hx _ _) _ _) _ _
theorem Res.start (w:World):Res w.heap.size w (w.alloc (.cells #[.bool false,.slice none 0 0,.slice none 0 0] 98)) :=
 ⟨by simp,bR.alloc nl _,.bool false,.slice none 0 0,.slice none 0 0,zG _ _,zI _,yW _ _ _,yW _ _ _⟩
end
theorem bea (W:World) (o:Obj):Be W (W.alloc o):=bR.alloc nl o
end Go.Proofs.YtgepehlpjpccaaaGreatDoor
