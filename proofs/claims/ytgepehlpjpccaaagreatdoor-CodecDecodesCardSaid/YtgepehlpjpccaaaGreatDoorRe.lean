/- Contracts. -/
import Derived.Test.YtgepehlpjpccaaaGreatDoorRd
set_option maxHeartbeats 3200000
set_option maxRecDepth 100000
namespace Go.Proofs.YtgepehlpjpccaaaGreatDoor
open Go.RowKit Big
theorem yE.dr {w:World} {v:Value} {x:Nat} (h:yE w v x):yE w.drew v x:=h.below bR.drew
theorem yow (x y:Value) (a b:Rat) (K L:Nat) (w:World) (hK:K+L+1≤900000) (hab:QLt K a) (hbb:QLt L b) (hx:uH w x a) (hy:uH w y b) (hst:decide (a.num<0)=decide (b.num<0)):Calls Tryz.prog 32 #[x,y] w (yae (a+b) w):=by
 have yjl:Hid (∀ W,Be w W→Calls Tryz.prog 71 #[x] W (yct a.den W)):=yA fun W hW=>ycY x a W (hx.below hW)
 have yjm:Hid (∀ W,Be w W→Calls Tryz.prog 71 #[y] W (yct b.den W)):=yA fun W hW=>ycY y b W (hy.below hW)
 obtain ⟨u1,v1,rfl,hu1,hv1⟩:=hx
 obtain ⟨u2,v2,rfl,hu2,hv2⟩:=hy
 obtain ⟨s,hs⟩:∃ s,Hid (s=decide (a.num<0)):=⟨_,yA rfl⟩
 obtain ⟨t,ht⟩:∃ t,Hid (t=decide (b.num<0)):=⟨_,yA rfl⟩
 rw [← hs.out] at yjl ⊢
 rw [← ht.out] at yjm ⊢
 rw [← hs.out,← ht.out] at hst
 have hdx:=yjl
 have hdy:=yjm
 clear yjl yjm
 obtain ⟨sb,hsb⟩:∃ sb,Hid (sb=decide ((a+b).num<0)):=⟨_,yA rfl⟩
 obtain ⟨X,hX⟩:∃ X,Hid (X=a.num.natAbs*b.den):=⟨_,yA rfl⟩
 obtain ⟨Y,hY⟩:∃ Y,Hid (Y=b.num.natAbs*a.den):=⟨_,yA rfl⟩
 obtain ⟨D,hD⟩:∃ D,Hid (D=a.den*b.den):=⟨_,yA rfl⟩
 have hXl:Hid (X<B9^(K+L)):=yA (by rw [hX.out];exact uL hab.1 hbb.2)
 have hYl:Hid (Y<B9^(K+L)):=yA (by rw [hY.out,Nat.add_comm K L];exact uL hbb.1 hab.2)
 have hDl:Hid (D<B9^(K+L+1)):=yA (by rw [hD.out];exact GV (uL hab.2 hbb.2) (by omega))
 have hm1:Hid (∀ W p q,yE W p a.num.natAbs→yE W q b.den→Calls Tryz.prog 70 #[p,q] W (zJ X W)):=yA fun W p q h1 h2=>by rw [hX.out];exact vS _ _ _ _ K L W (by unfold yK;omega) (by unfold yK;omega) hab.1 hbb.2 h1 h2
 have hm2:Hid (∀ W p q,yE W p b.num.natAbs→yE W q a.den→Calls Tryz.prog 70 #[p,q] W (zJ Y W)):=yA fun W p q h1 h2=>by rw [hY.out];exact vS _ _ _ _ L K W (by unfold yK;omega) (by unfold yK;omega) hbb.1 hab.2 h1 h2
 have hm3:Hid (∀ W p q,yE W p a.den→yE W q b.den→Calls Tryz.prog 70 #[p,q] W (zJ D W)):=yA fun W p q h1 h2=>by rw [hD.out];exact vS _ _ _ _ K L W (by unfold yK;omega) (by unfold yK;omega) hab.2 hbb.2 h1 h2
 have ysD:Hid (∀ W p q,yE W p X→yE W q Y→Calls Tryz.prog 72 #[p,q] W (zJ (X+Y) W)):=yA fun W p q h1 h2=>ymu _ _ _ _ (K+L) W (by unfold yK;omega) hXl.out hYl.out h1 h2
 have zT:Hid (yX s (X+Y) D=a+b):=yA (by
  have e1:yX s X D=a:=by rw [hX.out,hD.out,uA a.den_pos b.den_pos,hs.out,GC]
  have e2:yX t Y D=b:=by rw [hY.out,hD.out,Nat.mul_comm a.den b.den,uA b.den_pos a.den_pos,ht.out,GC]
  rw [yen,e1,hst,e2])
 have hnl:Hid (X+Y<B9^(K+L+1)):=yA (by
  have h1:=hXl.out
  have h2:=hYl.out
  have h3:B9^(K+L+1)=B9^(K+L)*1000000000:=by rw [Nat.pow_succ,zE]
  omega)
 have hmk:Hid (∀ W p q,yE W p (X+Y)→yE W q D→Calls Tryz.prog 65 #[.bool s,p,q] W (ya0 (a+b) sb W)):=yA fun W p q h1 h2=>by
  have h:=ybW s p q _ _ (K+L+1) W hK hnl.out hDl.out h1 h2
  rw [zT.out] at h
  exact h.mono fun e w' h=>h.b hsb.out
 have uV:=Twa.start w s u1 v1 t u2 v2
 have Htwo:=yA uV
 obtain ⟨-,c0,c1,c2,c3,c4,c5⟩:=uV.all
 have hbt:(s==t)=true:=by simpa using hst
 clear uV hv1 hv2 hab hbb hst
 go_in
 go_wp2_with fail
 go_region_held3 (fun w'=>Twa w.heap.size s u1 v1 t u2 v2 w w'∧w'.cell? ⟨w.heap.size,0,none⟩=some (.bool s)∧w'.cell? ⟨w.heap.size,1,none⟩=some u1∧w'.cell? ⟨w.heap.size,2,none⟩=some v1∧w'.cell? ⟨w.heap.size+1,0,none⟩=some (.bool t)∧w'.cell? ⟨w.heap.size+1,1,none⟩=some u2∧w'.cell? ⟨w.heap.size+1,2,none⟩=some v2)
  (first|exact Twa.all (Twa.drew Htwo.out)|exact Twa.all Htwo.out|(go_split_ands;exact Twa.all (Twa.next (by assumption) hb1))|(go_split_ands;exact Twa.all (Twa.next (by assumption) hb2))|(go_split_ands;exact Twa.all (Twa.next (by assumption) hb3))|(go_split_ands;exact Twa.all (Twa.next (by assumption) hb4))|go_keep)
  (first|(go_at_call_of 71 (Value.agg #[Value.bool t,u2,v2]);go_split_ands;refine (hdy.out _ (Twa.below (by assumption))).mono ?_;rintro e w1 ⟨py,ny,cy,rfl,hvy,hb1⟩)|(go_at_call_of 70 u1;go_split_ands;refine (hm1.out _ _ _ (hu1.below (Twa.below (by assumption))) hvy).mono ?_;rintro e w2 ⟨vX,rfl,hvX,hb2,-⟩;obtain ⟨pX,nX,cX,rfl⟩:=hvX.slice)|(go_at_call_of 71 (Value.agg #[Value.bool s,u1,v1]);go_split_ands;refine (hdx.out _ (Twa.below (by assumption))).mono ?_;rintro e w3 ⟨px,nx,cx,rfl,hvx,hb3⟩)|(go_at_call_of 70 u2;go_split_ands;refine (hm2.out _ _ _ (hu2.below (Twa.below (by assumption))) hvx).mono ?_;rintro e w4 ⟨vY,rfl,hvY,hb4,-⟩;obtain ⟨pY,nY,cY,rfl⟩:=hvY.slice;have htw:=Twa.next (by assumption) hb4))
 go_wp2_with fail
 have HX:=yA ((hvX.below hb3).below hb4)
 have HY:=yA hvY
 have Htw:=yA htw
 obtain ⟨-,c0,c1,c2,c3,c4,c5⟩:=htw.all
 clear hb1 hb2 hb3 hb4 hvx hvy hvX hvY htw
 go_region_held3 (fun w'=>Twa w.heap.size s u1 v1 t u2 v2 w w'∧w'.cell? ⟨w.heap.size,0,none⟩=some (.bool s)∧w'.cell? ⟨w.heap.size,1,none⟩=some u1∧w'.cell? ⟨w.heap.size,2,none⟩=some v1∧w'.cell? ⟨w.heap.size+1,0,none⟩=some (.bool t)∧w'.cell? ⟨w.heap.size+1,1,none⟩=some u2∧w'.cell? ⟨w.heap.size+1,2,none⟩=some v2)
  (first|exact Twa.all (Twa.drew Htw.out)|exact Twa.all Htw.out|(go_split_ands;exact Twa.all (Twa.next (by assumption) hb5))|(go_split_ands;exact Twa.all (Twa.next (by assumption) hb6))|(go_split_ands;exact Twa.all (Twa.next (by assumption) hb7))|go_keep)
  (first|(go_at_call_of 71 (Value.agg #[Value.bool s,u1,v1]);go_split_ands;refine (hdx.out _ (Twa.below (by assumption))).mono ?_;rintro e w5 ⟨px,nx,cx,rfl,hvx,hb5⟩)|(go_at_call_of 71 (Value.agg #[Value.bool t,u2,v2]);go_split_ands;refine (hdy.out _ (Twa.below (by assumption))).mono ?_;rintro e w6 ⟨py,ny,cy,rfl,hvy,hb6⟩)|(go_at_call 70;go_split_ands;refine (hm3.out _ _ _ (hvx.below hb6) hvy).mono ?_;rintro e w7 ⟨vD,rfl,hvD,hb7,-⟩;obtain ⟨pD,nD,cD,rfl⟩:=hvD.slice;have htw:=Twa.next (by assumption) hb7))
 go_wp2_with fail
 have HX7:=yA (((HX.out.dr.below hb5).below hb6).below hb7)
 have HY7:=yA (((HY.out.dr.below hb5).below hb6).below hb7)
 have HD7:=yA hvD
 have Htw7:=yA htw
 obtain ⟨-,c0,c1,c2,c3,c4,c5⟩:=htw.all
 clear hb5 hb6 hb7 hvx hvy hvD htw
 go_region_held3 (fun w'=>Twa w.heap.size s u1 v1 t u2 v2 w w'∧w'.cell? ⟨w.heap.size,0,none⟩=some (.bool s)∧w'.cell? ⟨w.heap.size,1,none⟩=some u1∧w'.cell? ⟨w.heap.size,2,none⟩=some v1∧w'.cell? ⟨w.heap.size+1,0,none⟩=some (.bool t)∧w'.cell? ⟨w.heap.size+1,1,none⟩=some u2∧w'.cell? ⟨w.heap.size+1,2,none⟩=some v2)
  (first|exact Twa.all (Twa.drew Htw7.out)|exact Twa.all Htw7.out|(go_split_ands;exact Twa.all (Twa.next (by assumption) hb9))|(go_split_ands;exact Twa.all (Twa.next (by assumption) hbA))|(go_split_ands;exact Twa.all (Twa.put3 (by assumption) nl _ _ _ _ _ _ _))|go_keep)
  (first|(go_at_call 72;go_split_ands;refine (ysD.out _ _ _ (HX7.out.dr) (HY7.out.dr)).mono ?_;rintro e w9 ⟨vs,rfl,hvs,hb9,-⟩;obtain ⟨ps,ns,cs,rfl⟩:=hvs.slice)|(go_at_call 65;go_split_ands;refine (hmk.out _ _ _ hvs ((HD7.out.dr).below hb9)).mono ?_;rintro e wA ⟨pr,nr,cr,pq,nq,cq,rfl,hr1,hr2,hbA⟩;have htw:=Twa.next (by assumption) hbA;obtain ⟨z0,z1,z2,k0,k1,k2,f0,f1,f2⟩:=Twa.slots htw))
 go_wp2_with fail
 have yF:=yA (htw.fin nl hsb.out hr1 hr2)
 refine bodyPost_ret (v:=.agg #[.bool sb,.slice pr nr cr,.slice pq nq cq]) (by simp [results,Tryz.results32,go_sem,k0,k1,k2]) rfl ?_
 exact yF.out
theorem yrA (x y:Value) (a b:Rat) (K L:Nat) (w:World) (hK:K+L+1≤900000) (hab:QLt K a) (hbb:QLt L b) (hx:uH w x a) (hy:uH w y b) (hst:decide (a.num<0)≠decide (b.num<0)):Calls Tryz.prog 32 #[x,y] w (yae (a+b) w):=by
 have yjl:Hid (∀ W,Be w W→Calls Tryz.prog 71 #[x] W (yct a.den W)):=yA fun W hW=>ycY x a W (hx.below hW)
 have yjm:Hid (∀ W,Be w W→Calls Tryz.prog 71 #[y] W (yct b.den W)):=yA fun W hW=>ycY y b W (hy.below hW)
 obtain ⟨u1,v1,rfl,hu1,hv1⟩:=hx
 obtain ⟨u2,v2,rfl,hu2,hv2⟩:=hy
 obtain ⟨s,hs⟩:∃ s,Hid (s=decide (a.num<0)):=⟨_,yA rfl⟩
 obtain ⟨t,ht⟩:∃ t,Hid (t=decide (b.num<0)):=⟨_,yA rfl⟩
 rw [← hs.out] at yjl ⊢
 rw [← ht.out] at yjm ⊢
 rw [← hs.out,← ht.out] at hst
 have hdx:=yjl
 have hdy:=yjm
 clear yjl yjm
 obtain ⟨sb,hsb⟩:∃ sb,Hid (sb=decide ((a+b).num<0)):=⟨_,yA rfl⟩
 obtain ⟨X,hX⟩:∃ X,Hid (X=a.num.natAbs*b.den):=⟨_,yA rfl⟩
 obtain ⟨Y,hY⟩:∃ Y,Hid (Y=b.num.natAbs*a.den):=⟨_,yA rfl⟩
 obtain ⟨D,hD⟩:∃ D,Hid (D=a.den*b.den):=⟨_,yA rfl⟩
 have hXl:Hid (X<B9^(K+L)):=yA (by rw [hX.out];exact uL hab.1 hbb.2)
 have hYl:Hid (Y<B9^(K+L)):=yA (by rw [hY.out,Nat.add_comm K L];exact uL hbb.1 hab.2)
 have hDl:Hid (D<B9^(K+L+1)):=yA (by rw [hD.out];exact GV (uL hab.2 hbb.2) (by omega))
 have hm1:Hid (∀ W p q,yE W p a.num.natAbs→yE W q b.den→Calls Tryz.prog 70 #[p,q] W (zJ X W)):=yA fun W p q h1 h2=>by rw [hX.out];exact vS _ _ _ _ K L W (by unfold yK;omega) (by unfold yK;omega) hab.1 hbb.2 h1 h2
 have hm2:Hid (∀ W p q,yE W p b.num.natAbs→yE W q a.den→Calls Tryz.prog 70 #[p,q] W (zJ Y W)):=yA fun W p q h1 h2=>by rw [hY.out];exact vS _ _ _ _ L K W (by unfold yK;omega) (by unfold yK;omega) hbb.1 hab.2 h1 h2
 have hm3:Hid (∀ W p q,yE W p a.den→yE W q b.den→Calls Tryz.prog 70 #[p,q] W (zJ D W)):=yA fun W p q h1 h2=>by rw [hD.out];exact vS _ _ _ _ K L W (by unfold yK;omega) (by unfold yK;omega) hab.2 hbb.2 h1 h2
 by_cases hXY:Y≤X
 case' pos =>
  have ysD:Hid (∀ W p q,yE W p X→yE W q Y→Calls Tryz.prog 74 #[p,q] W (zJ (X-Y) W)):=yA fun W p q h1 h2=>ydH _ _ _ _ (K+L) W (by unfold yK;omega) hXl.out hXY h1 h2
  have yaa:Hid (∀ W p q,yE W p X→yE W q Y→Calls Tryz.prog 73 #[p,q] W fun e w'=>∃ z:Int,e=.returned (.int .i64 z)∧0≤z∧Be W w'):=yA fun W p q h1 h2=>by
   have h:=GU _ _ _ _ (K+L) W (by unfold yK;omega) hXl.out hYl.out h1 h2
   refine h.mono fun e w' h=>?_
   obtain ⟨g1,k,g2⟩:=h
   refine ⟨jH X Y,g1,?_,by rw [← g2];exact yG _ _ _⟩
   unfold jH;rw [if_neg (by omega)];split<;>omega
  have zT:Hid (yX s (X-Y) D=a+b):=yA (by
   have e1:yX s X D=a:=by rw [hX.out,hD.out,uA a.den_pos b.den_pos,hs.out,GC]
   have e2:yX t Y D=b:=by rw [hY.out,hD.out,Nat.mul_comm a.den b.den,uA b.den_pos a.den_pos,ht.out,GC]
   rw [yaB hst hXY,e1,e2])
  have hnl:Hid (X-Y<B9^(K+L+1)):=yA (by
   have h1:=hXl.out
   have h2:=hYl.out
   have h3:B9^(K+L+1)=B9^(K+L)*1000000000:=by rw [Nat.pow_succ,zE]
   omega)
  have hmk:Hid (∀ W p q,yE W p (X-Y)→yE W q D→Calls Tryz.prog 65 #[.bool s,p,q] W (ya0 (a+b) sb W)):=yA fun W p q h1 h2=>by
   have h:=ybW s p q _ _ (K+L+1) W hK hnl.out hDl.out h1 h2
   rw [zT.out] at h
   exact h.mono fun e w' h=>h.b hsb.out
 case' neg =>
  have ysD:Hid (∀ W p q,yE W p X→yE W q Y→Calls Tryz.prog 74 #[q,p] W (zJ (Y-X) W)):=yA fun W p q h1 h2=>ydH _ _ _ _ (K+L) W (by unfold yK;omega) hYl.out (by omega) h2 h1
  have yaa:Hid (∀ W p q,yE W p X→yE W q Y→Calls Tryz.prog 73 #[p,q] W fun e w'=>∃ z:Int,e=.returned (.int .i64 z)∧z<0∧Be W w'):=yA fun W p q h1 h2=>by
   have h:=GU _ _ _ _ (K+L) W (by unfold yK;omega) hXl.out hYl.out h1 h2
   refine h.mono fun e w' h=>?_
   obtain ⟨g1,k,g2⟩:=h
   refine ⟨jH X Y,g1,?_,by rw [← g2];exact yG _ _ _⟩
   unfold jH;rw [if_pos (by omega)];omega
  have zT:Hid (yX t (Y-X) D=a+b):=yA (by
   have e1:yX s X D=a:=by rw [hX.out,hD.out,uA a.den_pos b.den_pos,hs.out,GC]
   have e2:yX t Y D=b:=by rw [hY.out,hD.out,Nat.mul_comm a.den b.den,uA b.den_pos a.den_pos,ht.out,GC]
   rw [yaB (fun h=>hst h.symm) (by omega),e1,e2,Rat.add_comm])
  have hnl:Hid (Y-X<B9^(K+L+1)):=yA (by
   have h1:=hXl.out
   have h2:=hYl.out
   have h3:B9^(K+L+1)=B9^(K+L)*1000000000:=by rw [Nat.pow_succ,zE]
   omega)
  have hmk:Hid (∀ W p q,yE W p (Y-X)→yE W q D→Calls Tryz.prog 65 #[.bool t,p,q] W (ya0 (a+b) sb W)):=yA fun W p q h1 h2=>by
   have h:=ybW t p q _ _ (K+L+1) W hK hnl.out hDl.out h1 h2
   rw [zT.out] at h
   exact h.mono fun e w' h=>h.b hsb.out
 all_goals
  have uV:=Twa.start w s u1 v1 t u2 v2
  have Htwo:=yA uV
  obtain ⟨-,c0,c1,c2,c3,c4,c5⟩:=uV.all
  have hbt:(s==t)=false:=by simpa using hst
  clear uV hv1 hv2 hab hbb hst hXY
  go_in
  go_wp2_with fail
  go_region_held3 (fun w'=>Twa w.heap.size s u1 v1 t u2 v2 w w'∧w'.cell? ⟨w.heap.size,0,none⟩=some (.bool s)∧w'.cell? ⟨w.heap.size,1,none⟩=some u1∧w'.cell? ⟨w.heap.size,2,none⟩=some v1∧w'.cell? ⟨w.heap.size+1,0,none⟩=some (.bool t)∧w'.cell? ⟨w.heap.size+1,1,none⟩=some u2∧w'.cell? ⟨w.heap.size+1,2,none⟩=some v2)
   (first|exact Twa.all (Twa.drew Htwo.out)|exact Twa.all Htwo.out|(go_split_ands;exact Twa.all (Twa.next (by assumption) hb1))|(go_split_ands;exact Twa.all (Twa.next (by assumption) hb2))|(go_split_ands;exact Twa.all (Twa.next (by assumption) hb3))|(go_split_ands;exact Twa.all (Twa.next (by assumption) hb4))|go_keep)
   (first|(go_at_call_of 71 (Value.agg #[Value.bool t,u2,v2]);go_split_ands;refine (hdy.out _ (Twa.below (by assumption))).mono ?_;rintro e w1 ⟨py,ny,cy,rfl,hvy,hb1⟩)|(go_at_call_of 70 u1;go_split_ands;refine (hm1.out _ _ _ (hu1.below (Twa.below (by assumption))) hvy).mono ?_;rintro e w2 ⟨vX,rfl,hvX,hb2,-⟩;obtain ⟨pX,nX,cX,rfl⟩:=hvX.slice)|(go_at_call_of 71 (Value.agg #[Value.bool s,u1,v1]);go_split_ands;refine (hdx.out _ (Twa.below (by assumption))).mono ?_;rintro e w3 ⟨px,nx,cx,rfl,hvx,hb3⟩)|(go_at_call_of 70 u2;go_split_ands;refine (hm2.out _ _ _ (hu2.below (Twa.below (by assumption))) hvx).mono ?_;rintro e w4 ⟨vY,rfl,hvY,hb4,-⟩;obtain ⟨pY,nY,cY,rfl⟩:=hvY.slice;have htw:=Twa.next (by assumption) hb4))
  go_wp2_with fail
  have HX:=yA ((hvX.below hb3).below hb4)
  have HY:=yA hvY
  have Htw:=yA htw
  obtain ⟨-,c0,c1,c2,c3,c4,c5⟩:=htw.all
  clear hb1 hb2 hb3 hb4 hvx hvy hvX hvY htw
  go_region_held3 (fun w'=>Twa w.heap.size s u1 v1 t u2 v2 w w'∧w'.cell? ⟨w.heap.size,0,none⟩=some (.bool s)∧w'.cell? ⟨w.heap.size,1,none⟩=some u1∧w'.cell? ⟨w.heap.size,2,none⟩=some v1∧w'.cell? ⟨w.heap.size+1,0,none⟩=some (.bool t)∧w'.cell? ⟨w.heap.size+1,1,none⟩=some u2∧w'.cell? ⟨w.heap.size+1,2,none⟩=some v2)
   (first|exact Twa.all (Twa.drew Htw.out)|exact Twa.all Htw.out|(go_split_ands;exact Twa.all (Twa.next (by assumption) hb5))|(go_split_ands;exact Twa.all (Twa.next (by assumption) hb6))|(go_split_ands;exact Twa.all (Twa.next (by assumption) hb7))|go_keep)
   (first|(go_at_call_of 71 (Value.agg #[Value.bool s,u1,v1]);go_split_ands;refine (hdx.out _ (Twa.below (by assumption))).mono ?_;rintro e w5 ⟨px,nx,cx,rfl,hvx,hb5⟩)|(go_at_call_of 71 (Value.agg #[Value.bool t,u2,v2]);go_split_ands;refine (hdy.out _ (Twa.below (by assumption))).mono ?_;rintro e w6 ⟨py,ny,cy,rfl,hvy,hb6⟩)|(go_at_call 70;go_split_ands;refine (hm3.out _ _ _ (hvx.below hb6) hvy).mono ?_;rintro e w7 ⟨vD,rfl,hvD,hb7,-⟩;obtain ⟨pD,nD,cD,rfl⟩:=hvD.slice;have htw:=Twa.next (by assumption) hb7))
  go_wp2_with fail
  have HX7:=yA (((HX.out.dr.below hb5).below hb6).below hb7)
  have HY7:=yA (((HY.out.dr.below hb5).below hb6).below hb7)
  have HD7:=yA hvD
  have Htw7:=yA htw
  obtain ⟨-,c0,c1,c2,c3,c4,c5⟩:=htw.all
  clear hb5 hb6 hb7 hvx hvy hvD htw
  refine (yaa.out _ _ _ HX7.out HY7.out).mono ?_
  rintro e w8 ⟨z,rfl,hz,hb8⟩
  first|have hzd:decide ((0:Int)≤z)=true:=(by simp;omega)|have hzd:decide ((0:Int)≤z)=false:=(by simp;omega)
  have HX8:=yA (HX7.out.below hb8)
  have HY8:=yA (HY7.out.below hb8)
  have HD8:=yA (HD7.out.below hb8)
  have Htw8:=yA (Htw7.out.next hb8)
  obtain ⟨-,c0,c1,c2,c3,c4,c5⟩:=Htw8.out.all
  clear hb8
  go_wp2_with fail
  go_region_held3 (fun w'=>Twa w.heap.size s u1 v1 t u2 v2 w w'∧w'.cell? ⟨w.heap.size,0,none⟩=some (.bool s)∧w'.cell? ⟨w.heap.size,1,none⟩=some u1∧w'.cell? ⟨w.heap.size,2,none⟩=some v1∧w'.cell? ⟨w.heap.size+1,0,none⟩=some (.bool t)∧w'.cell? ⟨w.heap.size+1,1,none⟩=some u2∧w'.cell? ⟨w.heap.size+1,2,none⟩=some v2)
   (first|exact Twa.all (Twa.drew Htw8.out)|exact Twa.all Htw8.out|(go_split_ands;exact Twa.all (Twa.next (by assumption) hb9))|(go_split_ands;exact Twa.all (Twa.next (by assumption) hbA))|(go_split_ands;exact Twa.all (Twa.put3 (by assumption) nl _ _ _ _ _ _ _))|go_keep)
   (first|(go_at_call 74;go_split_ands;refine (ysD.out _ _ _ (HX8.out.dr) (HY8.out.dr)).mono ?_;rintro e w9 ⟨vs,rfl,hvs,hb9,-⟩;obtain ⟨ps,ns,cs,rfl⟩:=hvs.slice)|(go_at_call 65;go_split_ands;refine (hmk.out _ _ _ hvs ((HD8.out.dr).below hb9)).mono ?_;rintro e wA ⟨pr,nr,cr,pq,nq,cq,rfl,hr1,hr2,hbA⟩;have htw:=Twa.next (by assumption) hbA;obtain ⟨z0,z1,z2,k0,k1,k2,f0,f1,f2⟩:=Twa.slots htw))
  go_wp2_with fail
  have yF:=yA (htw.fin nl hsb.out hr1 hr2)
  refine bodyPost_ret (v:=.agg #[.bool sb,.slice pr nr cr,.slice pq nq cq]) (by simp [results,Tryz.results32,go_sem,k0,k1,k2]) rfl ?_
  exact yF.out
theorem yrB (x y:Value) (a b:Rat) (K L:Nat) (w:World) (hK:K+L+1≤900000) (hab:QLt K a) (hbb:QLt L b) (hx:uH w x a) (hy:uH w y b):Calls Tryz.prog 32 #[x,y] w (yae (a+b) w):=by
 by_cases h:decide (a.num<0)=decide (b.num<0)
 ·exact yow x y a b K L w hK hab hbb hx hy h
 ·exact yrA x y a b K L w hK hab hbb hx hy h
theorem QLt.neg {K:Nat} {q:Rat} (h:QLt K q):QLt K (-q):=⟨by rw [Rat.neg_num,Int.natAbs_neg];exact h.1,by rw [Rat.neg_den];exact h.2⟩
theorem uH.dr {w:World} {v:Value} {x:Rat} (h:uH w v x):uH w.drew v x:=h.below bR.drew
theorem yox (x y:Value) (a b:Rat) (K L:Nat) (w:World) (hK:K+L+1≤900000) (hab:QLt K a) (hbb:QLt L b) (hx:uH w x a) (hy:uH w y b):Calls Tryz.prog 51 #[x,y] w (yae (a-b) w):=by
 obtain ⟨sb,hsb⟩:∃ sb,Hid (sb=decide ((a-b).num<0)):=⟨_,yA rfl⟩
 obtain ⟨tb,htb⟩:∃ tb,Hid (tb=decide ((-b).num<0)):=⟨_,yA rfl⟩
 have hop:Hid (∀ W,Be w W→Calls Tryz.prog 53 #[y] W (ya0 (-b) tb W)):=yA fun W hW=>(yns y b W (hy.below hW)).mono fun e w' h=>h.b htb.out
 have hpl:Hid (∀ W z,Be w W→uH W z (-b)→Calls Tryz.prog 32 #[x,z] W (ya0 (a-b) sb W)):=yA fun W z hW hz=>by
  have h:=yrB x z a (-b) K L W hK hab hbb.neg (hx.below hW) hz
  rw [← Rat.sub_eq_add_neg] at h
  exact h.mono fun e w' h=>h.b hsb.out
 obtain ⟨u1,v1,rfl,hu1,hv1⟩:=hx
 obtain ⟨u2,v2,rfl,hu2,hv2⟩:=hy
 obtain ⟨s,hs⟩:∃ s,Hid (s=decide (a.num<0)):=⟨_,yA rfl⟩
 obtain ⟨t,ht⟩:∃ t,Hid (t=decide (b.num<0)):=⟨_,yA rfl⟩
 rw [← hs.out] at hpl ⊢
 rw [← ht.out] at hop ⊢
 have uV:=Twa.start w s u1 v1 t u2 v2
 have Htwo:=yA uV
 obtain ⟨-,c0,c1,c2,c3,c4,c5⟩:=uV.all
 clear uV hv1 hv2 hab hbb hu1 hu2
 go_in
 go_wp2_with fail
 go_region_held3 (fun w'=>Twa w.heap.size s u1 v1 t u2 v2 w w'∧w'.cell? ⟨w.heap.size,0,none⟩=some (.bool s)∧w'.cell? ⟨w.heap.size,1,none⟩=some u1∧w'.cell? ⟨w.heap.size,2,none⟩=some v1∧w'.cell? ⟨w.heap.size+1,0,none⟩=some (.bool t)∧w'.cell? ⟨w.heap.size+1,1,none⟩=some u2∧w'.cell? ⟨w.heap.size+1,2,none⟩=some v2)
  (first|exact Twa.all (Twa.drew Htwo.out)|exact Twa.all Htwo.out|(go_split_ands;exact Twa.all (Twa.next (by assumption) hb1))|(go_split_ands;exact Twa.all (Twa.next (by assumption) hb2))|(go_split_ands;exact Twa.all (Twa.put3 (by assumption) nl _ _ _ _ _ _ _))|go_keep)
  (first|(go_at_call 53;go_split_ands;refine (hop.out _ (Twa.below (by assumption))).mono ?_;rintro e w1 ⟨p1,n1,c1,p2,n2,c2,rfl,ho1,ho2,hb1⟩)|(go_at_call 32;go_split_ands;refine (hpl.out _ _ (Twa.below (by assumption)) ⟨_,_,by rw [htb.out],ho1,ho2⟩).mono ?_;rintro e w2 ⟨pr,nr,cr,pq,nq,cq,rfl,hr1,hr2,hb2⟩;have htw:=Twa.next (by assumption) hb2;obtain ⟨z0,z1,z2,k0,k1,k2,f0,f1,f2⟩:=Twa.slots htw))
 go_wp2_with fail
 have yF:=yA (htw.fin nl hsb.out hr1 hr2)
 refine bodyPost_ret (v:=.agg #[.bool sb,.slice pr nr cr,.slice pq nq cq]) (by simp [results,Tryz.results51,go_sem,k0,k1,k2]) rfl ?_
 exact yF.out
theorem yh6 (x y:Value) (a b:Rat) (K L:Nat) (w:World) (hK:K+L+1≤900000) (hab:QLt K a) (hbb:QLt L b) (hx:uH w x a) (hy:uH w y b):Calls Tryz.prog 52 #[x,y] w (Rp (.int .i64 (yb7 (a-b))) w):=by
 have hmi:Hid (∀ W,Be w W→Calls Tryz.prog 51 #[x,y] W (yae (a-b) W)):=yA fun W hW=>yox x y a b K L W hK hab hbb (hx.below hW) (hy.below hW)
 have hsg:Hid (∀ W z,uH W z (a-b)→Calls Tryz.prog 81 #[z] W (Rp (.int .i64 (yb7 (a-b))) W)):=yA fun W z hz=>yty z _ W hz
 have hW:∀ o1 o2,Hid (Be w ((w.alloc o1).alloc o2)):=fun o1 o2=>yA ((yD w o1).trans ((yD _ o2).mono (yD w o1).size))
 obtain ⟨p,n,c,p2,n2,c2,rfl,-,-⟩:=hx.slices
 obtain ⟨q,m,d,q2,m2,d2,rfl,-,-⟩:=hy.slices
 clear hx hy hab hbb
 obtain ⟨s,hs⟩:∃ s,Hid (s=decide (a.num<0)):=⟨_,yA rfl⟩
 obtain ⟨t,ht⟩:∃ t,Hid (t=decide (b.num<0)):=⟨_,yA rfl⟩
 rw [← hs.out,← ht.out] at hmi ⊢
 go_in
 go_wp2_with fail
 refine (hmi.out _ (hW _ _).out).mono ?_
 rintro e w1 ⟨z,rfl,hz,hb1⟩
 have hs1:=yA (hsg.out w1 z hz)
 obtain ⟨p3,n3,c3,p4,n4,c4,rfl,-,-⟩:=hz.slices
 have Hb1:=yA ((hW _ _).out.trans (hb1.mono (hW _ _).out.size))
 clear hz hb1
 obtain ⟨sz,hsz⟩:∃ sz,Hid (sz=decide ((a-b).num<0)):=⟨_,yA rfl⟩
 rw [← hsz.out] at hs1 ⊢
 go_wp2_with fail
 refine hs1.out.mono ?_
 rintro e w2 ⟨rfl,hb2⟩
 have Hb2:=yA (tr Hb1.out hb2)
 clear hb2
 go_wp2
 go_ret
 exact ⟨rfl,Hb2.out⟩
section
open Go.Lib
theorem uU:Tryz.prog.underlying 39=some (.slice 5):=by kernel_rfl
theorem underlying5:Tryz.prog.underlying 5=some (.int .u8):=by kernel_rfl
theorem yiF:Tryz.prog.underlying 9=some .string:=by kernel_rfl
theorem ywg:(Tryz.prog.info? 5).map (fun i=>(i.zero,i.size,i.bytes))=some (some (.int .u8 0),1,1):=by kernel_rfl
def u8s (l:Lb):List Value:=l.map fun b=>Value.int .u8 (b.toNat:Int)
structure AccB (B:Nat) (w wr:World) (v:Value) (l:Lb):Prop where
 own:wr.ownsRow B 5 1 v l.length (u8s l)
 below:Below B w wr
theorem AccB.next {B:Nat} {w wr w5:World} {v v5:Value} {l:Lb} {m:Nat} {c:UInt8} {o:Obj} (h:AccB B w wr v l) (hB:B≤wr.heap.size) (hm:m=l.length+1) (yP:w5.ownsRow B 5 1 v5 m (u8s l++[.int .u8 (c.toNat:Int)])) (hg:(wr.alloc o).grownBy w5 v.ownBlock):AccB B w w5 v5 (l++[c]):=by
 subst hm
 refine ⟨?_,?_⟩
 ·have e:u8s (l++[c])=u8s l++[.int .u8 (c.toNat:Int)]:=by simp [u8s]
  rw [e,List.length_append];exact yP
 ·exact (h.below.alloc hB o).grown hg (by simp;omega) (fun k hk=>(h.own.lt k hk).1)
theorem AccB.slice {B:Nat} {w wr:World} {v:Value} {l:Lb} (h:AccB B w wr v l):∃ p c,v=.slice p l.length c∧(0<l.length→∃ g,p=some ⟨g,0,none⟩∧B≤g∧g<wr.heap.size∧∀ j (hj:j<l.length),wr.cell? ⟨g,j,none⟩=some (.int .u8 (l[j].toNat:Int))):=by
 obtain ⟨h1,h2⟩:=h.own
 rcases h2 with ⟨rfl,h3⟩|⟨g,cap,cur,rfl,hg,hh,hn,hm,hs,hc⟩
 ·exact ⟨none,0,by rw [h3],fun hl=>by omega⟩
 ·refine ⟨_,cap,rfl,fun hl=>⟨g,rfl,hg,(Array.getElem?_eq_some_iff.1 hh).1,fun j hj=>?_⟩⟩
  rw [Nat.mul_one] at hc
  have e:cur[j]?=(u8s l)[j]?:=by rw [← hc,List.getElem?_take_of_lt hj,Array.getElem?_toList]
  simp only [World.cell?,hh]
  simp [e,u8s,hj]
theorem yhl (a b:Nat):∀ r,GH (a+b) r=GH a (r/10^b)++GH b (r%10^b):=by
 induction b with
 | zero=>intro r;simp [GH]
 | succ b ih =>
  intro r
  have e1:r%10^(b+1)/10=r/10%10^b:=by
   rw [Nat.pow_succ,Nat.mul_comm];exact Nat.mod_mul_right_div_self r 10 (10^b)
  have e2:r%10^(b+1)%10=r%10:=by
   rw [Nat.pow_succ];exact Nat.mod_mul_left_mod r (10^b) 10
  have e3:r/10/10^b=r/10^(b+1):=by rw [Nat.div_div_eq_div_mul,Nat.pow_succ,Nat.mul_comm]
  show GH (a+b) (r/10)++_=GH a (r/10^(b+1))++(GH b (r%10^(b+1)/10)++[UInt8.ofNat (48+r%10^(b+1)%10)])
  rw [ih,e1,e2,e3,List.append_assoc]
theorem ytz (d:Nat):GH 1 d=[UInt8.ofNat (48+d%10)]:=rfl
theorem yrC (l:List Nat) (i:Nat) (hd:yO B9 l):GH 9 (l.getD i 0)++GH (9*i) (yC B9 (l.take i))=GH (9*(i+1)) (yC B9 (l.take (i+1))):=by
 have h1:=vE (l.take i) (hd.take i)
 have h2:B9^(l.take i).length≤B9^i:=Nat.pow_le_pow_right zU (by rw [List.length_take];omega)
 rw [GW] at h2
 rw [show 9*(i+1)=9+9*i from by omega,yhl,yN,GW]
 have hp:0<10^(9*i):=Nat.pow_pos (by omega)
 rw [Nat.add_mul_div_left _ _ hp,Nat.div_eq_of_lt (by rw [GW] at h1;rw [GW] at *;omega),Nat.zero_add,Nat.add_mul_mod_self_left,Nat.mod_eq_of_lt (by rw [GW] at h1;rw [GW] at *;omega)]
theorem yoy (d k:Nat):GH (k+1) (d%10^(k+1))=UInt8.ofNat (48+d/10^k%10)::GH k (d%10^k):=by
 rw [Nat.add_comm k 1,yhl 1 k,ytz,Nat.add_comm 1 k]
 have e1:d%10^(k+1)/10^k=d/10^k%10:=by rw [Nat.pow_succ];exact Nat.mod_mul_right_div_self d (10^k) 10
 have e2:d%10^(k+1)%10^k=d%10^k:=by
  rw [Nat.pow_succ,Nat.mul_comm];exact Nat.mod_mul_left_mod d 10 (10^k)
 rw [e1,e2,Nat.mod_mod];rfl
theorem yjW (d:Nat):((UInt8.ofNat (48+d%10)).toNat:Int)=48+(d:Int)%10:=by
 rw [UInt8.toNat_ofNat'];omega
theorem yrD (d:Nat) (h:d≠0) (r:Lb):(if d=0 then [] else decDigits d)++r=(if d/10=0 then [] else decDigits (d/10))++(UInt8.ofNat (48+d%10)::r):=by
 rw [if_neg h]
 by_cases h1:d<10
 ·rw [if_pos (by omega),decDigits_one h1,Nat.mod_eq_of_lt h1];rfl
 ·rw [if_neg (by omega),yh4 h1];simp
def ye9 (l:List Nat) (k i:Nat) (b:Lb):Prop:=b.length≤9*i∧(i≤k→b.reverse=GH (9*i) (yC B9 (l.take i)))∧(k<i→b.reverse=decDigits (yC B9 l))
theorem ykS (p:Oa) (k c0:Nat) (l:List Nat) (w:World) (hk:k≤900000) (hl:Rd w p (k+1) l) (cl:yV B9 l) :
  Calls Tryz.prog 125 #[.slice p (k+1) c0] w (Rp (.string ⟨(decDigits (yC B9 l)).toArray⟩) w):=by
 obtain ⟨i0,hi,hz0,hz1,hz2⟩:=info_parts ywg
 have hki:(k:Int)≤900000:=by omega
 have hk0:(((k:Int)+1)==0)=false:=by simp;omega
 have hll:Hid (l.length=k+1):=yA hl.len
 have Cl:=yA cl
 have hx0:Hid (0<l.getD k 0):=yA (by
  have h2:k<l.length:=by rw [hl.len];omega
  apply Nat.pos_of_ne_zero;intro h0
  apply cl.2
  rw [List.getLast?_eq_getElem?,hl.len,Nat.add_sub_cancel,List.getElem?_eq_getElem h2]
  rw [gD h2] at h0
  simpa using h0)
 clear cl
 go_in
 go_wp2_with (at_make;refine wpList_make_own _ rfl _ _ 39 rfl w.heap.size 5 i0 (.int .u8 0) 1 uU hi hz0 hz1 _ _ _ (9*(k+1)) rfl rfl ?b1 ?b2 ?b3 nl ?_)
 case b1=>omega
 case b2=>rw [hz2];omega
 case b3=>unfold maxLen;omega
 intro w1 yP zB
 have yi9:Hid (AccB w.heap.size w w1 (.slice (some ⟨w.heap.size,0,none⟩) 0 (9*(k+1))) []):=yA ⟨yP,bR.grown zB nl (fun k h=>by cases h)⟩
 have hinv0:Hid (ye9 l k 0 []):=yA ⟨by simp,fun _=>by simp [GH],fun h=>by omega⟩
 clear yP zB
 go_wp2
 go_loopw [3,18] (fun bv iv wr=>∃ (i:Nat) (b:Lb) (pb:Oa) (nb cb:Nat),iv=.int .i64 i∧i≤k+1∧bv=.slice pb nb cb∧Hid (ye9 l k i b)∧Hid (AccB w.heap.size w wr bv b)) (fun _ iv _=>k+1-(intOf iv).toNat)
 case atStart=>exact ⟨0,[],_,_,_,rfl,Nat.zero_le _,rfl,hinv0,yi9⟩
 case round =>
  obtain ⟨i,b,pb,nb,cb,rfl,hik,rfl,yJ,jO⟩:=hrel
  by_cases h1:i<k+1
  ·have e1:(i:Int)<k+1:=by omega
   obtain ⟨b1,o1,d0,rfl,hb1,hc1,hd0⟩:=hl.at (k:=i) (by omega)
   have g1:wr.cell? ⟨b1,o1+i,none⟩=some (.int .u64 (d0:Int)):=(jO.out.below.cell (p:=⟨b1,o1+i,none⟩) hb1).trans hc1
   have hd9:Hid (d0<10^9):=yA (by have h:=Cl.out.1.getD zU i;rw [hd0.out,zE] at h;omega)
   clear hc1
   by_cases h2:i<k
   ·have e2:(i:Int)+1<k+1:=by omega
    have hst:Hid (b.reverse=GH 0 (d0%10^0)++GH (9*i) (yC B9 (l.take i))∧b.length≤9*i+0):=yA ⟨by rw [yJ.out.2.1 (by omega)];rfl,by have:=yJ.out.1;omega⟩
    go_wp2
    go_loopw [3,5,6] (fun bv dv jv w2=>∃ (j d:Nat) (b':Lb) (pb:Oa) (nb cb:Nat),jv=.int .i64 j∧j≤9∧dv=.int .u64 d∧bv=.slice pb nb cb∧Hid (d=d0/10^j)∧Hid (b'.reverse=GH j (d0%10^j)++GH (9*i) (yC B9 (l.take i))∧b'.length≤9*i+j)∧Hid (AccB w.heap.size w w2 bv b')) (fun _ _ jv _=>9-(intOf jv).toNat)
    case atStart=>exact ⟨0,d0,b,_,_,_,rfl,by omega,rfl,rfl,yA (by rw [Nat.pow_zero,Nat.div_one]),hst,jO⟩
    case round =>
     obtain ⟨j,d,b',pb,nb,cb,rfl,hj9,rfl,rfl,hdj,ybe,yb2⟩:=hrel
     by_cases h3:j<9
     ·have e3:(j:Int)<9:=by omega
      obtain ⟨cd,hcd⟩:∃ cd:UInt8,Hid (cd=UInt8.ofNat (48+d%10)):=⟨_,yA rfl⟩
      have hcv:(48:Int)+(d:Int)%10=(cd.toNat:Int):=by rw [hcd.out,yjW]
      have hdb:(d:Int)≤999999999:=by
       have h4:d≤d0:=by rw [hdj.out];exact Nat.div_le_self _ _
       have h5:=hd9.out
       omega
      have hlen:Hid (b'.length+1≤maxLen∧(b'.length+1)*1≤140737488355328∧w.heap.size≤wr.heap.size+1):=yA (by
       have h4:=ybe.out.2
       have h5:=yb2.out.below.size
       unfold maxLen;omega)
      have jE:Hid ((b'++[cd]).reverse=GH (j+1) (d0%10^(j+1))++GH (9*i) (yC B9 (l.take i))∧(b'++[cd]).length≤9*i+(j+1)):=yA ⟨by
       rw [List.reverse_append,ybe.out.1,yoy,hcd.out,hdj.out];rfl,by have:=ybe.out.2;simp;omega⟩
      go_wp2_with (at_builtin;refine wpList_append_own _ rfl (.tmp 38) (.tmp 43) 39 rfl w.heap.size 5 i0 (.int .u8 0) 1 1 uU hi hz0 hz1 hz2 rfl (by decide) _ _ _ rfl ((yb2.out.own).alloc _) ⟨_,0,none⟩ 1 1 [.int .u8 (cd.toNat:Int)] rfl rfl (cell_one_new _ _ _) (by intro u hu;simp at hu;subst hu;rfl) hlen.out.1 hlen.out.2.1 (by simp;exact hlen.out.2.2) ?_)
      intro v5 w5 yM yH _
      have ye1:=yA (yb2.out.next yb2.out.below.size rfl yM yH)
      obtain ⟨p5,c5,rfl,-⟩:=ye1.out.slice
      clear yM yH
      go_wp2
      go_roundw
      case rel=>exact ⟨j+1,d/10,_,_,_,_,by go_num,by omega,rfl,rfl,yA (by rw [hdj.out,Nat.div_div_eq_div_mul,Nat.pow_succ]),jE,ye1⟩
      case measure=>simp [intOf];omega
     ·obtain rfl:j=9:=by omega
      have ybd:Hid (ye9 l k (i+1) b'):=yA ⟨by have:=ybe.out.2;omega,fun _=>by
       have h4:=ybe.out.1
       rw [Nat.mod_eq_of_lt hd9.out,← hd0.out,yrC l i Cl.out.1] at h4
       exact h4,fun h=>by omega⟩
      go_wp2
      go_roundw
      case rel=>exact ⟨i+1,b',_,_,_,by go_num,by omega,rfl,ybd,yb2⟩
      case measure=>simp [intOf];omega
   ·obtain rfl:i=k:=by omega
    have e2:¬ (i:Int)+1<i+1:=by omega
    have hd0p:Hid (d0≠0):=yA (by have:=hx0.out;rw [hd0.out] at this;omega)
    have hst:Hid ((if d0=0 then [] else decDigits d0)++b.reverse=decDigits (yC B9 l)∧b.length≤9*i+0∧d0<10^(9-0)):=yA ⟨by
     rw [if_neg hd0p.out,yJ.out.2.1 nl]
     have h4:=yN B9 l i
     rw [List.take_of_length_le (by rw [hll.out];omega),hd0.out,GW] at h4
     have h5:=vE (l.take i) (Cl.out.1.take i)
     rw [List.length_take,Nat.min_eq_left (by rw [hll.out];omega),GW] at h5
     rw [← yhs _ _ _ (by have:=hd0p.out;omega) h5,h4,Nat.add_comm,Nat.mul_comm],by have:=yJ.out.1;omega,hd9.out⟩
    clear yJ
    go_wp2
    go_loopw [3,5,6] (fun bv dv jv w2=>∃ (j d:Nat) (b':Lb) (pb:Oa) (nb cb:Nat),jv=.int .i64 j∧j≤9∧dv=.int .u64 d∧bv=.slice pb nb cb∧Hid ((if d=0 then [] else decDigits d)++b'.reverse=decDigits (yC B9 l)∧b'.length≤9*i+j∧d<10^(9-j))∧Hid (AccB w.heap.size w w2 bv b')) (fun _ _ jv _=>9-(intOf jv).toNat)
    case atStart=>exact ⟨0,d0,b,_,_,_,rfl,by omega,rfl,rfl,hst,jO⟩
    case round =>
     obtain ⟨j,d,b',pb,nb,cb,rfl,hj9,rfl,rfl,ybe,yb2⟩:=hrel
     by_cases h3:d=0
     ·subst h3
      have ybd:Hid (ye9 l i (i+1) b'):=yA ⟨by have:=ybe.out.2.1;omega,fun h=>by omega,fun _=>by
       have h4:=ybe.out.1
       rw [if_pos rfl] at h4
       exact h4⟩
      by_cases h4:j<9
      ·have e3:(j:Int)<9:=by omega
       go_wp2
       go_roundw
       case rel=>exact ⟨i+1,b',_,_,_,by go_num,by omega,rfl,ybd,yb2⟩
       case measure=>simp [intOf]
      ·obtain rfl:j=9:=by omega
       go_wp2
       go_roundw
       case rel=>exact ⟨i+1,b',_,_,_,by go_num,by omega,rfl,ybd,yb2⟩
       case measure=>simp [intOf]
     ·have h4:j<9:=by
       apply Nat.lt_of_le_of_ne hj9
       rintro rfl
       have:=ybe.out.2.2
       simp at this;omega
      have e3:(j:Int)<9:=by omega
      have e4:(0:Int)<d:=by omega
      obtain ⟨cd,hcd⟩:∃ cd:UInt8,Hid (cd=UInt8.ofNat (48+d%10)):=⟨_,yA rfl⟩
      have hcv:(48:Int)+(d:Int)%10=(cd.toNat:Int):=by rw [hcd.out,yjW]
      have hdb:(d:Int)≤1000000000:=by
       have h5:=ybe.out.2.2
       have h6:(10:Nat)^(9-j)≤10^9:=Nat.pow_le_pow_right (by omega) (by omega)
       omega
      have hlen:Hid (b'.length+1≤maxLen∧(b'.length+1)*1≤140737488355328∧w.heap.size≤wr.heap.size+1):=yA (by
       have h4:=ybe.out.2.1
       have h5:=yb2.out.below.size
       unfold maxLen;omega)
      have jE:Hid ((if d/10=0 then [] else decDigits (d/10))++(b'++[cd]).reverse=decDigits (yC B9 l)∧(b'++[cd]).length≤9*i+(j+1)∧d/10<10^(9-(j+1))):=yA ⟨by
       rw [List.reverse_append,hcd.out]
       show (if d/10=0 then [] else decDigits (d/10))++(UInt8.ofNat (48+d%10)::b'.reverse)=_
       rw [← yrD d h3];exact ybe.out.1,by have:=ybe.out.2.1;simp;omega,by
       have h5:=ybe.out.2.2
       rw [show 9-j=9-(j+1)+1 from by omega,Nat.pow_succ] at h5
       omega⟩
      clear h3
      go_wp2_with (at_builtin;refine wpList_append_own _ rfl (.tmp 38) (.tmp 43) 39 rfl w.heap.size 5 i0 (.int .u8 0) 1 1 uU hi hz0 hz1 hz2 rfl (by decide) _ _ _ rfl ((yb2.out.own).alloc _) ⟨_,0,none⟩ 1 1 [.int .u8 (cd.toNat:Int)] rfl rfl (cell_one_new _ _ _) (by intro u hu;simp at hu;subst hu;rfl) hlen.out.1 hlen.out.2.1 (by simp;exact hlen.out.2.2) ?_)
      intro v5 w5 yM yH _
      have ye1:=yA (yb2.out.next yb2.out.below.size rfl yM yH)
      obtain ⟨p5,c5,rfl,-⟩:=ye1.out.slice
      clear yM yH
      go_wp2
      go_roundw
      case rel=>exact ⟨j+1,d/10,_,_,_,_,by go_num,by omega,rfl,rfl,jE,ye1⟩
      case measure=>simp [intOf];omega
  ·obtain rfl:i=k+1:=by omega
   have ybe:Hid (b.reverse=decDigits (yC B9 l)):=yA (yJ.out.2.2 (by omega))
   have hblen:Hid (b.length≤9*(k+1)):=yA yJ.out.1
   have hbpos:Hid (0<b.length):=yA (by
    have h:=congrArg List.length ybe.out
    rw [List.length_reverse,decDigits_length] at h
    have:=nDigits_pos (yC B9 l);omega)
   obtain ⟨pb',cb',he,hcells⟩:=jO.out.slice
   obtain ⟨gb,rfl,hgb,hgb2,zS⟩:=hcells hbpos.out
   cases he
   have Hcell:=yA zS
   have hmi:(b.length:Int)≤9000000:=by have:=hblen.out;omega
   have Hb:=yA jO.out.below
   have Hgb:=yA hgb2
   clear yJ jO zS hcells hgb2
   obtain ⟨B5,hB5⟩:∃ B5,B5=wr.heap.size:=⟨_,rfl⟩
   have HB5:=yA hB5
   clear hB5
   go_wp2_with (at_make;refine wpList_make_own _ rfl _ _ 39 rfl wr.heap.size 5 i0 (.int .u8 0) 1 uU hi hz0 hz1 _ _ _ b.length rfl rfl rfl ?d2 ?d3 nl ?_)
   case d2=>rw [hz2];omega
   case d3=>unfold maxLen;omega
   intro w5 yM yH
   have ye1:Hid (AccB B5 wr w5 (.slice (some ⟨wr.heap.size,0,none⟩) 0 b.length) (b.drop b.length).reverse):=yA (by
    rw [List.drop_eq_nil_of_le nl]
    rw [HB5.out]
    exact ⟨yM,bR.grown yH nl (fun k h=>by cases h)⟩)
   have Hb5:Hid (w.heap.size≤B5):=yA (by rw [HB5.out];exact Hb.out.size)
   have HgB:Hid (gb<B5):=yA (by rw [HB5.out];exact Hgb.out)
   clear yM yH
   go_wp2
   go_loopw [7,8] (fun ov iv w2=>∃ (j:Nat) (z:Int) (po:Oa) (no co:Nat),j≤b.length∧iv=.int .i64 z∧z+1=j∧ov=.slice po no co∧Hid (AccB B5 wr w2 ov (b.drop j).reverse)) (fun _ iv _=>(intOf iv+1).toNat)
   case atStart=>exact ⟨b.length,(b.length:Int)-1,_,_,_,Nat.le_refl _,rfl,by omega,rfl,ye1⟩
   case round =>
    obtain ⟨j,z,po,no,co,hjm,rfl,hz,rfl,hac⟩:=hrel
    by_cases h0:j=0
    ·obtain rfl:z=-1:=by omega
     subst h0
     obtain ⟨po',co',he,hoc⟩:=hac.out.slice
     have hol:Hid ((b.drop 0).reverse=decDigits (yC B9 l)):=yA (by rw [List.drop_zero];exact ybe.out)
     obtain ⟨go,rfl,_,_,hocell⟩:=hoc (by rw [hol.out,decDigits_length];exact nDigits_pos _)
     cases he
     have yi0:(convert 39 9 (.slice (some ⟨go,0,none⟩) b.length co)).run Tryz.prog wr=.ok (.string ⟨(decDigits (yC B9 l)).toArray⟩) wr:=by
      have e:b.length=(b.drop 0).reverse.length:=by simp
      rw [e,run_convert_bytes_back _ 39 9 5 ⟨go,0,none⟩ co (b.drop 0).reverse uU underlying5 yiF (fun j hj=>by
       have e2:(⟨go,0,none⟩:Addr).add j=⟨go,j,none⟩:=by
        simp only [Addr.add];split
        ·rename_i h0;subst h0;rfl
        ·simp
       rw [e2];exact hocell j hj),hol.out]
     have Hconv:=yA yi0
     have Hfin:=yA (Hb.out.trans (hac.out.below.mono Hb5.out))
     clear hz hoc hocell yi0 hac
     go_wp2_with fail
     rw [Hconv.out]
     go_wp2
     go_ret
     exact ⟨rfl,Hfin.out⟩
    ·obtain ⟨i,rfl⟩:∃ i:Nat,z=i:=⟨z.toNat,by omega⟩
     obtain rfl:j=i+1:=by omega
     clear hz h0
     have yay:i<b.length:=by omega
     have hii:(i:Int)<b.length:=by omega
     obtain ⟨cd,hcd⟩:∃ cd:UInt8,Hid (b[i]=cd):=⟨_,yA rfl⟩
     have hc2:wr.cell? ⟨gb,i,none⟩=some (.int .u8 (cd.toNat:Int)):=by
      rw [← hcd.out,← Hcell.out i yay]
      exact hac.out.below.cell (p:=⟨gb,i,none⟩) HgB.out
     have hgbs:Hid (b.drop i=cd::b.drop (i+1)):=yA (by rw [List.drop_eq_getElem_cons yay,hcd.out])
     have hlen:Hid ((b.drop (i+1)).reverse.length+1≤maxLen∧((b.drop (i+1)).reverse.length+1)*1≤140737488355328):=yA (by
      rw [List.length_reverse,List.length_drop];unfold maxLen;omega)
     have hsz:Hid (B5≤wr.heap.size∧B5≤wr.heap.size+1):=yA (by
      have h1:=hac.out.below.size
      have h2:=HB5.out
      omega)
     go_wp2_with (at_builtin;refine wpList_append_own _ rfl (.tmp 58) (.tmp 63) 39 rfl B5 5 i0 (.int .u8 0) 1 1 uU hi hz0 hz1 hz2 rfl (by decide) _ _ _ rfl ((hac.out.own).alloc _) ⟨_,0,none⟩ 1 1 [.int .u8 (cd.toNat:Int)] rfl rfl (cell_one_new _ _ _) (by intro u hu;simp at hu;subst hu;rfl) hlen.out.1 hlen.out.2 (by simp;exact hsz.out.2) ?_)
     intro v6 w6 yba ya1 _
     have yuX:=yA (hac.out.next (c:=cd) hsz.out.1 (by simp) yba ya1)
     have e6:(b.drop (i+1)).reverse++[cd]=(b.drop i).reverse:=by rw [hgbs.out];simp
     rw [e6] at yuX
     obtain ⟨p6,c6,rfl,-⟩:=yuX.out.slice
     clear yba ya1
     go_wp2
     go_roundw
     case rel=>exact ⟨i,(i:Int)-1,_,_,_,by omega,rfl,by omega,rfl,yuX⟩
     case measure=>simp [intOf]
theorem yeT (v:Value) (x K:Nat) (w:World) (hK:K≤900000) (hx:x<B9^K) (hv:yE w v x):Calls Tryz.prog 125 #[v] w (Rp (.string ⟨(decDigits x).toArray⟩) w):=by
 obtain ⟨p,n,c,l,rfl,h1,h2,h3,h4⟩:=hv
 by_cases h0:n=0
 ·subst h0
  have hl:l=[]:=List.eq_nil_of_length_eq_zero h2.len
  subst hl
  have hx0:x=0:=h4.symm
  subst hx0
  have hd:decDigits 0=[48]:=by rw [decDigits_one (by omega)];rfl
  rw [hd]
  clear h1 h2 h3 h4 hx
  go_in
  go_wp2
  go_ret
  exact ⟨rfl,Below.refl _ _⟩
 ·obtain ⟨k,rfl⟩:∃ k,n=k+1:=⟨n-1,by omega⟩
  have:=ydk h3 h4 hx h2
  rw [← h4]
  exact ykS p k c l w (by omega) h2 h3
end
end Go.Proofs.YtgepehlpjpccaaaGreatDoor
