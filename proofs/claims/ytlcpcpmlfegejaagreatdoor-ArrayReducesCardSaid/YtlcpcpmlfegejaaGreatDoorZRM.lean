/- The document's Plus. -/
import Derived.Test.YtlcpcpmlfegejaaGreatDoorGB
import Derived.Test.YtlcpcpmlfegejaaGreatDoorZ05
import Derived.Test.YtlcpcpmlfegejaaGreatDoorZRL
set_option maxHeartbeats 3200000
set_option maxRecDepth 100000
namespace Go.Proofs.YtlcpcpmlfegejaaGreatDoor
open Go.RowKit Big
theorem Nat9.dr {w:World} {v:Value} {x:Nat} (h:Nat9 w v x):Nat9 w.drew v x:=h.below (Below.refl _ _).drew
theorem plus_same (x y:Value) (a b:Rat) (K L:Nat) (w:World) (hK:K+L+1≤900000) (hab:QLt K a) (hbb:QLt L b) (hx:QAt w x a) (hy:QAt w y b) (hst:decide (a.num<0)=decide (b.num<0)):Calls Tryz.prog 87 #[x,y] w (QPost (a+b) w):=by
 have hdx0:Hid (∀ W,Below w.heap.size w W→Calls Tryz.prog 116 #[x] W (Some9 a.den W)):=hiD fun W hW=>den_any x a W (hx.below hW)
 have hdy0:Hid (∀ W,Below w.heap.size w W→Calls Tryz.prog 116 #[y] W (Some9 b.den W)):=hiD fun W hW=>den_any y b W (hy.below hW)
 obtain ⟨u1,v1,rfl,hu1,hv1⟩:=hx
 obtain ⟨u2,v2,rfl,hu2,hv2⟩:=hy
 obtain ⟨s,hs⟩:∃ s,Hid (s=decide (a.num<0)):=⟨_,hiD rfl⟩
 obtain ⟨t,ht⟩:∃ t,Hid (t=decide (b.num<0)):=⟨_,hiD rfl⟩
 rw [← hs.out] at hdx0 ⊢
 rw [← ht.out] at hdy0 ⊢
 rw [← hs.out,← ht.out] at hst
 have hdx:=hdx0
 have hdy:=hdy0
 clear hdx0 hdy0
 obtain ⟨sb,hsb⟩:∃ sb,Hid (sb=decide ((a+b).num<0)):=⟨_,hiD rfl⟩
 obtain ⟨X,hX⟩:∃ X,Hid (X=a.num.natAbs*b.den):=⟨_,hiD rfl⟩
 obtain ⟨Y,hY⟩:∃ Y,Hid (Y=b.num.natAbs*a.den):=⟨_,hiD rfl⟩
 obtain ⟨D,hD⟩:∃ D,Hid (D=a.den*b.den):=⟨_,hiD rfl⟩
 have hXl:Hid (X<B9^(K+L)):=hiD (by rw [hX.out];exact pow9_mul hab.1 hbb.2)
 have hYl:Hid (Y<B9^(K+L)):=hiD (by rw [hY.out,Nat.add_comm K L];exact pow9_mul hbb.1 hab.2)
 have hDl:Hid (D<B9^(K+L+1)):=hiD (by rw [hD.out];exact pow9_mono (pow9_mul hab.2 hbb.2) (by omega))
 have hm1:Hid (∀ W p q,Nat9 W p a.num.natAbs→Nat9 W q b.den→Calls Tryz.prog 115 #[p,q] W (Post9 X W)):=hiD fun W p q h1 h2=>by rw [hX.out];exact natMul_nat _ _ _ _ K L W (by unfold most;omega) (by unfold most;omega) hab.1 hbb.2 h1 h2
 have hm2:Hid (∀ W p q,Nat9 W p b.num.natAbs→Nat9 W q a.den→Calls Tryz.prog 115 #[p,q] W (Post9 Y W)):=hiD fun W p q h1 h2=>by rw [hY.out];exact natMul_nat _ _ _ _ L K W (by unfold most;omega) (by unfold most;omega) hbb.1 hab.2 h1 h2
 have hm3:Hid (∀ W p q,Nat9 W p a.den→Nat9 W q b.den→Calls Tryz.prog 115 #[p,q] W (Post9 D W)):=hiD fun W p q h1 h2=>by rw [hD.out];exact natMul_nat _ _ _ _ K L W (by unfold most;omega) (by unfold most;omega) hab.2 hbb.2 h1 h2
 have hsum:Hid (∀ W p q,Nat9 W p X→Nat9 W q Y→Calls Tryz.prog 120 #[p,q] W (Post9 (X+Y) W)):=hiD fun W p q h1 h2=>natAdd_nat _ _ _ _ (K+L) W (by unfold most;omega) hXl.out hYl.out h1 h2
 have hval:Hid (ratv s (X+Y) D=a+b):=hiD (by
  have e1:ratv s X D=a:=by rw [hX.out,hD.out,ratv_scale a.den_pos b.den_pos,hs.out,ratv_self]
  have e2:ratv t Y D=b:=by rw [hY.out,hD.out,Nat.mul_comm a.den b.den,ratv_scale b.den_pos a.den_pos,ht.out,ratv_self]
  rw [ratv_plus,e1,hst,e2])
 have hnl:Hid (X+Y<B9^(K+L+1)):=hiD (by
  have h1:=hXl.out
  have h2:=hYl.out
  have h3:B9^(K+L+1)=B9^(K+L)*1000000000:=by rw [Nat.pow_succ,B9_eq]
  omega)
 have hmk:Hid (∀ W p q,Nat9 W p (X+Y)→Nat9 W q D→Calls Tryz.prog 114 #[.bool s,p,q] W (QPostB (a+b) sb W)):=hiD fun W p q h1 h2=>by
  have h:=make_any s p q _ _ (K+L+1) W hK hnl.out hDl.out h1 h2
  rw [hval.out] at h
  exact h.mono fun e w' h=>h.b hsb.out
 have htwo:=Twa.start w s u1 v1 t u2 v2
 have Htwo:=hiD htwo
 obtain ⟨-,c0,c1,c2,c3,c4,c5⟩:=htwo.all
 have hbt:(s==t)=true:=by simpa using hst
 clear htwo hv1 hv2 hab hbb hst
 go_enter Tryz.func87,Tryz.ntmps87
 go_wp2_with fail
 go_region_held3 (fun w'=>Twa w.heap.size s u1 v1 t u2 v2 w w'∧w'.cell? ⟨w.heap.size,0,none⟩=some (.bool s)∧w'.cell? ⟨w.heap.size,1,none⟩=some u1∧w'.cell? ⟨w.heap.size,2,none⟩=some v1∧w'.cell? ⟨w.heap.size+1,0,none⟩=some (.bool t)∧w'.cell? ⟨w.heap.size+1,1,none⟩=some u2∧w'.cell? ⟨w.heap.size+1,2,none⟩=some v2)
  (first|exact Twa.all (Twa.drew Htwo.out)|exact Twa.all Htwo.out|(go_split_ands;exact Twa.all (Twa.next (by assumption) hb1))|(go_split_ands;exact Twa.all (Twa.next (by assumption) hb2))|(go_split_ands;exact Twa.all (Twa.next (by assumption) hb3))|(go_split_ands;exact Twa.all (Twa.next (by assumption) hb4))|go_keep)
  (first|(go_at_call_of 116 (Value.agg #[Value.bool t,u2,v2]);go_split_ands;refine (hdy.out _ (Twa.below (by assumption))).mono ?_;rintro e w1 ⟨py,ny,cy,rfl,hvy,hb1⟩)|(go_at_call_of 115 u1;go_split_ands;refine (hm1.out _ _ _ (hu1.below (Twa.below (by assumption))) hvy).mono ?_;rintro e w2 ⟨vX,rfl,hvX,hb2,-⟩;obtain ⟨pX,nX,cX,rfl⟩:=hvX.slice)|(go_at_call_of 116 (Value.agg #[Value.bool s,u1,v1]);go_split_ands;refine (hdx.out _ (Twa.below (by assumption))).mono ?_;rintro e w3 ⟨px,nx,cx,rfl,hvx,hb3⟩)|(go_at_call_of 115 u2;go_split_ands;refine (hm2.out _ _ _ (hu2.below (Twa.below (by assumption))) hvx).mono ?_;rintro e w4 ⟨vY,rfl,hvY,hb4,-⟩;obtain ⟨pY,nY,cY,rfl⟩:=hvY.slice;have htw:=Twa.next (by assumption) hb4))
 go_wp2_with fail
 have HX:=hiD ((hvX.below hb3).below hb4)
 have HY:=hiD hvY
 have Htw:=hiD htw
 obtain ⟨-,c0,c1,c2,c3,c4,c5⟩:=htw.all
 clear hb1 hb2 hb3 hb4 hvx hvy hvX hvY htw
 go_region_held3 (fun w'=>Twa w.heap.size s u1 v1 t u2 v2 w w'∧w'.cell? ⟨w.heap.size,0,none⟩=some (.bool s)∧w'.cell? ⟨w.heap.size,1,none⟩=some u1∧w'.cell? ⟨w.heap.size,2,none⟩=some v1∧w'.cell? ⟨w.heap.size+1,0,none⟩=some (.bool t)∧w'.cell? ⟨w.heap.size+1,1,none⟩=some u2∧w'.cell? ⟨w.heap.size+1,2,none⟩=some v2)
  (first|exact Twa.all (Twa.drew Htw.out)|exact Twa.all Htw.out|(go_split_ands;exact Twa.all (Twa.next (by assumption) hb5))|(go_split_ands;exact Twa.all (Twa.next (by assumption) hb6))|(go_split_ands;exact Twa.all (Twa.next (by assumption) hb7))|go_keep)
  (first|(go_at_call_of 116 (Value.agg #[Value.bool s,u1,v1]);go_split_ands;refine (hdx.out _ (Twa.below (by assumption))).mono ?_;rintro e w5 ⟨px,nx,cx,rfl,hvx,hb5⟩)|(go_at_call_of 116 (Value.agg #[Value.bool t,u2,v2]);go_split_ands;refine (hdy.out _ (Twa.below (by assumption))).mono ?_;rintro e w6 ⟨py,ny,cy,rfl,hvy,hb6⟩)|(go_at_call 115;go_split_ands;refine (hm3.out _ _ _ (hvx.below hb6) hvy).mono ?_;rintro e w7 ⟨vD,rfl,hvD,hb7,-⟩;obtain ⟨pD,nD,cD,rfl⟩:=hvD.slice;have htw:=Twa.next (by assumption) hb7))
 go_wp2_with fail
 have HX7:=hiD (((HX.out.dr.below hb5).below hb6).below hb7)
 have HY7:=hiD (((HY.out.dr.below hb5).below hb6).below hb7)
 have HD7:=hiD hvD
 have Htw7:=hiD htw
 obtain ⟨-,c0,c1,c2,c3,c4,c5⟩:=htw.all
 clear hb5 hb6 hb7 hvx hvy hvD htw
 go_region_held3 (fun w'=>Twa w.heap.size s u1 v1 t u2 v2 w w'∧w'.cell? ⟨w.heap.size,0,none⟩=some (.bool s)∧w'.cell? ⟨w.heap.size,1,none⟩=some u1∧w'.cell? ⟨w.heap.size,2,none⟩=some v1∧w'.cell? ⟨w.heap.size+1,0,none⟩=some (.bool t)∧w'.cell? ⟨w.heap.size+1,1,none⟩=some u2∧w'.cell? ⟨w.heap.size+1,2,none⟩=some v2)
  (first|exact Twa.all (Twa.drew Htw7.out)|exact Twa.all Htw7.out|(go_split_ands;exact Twa.all (Twa.next (by assumption) hb9))|(go_split_ands;exact Twa.all (Twa.next (by assumption) hbA))|(go_split_ands;exact Twa.all (Twa.put3 (by assumption) (Nat.le_refl _) _ _ _ _ _ _ _))|go_keep)
  (first|(go_at_call 120;go_split_ands;refine (hsum.out _ _ _ (HX7.out.dr) (HY7.out.dr)).mono ?_;rintro e w9 ⟨vs,rfl,hvs,hb9,-⟩;obtain ⟨ps,ns,cs,rfl⟩:=hvs.slice)|(go_at_call 114;go_split_ands;refine (hmk.out _ _ _ hvs ((HD7.out.dr).below hb9)).mono ?_;rintro e wA ⟨pr,nr,cr,pq,nq,cq,rfl,hr1,hr2,hbA⟩;have htw:=Twa.next (by assumption) hbA;obtain ⟨z0,z1,z2,k0,k1,k2,f0,f1,f2⟩:=Twa.slots htw))
 go_wp2_with fail
 have hfin:=hiD (htw.fin (Nat.le_refl _) hsb.out hr1 hr2)
 refine bodyPost_ret (v:=.agg #[.bool sb,.slice pr nr cr,.slice pq nq cq]) (by simp [results,Tryz.results87,go_sem,k0,k1,k2]) rfl ?_
 exact hfin.out
theorem plus_ge9 (x y:Value) (a b:Rat) (K L:Nat) (w:World) (hK:K+L+1≤900000) (hab:QLt K a) (hbb:QLt L b) (hx:QAt w x a) (hy:QAt w y b) (hst:decide (a.num<0)≠decide (b.num<0)) (hXY:b.num.natAbs*a.den≤a.num.natAbs*b.den):Calls Tryz.prog 87 #[x,y] w (QPost (a+b) w):=by
 have hdx0:Hid (∀ W,Below w.heap.size w W→Calls Tryz.prog 116 #[x] W (Some9 a.den W)):=hiD fun W hW=>den_any x a W (hx.below hW)
 have hdy0:Hid (∀ W,Below w.heap.size w W→Calls Tryz.prog 116 #[y] W (Some9 b.den W)):=hiD fun W hW=>den_any y b W (hy.below hW)
 obtain ⟨u1,v1,rfl,hu1,hv1⟩:=hx
 obtain ⟨u2,v2,rfl,hu2,hv2⟩:=hy
 obtain ⟨s,hs⟩:∃ s,Hid (s=decide (a.num<0)):=⟨_,hiD rfl⟩
 obtain ⟨t,ht⟩:∃ t,Hid (t=decide (b.num<0)):=⟨_,hiD rfl⟩
 rw [← hs.out] at hdx0 ⊢
 rw [← ht.out] at hdy0 ⊢
 rw [← hs.out,← ht.out] at hst
 have hdx:=hdx0
 have hdy:=hdy0
 clear hdx0 hdy0
 obtain ⟨sb,hsb⟩:∃ sb,Hid (sb=decide ((a+b).num<0)):=⟨_,hiD rfl⟩
 obtain ⟨X,hX⟩:∃ X,Hid (X=a.num.natAbs*b.den):=⟨_,hiD rfl⟩
 obtain ⟨Y,hY⟩:∃ Y,Hid (Y=b.num.natAbs*a.den):=⟨_,hiD rfl⟩
 obtain ⟨D,hD⟩:∃ D,Hid (D=a.den*b.den):=⟨_,hiD rfl⟩
 rw [← hX.out,← hY.out] at hXY
 have hXl:Hid (X<B9^(K+L)):=hiD (by rw [hX.out];exact pow9_mul hab.1 hbb.2)
 have hYl:Hid (Y<B9^(K+L)):=hiD (by rw [hY.out,Nat.add_comm K L];exact pow9_mul hbb.1 hab.2)
 have hDl:Hid (D<B9^(K+L+1)):=hiD (by rw [hD.out];exact pow9_mono (pow9_mul hab.2 hbb.2) (by omega))
 have hm1:Hid (∀ W p q,Nat9 W p a.num.natAbs→Nat9 W q b.den→Calls Tryz.prog 115 #[p,q] W (Post9 X W)):=hiD fun W p q h1 h2=>by rw [hX.out];exact natMul_nat _ _ _ _ K L W (by unfold most;omega) (by unfold most;omega) hab.1 hbb.2 h1 h2
 have hm2:Hid (∀ W p q,Nat9 W p b.num.natAbs→Nat9 W q a.den→Calls Tryz.prog 115 #[p,q] W (Post9 Y W)):=hiD fun W p q h1 h2=>by rw [hY.out];exact natMul_nat _ _ _ _ L K W (by unfold most;omega) (by unfold most;omega) hbb.1 hab.2 h1 h2
 have hm3:Hid (∀ W p q,Nat9 W p a.den→Nat9 W q b.den→Calls Tryz.prog 115 #[p,q] W (Post9 D W)):=hiD fun W p q h1 h2=>by rw [hD.out];exact natMul_nat _ _ _ _ K L W (by unfold most;omega) (by unfold most;omega) hab.2 hbb.2 h1 h2
 have hsum:Hid (∀ W p q,Nat9 W p X→Nat9 W q Y→Calls Tryz.prog 122 #[p,q] W (Post9 (X-Y) W)):=hiD fun W p q h1 h2=>natSub_nat _ _ _ _ (K+L) W (by unfold most;omega) hXl.out hXY h1 h2
 have hcmp:Hid (∀ W p q,Nat9 W p X→Nat9 W q Y→Calls Tryz.prog 121 #[p,q] W fun e w'=>∃ z:Int,e=.returned (.int .i64 z)∧0≤z∧Below W.heap.size W w'):=hiD fun W p q h1 h2=>by
  have h:=natCmp_nat _ _ _ _ (K+L) W (by unfold most;omega) hXl.out hYl.out h1 h2
  refine h.mono fun e w' h=>?_
  obtain ⟨g1,k,g2⟩:=h
  refine ⟨cmp3 X Y,g1,?_,by rw [← g2];exact below_drewN _ _ _⟩
  unfold cmp3;rw [if_neg (by omega)];split<;>omega
 have hval:Hid (ratv s (X-Y) D=a+b):=hiD (by
  have e1:ratv s X D=a:=by rw [hX.out,hD.out,ratv_scale a.den_pos b.den_pos,hs.out,ratv_self]
  have e2:ratv t Y D=b:=by rw [hY.out,hD.out,Nat.mul_comm a.den b.den,ratv_scale b.den_pos a.den_pos,ht.out,ratv_self]
  rw [ratv_minus hst hXY,e1,e2])
 have hnl:Hid (X-Y<B9^(K+L+1)):=hiD (by
  have h1:=hXl.out
  have h2:=hYl.out
  have h3:B9^(K+L+1)=B9^(K+L)*1000000000:=by rw [Nat.pow_succ,B9_eq]
  omega)
 have hmk:Hid (∀ W p q,Nat9 W p (X-Y)→Nat9 W q D→Calls Tryz.prog 114 #[.bool s,p,q] W (QPostB (a+b) sb W)):=hiD fun W p q h1 h2=>by
  have h:=make_any s p q _ _ (K+L+1) W hK hnl.out hDl.out h1 h2
  rw [hval.out] at h
  exact h.mono fun e w' h=>h.b hsb.out
 have htwo:=Twa.start w s u1 v1 t u2 v2
 have Htwo:=hiD htwo
 obtain ⟨-,c0,c1,c2,c3,c4,c5⟩:=htwo.all
 have hbt:(s==t)=false:=by simpa using hst
 clear htwo hv1 hv2 hab hbb hst hXY
 go_enter Tryz.func87,Tryz.ntmps87
 go_wp2_with fail
 go_region_held3 (fun w'=>Twa w.heap.size s u1 v1 t u2 v2 w w'∧w'.cell? ⟨w.heap.size,0,none⟩=some (.bool s)∧w'.cell? ⟨w.heap.size,1,none⟩=some u1∧w'.cell? ⟨w.heap.size,2,none⟩=some v1∧w'.cell? ⟨w.heap.size+1,0,none⟩=some (.bool t)∧w'.cell? ⟨w.heap.size+1,1,none⟩=some u2∧w'.cell? ⟨w.heap.size+1,2,none⟩=some v2)
  (first|exact Twa.all (Twa.drew Htwo.out)|exact Twa.all Htwo.out|(go_split_ands;exact Twa.all (Twa.next (by assumption) hb1))|(go_split_ands;exact Twa.all (Twa.next (by assumption) hb2))|(go_split_ands;exact Twa.all (Twa.next (by assumption) hb3))|(go_split_ands;exact Twa.all (Twa.next (by assumption) hb4))|go_keep)
  (first|(go_at_call_of 116 (Value.agg #[Value.bool t,u2,v2]);go_split_ands;refine (hdy.out _ (Twa.below (by assumption))).mono ?_;rintro e w1 ⟨py,ny,cy,rfl,hvy,hb1⟩)|(go_at_call_of 115 u1;go_split_ands;refine (hm1.out _ _ _ (hu1.below (Twa.below (by assumption))) hvy).mono ?_;rintro e w2 ⟨vX,rfl,hvX,hb2,-⟩;obtain ⟨pX,nX,cX,rfl⟩:=hvX.slice)|(go_at_call_of 116 (Value.agg #[Value.bool s,u1,v1]);go_split_ands;refine (hdx.out _ (Twa.below (by assumption))).mono ?_;rintro e w3 ⟨px,nx,cx,rfl,hvx,hb3⟩)|(go_at_call_of 115 u2;go_split_ands;refine (hm2.out _ _ _ (hu2.below (Twa.below (by assumption))) hvx).mono ?_;rintro e w4 ⟨vY,rfl,hvY,hb4,-⟩;obtain ⟨pY,nY,cY,rfl⟩:=hvY.slice;have htw:=Twa.next (by assumption) hb4))
 go_wp2_with fail
 have HX:=hiD ((hvX.below hb3).below hb4)
 have HY:=hiD hvY
 have Htw:=hiD htw
 obtain ⟨-,c0,c1,c2,c3,c4,c5⟩:=htw.all
 clear hb1 hb2 hb3 hb4 hvx hvy hvX hvY htw
 go_region_held3 (fun w'=>Twa w.heap.size s u1 v1 t u2 v2 w w'∧w'.cell? ⟨w.heap.size,0,none⟩=some (.bool s)∧w'.cell? ⟨w.heap.size,1,none⟩=some u1∧w'.cell? ⟨w.heap.size,2,none⟩=some v1∧w'.cell? ⟨w.heap.size+1,0,none⟩=some (.bool t)∧w'.cell? ⟨w.heap.size+1,1,none⟩=some u2∧w'.cell? ⟨w.heap.size+1,2,none⟩=some v2)
  (first|exact Twa.all (Twa.drew Htw.out)|exact Twa.all Htw.out|(go_split_ands;exact Twa.all (Twa.next (by assumption) hb5))|(go_split_ands;exact Twa.all (Twa.next (by assumption) hb6))|(go_split_ands;exact Twa.all (Twa.next (by assumption) hb7))|go_keep)
  (first|(go_at_call_of 116 (Value.agg #[Value.bool s,u1,v1]);go_split_ands;refine (hdx.out _ (Twa.below (by assumption))).mono ?_;rintro e w5 ⟨px,nx,cx,rfl,hvx,hb5⟩)|(go_at_call_of 116 (Value.agg #[Value.bool t,u2,v2]);go_split_ands;refine (hdy.out _ (Twa.below (by assumption))).mono ?_;rintro e w6 ⟨py,ny,cy,rfl,hvy,hb6⟩)|(go_at_call 115;go_split_ands;refine (hm3.out _ _ _ (hvx.below hb6) hvy).mono ?_;rintro e w7 ⟨vD,rfl,hvD,hb7,-⟩;obtain ⟨pD,nD,cD,rfl⟩:=hvD.slice;have htw:=Twa.next (by assumption) hb7))
 go_wp2_with fail
 have HX7:=hiD (((HX.out.dr.below hb5).below hb6).below hb7)
 have HY7:=hiD (((HY.out.dr.below hb5).below hb6).below hb7)
 have HD7:=hiD hvD
 have Htw7:=hiD htw
 obtain ⟨-,c0,c1,c2,c3,c4,c5⟩:=htw.all
 clear hb5 hb6 hb7 hvx hvy hvD htw
 refine (hcmp.out _ _ _ HX7.out HY7.out).mono ?_
 rintro e w8 ⟨z,rfl,hz,hb8⟩
 have hzd:decide ((0:Int)≤z)=true:=by simp;omega
 have HX8:=hiD (HX7.out.below hb8)
 have HY8:=hiD (HY7.out.below hb8)
 have HD8:=hiD (HD7.out.below hb8)
 have Htw8:=hiD (Htw7.out.next hb8)
 obtain ⟨-,c0,c1,c2,c3,c4,c5⟩:=Htw8.out.all
 clear hb8
 go_wp2_with fail
 go_region_held3 (fun w'=>Twa w.heap.size s u1 v1 t u2 v2 w w'∧w'.cell? ⟨w.heap.size,0,none⟩=some (.bool s)∧w'.cell? ⟨w.heap.size,1,none⟩=some u1∧w'.cell? ⟨w.heap.size,2,none⟩=some v1∧w'.cell? ⟨w.heap.size+1,0,none⟩=some (.bool t)∧w'.cell? ⟨w.heap.size+1,1,none⟩=some u2∧w'.cell? ⟨w.heap.size+1,2,none⟩=some v2)
  (first|exact Twa.all (Twa.drew Htw8.out)|exact Twa.all Htw8.out|(go_split_ands;exact Twa.all (Twa.next (by assumption) hb9))|(go_split_ands;exact Twa.all (Twa.next (by assumption) hbA))|(go_split_ands;exact Twa.all (Twa.put3 (by assumption) (Nat.le_refl _) _ _ _ _ _ _ _))|go_keep)
  (first|(go_at_call 122;go_split_ands;refine (hsum.out _ _ _ (HX8.out.dr) (HY8.out.dr)).mono ?_;rintro e w9 ⟨vs,rfl,hvs,hb9,-⟩;obtain ⟨ps,ns,cs,rfl⟩:=hvs.slice)|(go_at_call 114;go_split_ands;refine (hmk.out _ _ _ hvs ((HD8.out.dr).below hb9)).mono ?_;rintro e wA ⟨pr,nr,cr,pq,nq,cq,rfl,hr1,hr2,hbA⟩;have htw:=Twa.next (by assumption) hbA;obtain ⟨z0,z1,z2,k0,k1,k2,f0,f1,f2⟩:=Twa.slots htw))
 go_wp2_with fail
 have hfin:=hiD (htw.fin (Nat.le_refl _) hsb.out hr1 hr2)
 refine bodyPost_ret (v:=.agg #[.bool sb,.slice pr nr cr,.slice pq nq cq]) (by simp [results,Tryz.results87,go_sem,k0,k1,k2]) rfl ?_
 exact hfin.out
theorem plus_lt9 (x y:Value) (a b:Rat) (K L:Nat) (w:World) (hK:K+L+1≤900000) (hab:QLt K a) (hbb:QLt L b) (hx:QAt w x a) (hy:QAt w y b) (hst:decide (a.num<0)≠decide (b.num<0)) (hXY:a.num.natAbs*b.den<b.num.natAbs*a.den):Calls Tryz.prog 87 #[x,y] w (QPost (a+b) w):=by
 have hdx0:Hid (∀ W,Below w.heap.size w W→Calls Tryz.prog 116 #[x] W (Some9 a.den W)):=hiD fun W hW=>den_any x a W (hx.below hW)
 have hdy0:Hid (∀ W,Below w.heap.size w W→Calls Tryz.prog 116 #[y] W (Some9 b.den W)):=hiD fun W hW=>den_any y b W (hy.below hW)
 obtain ⟨u1,v1,rfl,hu1,hv1⟩:=hx
 obtain ⟨u2,v2,rfl,hu2,hv2⟩:=hy
 obtain ⟨s,hs⟩:∃ s,Hid (s=decide (a.num<0)):=⟨_,hiD rfl⟩
 obtain ⟨t,ht⟩:∃ t,Hid (t=decide (b.num<0)):=⟨_,hiD rfl⟩
 rw [← hs.out] at hdx0 ⊢
 rw [← ht.out] at hdy0 ⊢
 rw [← hs.out,← ht.out] at hst
 have hdx:=hdx0
 have hdy:=hdy0
 clear hdx0 hdy0
 obtain ⟨sb,hsb⟩:∃ sb,Hid (sb=decide ((a+b).num<0)):=⟨_,hiD rfl⟩
 obtain ⟨X,hX⟩:∃ X,Hid (X=a.num.natAbs*b.den):=⟨_,hiD rfl⟩
 obtain ⟨Y,hY⟩:∃ Y,Hid (Y=b.num.natAbs*a.den):=⟨_,hiD rfl⟩
 obtain ⟨D,hD⟩:∃ D,Hid (D=a.den*b.den):=⟨_,hiD rfl⟩
 rw [← hX.out,← hY.out] at hXY
 have hXl:Hid (X<B9^(K+L)):=hiD (by rw [hX.out];exact pow9_mul hab.1 hbb.2)
 have hYl:Hid (Y<B9^(K+L)):=hiD (by rw [hY.out,Nat.add_comm K L];exact pow9_mul hbb.1 hab.2)
 have hDl:Hid (D<B9^(K+L+1)):=hiD (by rw [hD.out];exact pow9_mono (pow9_mul hab.2 hbb.2) (by omega))
 have hm1:Hid (∀ W p q,Nat9 W p a.num.natAbs→Nat9 W q b.den→Calls Tryz.prog 115 #[p,q] W (Post9 X W)):=hiD fun W p q h1 h2=>by rw [hX.out];exact natMul_nat _ _ _ _ K L W (by unfold most;omega) (by unfold most;omega) hab.1 hbb.2 h1 h2
 have hm2:Hid (∀ W p q,Nat9 W p b.num.natAbs→Nat9 W q a.den→Calls Tryz.prog 115 #[p,q] W (Post9 Y W)):=hiD fun W p q h1 h2=>by rw [hY.out];exact natMul_nat _ _ _ _ L K W (by unfold most;omega) (by unfold most;omega) hbb.1 hab.2 h1 h2
 have hm3:Hid (∀ W p q,Nat9 W p a.den→Nat9 W q b.den→Calls Tryz.prog 115 #[p,q] W (Post9 D W)):=hiD fun W p q h1 h2=>by rw [hD.out];exact natMul_nat _ _ _ _ K L W (by unfold most;omega) (by unfold most;omega) hab.2 hbb.2 h1 h2
 have hsum:Hid (∀ W p q,Nat9 W p Y→Nat9 W q X→Calls Tryz.prog 122 #[p,q] W (Post9 (Y-X) W)):=hiD fun W p q h1 h2=>natSub_nat _ _ _ _ (K+L) W (by unfold most;omega) hYl.out (by omega) h1 h2
 have hcmp:Hid (∀ W p q,Nat9 W p X→Nat9 W q Y→Calls Tryz.prog 121 #[p,q] W fun e w'=>∃ z:Int,e=.returned (.int .i64 z)∧z<0∧Below W.heap.size W w'):=hiD fun W p q h1 h2=>by
  have h:=natCmp_nat _ _ _ _ (K+L) W (by unfold most;omega) hXl.out hYl.out h1 h2
  refine h.mono fun e w' h=>?_
  obtain ⟨g1,k,g2⟩:=h
  refine ⟨cmp3 X Y,g1,?_,by rw [← g2];exact below_drewN _ _ _⟩
  unfold cmp3;rw [if_pos (by omega)];omega
 have hval:Hid (ratv t (Y-X) D=a+b):=hiD (by
  have e1:ratv s X D=a:=by rw [hX.out,hD.out,ratv_scale a.den_pos b.den_pos,hs.out,ratv_self]
  have e2:ratv t Y D=b:=by rw [hY.out,hD.out,Nat.mul_comm a.den b.den,ratv_scale b.den_pos a.den_pos,ht.out,ratv_self]
  rw [ratv_minus (fun h=>hst h.symm) (by omega),e1,e2,Rat.add_comm])
 have hnl:Hid (Y-X<B9^(K+L+1)):=hiD (by
  have h1:=hXl.out
  have h2:=hYl.out
  have h3:B9^(K+L+1)=B9^(K+L)*1000000000:=by rw [Nat.pow_succ,B9_eq]
  omega)
 have hmk:Hid (∀ W p q,Nat9 W p (Y-X)→Nat9 W q D→Calls Tryz.prog 114 #[.bool t,p,q] W (QPostB (a+b) sb W)):=hiD fun W p q h1 h2=>by
  have h:=make_any t p q _ _ (K+L+1) W hK hnl.out hDl.out h1 h2
  rw [hval.out] at h
  exact h.mono fun e w' h=>h.b hsb.out
 have htwo:=Twa.start w s u1 v1 t u2 v2
 have Htwo:=hiD htwo
 obtain ⟨-,c0,c1,c2,c3,c4,c5⟩:=htwo.all
 have hbt:(s==t)=false:=by simpa using hst
 clear htwo hv1 hv2 hab hbb hst hXY
 go_enter Tryz.func87,Tryz.ntmps87
 go_wp2_with fail
 go_region_held3 (fun w'=>Twa w.heap.size s u1 v1 t u2 v2 w w'∧w'.cell? ⟨w.heap.size,0,none⟩=some (.bool s)∧w'.cell? ⟨w.heap.size,1,none⟩=some u1∧w'.cell? ⟨w.heap.size,2,none⟩=some v1∧w'.cell? ⟨w.heap.size+1,0,none⟩=some (.bool t)∧w'.cell? ⟨w.heap.size+1,1,none⟩=some u2∧w'.cell? ⟨w.heap.size+1,2,none⟩=some v2)
  (first|exact Twa.all (Twa.drew Htwo.out)|exact Twa.all Htwo.out|(go_split_ands;exact Twa.all (Twa.next (by assumption) hb1))|(go_split_ands;exact Twa.all (Twa.next (by assumption) hb2))|(go_split_ands;exact Twa.all (Twa.next (by assumption) hb3))|(go_split_ands;exact Twa.all (Twa.next (by assumption) hb4))|go_keep)
  (first|(go_at_call_of 116 (Value.agg #[Value.bool t,u2,v2]);go_split_ands;refine (hdy.out _ (Twa.below (by assumption))).mono ?_;rintro e w1 ⟨py,ny,cy,rfl,hvy,hb1⟩)|(go_at_call_of 115 u1;go_split_ands;refine (hm1.out _ _ _ (hu1.below (Twa.below (by assumption))) hvy).mono ?_;rintro e w2 ⟨vX,rfl,hvX,hb2,-⟩;obtain ⟨pX,nX,cX,rfl⟩:=hvX.slice)|(go_at_call_of 116 (Value.agg #[Value.bool s,u1,v1]);go_split_ands;refine (hdx.out _ (Twa.below (by assumption))).mono ?_;rintro e w3 ⟨px,nx,cx,rfl,hvx,hb3⟩)|(go_at_call_of 115 u2;go_split_ands;refine (hm2.out _ _ _ (hu2.below (Twa.below (by assumption))) hvx).mono ?_;rintro e w4 ⟨vY,rfl,hvY,hb4,-⟩;obtain ⟨pY,nY,cY,rfl⟩:=hvY.slice;have htw:=Twa.next (by assumption) hb4))
 go_wp2_with fail
 have HX:=hiD ((hvX.below hb3).below hb4)
 have HY:=hiD hvY
 have Htw:=hiD htw
 obtain ⟨-,c0,c1,c2,c3,c4,c5⟩:=htw.all
 clear hb1 hb2 hb3 hb4 hvx hvy hvX hvY htw
 go_region_held3 (fun w'=>Twa w.heap.size s u1 v1 t u2 v2 w w'∧w'.cell? ⟨w.heap.size,0,none⟩=some (.bool s)∧w'.cell? ⟨w.heap.size,1,none⟩=some u1∧w'.cell? ⟨w.heap.size,2,none⟩=some v1∧w'.cell? ⟨w.heap.size+1,0,none⟩=some (.bool t)∧w'.cell? ⟨w.heap.size+1,1,none⟩=some u2∧w'.cell? ⟨w.heap.size+1,2,none⟩=some v2)
  (first|exact Twa.all (Twa.drew Htw.out)|exact Twa.all Htw.out|(go_split_ands;exact Twa.all (Twa.next (by assumption) hb5))|(go_split_ands;exact Twa.all (Twa.next (by assumption) hb6))|(go_split_ands;exact Twa.all (Twa.next (by assumption) hb7))|go_keep)
  (first|(go_at_call_of 116 (Value.agg #[Value.bool s,u1,v1]);go_split_ands;refine (hdx.out _ (Twa.below (by assumption))).mono ?_;rintro e w5 ⟨px,nx,cx,rfl,hvx,hb5⟩)|(go_at_call_of 116 (Value.agg #[Value.bool t,u2,v2]);go_split_ands;refine (hdy.out _ (Twa.below (by assumption))).mono ?_;rintro e w6 ⟨py,ny,cy,rfl,hvy,hb6⟩)|(go_at_call 115;go_split_ands;refine (hm3.out _ _ _ (hvx.below hb6) hvy).mono ?_;rintro e w7 ⟨vD,rfl,hvD,hb7,-⟩;obtain ⟨pD,nD,cD,rfl⟩:=hvD.slice;have htw:=Twa.next (by assumption) hb7))
 go_wp2_with fail
 have HX7:=hiD (((HX.out.dr.below hb5).below hb6).below hb7)
 have HY7:=hiD (((HY.out.dr.below hb5).below hb6).below hb7)
 have HD7:=hiD hvD
 have Htw7:=hiD htw
 obtain ⟨-,c0,c1,c2,c3,c4,c5⟩:=htw.all
 clear hb5 hb6 hb7 hvx hvy hvD htw
 refine (hcmp.out _ _ _ HX7.out HY7.out).mono ?_
 rintro e w8 ⟨z,rfl,hz,hb8⟩
 have hzd:decide ((0:Int)≤z)=false:=by simp;omega
 have HX8:=hiD (HX7.out.below hb8)
 have HY8:=hiD (HY7.out.below hb8)
 have HD8:=hiD (HD7.out.below hb8)
 have Htw8:=hiD (Htw7.out.next hb8)
 obtain ⟨-,c0,c1,c2,c3,c4,c5⟩:=Htw8.out.all
 clear hb8
 go_wp2_with fail
 go_region_held3 (fun w'=>Twa w.heap.size s u1 v1 t u2 v2 w w'∧w'.cell? ⟨w.heap.size,0,none⟩=some (.bool s)∧w'.cell? ⟨w.heap.size,1,none⟩=some u1∧w'.cell? ⟨w.heap.size,2,none⟩=some v1∧w'.cell? ⟨w.heap.size+1,0,none⟩=some (.bool t)∧w'.cell? ⟨w.heap.size+1,1,none⟩=some u2∧w'.cell? ⟨w.heap.size+1,2,none⟩=some v2)
  (first|exact Twa.all (Twa.drew Htw8.out)|exact Twa.all Htw8.out|(go_split_ands;exact Twa.all (Twa.next (by assumption) hb9))|(go_split_ands;exact Twa.all (Twa.next (by assumption) hbA))|(go_split_ands;exact Twa.all (Twa.put3 (by assumption) (Nat.le_refl _) _ _ _ _ _ _ _))|go_keep)
  (first|(go_at_call 122;go_split_ands;refine (hsum.out _ _ _ (HY8.out.dr) (HX8.out.dr)).mono ?_;rintro e w9 ⟨vs,rfl,hvs,hb9,-⟩;obtain ⟨ps,ns,cs,rfl⟩:=hvs.slice)|(go_at_call 114;go_split_ands;refine (hmk.out _ _ _ hvs ((HD8.out.dr).below hb9)).mono ?_;rintro e wA ⟨pr,nr,cr,pq,nq,cq,rfl,hr1,hr2,hbA⟩;have htw:=Twa.next (by assumption) hbA;obtain ⟨z0,z1,z2,k0,k1,k2,f0,f1,f2⟩:=Twa.slots htw))
 go_wp2_with fail
 have hfin:=hiD (htw.fin (Nat.le_refl _) hsb.out hr1 hr2)
 refine bodyPost_ret (v:=.agg #[.bool sb,.slice pr nr cr,.slice pq nq cq]) (by simp [results,Tryz.results87,go_sem,k0,k1,k2]) rfl ?_
 exact hfin.out
end Go.Proofs.YtlcpcpmlfegejaaGreatDoor
