/- Contracts. -/
import Derived.Test.YtgepehlpjpccaaaGreatDoorRb
set_option maxHeartbeats 12800000
set_option maxRecDepth 100000
namespace Go.Proofs.YtgepehlpjpccaaaGreatDoor
open Go.RowKit Big
theorem ymy (n:Nat):(madeCells #[Value.int .u64 0] n).toList=zK (List.replicate n 0):=by
 have e2:madeCells #[Value.int .u64 0] n=(zK (List.replicate n 0)).toArray:=by
  apply Array.ext
  ·simp [madeCells,zK]
  ·intro i h1 h2
   simp [madeCells,zK,Nat.mod_one]
 rw [e2]
theorem GV {a K L:Nat} (h:a<B9^K) (hKL:K≤L):a<B9^L :=
 Nat.lt_of_lt_of_le h (Nat.pow_le_pow_right zU hKL)
theorem uL {a b K L:Nat} (ha:a<B9^K) (hb:b<B9^L):a*b<B9^(K+L):=by
 rw [Nat.pow_add]
 exact Nat.mul_lt_mul'' ha hb
theorem ykQ {p:Oa} {n c:Nat} {l:List Nat} {w w':World} {e:Ending} (hnc:n≤c∧(p=none→c=0)) (hl:Rd w p n l) (hd:yO B9 l) (h:ygv p n c l w e w'):∃ v,e=.returned v∧yE w' v (yC B9 l)∧Be w w':=by
 obtain ⟨k,hk,rfl,rfl,hz,h0⟩:=h
 refine ⟨_,rfl,⟨p,k,c,l.take k,rfl,⟨by omega,hnc.2⟩,hl.take k hk,⟨hd.take k,?_⟩,?_⟩,Below.refl _ _⟩
 ·rcases h0 with rfl|h0
  ·simp
  ·obtain ⟨j,rfl⟩:∃ j,k=j+1:=⟨k-1,by
    have:k≠0:=by
     rintro rfl
     by_cases h1:0<n
     ·exact h0 (hz 0 (by omega) h1)
     ·apply h0;rw [List.getD_eq_getElem?_getD,List.getElem?_eq_none (by rw [hl.len];omega)];rfl
    omega⟩
   rw [List.getLast?_eq_getElem?,List.length_take,Nat.min_eq_left (by rw [hl.len];exact hk),Nat.add_sub_cancel,List.getElem?_take_of_lt (by omega)]
   rw [Nat.add_sub_cancel,List.getD_eq_getElem?_getD] at h0
   intro e1;rw [e1] at h0;exact h0 rfl
 ·rw [vB B9 l k (by rw [hl.len];exact hk),yeR l k (fun j h1 h2=>hz j h1 (by rw [hl.len] at h2;exact h2))]
  omega
structure DivAt (w0 wr:World) (g A V M k R:Nat) (L:List Nat) (rv:Value):Prop where
 rest:yE wr rv R
 apart:yiU g rv
 row:zV wr g 86 L
 below:Be w0 wr
 inv:DivInv B9 A V M k L R
theorem ykR (p:Oa) (n c0:Nat) (x:List Nat) (q:Oa) (m d0:Nat) (y:List Nat) (a b K:Nat) (w:World) (hK:K≤900000) (ha:a<B9^K) (hb0:B9≤b) (hle:b≤a) (hnc:n≤c0∧(p=none→c0=0)) (hx:Rd w p n x) (cx:yV B9 x) (hxa:yC B9 x=a)
  (hmc:m≤d0∧(q=none→d0=0)) (hy:Rd w q m y) (cy:yV B9 y) (hyb:yC B9 y=b) :
  Calls Tryz.prog 122 #[.slice p n c0,.slice q m d0] w (uW a b w):=by
 obtain ⟨i0,hi,hz0,hz1,hz2⟩:=info_parts vP
 have hbK:b<B9^K:=by omega
 have hb1:0<b:=by have:=zU;omega
 have hmK:=ydk cy hyb hbK hy
 have hm2:2≤m:=by
  apply Nat.le_of_not_lt;intro h
  have h1:=vE y cy.1
  rw [hyb,hy.len] at h1
  have h2:B9^m≤B9^1:=Nat.pow_le_pow_right zU (by omega)
  rw [Nat.pow_one] at h2;omega
 obtain ⟨k1,rfl⟩:∃ k1,m=k1+2:=⟨m-2,by omega⟩
 -- what is read of a and b, in every world from here on
 have hA:Hid (∀ W,Be w W→yE W (.slice p n c0) a):=yA fun W hW=>yE.below ⟨p,n,c0,x,rfl,hnc,hx,cx,hxa⟩ hW
 have hB:Hid (∀ W,Be w W→yE W (.slice q (k1+2) d0) b):=yA fun W hW=>yE.below ⟨q,k1+2,d0,y,rfl,hmc,hy,cy,hyb⟩ hW
 have yaa:Hid (∀ W,Be w W→Calls Tryz.prog 73 #[.slice p n c0,.slice q (k1+2) d0] W fun e w'=>∃ z:Int,0≤z∧e=.returned (.int .i64 z)∧Be w w'):=yA fun W hW=>by
  have h:=GU (.slice p n c0) (.slice q (k1+2) d0) a b K W (by unfold yK;omega) ha hbK (hA.out W hW) (hB.out W hW)
  refine h.mono fun e w' h=>?_
  obtain ⟨h1,t,h2⟩:=h
  refine ⟨jH a b,?_,h1,?_⟩
  ·unfold jH;rw [if_neg (by omega)];split<;>omega
  ·rw [← h2];exact hW.trans (yG _ _ _)
 -- the top digit of b, and the scale
 obtain ⟨b1,o1,bt,rfl,hb1',hc1,hbt⟩:=hy.at (k:=k1+1) (by omega)
 have yuS:bt<B9:=by rw [← hbt.out];exact cy.1.getD zU _
 have yuB:(bt:Int)≤999999999:=by rw [zE] at yuS;omega
 have hbt0:bt≠0:=by
  intro h0
  apply cy.2
  have h1:=hbt.out
  rw [h0] at h1
  have h2:k1+1<y.length:=by rw [hy.len];omega
  rw [List.getLast?_eq_getElem?,hy.len,show k1+2-1=k1+1 from by omega,List.getElem?_eq_getElem h2]
  rw [gD h2] at h1
  simpa using h1
 have hcellb:Hid (∀ W,Be w W→W.cell? ⟨b1,o1+(k1+1),none⟩=some (.int .u64 (bt:Int))):=yA fun W hW=>(hW.cell (p:=⟨b1,o1+(k1+1),none⟩) hb1').trans hc1
 obtain ⟨s,hs⟩:∃ s:Nat,Hid (s=1000000000/(bt+1)):=⟨_,yA rfl⟩
 have hsv:(1000000000:Int)/((bt:Int)+1)=(s:Int):=by rw [hs.out,Int.natCast_ediv];rfl
 have hs1:Hid (0<s∧s≤500000000):=yA ⟨by rw [hs.out];exact Nat.div_pos (by rw [zE] at yuS;omega) (by omega),by
  rw [hs.out]
  exact Nat.le_trans (Nat.div_le_div_left (by omega) (by omega:0<2)) nl⟩
 -- yqe numbers
 have hs2:Hid (s<B9^2):=yA (by have:=hs1.out.2;rw [zE];omega)
 obtain ⟨V,hV⟩:∃ V,Hid (V=b*s):=⟨_,yA rfl⟩
 obtain ⟨A,hAs⟩:∃ A,Hid (A=a*s):=⟨_,yA rfl⟩
 have hV0:Hid (0<V∧V≤A):=yA ⟨by rw [hV.out];exact Nat.mul_pos hb1 hs1.out.1,by rw [hV.out,hAs.out];exact Nat.mul_le_mul_right _ hle⟩
 have hAK:Hid (A<B9^(K+2)):=yA (by rw [hAs.out];exact uL ha hs2.out)
 have hmul1:Hid (∀ W sv,Be w W→yE W sv s→Calls Tryz.prog 70 #[.slice (some ⟨b1,o1,none⟩) (k1+2) d0,sv] W (zJ V W)):=yA fun W sv hW hsv=>by
  have h:=vS (.slice (some ⟨b1,o1,none⟩) (k1+2) d0) sv b s K 2 W (by unfold yK;omega) (by unfold yK;omega) hbK hs2.out (hB.out W hW) hsv
  rw [← hV.out] at h;exact h
 have hmul2:Hid (∀ W sv,Be w W→yE W sv s→Calls Tryz.prog 70 #[.slice p n c0,sv] W (zJ A W)):=yA fun W sv hW hsv=>by
  have h:=vS (.slice p n c0) sv a s K 2 W (by unfold yK;omega) (by unfold yK;omega) ha hs2.out (hA.out W hW) hsv
  rw [← hAs.out] at h;exact h
 have hno:Hid (∀ W,Calls Tryz.prog 66 #[.int .u64 (s:Int)] W (zJ s W)):=yA fun W=>yav _ W (by have:=hs1.out.2;omega)
 have hdv:Hid (a/b=A/V∧(A%V)/s=a%b):=yA (by
  obtain ⟨h1,h2⟩:=ymr (q:=A/V) (R:=A%V) hs1.out.1 hb1 (by rw [hV.out,hAs.out]) (by rw [hV.out,hAs.out])
  exact ⟨h1.symm,h2⟩)
 have hKi:K≤900000:=hK
 have hk1:(k1:Int)≤1000000:=by omega
 clear hx cx hxa hmc hnc hy cy hyb ha hbK hle hb0 hb1 yuS hbt0 hb1' hc1 hmK hm2
 go_in
 go_wp2_with fail
 refine (yaa.out _ bR).mono ?_
 rintro e w1 ⟨z,hz,rfl,hb1⟩
 have hzl:decide (z<0)=false:=by simp;exact hz
 have Hb1:=yA hb1
 have hc:=hcellb.out w1 hb1
 clear hb1 hz
 go_wp2_with fail
 refine (hno.out _).mono ?_
 rintro e w2 ⟨vs,rfl,hvs,hb2,-⟩
 obtain ⟨ps,ns,cs,rfl⟩:=hvs.slice
 have Hb2:=yA (tr Hb1.out hb2)
 have hm1:=yA (hmul1.out w2 _ Hb2.out hvs)
 have Hvs:=yA hvs
 clear hvs hb2
 go_wp2_with fail
 refine hm1.out.mono ?_
 rintro e w3 ⟨vv,rfl,hvv,hb3,-⟩
 obtain ⟨bv,ov,kv,cv,lv,rfl,hcv,hrv,clv,hlv,hbv⟩:=hvv.pos (by have:=hV0.out.1;omega)
 have Hb3:=yA (tr Hb2.out hb3)
 have Hvs3:=yA (Hvs.out.below hb3)
 have hm2:=yA (hmul2.out w3 _ Hb3.out Hvs3.out)
 have Hrv:=yA hrv
 have Hlv:=yA (And.intro clv hlv)
 clear hvv hb3 hrv clv hlv
 go_wp2_with fail
 refine hm2.out.mono ?_
 rintro e w4 ⟨vr,rfl,hvr,hb4,-⟩
 obtain ⟨br,or,kr,cr,lr,rfl,hcr,hrr,clr,hlr,hbr⟩:=hvr.pos (by have:=hV0.out;omega)
 have Hb4:=yA (tr Hb3.out hb4)
 have Hvs4:=yA (Hvs3.out.below hb4)
 have Hrv4:=yA (Hrv.out.below hb4)
 have hpl:=yms Hlv.out.1 Hlv.out.2 (by rw [Hrv4.out.len]) clr hlr hV0.out.2
 rw [hrr.len] at hpl
 obtain ⟨M,hM⟩:∃ M:Nat,kr=M+kv:=⟨kr-kv,by omega⟩
 subst hM
 have hpl2:Hid (A<V*B9^(M+1)):=yA (by
  have:=hpl.2
  rw [show M+kv+1-(kv+1)+1=M+1 from by omega] at this;exact this)
 have hkrK:=ydk clr hlr hAK.out hrr
 have hkr:((M:Int)+kv)≤1000001:=by omega
 have hMi:(M:Int)≤1000001:=by omega
 have hkvi:(kv:Int)≤1000001:=by omega
 have Hvr:=yA (show yE w4 (.slice (some ⟨br,or,none⟩) (M+kv+1) cr) A from hvr)
 have hbvw:Hid (bv<w4.heap.size):=yA (by have:=hb4.size;omega)
 have Hbr:=yA hbr
 have hmaxv:max ((M:Int)+kv+1-(kv+1)+1) 1=((M+1:Nat):Int):=by omega
 have hmax2:max ((M:Int)+1) 1=((M+1:Nat):Int):=by omega
 clear hvr hb4 hrr clr hlr hpl hbv hbr hkrK
 go_wp2_with (at_make;refine wpList_make_full _ rfl _ _ 57 rfl w4.heap.size 86 i0 (.int .u64 0) 1 zF hi hz0 hz1 _ _ _ _ (M+1) rfl rfl ?b0 ?b1 ?b2 ?b3 nl ?_)
 case b0=>omega
 case b1=>omega
 case b2=>rw [hz2];omega
 case b3=>unfold maxLen;omega
 intro w5 yP zB
 have hr5:zV w5 w4.heap.size 86 (List.replicate (M+1) 0):=jN yP
 have hb5:Be w4 w5:=bR.grown zB nl (fun k h=>by cases h)
 have hst:Hid (DivAt w4 w5 w4.heap.size A V (M+1) (M+1) A (List.replicate (M+1) 0) (.slice (some ⟨br,or,none⟩) (M+kv+1) cr)):=yA ⟨Hvr.out.below hb5,fun b o n c e=>by cases e;have:=Hbr.out;omega,hr5,hb5,DivInv.start zU hpl2.out⟩
 have Hvr5:=yA ((Hvr.out.below hb5))
 clear yP zB hr5 hb5
 go_wp2
 go_loopw [10,13] (fun rv iv wr=>∃ (k:Nat) (z:Int) (R:Nat) (L:List Nat) (pr:Oa) (nr cr:Nat),k≤M+1∧iv=.int .i64 z∧z+1=k∧rv=.slice pr nr cr∧Hid (DivAt w4 wr w4.heap.size A V (M+1) k R L rv)) (fun _ iv _=>(intOf iv+1).toNat)
 case atStart=>exact ⟨M+1,(M:Int),A,_,_,_,_,Nat.le_refl _,rfl,by omega,rfl,hst⟩
 case round =>
  obtain ⟨k,z,R,L,pr,nr,cr2,hk,rfl,hz,rfl,hat⟩:=hrel
  by_cases h0:k=0
  ·obtain rfl:z=-1:=by omega
   subst h0
   have ybc:=yA hat.out.inv.done
   have hRV:Hid (R<B9^(K+2)):=yA (by
    have h1:=hat.out.inv.lt
    rw [Nat.pow_zero,Nat.mul_one] at h1
    have h2:=hV0.out.2;have h3:=hAK.out;omega)
   have hvs5:=yA (Hvs4.out.below hat.out.below)
   have hrec:Hid (Calls Tryz.prog 122 #[.slice pr nr cr2,.slice ps ns cs] wr (uW R s wr)):=yA (yiD _ _ R s (K+2) wr (by omega) (by omega) hRV.out hs1.out.1 (by have:=hs1.out.2;rw [zE];omega) hat.out.rest hvs5.out)
   clear hz
   go_wp2_with fail
   refine hrec.out.mono ?_
   rintro e w6 ⟨v6,r6,rfl,hv6,hr6,hb6⟩
   obtain ⟨p6,n6,c6,rfl⟩:=hv6.slice
   obtain ⟨p7,n7,c7,rfl⟩:=hr6.slice
   have hrow6:zV w6 w4.heap.size 86 L:=Below.row hb6 hat.out.row hat.out.row.lt
   have yuT:=hrow6.rd0 (M+1) hat.out.inv.len.symm
   have Hv6:=yA hv6
   have Hb6:=yA ((tr Hb4.out hat.out.below).trans (hb6.mono (by have h1:=Hb4.out.size;have h2:=hat.out.below.size;omega)))
   have ht:Hid (Calls Tryz.prog 126 #[.slice (some ⟨w4.heap.size,0,none⟩) (M+1) (M+1)] w6 (fun e w'=>∃ v,e=.returned v∧yE w' v (yC B9 L)∧Be w6 w')):=yA (by
    refine (ycP _ _ _ L w6 (by unfold maxLen;omega) nl yuT).mono fun _ _ h=>?_
    exact ykQ ⟨Nat.le_refl _,fun h=>by cases h⟩ yuT hat.out.inv.dig h)
   clear hv6 hr6 hb6 hrow6 yuT
   go_wp2_with fail
   refine ht.out.mono ?_
   rintro e w7 ⟨v7,rfl,hv7,hb7⟩
   obtain ⟨p8,n8,c8,rfl⟩:=hv7.slice
   have ydt:Hid (uW a b w (.returned (.tuple #[.slice p8 n8 c8,.slice p6 n6 c6])) w7):=yA ⟨_,_,rfl,by rw [hdv.out.1,← ybc.out.1];exact hv7,by rw [← hdv.out.2,← ybc.out.2];exact Hv6.out.below hb7,tr Hb6.out hb7⟩
   clear hv7 hb7
   go_wp2
   go_ret2
   exact ydt.out
  ·obtain ⟨j,rfl⟩:∃ j:Nat,z=j:=⟨z.toNat,by omega⟩
   obtain rfl:k=j+1:=by omega
   clear hz h0
   have hj:j≤M:=by omega
   have hji:(j:Int)≤1000001:=by omega
   obtain ⟨D,hD⟩:∃ D,Hid (D=V*B9^j):=⟨_,yA rfl⟩
   have hD0:Hid (0<D):=yA (by rw [hD.out];exact Nat.mul_pos hV0.out.1 (Nat.pow_pos zU))
   have hVK:Hid (V<B9^(K+2)):=yA (by have h1:=hV0.out.2;have h2:=hAK.out;omega)
   obtain ⟨P,hP⟩:∃ P,Hid (D<B9^P∧P≤2000000):=⟨K+2+(j+1),yA ⟨by
    rw [hD.out]
    exact uL hVK.out (Nat.pow_lt_pow_right (by rw [zE];omega) (by omega)),by omega⟩⟩
   obtain ⟨p',n',c',lr,he,hnr,hrr,clr,hlr⟩:=hat.out.rest
   cases he
   have hfg:=ykM (j:=j) zU Hlv.out.1 Hlv.out.2 (by rw [Hrv4.out.len]) clr hlr hat.out.inv.lt
   rw [← hD.out,hrr.len] at hfg
   have hRV:Hid (R<B9^(K+2)):=yA (by have h1:=hat.out.inv.eq;have h3:=hAK.out;omega)
   have hnrK:=ydk clr hlr hRV.out hrr
   have hnri:(nr:Int)≤1000002:=by omega
   obtain ⟨vt,hvt⟩:∃ vt,Hid (lv.getD kv 0=vt):=⟨_,yA rfl⟩
   obtain ⟨r0,hr0⟩:∃ r0,Hid (lr.getD (j+kv) 0=r0):=⟨_,yA rfl⟩
   obtain ⟨r1,hr1⟩:∃ r1,Hid (lr.getD (j+kv+1) 0=r1):=⟨_,yA rfl⟩
   rw [hvt.out,hr0.out,hr1.out] at hfg
   have hr0i:(r0:Int)≤999999999:=by have h:=clr.1.getD zU (j+kv);rw [hr0.out,zE] at h;omega
   have hr1i:(r1:Int)≤999999999:=by have h:=clr.1.getD zU (j+kv+1);rw [hr1.out,zE] at h;omega
   have hvti:(vt:Int)≤999999999:=by have h:=Hlv.out.1.1.getD zU kv;rw [hvt.out,zE] at h;omega
   have hvt1:(1:Int)≤vt:=by have:=hfg.2.1;omega
   have hvt0:((vt:Int)==0)=false:=by simp;omega
   have hlenr:=hfg.1
   have Hfg:=yA hfg.2.2
   have Hrr:=yA hrr
   clear hfg hrr clr hnrK
   have yi6:Hid (∀ W,Be wr W→yE W (.slice pr nr cr2) R):=yA fun W hW=>hat.out.rest.below hW
   go_wp2_with (at_make;refine wpList_make_full _ rfl _ _ 57 rfl wr.heap.size 86 i0 (.int .u64 0) 1 zF hi hz0 hz1 _ _ _ _ j rfl rfl (by omega) (by omega) ?c2 ?c3 nl ?_)
   case c2=>rw [hz2];omega
   case c3=>unfold maxLen;omega
   intro w6 yba ya1
   have hb6:Be wr w6:=bR.grown ya1 nl (fun k h=>by cases h)
   have hown6':Hid (w6.ownsRow wr.heap.size 86 1 (.slice (some ⟨wr.heap.size,0,none⟩) j j) j (zK (List.replicate j 0))):=yA (by rw [← ymy];exact yba)
   have ysx:=yA (tr hat.out.below hb6)
   have yb0:=yA (Hrv4.out.news ysx.out ⟨bv,ov,none⟩ rfl)
   have hul:Hid ((zK lv).length=(kv+1)*1):=yA (by rw [zO,Hrv4.out.len,Nat.mul_one])
   have hlen:Hid (j+(kv+1)≤maxLen∧(j+(kv+1))*8≤140737488355328∧wr.heap.size≤w6.heap.size):=yA ⟨by unfold maxLen;omega,by omega,hb6.size⟩
   have Hb6:=yA hb6
   clear yba ya1 hb6
   go_wp2_with (at_builtin;refine wpList_append_own _ rfl (.tmp 75) (.tmp 76) 57 rfl wr.heap.size 86 i0 (.int .u64 0) 1 8 zF hi hz0 hz1 hz2 rfl (by decide) _ _ _ rfl hown6'.out ⟨bv,ov,none⟩ (kv+1) _ (zK lv) rfl hul.out yb0.out (ybh lv) hlen.out.1 hlen.out.2.1 hlen.out.2.2 ?_)
   intro v7 w7 hown7 hgrow7 _
   have hb7:Hid (Be wr w7):=yA (Hb6.out.grown hgrow7 Hb6.out.size (fun k hk=>by cases hk;exact Nat.le_refl _))
   have hsh:∃ p7 c7,v7=.slice p7 (j+(kv+1)) c7∧Hid (yE w7 v7 D):=by
    have hown8:w7.ownsRow wr.heap.size 86 1 v7 (j+(kv+1)) (zK (List.replicate j 0++lv)):=by
     have e:zK (List.replicate j 0++lv)=zK (List.replicate j 0)++zK lv:=by simp [zK]
     rw [e];exact hown7
    obtain ⟨p7,c7,h1,h2,h3,h4⟩:=ycE hown8
    refine ⟨p7,c7,h1,yA ⟨p7,_,c7,_,h1,h2,h3,Hlv.out.1.shift ?_ zU j,?_⟩⟩
    ·intro h0
     have:=Hrv4.out.len
     rw [h0] at this;simp at this
    ·rw [yoo,Hlv.out.2,hD.out,Nat.mul_comm]
   obtain ⟨p7,c7,rfl,hsh⟩:=hsh
   have hcv7:w7.cell? ⟨bv,ov+kv,none⟩=some (.int .u64 (vt:Int)):=by
    obtain ⟨_,_,h3⟩:=Hrv4.out.opened (by omega)
    obtain ⟨h3,h4,h5⟩:=h3
    cases h3
    have h6:=h5 kv (by omega)
    rw [hvt.out] at h6
    exact ((tr hat.out.below hb7.out).cell (p:=⟨bv,ov+kv,none⟩) h4).trans h6
   have hno:Hid (∀ (G:Nat) W,G≤999999999→Calls Tryz.prog 66 #[.int .u64 (G:Int)] W (zJ G W)):=yA fun G W h=>yav G W (by omega)
   have GJ:Hid (∀ (G:Nat) W vg,G≤999999999→yE W vg G→yE W (.slice p7 (j+(kv+1)) c7) D→Calls Tryz.prog 70 #[.slice p7 (j+(kv+1)) c7,vg] W (zJ (D*G) W)):=yA fun G W vg h h2 h3 =>
    vS _ _ D G P 1 W (by have:=hP.out.2;unfold yK;omega) (by unfold yK;omega) hP.out.1 (by rw [Nat.pow_one,zE];omega) h3 h2
   have hcmp2:Hid (∀ (G:Nat) W vp,G≤999999999→yE W vp (D*G)→yE W (.slice pr nr cr2) R→Calls Tryz.prog 73 #[vp,.slice pr nr cr2] W (Rp (.int .i64 (jH (D*G) R)) W)):=yA fun G W vp h h2 h3=>by
    have h4:=GU vp (.slice pr nr cr2) (D*G) R (P+(K+2)) W (by have:=hP.out.2;unfold yK;omega) (by
     have h5:G<B9^(K+2):=by
      have h6:B9^1≤B9^(K+2):=Nat.pow_le_pow_right zU (by omega)
      rw [Nat.pow_one,zE] at h6
      rw [zE];omega
     exact uL hP.out.1 h5) (GV hRV.out (by omega)) h2 h3
    refine h4.mono fun e w' h=>?_
    obtain ⟨h1,t,h2⟩:=h
    exact ⟨h1,by rw [← h2];exact yG _ _ _⟩
   have ybp:Hid (∀ (G:Nat) W vp,G=R/D→yE W vp (D*G)→yE W (.slice pr nr cr2) R→Calls Tryz.prog 74 #[.slice pr nr cr2,vp] W (zJ (R-G*D) W)):=yA fun G W vp h h2 h3=>by
    have h4:=ydH (.slice pr nr cr2) vp R (D*G) (K+2) W (by unfold yK;omega) hRV.out (by rw [h];exact Nat.mul_div_le _ _) h3 h2
    rw [Nat.mul_comm D G] at h4;exact h4
   have jY:Hid (DivInv B9 A V (M+1) j (L.set j (R/D)) (R-R/D*D)):=yA (by
    have h:=hat.out.inv.step zU hV0.out.1 (by omega) (R/D) (by rw [hD.out])
    rw [← hD.out] at h;exact h)
   clear hown7 hgrow7
   by_cases hj1:j+kv+1<nr
   case' pos =>
    have hjn:(j:Int)+(kv+1)<nr:=by omega
    have hjn1:(j:Int)+kv<nr:=by omega
    have hjk:(j:Int)+(kv+1)-1=(j:Int)+kv:=by omega
    have hjkn:j+(kv+1)-1=j+kv:=by omega
    obtain ⟨br2,or2,hpr,ysA,hrc⟩:=Hrr.out.opened (by omega)
    subst hpr
    have hc71:w7.cell? ⟨br2,or2+(j+(kv+1)),none⟩=some (.int .u64 (r1:Int)):=by
     have h6:=hrc (j+(kv+1)) (by omega)
     rw [show j+(kv+1)=j+kv+1 from rfl,hr1.out] at h6
     exact (hb7.out.cell (p:=⟨br2,or2+(j+kv+1),none⟩) ysA).trans h6
    have hc70:w7.cell? ⟨br2,or2+(j+kv),none⟩=some (.int .u64 (r0:Int)):=by
     have h6:=hrc (j+kv) (by omega)
     rw [hr0.out] at h6
     exact (hb7.out.cell (p:=⟨br2,or2+(j+kv),none⟩) ysA).trans h6
    clear hrc
    obtain ⟨T,hTn⟩:∃ T,Hid (T=r1*B9+r0):=⟨_,yA rfl⟩
    have hT:(r1:Int)*1000000000+r0=(T:Int):=by rw [hTn.out,zE];omega
    have hTb:(T:Int)≤1000000000000000000:=by omega
    obtain ⟨Q0,hQ0⟩:∃ Q0,Hid (Q0=T/vt):=⟨_,yA rfl⟩
    have hQv:(T:Int)/(vt:Int)=(Q0:Int):=by rw [hQ0.out,Int.natCast_ediv]
    have hQb:(Q0:Int)≤1000000000000000000:=by
     have h1:Q0≤T:=by rw [hQ0.out];exact Nat.div_le_self _ _
     omega
    obtain ⟨G0,hG0⟩:∃ G0,Hid (G0=min Q0 999999999):=⟨_,yA rfl⟩
    have ypd:min (Q0:Int) 999999999=(G0:Int):=by rw [hG0.out];omega
    have hG:Hid (R/D≤Q0∧R/D≤999999999):=yA (by
     have h:=Hfg.out
     rw [← hTn.out,← hQ0.out,show B9-1=999999999 from rfl] at h
     exact Nat.le_min.1 h)
   case' neg =>
    by_cases hj0:j+kv<nr
    case' pos =>
     have hjn:¬ (j:Int)+(kv+1)<nr:=by omega
     have hjn1:(j:Int)+kv<nr:=by omega
     obtain ⟨br2,or2,hpr,ysA,hrc⟩:=Hrr.out.opened (by omega)
     subst hpr
     have hc70:w7.cell? ⟨br2,or2+(j+kv),none⟩=some (.int .u64 (r0:Int)):=by
      have h6:=hrc (j+kv) (by omega)
      rw [hr0.out] at h6
      exact (hb7.out.cell (p:=⟨br2,or2+(j+kv),none⟩) ysA).trans h6
     clear hrc
     have ypC:r1=0:=by rw [← hr1.out,List.getD_eq_getElem?_getD,List.getElem?_eq_none (by rw [Hrr.out.len];omega)];rfl
     obtain ⟨T,hTn⟩:∃ T,Hid (T=r1*B9+r0):=⟨_,yA rfl⟩
     obtain rfl:r0=T:=by rw [hTn.out,ypC];omega
     have hTb:(r0:Int)≤1000000000000000000:=by omega
     obtain ⟨Q0,hQ0⟩:∃ Q0,Hid (Q0=r0/vt):=⟨_,yA rfl⟩
     have hQv:(r0:Int)/(vt:Int)=(Q0:Int):=by rw [hQ0.out,Int.natCast_ediv]
     have hQb:(Q0:Int)≤1000000000000000000:=by
      have h1:Q0≤r0:=by rw [hQ0.out];exact Nat.div_le_self _ _
      omega
     obtain ⟨G0,hG0⟩:∃ G0,Hid (G0=min Q0 999999999):=⟨_,yA rfl⟩
     have ypd:min (Q0:Int) 999999999=(G0:Int):=by rw [hG0.out];omega
     have hG:Hid (R/D≤Q0∧R/D≤999999999):=yA (by
      have h:=Hfg.out
      rw [← hTn.out,← hQ0.out,show B9-1=999999999 from rfl] at h
      exact Nat.le_min.1 h)
     clear ypC
    case' neg =>
     have hjn:¬ (j:Int)+(kv+1)<nr:=by omega
     have hjn1:¬ (j:Int)+kv<nr:=by omega
     have ypC:r1=0:=by rw [← hr1.out,List.getD_eq_getElem?_getD,List.getElem?_eq_none (by rw [Hrr.out.len];omega)];rfl
     have hr0z:r0=0:=by rw [← hr0.out,List.getD_eq_getElem?_getD,List.getElem?_eq_none (by rw [Hrr.out.len];omega)];rfl
     have hG:Hid (R/D≤0∧0≤999999999):=yA (by
      have h:=Hfg.out
      rw [ypC,hr0z,Nat.zero_mul,Nat.zero_add,Nat.zero_div,Nat.zero_min] at h
      exact ⟨h,by omega⟩)
     clear ypC hr0z
   all_goals
    have uJ:=yA (Below.row hb7.out hat.out.row hat.out.row.lt)
    (go_wp2_with fail)<;>(
     go_loopw [16] (fun gv w8=>∃ (G:Nat),gv=.int .u64 (G:Int)∧Hid (R/D≤G∧G≤999999999)∧Be w7 w8) (fun gv _=>(intOf gv).toNat)
     case atStart=>first|exact ⟨0,rfl,hG,Below.refl _ _⟩|exact ⟨Q0,rfl,yA ⟨hG.out.1,by omega⟩,Below.refl _ _⟩|exact ⟨G0,rfl,yA ⟨by rw [hG0.out];exact Nat.le_min.2 hG.out,by rw [hG0.out];omega⟩,Below.refl _ _⟩|exact ⟨999999999,rfl,yA ⟨hG.out.2,by omega⟩,Below.refl _ _⟩
     case round =>
      obtain ⟨G,rfl,hGi,hb8⟩:=hrel
      have hGb:(G:Int)≤999999999:=by have:=hGi.out.2;omega
      have Hb8:=yA (tr hb7.out hb8)
      have hn8:=yA (hno.out G wr hGi.out.2)
      have hsh8:=yA (hsh.out.below hb8)
      have Hw8:=yA hb8
      clear hb8
      go_wp2_with fail
      refine hn8.out.mono ?_
      rintro e w9 ⟨vg,rfl,hvg,hb9,-⟩
      obtain ⟨p9,n9,c9,rfl⟩:=hvg.slice
      have hm9:=yA (GJ.out G w9 _ hGi.out.2 hvg (hsh8.out.below hb9))
      have hsh9:=yA (hsh8.out.below hb9)
      have Hb9:=yA (tr Hb8.out hb9)
      have Hw9:=yA (tr Hw8.out hb9)
      clear hvg hb9
      go_wp2_with fail
      refine hm9.out.mono ?_
      rintro e w10 ⟨vp,rfl,hvp,ysB,-⟩
      obtain ⟨p10,n10,c10,rfl⟩:=hvp.slice
      have Hb10:=yA (tr Hb9.out ysB)
      have Hw10:=yA (tr Hw9.out ysB)
      have ysC:=yA (hcmp2.out G w10 _ hGi.out.2 hvp (yi6.out _ Hb10.out))
      have hsh10:=yA (hsh9.out.below ysB)
      clear hvp ysB
      by_cases hlt:R<D*G
      ·have hcv:Hid (jH (D*G) R=1):=yA (by unfold jH;rw [if_neg (by omega),if_pos hlt])
       rw [hcv.out] at ysC
       have hgl:=yA (yop hD0.out hGi.out.1 hlt)
       have hG1:(1:Int)≤G:=by have:=hgl.out.2;omega
       clear hlt
       go_wp2_with fail
       refine ysC.out.mono ?_
       rintro e w11 ⟨rfl,ypD⟩
       have Hw11:=yA (tr Hw10.out ypD)
       clear ypD
       go_wp2
       go_roundw
       case rel =>
        have hq:∃ G':Nat,Value.int .u64 ((G:Int)-1)=.int .u64 (G':Int)∧Hid (R/D≤G'∧G'≤999999999)∧Be w7 w11:=⟨G-1,by go_num,yA ⟨hgl.out.1,by have:=hGi.out.2;omega⟩,Hw11.out⟩
        first
         | exact hq
         | exact ⟨_,_,_,_,_,_,_,_,_,_,hq,rfl⟩
       case measure=>simp [intOf];omega
      ·obtain ⟨cz,hcz⟩:∃ cz,Hid (jH (D*G) R=cz):=⟨_,yA rfl⟩
       have hcz0:decide ((0:Int)<cz)=false:=by
        rw [← hcz.out];unfold jH
        simp;split
        ·omega
        ·omega
       rw [hcz.out] at ysC
       have hGq:=yA (ykN hD0.out hGi.out.1 hlt)
       have hstep2:Hid (DivInv B9 A V (M+1) j (L.set j G) (R-G*D)):=yA (by rw [hGq.out];exact jY.out)
       clear hlt
       go_wp2_with fail
       refine ysC.out.mono ?_
       rintro e w11 ⟨rfl,ypD⟩
       have Hw11:=yA (tr Hw10.out ypD)
       have hn11:=yA (hno.out G w11 hGi.out.2)
       clear ypD
       go_wp2_with fail
       refine hn11.out.mono ?_
       rintro e w12 ⟨vg2,rfl,yuU,hb12,-⟩
       obtain ⟨p12,n12,c12,rfl⟩:=yuU.slice
       have Hw12:=yA (tr Hw11.out hb12)
       have hm12:=yA (GJ.out G w12 _ hGi.out.2 yuU (hsh.out.below Hw12.out))
       clear yuU hb12
       go_wp2_with fail
       refine hm12.out.mono ?_
       rintro e w13 ⟨vp2,rfl,yuV,hb13,-⟩
       obtain ⟨p13,n13,c13,rfl⟩:=yuV.slice
       have Hw13:=yA (tr Hw12.out hb13)
       have hs13:=yA (ybp.out G w13 _ hGq.out yuV (yi6.out _ (tr hb7.out Hw13.out)))
       clear yuV hb13
       go_wp2_with fail
       refine hs13.out.mono ?_
       rintro e w14 ⟨vr2,rfl,yuW,ylG,hfr⟩
       obtain ⟨p14,n14,c14,rfl⟩:=yuW.slice
       have Hw14:=yA (tr Hw13.out ylG)
       have yhR:zV w14 w4.heap.size 86 L:=Below.row Hw14.out uJ.out uJ.out.lt
       have hcell14:=yhR.cell j (by rw [hat.out.inv.len];omega)
       have hfree14:=yhR.free j
       have hap:yiU w4.heap.size (.slice p14 n14 c14):=hfr.apart (Nat.lt_of_lt_of_le uJ.out.lt Hw13.out.size)
       have jE:Hid (DivAt w4 (w14.setCell ⟨w4.heap.size,j,none⟩ (.int .u64 (G:Int))) w4.heap.size A V (M+1) j (R-G*D) (L.set j G) (.slice p14 n14 c14)):=yA ⟨yuW.set hap j _,hap,yhR.set j G,((tr hat.out.below hb7.out).trans (Hw14.out.mono (by have h1:=hat.out.below.size;have h2:=hb7.out.size;omega))).setCell nl _,hstep2.out⟩
       clear yuW ylG hfr yhR hap
       go_wp2
       go_roundw
       case rel=>exact ⟨j,(j:Int)-1,R-G*D,_,_,_,_,by omega,rfl,by omega,rfl,jE⟩
       case measure=>simp [intOf])
structure GcdAt (w wr:World) (a b K:Nat) (xv yv:Value) (x y:Nat):Prop where
 rx:yE wr xv x
 ry:yE wr yv y
 xlt:x<B9^K
 ylt:y<B9^K
 eq:Nat.gcd x y=Nat.gcd a b
 below:Be w wr
theorem yE.unique {w:World} {v:Value} {x y:Nat} (h:yE w v x) (k:yE w v y):x=y:=by
 obtain ⟨p,n,c,l,rfl,h2,h3,h4,h5⟩:=h
 obtain ⟨p',n',c',l',e,k2,k3,k4,k5⟩:=k
 cases e
 have e:l=l':=by
  apply List.ext_getElem
  ·rw [h3.len,k3.len]
  ·intro i h1 h1'
   have hi:i<n:=by rw [h3.len] at h1;exact h1
   obtain ⟨b,o,e1,_,c1⟩:=h3.opened (by omega)
   obtain ⟨b',o',e1',_,c1'⟩:=k3.opened (by omega)
   rw [e1] at e1';cases e1'
   have h6:=c1 i hi
   rw [c1' i hi] at h6
   simp only [Option.some.injEq,Value.int.injEq,true_and] at h6
   rw [List.getD_eq_getElem?_getD,List.getD_eq_getElem?_getD,List.getElem?_eq_getElem h1,List.getElem?_eq_getElem h1'] at h6
   simp at h6;omega
 rw [← h5,← k5,e]
theorem yjT {w:World} {v:Value} {x:Nat} (h:yE w v x):(Classical.epsilon fun y=>yE w v y)=x :=
 (Classical.epsilon_spec (p:=fun y=>yE w v y) ⟨x,h⟩).unique h
theorem ydI (u v:Value) (a b K:Nat) (w:World) (hK:K≤900000) (ha:a<B9^K) (hb:b<B9^K) (hb0:0<b) (hu:yE w u a) (hv:yE w v b) :
  Calls Tryz.prog 122 #[u,v] w (uW a b w):=by
 by_cases h:a<b
 ·obtain ⟨p,n,c,x,rfl,h1,h2,h3,h4⟩:=hu
  exact yhi p n c x v a b K w (by omega) ha hb h h1 h2 h3 h4 hv
 ·obtain ⟨p,n,c,x,rfl,h1,h2,h3,h4⟩:=hu
  obtain ⟨q,m,d,y,rfl,g1,g2,g3,g4⟩:=hv
  by_cases h5:b<B9
  ·exact yf5 p n c x q m d y a b K w (by omega) ha hb0 h5 (by omega) h1 h2 h3 h4 g1 g2 g3 g4
  ·exact ykR p n c x q m d y a b K w hK ha (by omega) (by omega) h1 h2 h3 h4 g1 g2 g3 g4
theorem ymz (u v:Value) (a b K:Nat) (w:World) (hK:K≤900000) (ha:a<B9^K) (hb:b<B9^K) (hu:yE w u a) (hv:yE w v b) :
  Calls Tryz.prog 121 #[u,v] w fun e w'=>∃ g,e=.returned g∧yE w' g (Nat.gcd a b)∧Be w w':=by
 obtain ⟨p0,n0,c0,rfl⟩:=hu.slice
 obtain ⟨q0,m0,d0,rfl⟩:=hv.slice
 have hst:Hid (GcdAt w w a b K (.slice p0 n0 c0) (.slice q0 m0 d0) a b):=yA ⟨hu,hv,ha,hb,rfl,Below.refl _ _⟩
 have hKi:=yA hK
 clear hu hv ha hb hK
 go_in
 go_wp2
 go_loopw [0,1] (fun xv yv wr=>∃ (x y:Nat) (p:Oa) (n c:Nat) (q:Oa) (m d:Nat),xv=.slice p n c∧yv=.slice q m d∧Hid (GcdAt w wr a b K xv yv x y)) (fun _ yv wr=>(Classical.epsilon fun y=>yE wr yv y))
 case atStart=>exact ⟨a,b,_,_,_,_,_,_,rfl,rfl,hst⟩
 case round =>
  obtain ⟨x,y,p,n,c,q,m,d,rfl,rfl,hat⟩:=hrel
  by_cases h0:y=0
  ·have hm0:m=0:=hat.out.ry.zero_iff.2 h0
   subst hm0
   have yF:Hid (yE wr (.slice p n c) (Nat.gcd a b)):=yA (by
    have h:=hat.out.eq
    rw [h0,Nat.gcd_zero_right] at h
    rw [← h];exact hat.out.rx)
   clear h0
   go_wp2
   go_ret
   exact ⟨_,rfl,yF.out,hat.out.below⟩
  ·have hm0:(0:Int)<m:=by
    have:=(hat.out.ry.zero_iff (n:=m)).1
    have h1:m≠0:=fun h=>h0 (this h)
    omega
   have yco:=yA (ydI _ _ x y K wr hKi.out hat.out.xlt hat.out.ylt (by omega) hat.out.rx hat.out.ry)
   have H0:=yA h0
   clear h0
   go_wp2_with fail
   refine yco.out.mono ?_
   rintro e w1 ⟨v1,r1,rfl,hv1,hr1,hb1⟩
   obtain ⟨p1,n1,c1,rfl⟩:=hv1.slice
   obtain ⟨p2,n2,c2,rfl⟩:=hr1.slice
   have hlt:x%y<y:=Nat.mod_lt _ (by have:=H0.out;omega)
   have jE:Hid (GcdAt w w1 a b K (.slice q m d) (.slice p2 n2 c2) y (x%y)):=yA ⟨hat.out.ry.below hb1,hr1,hat.out.ylt,by have:=hat.out.ylt;omega,by rw [← hat.out.eq,Nat.gcd_comm y,← Nat.gcd_rec,Nat.gcd_comm],tr hat.out.below hb1⟩
   have yb1:Hid ((Classical.epsilon fun y=>yE w1 (.slice p2 n2 c2) y)<(Classical.epsilon fun y=>yE wr (.slice q m d) y)):=yA (by
    rw [yjT jE.out.ry,yjT hat.out.ry];exact hlt)
   clear hv1 hr1 hb1 hlt
   go_wp2
   go_roundw
   case rel=>exact ⟨y,x%y,_,_,_,_,_,_,rfl,rfl,jE⟩
   case measure=>exact yb1.out
end Go.Proofs.YtgepehlpjpccaaaGreatDoor
namespace Go.Proofs.YtgepehlpjpccaaaGreatDoor
open Go.RowKit Big
variable {B : Nat} {s : Bool} {u1 v1 : Value} {t : Bool} {u2 v2 : Value} {w0 W W' : World}
end Go.Proofs.YtgepehlpjpccaaaGreatDoor
namespace Big
open Go.Proofs.YtgepehlpjpccaaaGreatDoor
theorem ycl {b:Nat} (h:0<b):(b:Rat)≠0:=by
 intro e
 have:((b:Int):Rat)=((0:Int):Rat):=by simpa using e
 have:=Rat.intCast_inj.1 this
 omega
theorem uD (s:Bool) (a b:Nat):yX (s&&!(a==0)) a b=yX s a b:=by
 cases s
 ·rfl
 ·by_cases h:a=0
  ·subst h;simp [yX]
  ·have h1:(a==0)=false:=by simpa using h
   rw [h1];rfl
theorem uA {s:Bool} {a b k:Nat} (hb:0<b) (hk:0<k):yX s (a*k) (b*k)=yX s a b:=by
 have h1:=ycl hb
 have h2:=ycl hk
 unfold yX
 rw [Rat.natCast_mul,Rat.natCast_mul]
 cases s<;>simp<;>grind
theorem yen {s:Bool} {a c m:Nat}:yX s (a+c) m=yX s a m+yX s c m:=by
 unfold yX
 rw [Rat.natCast_add]
 cases s<;>simp<;>grind
theorem yrx {a c:Nat} (h:c≤a):((a-c:Nat):Rat)=(a:Rat)-(c:Rat):=by
 have:((a-c+c:Nat):Rat)=(a:Rat):=by rw [Nat.sub_add_cancel h]
 rw [Rat.natCast_add] at this
 grind
theorem yaB {s t:Bool} {a c m:Nat} (h:s≠t) (hle:c≤a):yX s (a-c) m=yX s a m+yX t c m:=by
 unfold yX
 rw [yrx hle]
 cases s<;>cases t<;>simp at h ⊢<;>grind
end Big
namespace Go.Proofs.YtgepehlpjpccaaaGreatDoor
open Go.RowKit Go.Lib Big
end Go.Proofs.YtgepehlpjpccaaaGreatDoor
namespace Go.Proofs.YtgepehlpjpccaaaGreatDoor
open Go.Lib Big
theorem yiE {s:Bool} {a b:Nat} (hb:0<b):uY (s&&!(a==0)) a b=txt (yX (s&&!(a==0)) a b) :=
 yeW hb (by intro h;simp at h;omega)
theorem GC (q:Rat):yX (decide (q.num<0)) q.num.natAbs q.den=q:=by
 have h:(if decide (q.num<0)=true then -((q.num.natAbs:Nat):Rat) else ((q.num.natAbs:Nat):Rat))=(q.num:Rat):=by
  by_cases h:q.num<0
  ·simp only [h,decide_true,if_true]
   have:((q.num.natAbs:Nat):Int)=- q.num:=by omega
   have h2:(((q.num.natAbs:Nat):Int):Rat)=((- q.num:Int):Rat):=by rw [this]
   rw [Rat.intCast_natCast,Rat.intCast_neg] at h2
   rw [h2,Rat.neg_neg]
  ·simp only [h,decide_false,Bool.false_eq_true,if_false]
   have:((q.num.natAbs:Nat):Int)=q.num:=by omega
   have h2:(((q.num.natAbs:Nat):Int):Rat)=((q.num:Int):Rat):=by rw [this]
   rw [Rat.intCast_natCast] at h2
   exact h2
 unfold yX
 rw [h]
 have h2:q=mkRat q.num q.den:=(Rat.mkRat_self q).symm
 rw [Rat.mkRat_eq_div] at h2
 exact h2.symm
theorem yh4 {u:Nat} (h:¬ u<10):decDigits u=decDigits (u/10)++[UInt8.ofNat (48+u%10)]:=by rw [decDigits,dif_neg h]
theorem yhj {k:Nat} (h:k<10):yL (UInt8.ofNat (48+k))=true∧(UInt8.ofNat (48+k)).toNat-48=k:=by
 have:(UInt8.ofNat (48+k)).toNat=48+k:=by
  rw [UInt8.toNat_ofNat'];omega
 unfold yL
 rw [this]
 simp;omega
theorem yh5 (u:Nat):(decDigits u).all yL=true∧zC (decDigits u)=u:=by
 induction u using Nat.strongRecOn with
 | _ u ih =>
  by_cases h:u<10
  ·rw [decDigits_one h]
   obtain ⟨h1,h2⟩:=yhj h
   refine ⟨by rw [List.all_cons,h1];rfl,?_⟩
   show 0*10+((UInt8.ofNat (48+u)).toNat-48)=u
   rw [h2];omega
  ·rw [yh4 h]
   obtain ⟨h1,h2⟩:=yhj (k:=u%10) (by omega)
   obtain ⟨h3,h4⟩:=ih (u/10) (by omega)
   refine ⟨by rw [List.all_append,h3,List.all_cons,h1];rfl,?_⟩
   rw [uK,h4]
   show u/10*10^1+(0*10+((UInt8.ofNat (48+u%10)).toNat-48))=u
   rw [h2];omega
theorem yvd (u:Nat):decDigits u≠[]:=by
 intro h
 have h1:=decDigits_length u
 rw [h] at h1
 have:=nDigits_pos u
 simp at h1;omega
theorem ycQ {l:Lb} {c:UInt8} (h:l.all yL=true) (hc:yL c=false):c ∉ l:=by
 intro hm
 rw [List.all_eq_true] at h
 rw [h c hm] at hc;cases hc
theorem ygo {l:Lb} {c:UInt8} (h:c ∉ l):Lib.index l [c]=-1:=by
 apply Lib.index_none
 intro j _
 unfold Lib.occAt
 cases hd:l.drop j with
 | nil=>rfl
 | cons b t =>
  have hb:b ∈ l:=List.mem_of_mem_drop (by rw [hd];simp)
  have:(c==b)=false:=by rw [beq_eq_false_iff_ne];rintro rfl;exact h hb
  simp [List.isPrefixOf,this]
theorem yfN {l:Lb} {c:UInt8} (h:c ∉ l):Lib.cut l [c]=(l,[],false):=by
 unfold Lib.cut
 rw [ygo h,if_neg (by decide)]
theorem yk9 {a b:Lb} {c:UInt8} (h:c ∉ a):Lib.cut (a++c::b) [c]=(a,b,true):=by
 have hi:Lib.index (a++c::b) [c]=a.length:=by
  apply Lib.index_first
  ·simp
  ·unfold Lib.occAt;rw [List.drop_left];simp [List.isPrefixOf]
  ·intro j hj
   unfold Lib.occAt
   rw [List.drop_append_of_le_length (by omega)]
   cases hd:a.drop j with
   | nil=>have:=congrArg List.length hd;simp at this;omega
   | cons x t =>
    have hb:x ∈ a:=List.mem_of_mem_drop (by rw [hd];simp)
    have:(c==x)=false:=by rw [beq_eq_false_iff_ne];rintro rfl;exact h hb
    simp [List.isPrefixOf,this]
 unfold Lib.cut
 rw [hi,if_pos (by omega)]
 simp
def ylA (q:Rat):Prop:=nDigits q.num.natAbs≤40∧nDigits q.den≤40
theorem yjU (s:Bool) (n d:Nat):wrote s n d≠[]:=by
 unfold wrote
 simp [yvd]
theorem yve {q:Rat}:txt q≠[]↔ylA q:=by
 rw [yfs]
 unfold ylA
 split
 ·simp [yjU, *]
 ·simp [*]
theorem yot {l:Lb} {q:Rat} (h:num l=some q):ylA q:=by
 rw [← yve,ynu h]
 rintro rfl
 rw [yh9] at h;cases h
end Go.Proofs.YtgepehlpjpccaaaGreatDoor
namespace Go.Proofs.YtgepehlpjpccaaaGreatDoor
open Go.RowKit Big
section
structure Twa (B:Nat) (s:Bool) (u1 v1:Value) (t:Bool) (u2 v2:Value) (w0 W:World):Prop where
 size:B+3≤W.heap.size
 below:Be w0 W
 x:W.heap[B]?=some (.cells #[.bool s,u1,v1] 59 (0,0))
 y:W.heap[B+1]?=some (.cells #[.bool t,u2,v2] 59 (0,0))
 z:∃ z0 z1 z2,W.heap[B+1+1]?=some (.cells #[z0,z1,z2] 59 (0,0))∧vU z0∧vU z1∧vU z2
variable {B : Nat} {s : Bool} {u1 v1 : Value} {t : Bool} {u2 v2 : Value} {w0 W W' : World}
theorem Twa.next (h:Twa B s u1 v1 t u2 v2 w0 W) (hb:Be W W'):Twa B s u1 v1 t u2 v2 w0 W':=by
 have hs:=h.size
 exact ⟨Nat.le_trans hs hb.size,tr h.below hb,(hb.block _ (by omega)).trans h.x,(hb.block _ (by omega)).trans h.y,h.z.elim fun z0 k=>k.elim fun z1 k=>k.elim fun z2 k=>⟨z0,z1,z2,(hb.block _ (by omega)).trans k.1,k.2⟩⟩
theorem Twa.drew (h:Twa B s u1 v1 t u2 v2 w0 W):Twa B s u1 v1 t u2 v2 w0 W.drew:=⟨h.size,h.below.drew,h.x,h.y,h.z⟩
theorem Twa.start (w:World) (s:Bool) (u1 v1:Value) (t:Bool) (u2 v2:Value) :
  Twa w.heap.size s u1 v1 t u2 v2 w (((w.alloc (.cells #[.bool s,u1,v1] 59)).alloc (.cells #[.bool t,u2,v2] 59)).alloc (.cells #[.bool false,.slice none 0 0,.slice none 0 0] 59)):=by
 have hb:∀ (W:World) (o:Obj),Be W (W.alloc o):=fun W o=>bR.alloc nl o
 refine ⟨by simp,((hb _ _).trans ((hb _ _).mono (by simp))).trans ((hb _ _).mono (by simp;omega)),?_,?_,⟨.bool false,.slice none 0 0,.slice none 0 0,?_,zI _,yW _ _ _,yW _ _ _⟩⟩
 ·rw [yaH _ _ _ (by simp;omega),yaH _ _ _ (by simp),zG]
 ·rw [yaH _ _ _ (by simp),show w.heap.size+1=(w.alloc (.cells #[.bool s,u1,v1] 59)).heap.size from by simp,zG]
 ·rw [show w.heap.size+1+1=((w.alloc (.cells #[.bool s,u1,v1] 59)).alloc (.cells #[.bool t,u2,v2] 59)).heap.size from by simp,zG]
theorem Twa.all (h:Twa B s u1 v1 t u2 v2 w0 W):Twa B s u1 v1 t u2 v2 w0 W∧W.cell? ⟨B,0,none⟩=some (.bool s)∧W.cell? ⟨B,1,none⟩=some u1∧W.cell? ⟨B,2,none⟩=some v1 ∧
  W.cell? ⟨B+1,0,none⟩=some (.bool t)∧W.cell? ⟨B+1,1,none⟩=some u2∧W.cell? ⟨B+1,2,none⟩=some v2 :=
 ⟨h,zW h.x 0,zW h.x 1,zW h.x 2,zW h.y 0,zW h.y 1,zW h.y 2⟩
theorem Twa.slots (h:Twa B s u1 v1 t u2 v2 w0 W):∃ z0 z1 z2,W.cell? ⟨B+1+1,0,none⟩=some z0∧W.cell? ⟨B+1+1,1,none⟩=some z1∧W.cell? ⟨B+1+1,2,none⟩=some z2 ∧
  W.frozen? ⟨B+1+1,0,none⟩=false∧W.frozen? ⟨B+1+1,1,none⟩=false∧W.frozen? ⟨B+1+1,2,none⟩=false:=by
 obtain ⟨z0,z1,z2,hz,-⟩:=h.z
 exact ⟨z0,z1,z2,zW hz 0,zW hz 1,zW hz 2,GX hz 0,GX hz 1,GX hz 2⟩
theorem Twa.put1 (h:Twa B s u1 v1 t u2 v2 w0 W) (hB:w0.heap.size≤B) (k:Nat) (hk:k<3) (a:Value) (ha:vU a):Twa B s u1 v1 t u2 v2 w0 (W.setCell ⟨B+1+1,k,none⟩ a):=by
 obtain ⟨z0,z1,z2,hz,n0,n1,n2⟩:=h.z
 refine ⟨by rw [World.size_setCell];exact h.size,h.below.setCell (by simp;omega) _,(Below.heap_setCell _ _ _ _ (by simp;omega)).trans h.x,(Below.heap_setCell _ _ _ _ (by simp)).trans h.y,?_⟩
 have h1:=jU (B+1+1) k _ 59 a hz
 match k,hk with
 | 0,_=>exact ⟨_,_,_,h1,ha,n1,n2⟩
 | 1,_=>exact ⟨_,_,_,h1,n0,ha,n2⟩
 | 2,_=>exact ⟨_,_,_,h1,n0,n1,ha⟩
theorem Twa.put3 (h:Twa B s u1 v1 t u2 v2 w0 W) (hB:w0.heap.size≤B) (a:Bool) (p q:Oa) (n c m d:Nat):Twa B s u1 v1 t u2 v2 w0 (((W.setCell ⟨B+1+1,0,none⟩ (.bool a)).setCell ⟨B+1+1,1,none⟩ (.slice p n c)).setCell ⟨B+1+1,2,none⟩ (.slice q m d)) :=
 ((h.put1 hB 0 (by omega) _ (zI _)).put1 hB 1 (by omega) _ (yW _ _ _)).put1 hB 2 (by omega) _ (yW _ _ _)
theorem Twa.rd (h:Twa B s u1 v1 t u2 v2 w0 W) {p:Oa} {n:Nat} {l:List Nat} (hr:Rd W p n l) (k:Nat) (a:Value):Rd (W.setCell ⟨B+1+1,k,none⟩ a) p n l:=by
 refine ⟨hr.len,?_⟩
 rcases hr.cell with h0|⟨b,off,hp,hlt,hc⟩
 ·exact .inl h0
 ·by_cases hn:n=0
  ·exact .inl hn
  refine .inr ⟨b,off,hp,by rw [World.size_setCell];exact hlt,fun j hj=>?_⟩
  have hne:b≠B+1+1:=by
   rintro rfl
   obtain ⟨z0,z1,z2,hz,n0,n1,n2⟩:=h.z
   have h1:=hc 0 (by omega)
   rw [zW hz] at h1
   match yuP:off+0,h1 with
   | 0,h1=>simp at h1;exact n0 _ _ h1
   | 1,h1=>simp at h1;exact n1 _ _ h1
   | 2,h1=>simp at h1;exact n2 _ _ h1
   | k+3,h1=>simp at h1
  rw [← hc j hj]
  exact World.cell?_of_block (w:=W) (Below.heap_setCell _ _ _ _ hne)
theorem Twa.nat1 (h:Twa B s u1 v1 t u2 v2 w0 W) {v:Value} {x:Nat} (hx:yE W v x) (k:Nat) (a:Value):yE (W.setCell ⟨B+1+1,k,none⟩ a) v x:=by
 obtain ⟨p,n,c,l,h1,h2,h3,h4⟩:=hx
 exact ⟨p,n,c,l,h1,h2,h.rd h3 k a,h4⟩
theorem Twa.nat3 (h:Twa B s u1 v1 t u2 v2 w0 W) (hB:w0.heap.size≤B) {v:Value} {x:Nat} (hx:yE W v x) (a:Bool) (p q:Oa) (n c m d:Nat):yE (((W.setCell ⟨B+1+1,0,none⟩ (.bool a)).setCell ⟨B+1+1,1,none⟩ (.slice p n c)).setCell ⟨B+1+1,2,none⟩ (.slice q m d)) v x :=
 ((h.put1 hB 0 (by omega) _ (zI _)).put1 hB 1 (by omega) _ (yW _ _ _)).nat1 ((h.put1 hB 0 (by omega) _ (zI _)).nat1 (h.nat1 hx _ _) _ _) _ _
end
section
variable {W : World}
theorem yry {g:Nat} {z0 z1 z2:Value} (hz:W.heap[g]?=some (.cells #[z0,z1,z2] 59 (0,0))) (n0:vU z0) (n1:vU z1) (n2:vU z2) {v:Value} {x:Nat} (hx:yE W v x) (k:Nat) (a:Value):yE (W.setCell ⟨g,k,none⟩ a) v x:=by
 obtain ⟨p,n,c,l,h1,h2,hr,h4⟩:=hx
 refine ⟨p,n,c,l,h1,h2,⟨hr.len,?_⟩,h4⟩
 rcases hr.cell with h0|⟨b,off,hp,hlt,hc⟩
 ·exact .inl h0
 ·by_cases hn:n=0
  ·exact .inl hn
  refine .inr ⟨b,off,hp,by rw [World.size_setCell];exact hlt,fun j hj=>?_⟩
  have hne:b≠g:=by
   rintro rfl
   have h1:=hc 0 (by omega)
   rw [zW hz] at h1
   match yuP:off+0,h1 with
   | 0,h1=>simp at h1;exact n0 _ _ h1
   | 1,h1=>simp at h1;exact n1 _ _ h1
   | 2,h1=>simp at h1;exact n2 _ _ h1
   | k+3,h1=>simp at h1
  rw [← hc j hj]
  exact World.cell?_of_block (w:=W) (Below.heap_setCell _ _ _ _ hne)
end
structure Resa (B:Nat) (w0 W:World):Prop where
 size:B+1≤W.heap.size
 below:Be w0 W
 z:∃ z0 z1 z2,W.heap[B]?=some (.cells #[z0,z1,z2] 59 (0,0))∧vU z0∧vU z1∧vU z2
section
variable {B : Nat} {w0 W W' : World}
theorem Resa.next (h:Resa B w0 W) (hb:Be W W'):Resa B w0 W':=by
 have hs:=h.size
 exact ⟨Nat.le_trans hs hb.size,tr h.below hb,h.z.elim fun z0 k=>k.elim fun z1 k=>k.elim fun z2 k=>⟨z0,z1,z2,(hb.block _ (by omega)).trans k.1,k.2⟩⟩
theorem Resa.slots (h:Resa B w0 W):∃ z0 z1 z2,W.cell? ⟨B,0,none⟩=some z0∧W.cell? ⟨B,1,none⟩=some z1∧W.cell? ⟨B,2,none⟩=some z2∧W.frozen? ⟨B,0,none⟩=false∧W.frozen? ⟨B,1,none⟩=false∧W.frozen? ⟨B,2,none⟩=false:=by
 obtain ⟨z0,z1,z2,hz,-⟩:=h.z
 exact ⟨z0,z1,z2,zW hz 0,zW hz 1,zW hz 2,GX hz 0,GX hz 1,GX hz 2⟩
theorem Resa.put1 (h:Resa B w0 W) (hB:w0.heap.size≤B) (k:Nat) (hk:k<3) (a:Value) (ha:vU a):Resa B w0 (W.setCell ⟨B,k,none⟩ a):=by
 obtain ⟨z0,z1,z2,hz,n0,n1,n2⟩:=h.z
 refine ⟨by rw [World.size_setCell];exact h.size,h.below.setCell (by simp;omega) _,?_⟩
 have h1:=jU B k _ 59 a hz
 match k,hk with
 | 0,_=>exact ⟨_,_,_,h1,ha,n1,n2⟩
 | 1,_=>exact ⟨_,_,_,h1,n0,ha,n2⟩
 | 2,_=>exact ⟨_,_,_,h1,n0,n1,ha⟩
theorem Resa.put3 (h:Resa B w0 W) (hB:w0.heap.size≤B) (a:Bool) (p q:Oa) (n c m d:Nat):Resa B w0 (((W.setCell ⟨B,0,none⟩ (.bool a)).setCell ⟨B,1,none⟩ (.slice p n c)).setCell ⟨B,2,none⟩ (.slice q m d)) :=
 ((h.put1 hB 0 (by omega) _ (zI _)).put1 hB 1 (by omega) _ (yW _ _ _)).put1 hB 2 (by omega) _ (yW _ _ _)
theorem Resa.nat1 (h:Resa B w0 W) {v:Value} {x:Nat} (hx:yE W v x) (k:Nat) (a:Value):yE (W.setCell ⟨B,k,none⟩ a) v x:=by
 obtain ⟨z0,z1,z2,hz,n0,n1,n2⟩:=h.z
 exact yry hz n0 n1 n2 hx k a
theorem Resa.nat3 (h:Resa B w0 W) (hB:w0.heap.size≤B) {v:Value} {x:Nat} (hx:yE W v x) (a:Bool) (p q:Oa) (n c m d:Nat):yE (((W.setCell ⟨B,0,none⟩ (.bool a)).setCell ⟨B,1,none⟩ (.slice p n c)).setCell ⟨B,2,none⟩ (.slice q m d)) v x :=
 ((h.put1 hB 0 (by omega) _ (zI _)).put1 hB 1 (by omega) _ (yW _ _ _)).nat1 ((h.put1 hB 0 (by omega) _ (zI _)).nat1 (h.nat1 hx _ _) _ _) _ _
theorem Resa.start (w:World):Resa w.heap.size w (w.alloc (.cells #[.bool false,.slice none 0 0,.slice none 0 0] 59)) :=
 ⟨by simp,bR.alloc nl _,.bool false,.slice none 0 0,.slice none 0 0,zG _ _,zI _,yW _ _ _,yW _ _ _⟩
end
def uH (w:World) (x:Value) (q:Rat):Prop:=∃ u v,x=.agg #[.bool (decide (q.num<0)),u,v]∧yE w u q.num.natAbs∧(yE w v q.den∨(yE w v 0∧q.den=1))
theorem uH.below {w w':World} {x:Value} {q:Rat} (h:uH w x q) (hb:Be w w'):uH w' x q:=by
 obtain ⟨u,v,h1,h2,h3⟩:=h
 exact ⟨u,v,h1,h2.below hb,h3.imp (·.below hb) fun h=>⟨h.1.below hb,h.2⟩⟩
def yae (q:Rat) (w:World) (e:Ending) (w':World):Prop:=∃ x,e=.returned x∧uH w' x q∧Be w w'
theorem uH.slices {w:World} {x:Value} {q:Rat} (h:uH w x q):∃ p n c p2 n2 c2,x=.agg #[.bool (decide (q.num<0)),.slice p n c,.slice p2 n2 c2]∧yE w (.slice p n c) q.num.natAbs∧(yE w (.slice p2 n2 c2) q.den∨(yE w (.slice p2 n2 c2) 0∧q.den=1)):=by
 obtain ⟨u,v,h1,h2,h3⟩:=h
 obtain ⟨p,n,c,rfl⟩:=h2.slice
 obtain ⟨p2,n2,c2,rfl⟩:∃ p n c,v=.slice p n c:=h3.elim (·.slice) fun h=>h.1.slice
 exact ⟨p,n,c,p2,n2,c2,h1,h2,h3⟩
def QLt (K:Nat) (q:Rat):Prop:=q.num.natAbs<B9^K∧q.den<B9^K
theorem you (s:Bool) (b:Nat):yX s 0 b=0:=by unfold yX;cases s<;>simp<;>grind
theorem yov (s:Bool) (a:Nat):yX s a 0=0:=by unfold yX;cases s<;>simp<;>grind
theorem ynr {K a b:Nat} (s:Bool) (ha:a<B9^K) (hb:b<B9^K) (hb0:0<b) (hs:s=true→0<a):QLt K (yX s a b):=by
 obtain ⟨-,h2,h3⟩:=yd3 hb0 hs
 exact ⟨by rw [h2];exact Nat.lt_of_le_of_lt (Nat.div_le_self _ _) ha,by rw [h3];exact Nat.lt_of_le_of_lt (Nat.div_le_self _ _) hb⟩
theorem yD (W:World) (o:Obj):Be W (W.alloc o):=bR.alloc nl o
theorem ycX (w:World):Calls Tryz.prog 67 #[] w (zJ 1 w):=by
 have hno:=yA (yav 1 w (by omega))
 go_in
 go_wp2_with fail
 refine hno.out.mono ?_
 rintro e w' ⟨v,rfl,hv⟩
 obtain ⟨p,n,c,rfl⟩:=hv.1.slice
 go_wp2
 go_ret
 exact ⟨_,rfl,hv⟩
def yct (x:Nat) (w:World) (e:Ending) (w':World):Prop:=∃ p n c,e=.returned (.slice p n c)∧yE w' (.slice p n c) x∧Be w w'
theorem ycY (x:Value) (q:Rat) (w:World) (hx:uH w x q):Calls Tryz.prog 71 #[x] w (yct q.den w):=by
 obtain ⟨p,n,c,p2,n2,c2,rfl,hu,hv⟩:=hx.slices
 have hq0:=q.den_pos
 rcases hv with hv|⟨hv,h1⟩
 ·have hn2:((n2:Int)==0)=false:=by
   have:=hv.zero_iff (n:=n2)
   simp;omega
  have Hv:=yA hv
  clear hu hv hq0
  go_in
  go_wp2
  go_ret
  exact ⟨_,_,_,rfl,Hv.out.below (yD _ _),yD _ _⟩
 ·have hn2:n2=0:=hv.zero_iff.2 rfl
  subst hn2
  have Hq:=yA h1
  have jT:∀ W,Hid (Calls Tryz.prog 67 #[] W (zJ 1 W)):=fun W=>yA (ycX W)
  clear hu hv hq0 h1
  go_in
  go_wp2_with fail
  refine (jT _).out.mono ?_
  rintro e w' ⟨v,rfl,hv,hb,-⟩
  obtain ⟨p3,n3,c3,rfl⟩:=hv.slice
  have Hb:=yA ((yD w _).trans (hb.mono (yD w _).size))
  clear hb
  go_wp2
  go_ret
  exact ⟨_,_,_,rfl,by rw [Hq.out];exact hv,Hb.out⟩
theorem uH.zero (w:World):uH w (.agg #[.bool false,.slice none 0 0,.slice none 0 0]) 0:=⟨_,_,rfl,yE.zero w,.inr ⟨yE.zero w,rfl⟩⟩
theorem yhk (s:Bool) (p q:Oa) (n c m d:Nat) (w:World) (h:n=0∨m=0):Calls Tryz.prog 65 #[.bool s,.slice p n c,.slice q m d] w (yae 0 w):=by
 have zH:=yA (Resa.start w)
 by_cases hn:n=0
 ·subst hn
  go_in
  go_wp2
  refine bodyPost_ret (v:=.agg #[.bool false,.slice none 0 0,.slice none 0 0]) (by simp [results,Tryz.results65,go_sem]) rfl ?_
  exact ⟨_,rfl,uH.zero _,zH.out.below⟩
 ·obtain rfl:m=0:=by omega
  have hn0:((n:Int)==0)=false:=by simp;omega
  go_in
  go_wp2
  refine bodyPost_ret (v:=.agg #[.bool false,.slice none 0 0,.slice none 0 0]) (by simp [results,Tryz.results65,go_sem]) rfl ?_
  exact ⟨_,rfl,uH.zero _,zH.out.below⟩
theorem yrz (s:Bool) (u v:Value) (a b K:Nat) (w:World) (hK:K≤900000) (ha0:0<a) (hb0:0<b) (ha:a<B9^K) (hb:b<B9^K) (hu:yE w u a) (hv:yE w v b):Calls Tryz.prog 65 #[.bool s,u,v] w (yae (yX s a b) w):=by
 obtain ⟨p,n,c,rfl⟩:=hu.slice
 obtain ⟨q,m,d,rfl⟩:=hv.slice
 have hn0:((n:Int)==0)=false:=by have:=hu.zero_iff (n:=n);simp;omega
 have hm0:((m:Int)==0)=false:=by have:=hv.zero_iff (n:=m);simp;omega
 have zH:=yA (Resa.start w)
 obtain ⟨g,hg⟩:∃ g,Hid (g=Nat.gcd a b):=⟨_,yA rfl⟩
 have hg0:Hid (0<g∧g<B9^K):=yA (by rw [hg.out];exact ⟨Nat.gcd_pos_of_pos_left _ ha0,Nat.lt_of_le_of_lt (Nat.gcd_le_left _ ha0) ha⟩)
 have ysz:∀ W,Be w W→Hid (Calls Tryz.prog 121 #[.slice p n c,.slice q m d] W fun e w'=>∃ gv,e=.returned gv∧yE w' gv g∧Be W w'):=fun W hW=>yA (by
  rw [hg.out];exact ymz _ _ a b K W hK ha hb (hu.below hW) (hv.below hW))
 have hd1:∀ W gv,Be w W→yE W gv g→Hid (Calls Tryz.prog 122 #[.slice p n c,gv] W (uW a g W)):=fun W gv hW h=>yA (ydI _ _ a g K W hK ha hg0.out.2 hg0.out.1 (hu.below hW) h)
 have hd2:∀ W gv,Be w W→yE W gv g→Hid (Calls Tryz.prog 122 #[.slice q m d,gv] W (uW b g W)):=fun W gv hW h=>yA (ydI _ _ b g K W hK hb hg0.out.2 hg0.out.1 (hv.below hW) h)
 have hq:Hid (decide ((yX s a b).num<0)=s∧(yX s a b).num.natAbs=a/g∧(yX s a b).den=b/g):=yA (by rw [hg.out];exact yd3 hb0 (fun _=>ha0))
 clear hu hv ha hb ha0 hb0
 go_in
 go_wp2_with fail
 refine (ysz _ zH.out.below).out.mono ?_
 rintro e w1 ⟨gv,rfl,hgv,hb1⟩
 obtain ⟨pg,ng,cg,rfl⟩:=hgv.slice
 have hr1:=yA (zH.out.next hb1)
 have h1:=hd1 w1 _ hr1.out.below hgv
 have Hgv:=yA hgv
 clear hgv hb1 ysz hd1
 go_wp2_with fail
 refine h1.out.mono ?_
 rintro e w2 ⟨v2,r2,rfl,hv2,hr,hb2⟩
 obtain ⟨p2,n2,c2,rfl⟩:=hv2.slice
 obtain ⟨p3,n3,c3,rfl⟩:=hr.slice
 have hr2:=yA (hr1.out.next hb2)
 have h2:=hd2 w2 _ hr2.out.below (Hgv.out.below hb2)
 have Hv2:=yA hv2
 clear hv2 hr hb2 h1 hd2
 go_wp2_with fail
 refine h2.out.mono ?_
 rintro e w3 ⟨v4,r4,rfl,hv4,hr,hb3⟩
 obtain ⟨p4,n4,c4,rfl⟩:=hv4.slice
 obtain ⟨p5,n5,c5,rfl⟩:=hr.slice
 have hr3:=yA (hr2.out.next hb3)
 obtain ⟨z0,z1,z2,l0,l1,l2,f0,f1,f2⟩:=hr3.out.slots
 have q1:=yA (hr3.out.nat3 nl (Hv2.out.below hb3) s p2 p4 n2 c2 n4 c4)
 have q2:=yA (hr3.out.nat3 nl hv4 s p2 p4 n2 c2 n4 c4)
 have q3:=yA (hr3.out.put3 nl s p2 p4 n2 c2 n4 c4).below
 clear hv4 hr hb3 h2
 go_wp2
 refine bodyPost_ret (v:=.agg #[.bool s,.slice p2 n2 c2,.slice p4 n4 c4]) (by simp [results,Tryz.results65,go_sem,l0,l1,l2]) rfl ?_
 exact ⟨_,rfl,⟨_,_,by rw [hq.out.1],by rw [hq.out.2.1];exact q1.out,.inl (by rw [hq.out.2.2];exact q2.out)⟩,q3.out⟩
theorem ybW (s:Bool) (u v:Value) (a b K:Nat) (w:World) (hK:K≤900000) (ha:a<B9^K) (hb:b<B9^K) (hu:yE w u a) (hv:yE w v b):Calls Tryz.prog 65 #[.bool s,u,v] w (yae (yX s a b) w):=by
 by_cases ha0:a=0
 ·obtain ⟨p,n,c,rfl⟩:=hu.slice
  obtain ⟨q,m,d,rfl⟩:=hv.slice
  rw [ha0,you]
  exact yhk s p q n c m d w (.inl (hu.zero_iff.2 ha0))
 ·by_cases hb0:b=0
  ·obtain ⟨p,n,c,rfl⟩:=hu.slice
   obtain ⟨q,m,d,rfl⟩:=hv.slice
   rw [hb0,yov]
   exact yhk s p q n c m d w (.inr (hv.zero_iff.2 hb0))
  ·exact yrz s u v a b K w hK (by omega) (by omega) ha hb hu hv
def yb7 (q:Rat):Int:=if q.num<0 then -1 else if q.num=0 then 0 else 1
theorem yty (x:Value) (q:Rat) (w:World) (hx:uH w x q):Calls Tryz.prog 81 #[x] w (Rp (.int .i64 (yb7 q)) w):=by
 obtain ⟨p,n,c,p2,n2,c2,rfl,hu,-⟩:=hx.slices
 have hz:=hu.zero_iff (n:=n)
 by_cases h0:q.num=0
 ·have hs:Hid (yb7 q=0):=yA (by unfold yb7;rw [h0];rfl)
  have hn:n=0:=hz.2 (by rw [h0];rfl)
  subst hn
  have hd:decide (q.num<0)=false:=by rw [h0];rfl
  rw [hd]
  clear hu hz h0 hx hd
  go_in
  go_wp2
  go_ret
  exact ⟨by rw [hs.out];rfl,yD _ _⟩
 ·have hn0:((n:Int)==0)=false:=by simp;omega
  by_cases h1:q.num<0
  ·have hs:Hid (yb7 q=-1):=yA (by unfold yb7;rw [if_pos h1])
   have hd:decide (q.num<0)=true:=by simpa using h1
   rw [hd]
   clear hu hz h0 h1 hx hd
   go_in
   go_wp2
   go_ret
   exact ⟨by rw [hs.out];rfl,yD _ _⟩
  ·have hs:Hid (yb7 q=1):=yA (by unfold yb7;rw [if_neg h1,if_neg h0])
   have hd:decide (q.num<0)=false:=by simpa using h1
   rw [hd]
   clear hu hz h0 h1 hx hd
   go_in
   go_wp2
   go_ret
   exact ⟨by rw [hs.out];rfl,yD _ _⟩
theorem yns (x:Value) (q:Rat) (w:World) (hx:uH w x q):Calls Tryz.prog 53 #[x] w (yae (-q) w):=by
 obtain ⟨p,n,c,p2,n2,c2,rfl,hu,hv⟩:=hx.slices
 have hz:=hu.zero_iff (n:=n)
 have ylN:∀ f W,f=decide ((-q).num<0)→Be w W→yae (-q) w (.returned (.agg #[.bool f,.slice p n c,.slice p2 n2 c2])) W:=by
  rintro f W rfl hW
  refine ⟨_,rfl,⟨_,_,rfl,?_,?_⟩,hW⟩
  ·rw [Rat.neg_num,Int.natAbs_neg];exact hu.below hW
  ·rw [Rat.neg_den];exact hv.imp (·.below hW) fun h=>⟨h.1.below hW,h.2⟩
 have Hpost:=yA ylN
 have hW:∀ o1 o2,Hid (Be w ((w.alloc o1).alloc o2)):=fun o1 o2=>yA ((yD w o1).trans ((yD _ o2).mono (yD w o1).size))
 by_cases h1:q.num<0
 ·have hd:decide (q.num<0)=true:=by simpa using h1
  have hf:Hid (false=decide ((-q).num<0)):=yA (by rw [Rat.neg_num];symm;simp;omega)
  rw [hd]
  clear hu hv hz hx ylN h1 hd
  go_in
  go_wp2
  refine bodyPost_ret (v:=.agg #[.bool false,.slice p n c,.slice p2 n2 c2]) (by simp [results,Tryz.results53,go_sem]) rfl ?_
  exact Hpost.out _ _ hf.out (hW _ _).out
 ·have hd:decide (q.num<0)=false:=by simpa using h1
  rw [hd]
  by_cases h0:q.num=0
  ·have hn:n=0:=hz.2 (by rw [h0];rfl)
   subst hn
   have hf:Hid (false=decide ((-q).num<0)):=yA (by rw [Rat.neg_num,h0];rfl)
   clear hu hv hz hx ylN h1 h0 hd
   go_in
   go_wp2
   refine bodyPost_ret (v:=.agg #[.bool false,.slice p 0 c,.slice p2 n2 c2]) (by simp [results,Tryz.results53,go_sem]) rfl ?_
   exact Hpost.out _ _ hf.out (hW _ _).out
  ·have hn0:(0:Int)<n:=by omega
   have hf:Hid (true=decide ((-q).num<0)):=yA (by rw [Rat.neg_num];symm;simp;omega)
   clear hu hv hz hx ylN h1 h0 hd
   go_in
   go_wp2
   refine bodyPost_ret (v:=.agg #[.bool true,.slice p n c,.slice p2 n2 c2]) (by simp [results,Tryz.results53,go_sem];omega) rfl ?_
   exact Hpost.out _ _ hf.out (hW _ _).out
theorem yjV (n:Int):yX (decide (n<0)) n.natAbs 1=(n:Rat):=by
 have h:=GC (n:Rat)
 rwa [Rat.num_intCast,Rat.den_intCast] at h
theorem QLt.mono {K L:Nat} {q:Rat} (h:QLt K q) (hK:K≤L):QLt L q:=⟨GV h.1 hK,GV h.2 hK⟩
def ya0 (q:Rat) (sb:Bool) (w:World) (e:Ending) (w':World):Prop:=∃ p n c p2 n2 c2,e=.returned (.agg #[.bool sb,.slice p n c,.slice p2 n2 c2])∧yE w' (.slice p n c) q.num.natAbs∧(yE w' (.slice p2 n2 c2) q.den∨(yE w' (.slice p2 n2 c2) 0∧q.den=1))∧Be w w'
theorem yae.b {q:Rat} {sb:Bool} {w w':World} {e:Ending} (h:yae q w e w') (hs:sb=decide (q.num<0)):ya0 q sb w e w':=by
 obtain ⟨x,rfl,hx,hb⟩:=h
 obtain ⟨p,n,c,p2,n2,c2,rfl,h1,h2⟩:=hx.slices
 exact ⟨p,n,c,p2,n2,c2,by rw [hs],h1,h2,hb⟩
theorem Twa.fin {B:Nat} {s:Bool} {u1 v1:Value} {t:Bool} {u2 v2:Value} {w0 W:World} {q:Rat} {sb:Bool} {p p2:Oa} {n c n2 c2:Nat} (h:Twa B s u1 v1 t u2 v2 w0 W) (hB:w0.heap.size≤B) (hs:sb=decide (q.num<0))
  (h1:yE W (.slice p n c) q.num.natAbs) (h2:yE W (.slice p2 n2 c2) q.den∨(yE W (.slice p2 n2 c2) 0∧q.den=1)) :
  yae q w0 (.returned (.agg #[.bool sb,.slice p n c,.slice p2 n2 c2])) (((W.setCell ⟨B+1+1,0,none⟩ (.bool sb)).setCell ⟨B+1+1,1,none⟩ (.slice p n c)).setCell ⟨B+1+1,2,none⟩ (.slice p2 n2 c2)) :=
 ⟨_,rfl,⟨_,_,by rw [hs],h.nat3 hB h1 sb p p2 n c n2 c2,h2.imp (fun h2=>h.nat3 hB h2 sb p p2 n c n2 c2) fun h2=>⟨h.nat3 hB h2.1 sb p p2 n c n2 c2,h2.2⟩⟩,(h.put3 hB sb p p2 n c n2 c2).below⟩
end Go.Proofs.YtgepehlpjpccaaaGreatDoor
