/- The document's NatDiv, where the divisor has two digits at least. -/
import Derived.Test.YtlcpcpmlfegejaaGreatDoorRb
set_option maxHeartbeats 12800000
set_option maxRecDepth 100000
namespace Go.Proofs.YtlcpcpmlfegejaaGreatDoor
open Go.RowKit Big
theorem made_zeros (n:Nat):(madeCells #[Value.int .u64 0] n).toList=u64s (List.replicate n 0):=by
 have e2:madeCells #[Value.int .u64 0] n=(u64s (List.replicate n 0)).toArray:=by
  apply Array.ext
  ·simp [madeCells,u64s]
  ·intro i h1 h2
   simp [madeCells,u64s,Nat.mod_one]
 rw [e2]
theorem pow9_mono {a K L:Nat} (h:a<B9^K) (hKL:K≤L):a<B9^L :=
 Nat.lt_of_lt_of_le h (Nat.pow_le_pow_right B9_pos hKL)
theorem pow9_mul {a b K L:Nat} (ha:a<B9^K) (hb:b<B9^L):a*b<B9^(K+L):=by
 rw [Nat.pow_add]
 exact Nat.mul_lt_mul'' ha hb
theorem trim_post9' {p:Option Addr} {n c:Nat} {l:List Nat} {w w':World} {e:Ending} (hnc:n≤c∧(p=none→c=0)) (hl:Rd w p n l) (hd:Dig B9 l) (h:Trim p n c l w e w'):∃ v,e=.returned v∧Nat9 w' v (val B9 l)∧Below w.heap.size w w':=by
 obtain ⟨k,hk,rfl,rfl,hz,h0⟩:=h
 refine ⟨_,rfl,⟨p,k,c,l.take k,rfl,⟨by omega,hnc.2⟩,hl.take k hk,⟨hd.take k,?_⟩,?_⟩,Below.refl _ _⟩
 ·rcases h0 with rfl|h0
  ·simp
  ·obtain ⟨j,rfl⟩:∃ j,k=j+1:=⟨k-1,by
    have:k≠0:=by
     rintro rfl
     by_cases h1:0<n
     ·exact h0 (hz 0 (by omega) h1)
     ·apply h0;rw [List.getD_eq_getElem?_getD,List.getElem?_eq_none (by rw [hl.len];omega)];rfl
    omega⟩
   rw [List.getLast?_eq_getElem?,List.length_take,Nat.min_eq_left (by rw [hl.len];exact hk),Nat.add_sub_cancel,List.getElem?_take_of_lt (by omega)]
   rw [Nat.add_sub_cancel,List.getD_eq_getElem?_getD] at h0
   intro e1;rw [e1] at h0;exact h0 rfl
 ·rw [val_split B9 l k (by rw [hl.len];exact hk),drop_zeros9 l k (fun j h1 h2=>hz j h1 (by rw [hl.len] at h2;exact h2))]
  omega
structure DivAt (w0 wr:World) (g A V M k R:Nat) (L:List Nat) (rv:Value):Prop where
 rest:Nat9 wr rv R
 apart:Apart g rv
 row:Row wr g 137 L
 below:Below w0.heap.size w0 wr
 inv:DivInv B9 A V M k L R
theorem natDiv_long (p:Option Addr) (n c0:Nat) (x:List Nat) (q:Option Addr) (m d0:Nat) (y:List Nat) (a b K:Nat) (w:World) (hK:K≤900000) (ha:a<B9^K) (hb0:B9≤b) (hle:b≤a) (hnc:n≤c0∧(p=none→c0=0)) (hx:Rd w p n x) (cx:Canon B9 x) (hxa:val B9 x=a)
  (hmc:m≤d0∧(q=none→d0=0)) (hy:Rd w q m y) (cy:Canon B9 y) (hyb:val B9 y=b) :
  Calls Tryz.prog 150 #[.slice p n c0,.slice q m d0] w (DivPost9 a b w):=by
 obtain ⟨i0,hi,hz0,hz1,hz2⟩:=info_parts info79
 have hbK:b<B9^K:=by omega
 have hb1:0<b:=by have:=B9_pos;omega
 have hmK:=pow9 cy hyb hbK hy
 have hm2:2≤m:=by
  apply Nat.le_of_not_lt;intro h
  have h1:=val_lt y cy.1
  rw [hyb,hy.len] at h1
  have h2:B9^m≤B9^1:=Nat.pow_le_pow_right B9_pos (by omega)
  rw [Nat.pow_one] at h2;omega
 obtain ⟨k1,rfl⟩:∃ k1,m=k1+2:=⟨m-2,by omega⟩
 -- what is read of a and b, in every world from here on
 have hA:Hid (∀ W,Below w.heap.size w W→Nat9 W (.slice p n c0) a):=hiD fun W hW=>Nat9.below ⟨p,n,c0,x,rfl,hnc,hx,cx,hxa⟩ hW
 have hB:Hid (∀ W,Below w.heap.size w W→Nat9 W (.slice q (k1+2) d0) b):=hiD fun W hW=>Nat9.below ⟨q,k1+2,d0,y,rfl,hmc,hy,cy,hyb⟩ hW
 have hcmp:Hid (∀ W,Below w.heap.size w W→Calls Tryz.prog 121 #[.slice p n c0,.slice q (k1+2) d0] W fun e w'=>∃ z:Int,0≤z∧e=.returned (.int .i64 z)∧Below w.heap.size w w'):=hiD fun W hW=>by
  have h:=natCmp_nat (.slice p n c0) (.slice q (k1+2) d0) a b K W (by unfold most;omega) ha hbK (hA.out W hW) (hB.out W hW)
  refine h.mono fun e w' h=>?_
  obtain ⟨h1,t,h2⟩:=h
  refine ⟨cmp3 a b,?_,h1,?_⟩
  ·unfold cmp3;rw [if_neg (by omega)];split<;>omega
  ·rw [← h2];exact hW.trans (below_drewN _ _ _)
 -- the top digit of b, and the scale
 obtain ⟨b1,o1,bt,rfl,hb1',hc1,hbt⟩:=hy.at (k:=k1+1) (by omega)
 have hbt9:bt<B9:=by rw [← hbt.out];exact cy.1.getD B9_pos _
 have hbti:(bt:Int)≤999999999:=by rw [B9_eq] at hbt9;omega
 have hbt0:bt≠0:=by
  intro h0
  apply cy.2
  have h1:=hbt.out
  rw [h0] at h1
  have h2:k1+1<y.length:=by rw [hy.len];omega
  rw [List.getLast?_eq_getElem?,hy.len,show k1+2-1=k1+1 from by omega,List.getElem?_eq_getElem h2]
  rw [List.getD_eq_getElem?_getD,List.getElem?_eq_getElem h2] at h1
  simpa using h1
 have hcellb:Hid (∀ W,Below w.heap.size w W→W.cell? ⟨b1,o1+(k1+1),none⟩=some (.int .u64 (bt:Int))):=hiD fun W hW=>(hW.cell (p:=⟨b1,o1+(k1+1),none⟩) hb1').trans hc1
 obtain ⟨s,hs⟩:∃ s:Nat,Hid (s=1000000000/(bt+1)):=⟨_,hiD rfl⟩
 have hsv:(1000000000:Int)/((bt:Int)+1)=(s:Int):=by rw [hs.out,Int.natCast_ediv];rfl
 have hs1:Hid (0<s∧s≤500000000):=hiD ⟨by rw [hs.out];exact Nat.div_pos (by rw [B9_eq] at hbt9;omega) (by omega),by
  rw [hs.out]
  exact Nat.le_trans (Nat.div_le_div_left (by omega) (by omega:0<2)) (Nat.le_refl _)⟩
 -- scaled numbers
 have hs2:Hid (s<B9^2):=hiD (by have:=hs1.out.2;rw [B9_eq];omega)
 obtain ⟨V,hV⟩:∃ V,Hid (V=b*s):=⟨_,hiD rfl⟩
 obtain ⟨A,hAs⟩:∃ A,Hid (A=a*s):=⟨_,hiD rfl⟩
 have hV0:Hid (0<V∧V≤A):=hiD ⟨by rw [hV.out];exact Nat.mul_pos hb1 hs1.out.1,by rw [hV.out,hAs.out];exact Nat.mul_le_mul_right _ hle⟩
 have hAK:Hid (A<B9^(K+2)):=hiD (by rw [hAs.out];exact pow9_mul ha hs2.out)
 have hmul1:Hid (∀ W sv,Below w.heap.size w W→Nat9 W sv s→Calls Tryz.prog 115 #[.slice (some ⟨b1,o1,none⟩) (k1+2) d0,sv] W (Post9 V W)):=hiD fun W sv hW hsv=>by
  have h:=natMul_nat (.slice (some ⟨b1,o1,none⟩) (k1+2) d0) sv b s K 2 W (by unfold most;omega) (by unfold most;omega) hbK hs2.out (hB.out W hW) hsv
  rw [← hV.out] at h;exact h
 have hmul2:Hid (∀ W sv,Below w.heap.size w W→Nat9 W sv s→Calls Tryz.prog 115 #[.slice p n c0,sv] W (Post9 A W)):=hiD fun W sv hW hsv=>by
  have h:=natMul_nat (.slice p n c0) sv a s K 2 W (by unfold most;omega) (by unfold most;omega) ha hs2.out (hA.out W hW) hsv
  rw [← hAs.out] at h;exact h
 have hno:Hid (∀ W,Calls Tryz.prog 117 #[.int .u64 (s:Int)] W (Post9 s W)):=hiD fun W=>natOf_any _ W (by have:=hs1.out.2;omega)
 have hdv:Hid (a/b=A/V∧(A%V)/s=a%b):=hiD (by
  obtain ⟨h1,h2⟩:=scaled_end (q:=A/V) (R:=A%V) hs1.out.1 hb1 (by rw [hV.out,hAs.out]) (by rw [hV.out,hAs.out])
  exact ⟨h1.symm,h2⟩)
 have hKi:K≤900000:=hK
 have hk1:(k1:Int)≤1000000:=by omega
 clear hx cx hxa hmc hnc hy cy hyb ha hbK hle hb0 hb1 hbt9 hbt0 hb1' hc1 hmK hm2
 go_enter Tryz.func150,Tryz.ntmps150
 go_wp2_with fail
 refine (hcmp.out _ (Below.refl _ _)).mono ?_
 rintro e w1 ⟨z,hz,rfl,hb1⟩
 have hzl:decide (z<0)=false:=by simp;exact hz
 have Hb1:=hiD hb1
 have hc:=hcellb.out w1 hb1
 clear hb1 hz
 go_wp2_with fail
 refine (hno.out _).mono ?_
 rintro e w2 ⟨vs,rfl,hvs,hb2,-⟩
 obtain ⟨ps,ns,cs,rfl⟩:=hvs.slice
 have Hb2:=hiD (Hb1.out.trans (hb2.mono Hb1.out.size))
 have hm1:=hiD (hmul1.out w2 _ Hb2.out hvs)
 have Hvs:=hiD hvs
 clear hvs hb2
 go_wp2_with fail
 refine hm1.out.mono ?_
 rintro e w3 ⟨vv,rfl,hvv,hb3,-⟩
 obtain ⟨bv,ov,kv,cv,lv,rfl,hcv,hrv,clv,hlv,hbv⟩:=hvv.pos (by have:=hV0.out.1;omega)
 have Hb3:=hiD (Hb2.out.trans (hb3.mono Hb2.out.size))
 have Hvs3:=hiD (Hvs.out.below hb3)
 have hm2:=hiD (hmul2.out w3 _ Hb3.out Hvs3.out)
 have Hrv:=hiD hrv
 have Hlv:=hiD (And.intro clv hlv)
 clear hvv hb3 hrv clv hlv
 go_wp2_with fail
 refine hm2.out.mono ?_
 rintro e w4 ⟨vr,rfl,hvr,hb4,-⟩
 obtain ⟨br,or,kr,cr,lr,rfl,hcr,hrr,clr,hlr,hbr⟩:=hvr.pos (by have:=hV0.out;omega)
 have Hb4:=hiD (Hb3.out.trans (hb4.mono Hb3.out.size))
 have Hvs4:=hiD (Hvs3.out.below hb4)
 have Hrv4:=hiD (Hrv.out.below hb4)
 have hpl:=quo_places Hlv.out.1 Hlv.out.2 (by rw [Hrv4.out.len]) clr hlr hV0.out.2
 rw [hrr.len] at hpl
 obtain ⟨M,hM⟩:∃ M:Nat,kr=M+kv:=⟨kr-kv,by omega⟩
 subst hM
 have hpl2:Hid (A<V*B9^(M+1)):=hiD (by
  have:=hpl.2
  rw [show M+kv+1-(kv+1)+1=M+1 from by omega] at this;exact this)
 have hkrK:=pow9 clr hlr hAK.out hrr
 have hkr:((M:Int)+kv)≤1000001:=by omega
 have hMi:(M:Int)≤1000001:=by omega
 have hkvi:(kv:Int)≤1000001:=by omega
 have Hvr:=hiD (show Nat9 w4 (.slice (some ⟨br,or,none⟩) (M+kv+1) cr) A from hvr)
 have hbvw:Hid (bv<w4.heap.size):=hiD (by have:=hb4.size;omega)
 have Hbr:=hiD hbr
 have hmaxv:max ((M:Int)+kv+1-(kv+1)+1) 1=((M+1:Nat):Int):=by omega
 have hmax2:max ((M:Int)+1) 1=((M+1:Nat):Int):=by omega
 clear hvr hb4 hrr clr hlr hpl hbv hbr hkrK
 go_wp2_with (at_make;refine wpList_make_full _ rfl _ _ 98 rfl w4.heap.size 137 i0 (.int .u64 0) 1 underlying36 hi hz0 hz1 _ _ _ _ (M+1) rfl rfl ?b0 ?b1 ?b2 ?b3 (Nat.le_refl _) ?_)
 case b0=>omega
 case b1=>omega
 case b2=>rw [hz2];omega
 case b3=>unfold maxLen;omega
 intro w5 hown hgrow
 have hr5:Row w5 w4.heap.size 137 (List.replicate (M+1) 0):=row_of_made hown
 have hb5:Below w4.heap.size w4 w5:=(Below.refl _ _).grown hgrow (Nat.le_refl _) (fun k h=>by cases h)
 have hst:Hid (DivAt w4 w5 w4.heap.size A V (M+1) (M+1) A (List.replicate (M+1) 0) (.slice (some ⟨br,or,none⟩) (M+kv+1) cr)):=hiD ⟨Hvr.out.below hb5,fun b o n c e=>by cases e;have:=Hbr.out;omega,hr5,hb5,DivInv.start B9_pos hpl2.out⟩
 have Hvr5:=hiD ((Hvr.out.below hb5))
 clear hown hgrow hr5 hb5
 go_wp2_with fail
 go_loopw [10,13] (fun rv iv wr=>∃ (k:Nat) (z:Int) (R:Nat) (L:List Nat) (pr:Option Addr) (nr cr:Nat),k≤M+1∧iv=.int .i64 z∧z+1=k∧rv=.slice pr nr cr∧Hid (DivAt w4 wr w4.heap.size A V (M+1) k R L rv)) (fun _ iv _=>(intOf iv+1).toNat)
 case atStart=>exact ⟨M+1,(M:Int),A,_,_,_,_,Nat.le_refl _,rfl,by omega,rfl,hst⟩
 case round =>
  obtain ⟨k,z,R,L,pr,nr,cr2,hk,rfl,hz,rfl,hat⟩:=hrel
  by_cases h0:k=0
  ·obtain rfl:z=-1:=by omega
   subst h0
   have hdone:=hiD hat.out.inv.done
   have hRV:Hid (R<B9^(K+2)):=hiD (by
    have h1:=hat.out.inv.lt
    rw [Nat.pow_zero,Nat.mul_one] at h1
    have h2:=hV0.out.2;have h3:=hAK.out;omega)
   have hvs5:=hiD (Hvs4.out.below hat.out.below)
   have hrec:Hid (Calls Tryz.prog 150 #[.slice pr nr cr2,.slice ps ns cs] wr (DivPost9 R s wr)):=hiD (natDiv_small _ _ R s (K+2) wr (by omega) (by omega) hRV.out hs1.out.1 (by have:=hs1.out.2;rw [B9_eq];omega) hat.out.rest hvs5.out)
   clear hz
   go_wp2_with fail
   refine hrec.out.mono ?_
   rintro e w6 ⟨v6,r6,rfl,hv6,hr6,hb6⟩
   obtain ⟨p6,n6,c6,rfl⟩:=hv6.slice
   obtain ⟨p7,n7,c7,rfl⟩:=hr6.slice
   have hrow6:Row w6 w4.heap.size 137 L:=Below.row hb6 hat.out.row hat.out.row.lt
   have hrd6:=hrow6.rd0 (M+1) hat.out.inv.len.symm
   have Hv6:=hiD hv6
   have Hb6:=hiD ((Hb4.out.trans (hat.out.below.mono Hb4.out.size)).trans (hb6.mono (by have h1:=Hb4.out.size;have h2:=hat.out.below.size;omega)))
   have ht:Hid (Calls Tryz.prog 151 #[.slice (some ⟨w4.heap.size,0,none⟩) (M+1) (M+1)] w6 (fun e w'=>∃ v,e=.returned v∧Nat9 w' v (val B9 L)∧Below w6.heap.size w6 w')):=hiD (by
    refine (trim_any _ _ _ L w6 (by unfold maxLen;omega) (Nat.le_refl _) hrd6).mono fun _ _ h=>?_
    exact trim_post9' ⟨Nat.le_refl _,fun h=>by cases h⟩ hrd6 hat.out.inv.dig h)
   clear hv6 hr6 hb6 hrow6 hrd6
   go_wp2_with fail
   refine ht.out.mono ?_
   rintro e w7 ⟨v7,rfl,hv7,hb7⟩
   obtain ⟨p8,n8,c8,rfl⟩:=hv7.slice
   have hend:Hid (DivPost9 a b w (.returned (.tuple #[.slice p8 n8 c8,.slice p6 n6 c6])) w7):=hiD ⟨_,_,rfl,by rw [hdv.out.1,← hdone.out.1];exact hv7,by rw [← hdv.out.2,← hdone.out.2];exact Hv6.out.below hb7,Hb6.out.trans (hb7.mono Hb6.out.size)⟩
   clear hv7 hb7
   go_wp2_with fail
   go_ret2
   exact hend.out
  ·obtain ⟨j,rfl⟩:∃ j:Nat,z=j:=⟨z.toNat,by omega⟩
   obtain rfl:k=j+1:=by omega
   clear hz h0
   have hj:j≤M:=by omega
   have hji:(j:Int)≤1000001:=by omega
   obtain ⟨D,hD⟩:∃ D,Hid (D=V*B9^j):=⟨_,hiD rfl⟩
   have hD0:Hid (0<D):=hiD (by rw [hD.out];exact Nat.mul_pos hV0.out.1 (Nat.pow_pos B9_pos))
   have hVK:Hid (V<B9^(K+2)):=hiD (by have h1:=hV0.out.2;have h2:=hAK.out;omega)
   obtain ⟨P,hP⟩:∃ P,Hid (D<B9^P∧P≤2000000):=⟨K+2+(j+1),hiD ⟨by
    rw [hD.out]
    exact pow9_mul hVK.out (Nat.pow_lt_pow_right (by rw [B9_eq];omega) (by omega)),by omega⟩⟩
   obtain ⟨p',n',c',lr,he,hnr,hrr,clr,hlr⟩:=hat.out.rest
   cases he
   have hfg:=first_guess (j:=j) B9_pos Hlv.out.1 Hlv.out.2 (by rw [Hrv4.out.len]) clr hlr hat.out.inv.lt
   rw [← hD.out,hrr.len] at hfg
   have hRV:Hid (R<B9^(K+2)):=hiD (by have h1:=hat.out.inv.eq;have h3:=hAK.out;omega)
   have hnrK:=pow9 clr hlr hRV.out hrr
   have hnri:(nr:Int)≤1000002:=by omega
   obtain ⟨vt,hvt⟩:∃ vt,Hid (lv.getD kv 0=vt):=⟨_,hiD rfl⟩
   obtain ⟨r0,hr0⟩:∃ r0,Hid (lr.getD (j+kv) 0=r0):=⟨_,hiD rfl⟩
   obtain ⟨r1,hr1⟩:∃ r1,Hid (lr.getD (j+kv+1) 0=r1):=⟨_,hiD rfl⟩
   rw [hvt.out,hr0.out,hr1.out] at hfg
   have hr0i:(r0:Int)≤999999999:=by have h:=clr.1.getD B9_pos (j+kv);rw [hr0.out,B9_eq] at h;omega
   have hr1i:(r1:Int)≤999999999:=by have h:=clr.1.getD B9_pos (j+kv+1);rw [hr1.out,B9_eq] at h;omega
   have hvti:(vt:Int)≤999999999:=by have h:=Hlv.out.1.1.getD B9_pos kv;rw [hvt.out,B9_eq] at h;omega
   have hvt1:(1:Int)≤vt:=by have:=hfg.2.1;omega
   have hvt0:((vt:Int)==0)=false:=by simp;omega
   have hlenr:=hfg.1
   have Hfg:=hiD hfg.2.2
   have Hrr:=hiD hrr
   clear hfg hrr clr hnrK
   have hrest:Hid (∀ W,Below wr.heap.size wr W→Nat9 W (.slice pr nr cr2) R):=hiD fun W hW=>hat.out.rest.below hW
   go_wp2_with (at_make;refine wpList_make_full _ rfl _ _ 98 rfl wr.heap.size 137 i0 (.int .u64 0) 1 underlying36 hi hz0 hz1 _ _ _ _ j rfl rfl (by omega) (by omega) ?c2 ?c3 (Nat.le_refl _) ?_)
   case c2=>rw [hz2];omega
   case c3=>unfold maxLen;omega
   intro w6 hown6 hgrow6
   have hb6:Below wr.heap.size wr w6:=(Below.refl _ _).grown hgrow6 (Nat.le_refl _) (fun k h=>by cases h)
   have hown6':Hid (w6.ownsRow wr.heap.size 137 1 (.slice (some ⟨wr.heap.size,0,none⟩) j j) j (u64s (List.replicate j 0))):=hiD (by rw [← made_zeros];exact hown6)
   have hb46:=hiD (hat.out.below.trans (hb6.mono hat.out.below.size))
   have hnews:=hiD (Hrv4.out.news hb46.out ⟨bv,ov,none⟩ rfl)
   have hul:Hid ((u64s lv).length=(kv+1)*1):=hiD (by rw [u64s_length,Hrv4.out.len,Nat.mul_one])
   have hlen:Hid (j+(kv+1)≤maxLen∧(j+(kv+1))*8≤140737488355328∧wr.heap.size≤w6.heap.size):=hiD ⟨by unfold maxLen;omega,by omega,hb6.size⟩
   have Hb6:=hiD hb6
   clear hown6 hgrow6 hb6
   go_wp2_with (at_builtin;refine wpList_append_own _ rfl (.tmp 75) (.tmp 76) 98 rfl wr.heap.size 137 i0 (.int .u64 0) 1 8 underlying36 hi hz0 hz1 hz2 rfl (by decide) _ _ _ rfl hown6'.out ⟨bv,ov,none⟩ (kv+1) _ (u64s lv) rfl hul.out hnews.out (u64s_one lv) hlen.out.1 hlen.out.2.1 hlen.out.2.2 ?_)
   intro v7 w7 hown7 hgrow7 _
   have hb7:Hid (Below wr.heap.size wr w7):=hiD (Hb6.out.grown hgrow7 Hb6.out.size (fun k hk=>by cases hk;exact Nat.le_refl _))
   have hsh:∃ p7 c7,v7=.slice p7 (j+(kv+1)) c7∧Hid (Nat9 w7 v7 D):=by
    have hown8:w7.ownsRow wr.heap.size 137 1 v7 (j+(kv+1)) (u64s (List.replicate j 0++lv)):=by
     have e:u64s (List.replicate j 0++lv)=u64s (List.replicate j 0)++u64s lv:=by simp [u64s]
     rw [e];exact hown7
    obtain ⟨p7,c7,h1,h2,h3,h4⟩:=own_rd hown8
    refine ⟨p7,c7,h1,hiD ⟨p7,_,c7,_,h1,h2,h3,Hlv.out.1.shift ?_ B9_pos j,?_⟩⟩
    ·intro h0
     have:=Hrv4.out.len
     rw [h0] at this;simp at this
    ·rw [val_shift,Hlv.out.2,hD.out,Nat.mul_comm]
   obtain ⟨p7,c7,rfl,hsh⟩:=hsh
   have hcv7:w7.cell? ⟨bv,ov+kv,none⟩=some (.int .u64 (vt:Int)):=by
    obtain ⟨_,_,h3⟩:=Hrv4.out.opened (by omega)
    obtain ⟨h3,h4,h5⟩:=h3
    cases h3
    have h6:=h5 kv (by omega)
    rw [hvt.out] at h6
    exact ((hat.out.below.trans (hb7.out.mono hat.out.below.size)).cell (p:=⟨bv,ov+kv,none⟩) h4).trans h6
   have hno:Hid (∀ (G:Nat) W,G≤999999999→Calls Tryz.prog 117 #[.int .u64 (G:Int)] W (Post9 G W)):=hiD fun G W h=>natOf_any G W (by omega)
   have hmul:Hid (∀ (G:Nat) W vg,G≤999999999→Nat9 W vg G→Nat9 W (.slice p7 (j+(kv+1)) c7) D→Calls Tryz.prog 115 #[.slice p7 (j+(kv+1)) c7,vg] W (Post9 (D*G) W)):=hiD fun G W vg h h2 h3 =>
    natMul_nat _ _ D G P 1 W (by have:=hP.out.2;unfold most;omega) (by unfold most;omega) hP.out.1 (by rw [Nat.pow_one,B9_eq];omega) h3 h2
   have hcmp2:Hid (∀ (G:Nat) W vp,G≤999999999→Nat9 W vp (D*G)→Nat9 W (.slice pr nr cr2) R→Calls Tryz.prog 121 #[vp,.slice pr nr cr2] W fun e w'=>e=.returned (.int .i64 (cmp3 (D*G) R))∧Below W.heap.size W w'):=hiD fun G W vp h h2 h3=>by
    have h4:=natCmp_nat vp (.slice pr nr cr2) (D*G) R (P+(K+2)) W (by have:=hP.out.2;unfold most;omega) (by
     have h5:G<B9^(K+2):=by
      have h6:B9^1≤B9^(K+2):=Nat.pow_le_pow_right B9_pos (by omega)
      rw [Nat.pow_one,B9_eq] at h6
      rw [B9_eq];omega
     exact pow9_mul hP.out.1 h5) (pow9_mono hRV.out (by omega)) h2 h3
    refine h4.mono fun e w' h=>?_
    obtain ⟨h1,t,h2⟩:=h
    exact ⟨h1,by rw [← h2];exact below_drewN _ _ _⟩
   have hsub:Hid (∀ (G:Nat) W vp,G=R/D→Nat9 W vp (D*G)→Nat9 W (.slice pr nr cr2) R→Calls Tryz.prog 122 #[.slice pr nr cr2,vp] W (Post9 (R-G*D) W)):=hiD fun G W vp h h2 h3=>by
    have h4:=natSub_nat (.slice pr nr cr2) vp R (D*G) (K+2) W (by unfold most;omega) hRV.out (by rw [h];exact Nat.mul_div_le _ _) h3 h2
    rw [Nat.mul_comm D G] at h4;exact h4
   have hstep:Hid (DivInv B9 A V (M+1) j (L.set j (R/D)) (R-R/D*D)):=hiD (by
    have h:=hat.out.inv.step B9_pos hV0.out.1 (by omega) (R/D) (by rw [hD.out])
    rw [← hD.out] at h;exact h)
   clear hown7 hgrow7
   by_cases hj1:j+kv+1<nr
   ·have hjn:(j:Int)+(kv+1)<nr:=by omega
    have hjn1:(j:Int)+kv<nr:=by omega
    have hjk:(j:Int)+(kv+1)-1=(j:Int)+kv:=by omega
    have hjkn:j+(kv+1)-1=j+kv:=by omega
    obtain ⟨br2,or2,hpr,hbr2,hrc⟩:=Hrr.out.opened (by omega)
    subst hpr
    have hc71:w7.cell? ⟨br2,or2+(j+(kv+1)),none⟩=some (.int .u64 (r1:Int)):=by
     have h6:=hrc (j+(kv+1)) (by omega)
     rw [show j+(kv+1)=j+kv+1 from rfl,hr1.out] at h6
     exact (hb7.out.cell (p:=⟨br2,or2+(j+kv+1),none⟩) hbr2).trans h6
    have hc70:w7.cell? ⟨br2,or2+(j+kv),none⟩=some (.int .u64 (r0:Int)):=by
     have h6:=hrc (j+kv) (by omega)
     rw [hr0.out] at h6
     exact (hb7.out.cell (p:=⟨br2,or2+(j+kv),none⟩) hbr2).trans h6
    clear hrc
    obtain ⟨T,hTn⟩:∃ T,Hid (T=r1*B9+r0):=⟨_,hiD rfl⟩
    have hT:(r1:Int)*1000000000+r0=(T:Int):=by rw [hTn.out,B9_eq];omega
    have hTb:(T:Int)≤1000000000000000000:=by omega
    obtain ⟨Q0,hQ0⟩:∃ Q0,Hid (Q0=T/vt):=⟨_,hiD rfl⟩
    have hQv:(T:Int)/(vt:Int)=(Q0:Int):=by rw [hQ0.out,Int.natCast_ediv]
    have hQb:(Q0:Int)≤1000000000000000000:=by
     have h1:Q0≤T:=by rw [hQ0.out];exact Nat.div_le_self _ _
     omega
    obtain ⟨G0,hG0⟩:∃ G0,Hid (G0=min Q0 999999999):=⟨_,hiD rfl⟩
    have hmin:min (Q0:Int) 999999999=(G0:Int):=by rw [hG0.out];omega
    have hG:Hid (R/D≤Q0∧R/D≤999999999):=hiD (by
     have h:=Hfg.out
     rw [← hTn.out,← hQ0.out,show B9-1=999999999 from rfl] at h
     exact Nat.le_min.1 h)
    have hrow:=hiD (Below.row hb7.out hat.out.row hat.out.row.lt)
    (go_wp2_with fail)<;>(
     go_loopw [16] (fun gv w8=>∃ (G:Nat),gv=.int .u64 (G:Int)∧Hid (R/D≤G∧G≤999999999)∧Below w7.heap.size w7 w8) (fun gv _=>(intOf gv).toNat)
     case atStart=>first|exact ⟨Q0,rfl,hiD ⟨hG.out.1,by omega⟩,Below.refl _ _⟩|exact ⟨G0,rfl,hiD ⟨by rw [hG0.out];exact Nat.le_min.2 hG.out,by rw [hG0.out];omega⟩,Below.refl _ _⟩|exact ⟨999999999,rfl,hiD ⟨hG.out.2,by omega⟩,Below.refl _ _⟩
     case round =>
      obtain ⟨G,rfl,hGi,hb8⟩:=hrel
      have hGb:(G:Int)≤999999999:=by have:=hGi.out.2;omega
      have Hb8:=hiD (hb7.out.trans (hb8.mono hb7.out.size))
      have hn8:=hiD (hno.out G wr hGi.out.2)
      have hsh8:=hiD (hsh.out.below hb8)
      have Hw8:=hiD hb8
      clear hb8
      go_wp2_with fail
      refine hn8.out.mono ?_
      rintro e w9 ⟨vg,rfl,hvg,hb9,-⟩
      obtain ⟨p9,n9,c9,rfl⟩:=hvg.slice
      have hm9:=hiD (hmul.out G w9 _ hGi.out.2 hvg (hsh8.out.below hb9))
      have hsh9:=hiD (hsh8.out.below hb9)
      have Hb9:=hiD (Hb8.out.trans (hb9.mono Hb8.out.size))
      have Hw9:=hiD (Hw8.out.trans (hb9.mono Hw8.out.size))
      clear hvg hb9
      go_wp2_with fail
      refine hm9.out.mono ?_
      rintro e w10 ⟨vp,rfl,hvp,hb10,-⟩
      obtain ⟨p10,n10,c10,rfl⟩:=hvp.slice
      have Hb10:=hiD (Hb9.out.trans (hb10.mono Hb9.out.size))
      have Hw10:=hiD (Hw9.out.trans (hb10.mono Hw9.out.size))
      have hc10:=hiD (hcmp2.out G w10 _ hGi.out.2 hvp (hrest.out _ Hb10.out))
      have hsh10:=hiD (hsh9.out.below hb10)
      clear hvp hb10
      by_cases hlt:R<D*G
      ·have hcv:Hid (cmp3 (D*G) R=1):=hiD (by unfold cmp3;rw [if_neg (by omega),if_pos hlt])
       rw [hcv.out] at hc10
       have hgl:=hiD (guess_low hD0.out hGi.out.1 hlt)
       have hG1:(1:Int)≤G:=by have:=hgl.out.2;omega
       clear hlt
       go_wp2_with fail
       refine hc10.out.mono ?_
       rintro e w11 ⟨rfl,hb11⟩
       have Hw11:=hiD (Hw10.out.trans (hb11.mono Hw10.out.size))
       clear hb11
       go_wp2_with fail
       go_roundw
       case rel =>
        have hq:∃ G':Nat,Value.int .u64 ((G:Int)-1)=.int .u64 (G':Int)∧Hid (R/D≤G'∧G'≤999999999)∧Below w7.heap.size w7 w11:=⟨G-1,by go_num,hiD ⟨hgl.out.1,by have:=hGi.out.2;omega⟩,Hw11.out⟩
        first
         | exact hq
         | exact ⟨_,_,_,_,_,_,_,_,_,_,hq,rfl⟩
       case measure=>simp [intOf];omega
      ·obtain ⟨cz,hcz⟩:∃ cz,Hid (cmp3 (D*G) R=cz):=⟨_,hiD rfl⟩
       have hcz0:decide ((0:Int)<cz)=false:=by
        rw [← hcz.out];unfold cmp3
        simp;split
        ·omega
        ·omega
       rw [hcz.out] at hc10
       have hGq:=hiD (guess_right hD0.out hGi.out.1 hlt)
       have hstep2:Hid (DivInv B9 A V (M+1) j (L.set j G) (R-G*D)):=hiD (by rw [hGq.out];exact hstep.out)
       clear hlt
       go_wp2_with fail
       refine hc10.out.mono ?_
       rintro e w11 ⟨rfl,hb11⟩
       have Hw11:=hiD (Hw10.out.trans (hb11.mono Hw10.out.size))
       have hn11:=hiD (hno.out G w11 hGi.out.2)
       clear hb11
       go_wp2_with fail
       refine hn11.out.mono ?_
       rintro e w12 ⟨vg2,rfl,hvg2,hb12,-⟩
       obtain ⟨p12,n12,c12,rfl⟩:=hvg2.slice
       have Hw12:=hiD (Hw11.out.trans (hb12.mono Hw11.out.size))
       have hm12:=hiD (hmul.out G w12 _ hGi.out.2 hvg2 (hsh.out.below Hw12.out))
       clear hvg2 hb12
       go_wp2_with fail
       refine hm12.out.mono ?_
       rintro e w13 ⟨vp2,rfl,hvp2,hb13,-⟩
       obtain ⟨p13,n13,c13,rfl⟩:=hvp2.slice
       have Hw13:=hiD (Hw12.out.trans (hb13.mono Hw12.out.size))
       have hs13:=hiD (hsub.out G w13 _ hGq.out hvp2 (hrest.out _ (hb7.out.trans (Hw13.out.mono hb7.out.size))))
       clear hvp2 hb13
       go_wp2_with fail
       refine hs13.out.mono ?_
       rintro e w14 ⟨vr2,rfl,hvr2,hb14,hfr⟩
       obtain ⟨p14,n14,c14,rfl⟩:=hvr2.slice
       have Hw14:=hiD (Hw13.out.trans (hb14.mono Hw13.out.size))
       have hrow14:Row w14 w4.heap.size 137 L:=Below.row Hw14.out hrow.out hrow.out.lt
       have hcell14:=hrow14.cell j (by rw [hat.out.inv.len];omega)
       have hfree14:=hrow14.free j
       have hap:Apart w4.heap.size (.slice p14 n14 c14):=hfr.apart (Nat.lt_of_lt_of_le hrow.out.lt Hw13.out.size)
       have hnext:Hid (DivAt w4 (w14.setCell ⟨w4.heap.size,j,none⟩ (.int .u64 (G:Int))) w4.heap.size A V (M+1) j (R-G*D) (L.set j G) (.slice p14 n14 c14)):=hiD ⟨hvr2.set hap j _,hap,hrow14.set j G,((hat.out.below.trans (hb7.out.mono hat.out.below.size)).trans (Hw14.out.mono (by have h1:=hat.out.below.size;have h2:=hb7.out.size;omega))).setCell (Nat.le_refl _) _,hstep2.out⟩
       clear hvr2 hb14 hfr hrow14 hap
       go_wp2_with fail
       go_roundw
       case rel=>exact ⟨j,(j:Int)-1,R-G*D,_,_,_,_,by omega,rfl,by omega,rfl,hnext⟩
       case measure=>simp [intOf])
   ·by_cases hj0:j+kv<nr
    ·have hjn:¬ (j:Int)+(kv+1)<nr:=by omega
     have hjn1:(j:Int)+kv<nr:=by omega
     obtain ⟨br2,or2,hpr,hbr2,hrc⟩:=Hrr.out.opened (by omega)
     subst hpr
     have hc70:w7.cell? ⟨br2,or2+(j+kv),none⟩=some (.int .u64 (r0:Int)):=by
      have h6:=hrc (j+kv) (by omega)
      rw [hr0.out] at h6
      exact (hb7.out.cell (p:=⟨br2,or2+(j+kv),none⟩) hbr2).trans h6
     clear hrc
     have hr1z:r1=0:=by rw [← hr1.out,List.getD_eq_getElem?_getD,List.getElem?_eq_none (by rw [Hrr.out.len];omega)];rfl
     obtain ⟨T,hTn⟩:∃ T,Hid (T=r1*B9+r0):=⟨_,hiD rfl⟩
     obtain rfl:r0=T:=by rw [hTn.out,hr1z];omega
     have hTb:(r0:Int)≤1000000000000000000:=by omega
     obtain ⟨Q0,hQ0⟩:∃ Q0,Hid (Q0=r0/vt):=⟨_,hiD rfl⟩
     have hQv:(r0:Int)/(vt:Int)=(Q0:Int):=by rw [hQ0.out,Int.natCast_ediv]
     have hQb:(Q0:Int)≤1000000000000000000:=by
      have h1:Q0≤r0:=by rw [hQ0.out];exact Nat.div_le_self _ _
      omega
     obtain ⟨G0,hG0⟩:∃ G0,Hid (G0=min Q0 999999999):=⟨_,hiD rfl⟩
     have hmin:min (Q0:Int) 999999999=(G0:Int):=by rw [hG0.out];omega
     have hG:Hid (R/D≤Q0∧R/D≤999999999):=hiD (by
      have h:=Hfg.out
      rw [← hTn.out,← hQ0.out,show B9-1=999999999 from rfl] at h
      exact Nat.le_min.1 h)
     clear hr1z
     have hrow:=hiD (Below.row hb7.out hat.out.row hat.out.row.lt)
     (go_wp2_with fail)<;>(
      go_loopw [16] (fun gv w8=>∃ (G:Nat),gv=.int .u64 (G:Int)∧Hid (R/D≤G∧G≤999999999)∧Below w7.heap.size w7 w8) (fun gv _=>(intOf gv).toNat)
      case atStart=>first|exact ⟨Q0,rfl,hiD ⟨hG.out.1,by omega⟩,Below.refl _ _⟩|exact ⟨G0,rfl,hiD ⟨by rw [hG0.out];exact Nat.le_min.2 hG.out,by rw [hG0.out];omega⟩,Below.refl _ _⟩|exact ⟨999999999,rfl,hiD ⟨hG.out.2,by omega⟩,Below.refl _ _⟩
      case round =>
       obtain ⟨G,rfl,hGi,hb8⟩:=hrel
       have hGb:(G:Int)≤999999999:=by have:=hGi.out.2;omega
       have Hb8:=hiD (hb7.out.trans (hb8.mono hb7.out.size))
       have hn8:=hiD (hno.out G wr hGi.out.2)
       have hsh8:=hiD (hsh.out.below hb8)
       have Hw8:=hiD hb8
       clear hb8
       go_wp2_with fail
       refine hn8.out.mono ?_
       rintro e w9 ⟨vg,rfl,hvg,hb9,-⟩
       obtain ⟨p9,n9,c9,rfl⟩:=hvg.slice
       have hm9:=hiD (hmul.out G w9 _ hGi.out.2 hvg (hsh8.out.below hb9))
       have hsh9:=hiD (hsh8.out.below hb9)
       have Hb9:=hiD (Hb8.out.trans (hb9.mono Hb8.out.size))
       have Hw9:=hiD (Hw8.out.trans (hb9.mono Hw8.out.size))
       clear hvg hb9
       go_wp2_with fail
       refine hm9.out.mono ?_
       rintro e w10 ⟨vp,rfl,hvp,hb10,-⟩
       obtain ⟨p10,n10,c10,rfl⟩:=hvp.slice
       have Hb10:=hiD (Hb9.out.trans (hb10.mono Hb9.out.size))
       have Hw10:=hiD (Hw9.out.trans (hb10.mono Hw9.out.size))
       have hc10:=hiD (hcmp2.out G w10 _ hGi.out.2 hvp (hrest.out _ Hb10.out))
       have hsh10:=hiD (hsh9.out.below hb10)
       clear hvp hb10
       by_cases hlt:R<D*G
       ·have hcv:Hid (cmp3 (D*G) R=1):=hiD (by unfold cmp3;rw [if_neg (by omega),if_pos hlt])
        rw [hcv.out] at hc10
        have hgl:=hiD (guess_low hD0.out hGi.out.1 hlt)
        have hG1:(1:Int)≤G:=by have:=hgl.out.2;omega
        clear hlt
        go_wp2_with fail
        refine hc10.out.mono ?_
        rintro e w11 ⟨rfl,hb11⟩
        have Hw11:=hiD (Hw10.out.trans (hb11.mono Hw10.out.size))
        clear hb11
        go_wp2_with fail
        go_roundw
        case rel =>
         have hq:∃ G':Nat,Value.int .u64 ((G:Int)-1)=.int .u64 (G':Int)∧Hid (R/D≤G'∧G'≤999999999)∧Below w7.heap.size w7 w11:=⟨G-1,by go_num,hiD ⟨hgl.out.1,by have:=hGi.out.2;omega⟩,Hw11.out⟩
         first
          | exact hq
          | exact ⟨_,_,_,_,_,_,_,_,_,_,hq,rfl⟩
        case measure=>simp [intOf];omega
       ·obtain ⟨cz,hcz⟩:∃ cz,Hid (cmp3 (D*G) R=cz):=⟨_,hiD rfl⟩
        have hcz0:decide ((0:Int)<cz)=false:=by
         rw [← hcz.out];unfold cmp3
         simp;split
         ·omega
         ·omega
        rw [hcz.out] at hc10
        have hGq:=hiD (guess_right hD0.out hGi.out.1 hlt)
        have hstep2:Hid (DivInv B9 A V (M+1) j (L.set j G) (R-G*D)):=hiD (by rw [hGq.out];exact hstep.out)
        clear hlt
        go_wp2_with fail
        refine hc10.out.mono ?_
        rintro e w11 ⟨rfl,hb11⟩
        have Hw11:=hiD (Hw10.out.trans (hb11.mono Hw10.out.size))
        have hn11:=hiD (hno.out G w11 hGi.out.2)
        clear hb11
        go_wp2_with fail
        refine hn11.out.mono ?_
        rintro e w12 ⟨vg2,rfl,hvg2,hb12,-⟩
        obtain ⟨p12,n12,c12,rfl⟩:=hvg2.slice
        have Hw12:=hiD (Hw11.out.trans (hb12.mono Hw11.out.size))
        have hm12:=hiD (hmul.out G w12 _ hGi.out.2 hvg2 (hsh.out.below Hw12.out))
        clear hvg2 hb12
        go_wp2_with fail
        refine hm12.out.mono ?_
        rintro e w13 ⟨vp2,rfl,hvp2,hb13,-⟩
        obtain ⟨p13,n13,c13,rfl⟩:=hvp2.slice
        have Hw13:=hiD (Hw12.out.trans (hb13.mono Hw12.out.size))
        have hs13:=hiD (hsub.out G w13 _ hGq.out hvp2 (hrest.out _ (hb7.out.trans (Hw13.out.mono hb7.out.size))))
        clear hvp2 hb13
        go_wp2_with fail
        refine hs13.out.mono ?_
        rintro e w14 ⟨vr2,rfl,hvr2,hb14,hfr⟩
        obtain ⟨p14,n14,c14,rfl⟩:=hvr2.slice
        have Hw14:=hiD (Hw13.out.trans (hb14.mono Hw13.out.size))
        have hrow14:Row w14 w4.heap.size 137 L:=Below.row Hw14.out hrow.out hrow.out.lt
        have hcell14:=hrow14.cell j (by rw [hat.out.inv.len];omega)
        have hfree14:=hrow14.free j
        have hap:Apart w4.heap.size (.slice p14 n14 c14):=hfr.apart (Nat.lt_of_lt_of_le hrow.out.lt Hw13.out.size)
        have hnext:Hid (DivAt w4 (w14.setCell ⟨w4.heap.size,j,none⟩ (.int .u64 (G:Int))) w4.heap.size A V (M+1) j (R-G*D) (L.set j G) (.slice p14 n14 c14)):=hiD ⟨hvr2.set hap j _,hap,hrow14.set j G,((hat.out.below.trans (hb7.out.mono hat.out.below.size)).trans (Hw14.out.mono (by have h1:=hat.out.below.size;have h2:=hb7.out.size;omega))).setCell (Nat.le_refl _) _,hstep2.out⟩
        clear hvr2 hb14 hfr hrow14 hap
        go_wp2_with fail
        go_roundw
        case rel=>exact ⟨j,(j:Int)-1,R-G*D,_,_,_,_,by omega,rfl,by omega,rfl,hnext⟩
        case measure=>simp [intOf])
    ·have hjn:¬ (j:Int)+(kv+1)<nr:=by omega
     have hjn1:¬ (j:Int)+kv<nr:=by omega
     have hr1z:r1=0:=by rw [← hr1.out,List.getD_eq_getElem?_getD,List.getElem?_eq_none (by rw [Hrr.out.len];omega)];rfl
     have hr0z:r0=0:=by rw [← hr0.out,List.getD_eq_getElem?_getD,List.getElem?_eq_none (by rw [Hrr.out.len];omega)];rfl
     have hG:Hid (R/D≤0∧0≤999999999):=hiD (by
      have h:=Hfg.out
      rw [hr1z,hr0z,Nat.zero_mul,Nat.zero_add,Nat.zero_div,Nat.zero_min] at h
      exact ⟨h,by omega⟩)
     clear hr1z hr0z
     have hrow:=hiD (Below.row hb7.out hat.out.row hat.out.row.lt)
     go_wp2_with fail
     go_loopw [16] (fun gv w8=>∃ (G:Nat),gv=.int .u64 (G:Int)∧Hid (R/D≤G∧G≤999999999)∧Below w7.heap.size w7 w8) (fun gv _=>(intOf gv).toNat)
     case atStart=>exact ⟨0,rfl,hG,Below.refl _ _⟩
     case round =>
      obtain ⟨G,rfl,hGi,hb8⟩:=hrel
      have hGb:(G:Int)≤999999999:=by have:=hGi.out.2;omega
      have Hb8:=hiD (hb7.out.trans (hb8.mono hb7.out.size))
      have hn8:=hiD (hno.out G wr hGi.out.2)
      have hsh8:=hiD (hsh.out.below hb8)
      have Hw8:=hiD hb8
      clear hb8
      go_wp2_with fail
      refine hn8.out.mono ?_
      rintro e w9 ⟨vg,rfl,hvg,hb9,-⟩
      obtain ⟨p9,n9,c9,rfl⟩:=hvg.slice
      have hm9:=hiD (hmul.out G w9 _ hGi.out.2 hvg (hsh8.out.below hb9))
      have hsh9:=hiD (hsh8.out.below hb9)
      have Hb9:=hiD (Hb8.out.trans (hb9.mono Hb8.out.size))
      have Hw9:=hiD (Hw8.out.trans (hb9.mono Hw8.out.size))
      clear hvg hb9
      go_wp2_with fail
      refine hm9.out.mono ?_
      rintro e w10 ⟨vp,rfl,hvp,hb10,-⟩
      obtain ⟨p10,n10,c10,rfl⟩:=hvp.slice
      have Hb10:=hiD (Hb9.out.trans (hb10.mono Hb9.out.size))
      have Hw10:=hiD (Hw9.out.trans (hb10.mono Hw9.out.size))
      have hc10:=hiD (hcmp2.out G w10 _ hGi.out.2 hvp (hrest.out _ Hb10.out))
      have hsh10:=hiD (hsh9.out.below hb10)
      clear hvp hb10
      by_cases hlt:R<D*G
      ·have hcv:Hid (cmp3 (D*G) R=1):=hiD (by unfold cmp3;rw [if_neg (by omega),if_pos hlt])
       rw [hcv.out] at hc10
       have hgl:=hiD (guess_low hD0.out hGi.out.1 hlt)
       have hG1:(1:Int)≤G:=by have:=hgl.out.2;omega
       clear hlt
       go_wp2_with fail
       refine hc10.out.mono ?_
       rintro e w11 ⟨rfl,hb11⟩
       have Hw11:=hiD (Hw10.out.trans (hb11.mono Hw10.out.size))
       clear hb11
       go_wp2_with fail
       go_roundw
       case rel =>
        have hq:∃ G':Nat,Value.int .u64 ((G:Int)-1)=.int .u64 (G':Int)∧Hid (R/D≤G'∧G'≤999999999)∧Below w7.heap.size w7 w11:=⟨G-1,by go_num,hiD ⟨hgl.out.1,by have:=hGi.out.2;omega⟩,Hw11.out⟩
        first
         | exact hq
         | exact ⟨_,_,_,_,_,_,_,_,_,_,hq,rfl⟩
       case measure=>simp [intOf];omega
      ·obtain ⟨cz,hcz⟩:∃ cz,Hid (cmp3 (D*G) R=cz):=⟨_,hiD rfl⟩
       have hcz0:decide ((0:Int)<cz)=false:=by
        rw [← hcz.out];unfold cmp3
        simp;split
        ·omega
        ·omega
       rw [hcz.out] at hc10
       have hGq:=hiD (guess_right hD0.out hGi.out.1 hlt)
       have hstep2:Hid (DivInv B9 A V (M+1) j (L.set j G) (R-G*D)):=hiD (by rw [hGq.out];exact hstep.out)
       clear hlt
       go_wp2_with fail
       refine hc10.out.mono ?_
       rintro e w11 ⟨rfl,hb11⟩
       have Hw11:=hiD (Hw10.out.trans (hb11.mono Hw10.out.size))
       have hn11:=hiD (hno.out G w11 hGi.out.2)
       clear hb11
       go_wp2_with fail
       refine hn11.out.mono ?_
       rintro e w12 ⟨vg2,rfl,hvg2,hb12,-⟩
       obtain ⟨p12,n12,c12,rfl⟩:=hvg2.slice
       have Hw12:=hiD (Hw11.out.trans (hb12.mono Hw11.out.size))
       have hm12:=hiD (hmul.out G w12 _ hGi.out.2 hvg2 (hsh.out.below Hw12.out))
       clear hvg2 hb12
       go_wp2_with fail
       refine hm12.out.mono ?_
       rintro e w13 ⟨vp2,rfl,hvp2,hb13,-⟩
       obtain ⟨p13,n13,c13,rfl⟩:=hvp2.slice
       have Hw13:=hiD (Hw12.out.trans (hb13.mono Hw12.out.size))
       have hs13:=hiD (hsub.out G w13 _ hGq.out hvp2 (hrest.out _ (hb7.out.trans (Hw13.out.mono hb7.out.size))))
       clear hvp2 hb13
       go_wp2_with fail
       refine hs13.out.mono ?_
       rintro e w14 ⟨vr2,rfl,hvr2,hb14,hfr⟩
       obtain ⟨p14,n14,c14,rfl⟩:=hvr2.slice
       have Hw14:=hiD (Hw13.out.trans (hb14.mono Hw13.out.size))
       have hrow14:Row w14 w4.heap.size 137 L:=Below.row Hw14.out hrow.out hrow.out.lt
       have hcell14:=hrow14.cell j (by rw [hat.out.inv.len];omega)
       have hfree14:=hrow14.free j
       have hap:Apart w4.heap.size (.slice p14 n14 c14):=hfr.apart (Nat.lt_of_lt_of_le hrow.out.lt Hw13.out.size)
       have hnext:Hid (DivAt w4 (w14.setCell ⟨w4.heap.size,j,none⟩ (.int .u64 (G:Int))) w4.heap.size A V (M+1) j (R-G*D) (L.set j G) (.slice p14 n14 c14)):=hiD ⟨hvr2.set hap j _,hap,hrow14.set j G,((hat.out.below.trans (hb7.out.mono hat.out.below.size)).trans (Hw14.out.mono (by have h1:=hat.out.below.size;have h2:=hb7.out.size;omega))).setCell (Nat.le_refl _) _,hstep2.out⟩
       clear hvr2 hb14 hfr hrow14 hap
       go_wp2_with fail
       go_roundw
       case rel=>exact ⟨j,(j:Int)-1,R-G*D,_,_,_,_,by omega,rfl,by omega,rfl,hnext⟩
       case measure=>simp [intOf]
structure GcdAt (w wr:World) (a b K:Nat) (xv yv:Value) (x y:Nat):Prop where
 rx:Nat9 wr xv x
 ry:Nat9 wr yv y
 xlt:x<B9^K
 ylt:y<B9^K
 eq:Nat.gcd x y=Nat.gcd a b
 below:Below w.heap.size w wr
theorem Nat9.unique {w:World} {v:Value} {x y:Nat} (h:Nat9 w v x) (k:Nat9 w v y):x=y:=by
 obtain ⟨p,n,c,l,rfl,h2,h3,h4,h5⟩:=h
 obtain ⟨p',n',c',l',e,k2,k3,k4,k5⟩:=k
 cases e
 have e:l=l':=by
  apply List.ext_getElem
  ·rw [h3.len,k3.len]
  ·intro i h1 h1'
   have hi:i<n:=by rw [h3.len] at h1;exact h1
   obtain ⟨b,o,e1,_,c1⟩:=h3.opened (by omega)
   obtain ⟨b',o',e1',_,c1'⟩:=k3.opened (by omega)
   rw [e1] at e1';cases e1'
   have h6:=c1 i hi
   rw [c1' i hi] at h6
   simp only [Option.some.injEq,Value.int.injEq,true_and] at h6
   rw [List.getD_eq_getElem?_getD,List.getD_eq_getElem?_getD,List.getElem?_eq_getElem h1,List.getElem?_eq_getElem h1'] at h6
   simp at h6;omega
 rw [← h5,← k5,e]
theorem epsilon9 {w:World} {v:Value} {x:Nat} (h:Nat9 w v x):(Classical.epsilon fun y=>Nat9 w v y)=x :=
 (Classical.epsilon_spec (p:=fun y=>Nat9 w v y) ⟨x,h⟩).unique h
theorem natDiv_nat (u v:Value) (a b K:Nat) (w:World) (hK:K≤900000) (ha:a<B9^K) (hb:b<B9^K) (hb0:0<b) (hu:Nat9 w u a) (hv:Nat9 w v b) :
  Calls Tryz.prog 150 #[u,v] w (DivPost9 a b w):=by
 by_cases h:a<b
 ·obtain ⟨p,n,c,x,rfl,h1,h2,h3,h4⟩:=hu
  exact natDiv_lt p n c x v a b K w (by omega) ha hb h h1 h2 h3 h4 hv
 ·obtain ⟨p,n,c,x,rfl,h1,h2,h3,h4⟩:=hu
  obtain ⟨q,m,d,y,rfl,g1,g2,g3,g4⟩:=hv
  by_cases h5:b<B9
  ·exact natDiv_one p n c x q m d y a b K w (by omega) ha hb0 h5 (by omega) h1 h2 h3 h4 g1 g2 g3 g4
  ·exact natDiv_long p n c x q m d y a b K w hK ha (by omega) (by omega) h1 h2 h3 h4 g1 g2 g3 g4
theorem natGcd_nat (u v:Value) (a b K:Nat) (w:World) (hK:K≤900000) (ha:a<B9^K) (hb:b<B9^K) (hu:Nat9 w u a) (hv:Nat9 w v b) :
  Calls Tryz.prog 149 #[u,v] w fun e w'=>∃ g,e=.returned g∧Nat9 w' g (Nat.gcd a b)∧Below w.heap.size w w':=by
 obtain ⟨p0,n0,c0,rfl⟩:=hu.slice
 obtain ⟨q0,m0,d0,rfl⟩:=hv.slice
 have hst:Hid (GcdAt w w a b K (.slice p0 n0 c0) (.slice q0 m0 d0) a b):=hiD ⟨hu,hv,ha,hb,rfl,Below.refl _ _⟩
 have hKi:=hiD hK
 clear hu hv ha hb hK
 go_enter Tryz.func149,Tryz.ntmps149
 go_wp2_with fail
 go_loopw [0,1] (fun xv yv wr=>∃ (x y:Nat) (p:Option Addr) (n c:Nat) (q:Option Addr) (m d:Nat),xv=.slice p n c∧yv=.slice q m d∧Hid (GcdAt w wr a b K xv yv x y)) (fun _ yv wr=>(Classical.epsilon fun y=>Nat9 wr yv y))
 case atStart=>exact ⟨a,b,_,_,_,_,_,_,rfl,rfl,hst⟩
 case round =>
  obtain ⟨x,y,p,n,c,q,m,d,rfl,rfl,hat⟩:=hrel
  by_cases h0:y=0
  ·have hm0:m=0:=hat.out.ry.zero_iff.2 h0
   subst hm0
   have hfin:Hid (Nat9 wr (.slice p n c) (Nat.gcd a b)):=hiD (by
    have h:=hat.out.eq
    rw [h0,Nat.gcd_zero_right] at h
    rw [← h];exact hat.out.rx)
   clear h0
   go_wp2_with fail
   go_ret
   exact ⟨_,rfl,hfin.out,hat.out.below⟩
  ·have hm0:(0:Int)<m:=by
    have:=(hat.out.ry.zero_iff (n:=m)).1
    have h1:m≠0:=fun h=>h0 (this h)
    omega
   have hdiv:=hiD (natDiv_nat _ _ x y K wr hKi.out hat.out.xlt hat.out.ylt (by omega) hat.out.rx hat.out.ry)
   have H0:=hiD h0
   clear h0
   go_wp2_with fail
   refine hdiv.out.mono ?_
   rintro e w1 ⟨v1,r1,rfl,hv1,hr1,hb1⟩
   obtain ⟨p1,n1,c1,rfl⟩:=hv1.slice
   obtain ⟨p2,n2,c2,rfl⟩:=hr1.slice
   have hlt:x%y<y:=Nat.mod_lt _ (by have:=H0.out;omega)
   have hnext:Hid (GcdAt w w1 a b K (.slice q m d) (.slice p2 n2 c2) y (x%y)):=hiD ⟨hat.out.ry.below hb1,hr1,hat.out.ylt,by have:=hat.out.ylt;omega,by rw [← hat.out.eq,Nat.gcd_comm y,← Nat.gcd_rec,Nat.gcd_comm],hat.out.below.trans (hb1.mono hat.out.below.size)⟩
   have hmeas:Hid ((Classical.epsilon fun y=>Nat9 w1 (.slice p2 n2 c2) y)<(Classical.epsilon fun y=>Nat9 wr (.slice q m d) y)):=hiD (by
    rw [epsilon9 hnext.out.ry,epsilon9 hat.out.ry];exact hlt)
   clear hv1 hr1 hb1 hlt
   go_wp2_with fail
   go_roundw
   case rel=>exact ⟨y,x%y,_,_,_,_,_,_,rfl,rfl,hnext⟩
   case measure=>exact hmeas.out
end Go.Proofs.YtlcpcpmlfegejaaGreatDoor
