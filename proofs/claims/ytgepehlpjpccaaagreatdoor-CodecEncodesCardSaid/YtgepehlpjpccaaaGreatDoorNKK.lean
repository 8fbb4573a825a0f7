/- Contracts. -/
import Derived.Test.YtgepehlpjpccaaaGreatDoorT9SE
import Derived.Test.YtgepehlpjpccaaaGreatDoorShelfC
set_option maxHeartbeats 8000000
set_option maxRecDepth 100000
namespace Go.Proofs.YtgepehlpjpccaaaGreatDoor
open Go.RowKit
open Go.Lib
def Rdr (W:World) (E:Nat) (l:Lb):Prop:=∃ p c,W.heap[E]?=some (.cells #[.slice p l.length c] 168 (0,0))∧Bs W p l∧l.length≤c∧∀ b off,p=some ⟨b,off,none⟩→0<l.length→b<E
def ysz (W:World) (E n:Nat) (l:Lb) (e:Ending) (w':World):Prop :=
 ∃ p c,e=.returned (.slice p (l.take n).length c)∧Bs w' p (l.take n)∧(l.take n).length≤c∧Rdr w' E (l.drop n)∧W.grownBy w' (some E)∧∀ b off,p=some ⟨b,off,none⟩→0<(l.take n).length→b<E
theorem yx7 (W:World) (g k:Nat) (v:Value):W.grownBy (W.setCell ⟨g,k,none⟩ v) (some g):=⟨rfl,rfl,rfl,by simp,fun i _ hi=>Below.heap_setCell _ _ _ _ (fun e=>hi (by rw [e]))⟩
theorem ypt {W W':World} {p:Oa} {l:Lb} {E:Nat} (h:Bs W p l) (hg:W.grownBy W' (some E)) (hne:∀ b off,p=some ⟨b,off,none⟩→0<l.length→b<E):Bs W' p l:=by
 rcases h with h0|⟨b,off,hp,hlt,hc⟩
 ·exact .inl h0
 ·refine .inr ⟨b,off,hp,Nat.lt_of_lt_of_le hlt hg.size,fun j hj=>?_⟩
  have h1:=hg.block b hlt (by intro e;injection e with e;have:=hne b off hp (by omega);omega)
  have h2:=hc j hj
  simp only [World.cell?] at h2 ⊢
  rw [h1];exact h2
theorem yvX {W:World} {b off:Nat} {l:Lb} (h:Bs W (some ⟨b,off,none⟩) l) {n:Nat} (hn:n<l.length):Bs W (some ⟨b,off+n,none⟩) (l.drop n):=by
 rcases h with h0|⟨b',off',hp,hlt,hc⟩
 ·omega
 ·cases hp
  refine .inr ⟨b,off+n,rfl,hlt,fun j hj=>?_⟩
  rw [List.length_drop] at hj
  have h2:=hc (n+j) (by omega)
  rw [Nat.add_assoc,h2]
  congr 3
  rw [List.getD_eq_getElem?_getD,List.getD_eq_getElem?_getD,List.getElem?_drop]
theorem yeK (E n:Nat) (l:Lb) (w:World) (hn:n≤1000000) (hl:l.length≤1000000000) (h:Rdr w E l) :
  Calls Tryz.prog 167 #[.pointer (some ⟨E,0,none⟩),.int .i64 (n:Int)] w (ysz w E n l):=by
 obtain ⟨p,c,h1,h2,h3,h4⟩:=h
 obtain ⟨m,HM⟩:=ez (l.length)
 obtain ⟨k,HK⟩:=ez (min n m)
 have hlen:(l.take n).length=k:=by rw [List.length_take,HM.out,HK.out]
 have hdl:(l.drop n).length=m-k:=by rw [List.length_drop,HM.out,← HK.out];omega
 have HRES:Hid (∀ p2 c2,m-k≤c2→(k<m→∃ b off,p=some ⟨b,off,none⟩∧p2=some ⟨b,off+k,none⟩)→ysz w E n l (.returned (.slice p k c)) (w.setCell ⟨E,0,none⟩ (.slice p2 (m-k) c2))):=h_ (fun p2 c2 hc2 hp2=>by
  have hg:=yx7 w E 0 (.slice p2 (m-k) c2)
  refine ⟨p,c,by rw [hlen],ypt (ypA h2 n) hg (fun b off e h0=>h4 b off e (by rw [List.length_take] at h0;omega)),by rw [hlen,← HK.out];have:=HM.out;omega,⟨p2,c2,?_,?_,by rw [hdl];exact hc2,?_⟩,hg,fun b off e h0=>h4 b off e (by rw [List.length_take] at h0;omega)⟩
  ·rw [hdl];exact ylG w E 0 _ _ _ h1
  ·by_cases hk:k<m
   ·obtain ⟨b,off,e1,e2⟩:=hp2 hk
    have hkn:k=n:=by have:=HK.out;omega
    subst e2
    refine ypt ?_ hg (fun b' off' e h0=>?_)
    ·rw [e1] at h2
     have:=yvX h2 (n:=n) (by rw [HM.out];omega)
     rwa [← hkn] at this ⊢
    ·cases e;exact h4 _ _ e1 (by rw [HM.out];omega)
   ·exact .inl (by rw [hdl];omega)
  ·intro b' off' e h0
   rw [hdl] at h0
   obtain ⟨b,off,e1,e2⟩:=hp2 (by omega)
   rw [e2] at e;cases e
   exact h4 _ _ e1 (by rw [HM.out];omega))
 have HADR:Hid (k<m→∃ b off,p=some ⟨b,off,none⟩):=h_ (fun hk=>by
  rcases h2 with h0|⟨b,off,hp,-⟩
  ·rw [HM.out] at h0;omega
  ·exact ⟨b,off,hp⟩)
 rw [HM.out] at h1 h3 hl
 have yjs:min (n:Int) (m:Int)=(k:Int):=by rw [← HK.out];omega
 have ynI:min (m:Int) (n:Int)=(k:Int):=by rw [← HK.out];omega
 have ik:(k:Int)≤(m:Int):=by rw [← HK.out];omega
 have ik2:(k:Int)≤(c:Int):=by omega
 have im:(m:Int)≤1000000000:=by omega
 have g0:w.cell? ⟨E,0,none⟩=some (.slice p m c):=by simp [World.cell?,h1]
 have f0:w.frozen? ⟨E,0,none⟩=false:=by simp [World.frozen?,h1]
 clear h1 h2 h4 hlen hdl
 by_cases hck:c=k
 ·subst hck
  have HF:=h_ (HRES.out p 0 (by omega) (fun h=>by omega))
  rw [show m-c=0 by omega] at HF
  go_in
  go_wp2
  go_ret
  exact HF.out
 ·have HF:=h_ (HRES.out (p.map fun x=>x.add k) (c-k) (by omega) (fun h=>by
   obtain ⟨b,off,e⟩:=HADR.out h
   exact ⟨b,off,e,by rw [e];cases k<;>simp [Addr.add]⟩))
  go_in
  go_wp2
  go_ret
  exact HF.out
theorem yvY (n:Int) (h0:-9223372036854775808≤n) (h1:n≤9223372036854775807) (w:World) (ht:Tab w):Calls Tryz.prog 200 #[.int .i64 n,.int .i64 10] w (Rp (.string ⟨(Lib.itoa n).toArray⟩) w) :=
 (Tryz.strconv_FormatInt_10 n h0 h1 w ht).mono fun e w' ⟨h,k,os,h2⟩=>⟨h,by rw [h2];exact Lib.below_grow _ _ nl _ _⟩
def sgI (n N:Nat):Int:=if 2^(8*n-1)≤N then (N:Int)-((2^(8*n):Nat):Int) else (N:Int)
def yje (W:World) (E:Nat) (x r:Lb) (e:Ending) (w':World):Prop:=e=.returned (.string ⟨x.toArray⟩)∧Rdr w' E r∧W.grownBy w' (some E)
theorem yiA {W W':World} {E:Nat} {l:Lb} (h:Rdr W E l) (hb:Be W W'):Rdr W' E l:=by
 obtain ⟨p,c,h1,h2,h3,h4⟩:=h
 exact ⟨p,c,(hb.block E (Array.getElem?_eq_some_iff.1 h1).1).trans h1,h2.below hb,h3,h4⟩
theorem yvZ {W W1 W2:World} {E:Nat} (h:W.grownBy W1 (some E)) (hb:Be W1 W2):W.grownBy W2 (some E):=h.trans (yaJ hb _)
theorem yoi (E n:Nat) (l:Lb) (w:World) (hn:n=1∨n=2∨n=4∨n=8) (hl:l.length≤1000000000) (h:Rdr w E l) (ht:∀ W,w.grownBy W (some E)→Tab W) :
  Calls Tryz.prog 168 #[.pointer (some ⟨E,0,none⟩),.int .i64 (n:Int)] w (yje w E (Lib.itoa (sgI n (nb (l.take n)))) (l.drop n)):=by
 have HT:=h_ (yeK E n l w (by omega) hl h)
 have yxz:=h_ ht
 have HL8:Hid ((l.take n).length≤8):=h_ (by rw [List.length_take];omega)
 have HLN:Hid ((l.take n).length≤n):=h_ (by rw [List.length_take];omega)
 obtain ⟨L,HLL⟩:=ez (l.take n)
 obtain ⟨R,HRR⟩:=ez (l.drop n)
 obtain ⟨N,HN⟩:=ez (nb L)
 have HNL:Hid (N<256^n):=h_ (by
  rw [← HN.out,← HLL.out]
  exact Nat.lt_of_lt_of_le (ye8 _) (Nat.pow_le_pow_right (by omega) HLN.out))
 rw [HLL.out,HN.out,HRR.out]
 obtain ⟨v,HV⟩:=ez (sgI n N)
 rw [HV.out]
 clear h ht
 rcases hn with rfl|rfl|rfl|rfl
 all_goals
  first
  | (
    have hN:N<256:=HNL.out
    have hiN:(N:Int)≤255:=by omega
    have hvb:-9223372036854775808≤v∧v≤9223372036854775807:=by
     rw [← HV.out]
     unfold sgI
     split<;>omega
    have hv:wrap64 ((N:Int)*72057594037927936)/72057594037927936=v:=by
     rw [← HV.out]
     unfold sgI wrap64
     split<;>(try split)<;>omega)
  | (
    have hN:N<65536:=HNL.out
    have hiN:(N:Int)≤65535:=by omega
    have hvb:-9223372036854775808≤v∧v≤9223372036854775807:=by
     rw [← HV.out]
     unfold sgI
     split<;>omega
    have hv:wrap64 ((N:Int)*281474976710656)/281474976710656=v:=by
     rw [← HV.out]
     unfold sgI wrap64
     split<;>(try split)<;>omega)
  | (
    have hN:N<4294967296:=HNL.out
    have hiN:(N:Int)≤4294967295:=by omega
    have hvb:-9223372036854775808≤v∧v≤9223372036854775807:=by
     rw [← HV.out]
     unfold sgI
     split<;>omega
    have hv:wrap64 ((N:Int)*4294967296)/4294967296=v:=by
     rw [← HV.out]
     unfold sgI wrap64
     split<;>(try split)<;>omega)
  | (
    have hN:N<18446744073709551616:=HNL.out
    have hiN:(N:Int)≤18446744073709551615:=by omega
    have hvb:-9223372036854775808≤v∧v≤9223372036854775807:=by
     rw [← HV.out]
     unfold sgI
     split<;>omega
    have hv:wrap64 (N:Int)=v:=by
     rw [← HV.out]
     unfold sgI wrap64
     split<;>(try split)<;>omega)
  have HVB:=h_ hvb
  clear hvb
  go_in
  go_wp2_with fail
  refine (HT.out).mono ?_
  rintro e w1 ⟨p,c,rfl,hb,hc,hr,hg,-⟩
  rw [HRR.out] at hr
  have GB:Hid (∀ w2,Be w1 w2→yje w E (Lib.itoa v) R (.returned (.string ⟨(Lib.itoa v).toArray⟩)) w2):=h_ (fun w2 hb2=>⟨rfl,yiA hr hb2,yvZ hg hb2⟩)
  rw [HLL.out] at hb ⊢
  have HB:=h_ (uN p c L w1 (by rw [← HLL.out];exact HL8.out) hb)
  have HFM:=h_ (yvY v HVB.out.1 HVB.out.2 w1 (yxz.out _ hg))
  rw [HN.out] at HB
  clear hb hc hr hg
  go_wp2_with fail
  refine (HB.out).mono ?_
  rintro e w' ⟨rfl,rfl⟩
  go_wp2_with fail
  refine (HFM.out).mono ?_
  rintro e w2 ⟨rfl,hb2⟩
  have HF:=h_ (GB.out w2 hb2)
  clear hb2
  go_wp2
  go_ret
  exact HF.out
theorem yv0 (E:Nat) (l:Lb) (w:World) (hl:l.length≤1000000000) (h:Rdr w E l) :
  Calls Tryz.prog 169 #[.pointer (some ⟨E,0,none⟩)] w (yje w E ((l.drop 1).take (nb (l.take 1))) ((l.drop 1).drop (nb (l.take 1)))):=by
 have HT:=h_ (yeK E 1 l w (by omega) hl h)
 obtain ⟨L,HLL⟩:=ez (l.take 1)
 obtain ⟨R,HRR⟩:=ez (l.drop 1)
 obtain ⟨N,HN⟩:=ez (nb L)
 have HL1:Hid (L.length≤1):=h_ (by rw [← HLL.out,List.length_take];omega)
 have hN:N<256:=by
  rw [← HN.out]
  exact Nat.lt_of_lt_of_le (ye8 _) (Nat.pow_le_pow_right (by omega) HL1.out)
 have HRL:Hid (R.length≤1000000000):=h_ (by rw [← HRR.out,List.length_drop];omega)
 have hiN:(N:Int)≤255:=by omega
 rw [HLL.out,HN.out,HRR.out]
 clear h
 go_in
 go_wp2_with fail
 refine (HT.out).mono ?_
 rintro e w1 ⟨p,c,rfl,hb,hc,hr,hg,-⟩
 rw [HRR.out] at hr
 have HT2:=h_ (yeK E N R w1 (by omega) HRL.out hr)
 have HG:=h_ hg
 rw [HLL.out] at hb ⊢
 have HB:=h_ (uN p c L w1 (by have:=HL1.out;omega) hb)
 rw [HN.out] at HB
 clear hb hc hr hg
 go_wp2_with fail
 refine (HB.out).mono ?_
 rintro e w' ⟨rfl,rfl⟩
 go_wp2_with fail
 refine (HT2.out).mono ?_
 rintro e w2 ⟨p2,c2,rfl,hb,hc,hr,hg,-⟩
 have hcv:=GG w2 p2 c2 (R.take N) hb
 obtain ⟨X,HX⟩:=ez (R.take N)
 obtain ⟨m,HM⟩:=ez (X.length)
 have HF:Hid (yje w E (R.take N) (R.drop N) (.returned (.string ⟨X.toArray⟩)) w2):=h_ ⟨by rw [HX.out],hr,HG.out.trans hg⟩
 rw [HX.out,HM.out] at hcv ⊢
 clear hb hc hr hg
 go_wp2
 go_ret
 exact HF.out
theorem yqy (k:Int):(256^vG k:Nat) ∣ 18446744073709551616:=by
 have:=ydu k
 refine ⟨256^(8-vG k),?_⟩
 rw [← Nat.pow_add,show vG k+(8-vG k)=8 by omega]
theorem ypu (n:Nat):256^n=2^(8*n):=by rw [Nat.pow_mul]
theorem yv1 {z:Int} {n N:Nat} (h1:1≤n) (hN:((2^(8*n):Nat):Int) ∣ z-(N:Int)) (hlt:N<2^(8*n)) (hl:-((2^(8*n-1):Nat):Int)≤z) (hh:z<((2^(8*n-1):Nat):Int)):sgI n N=z:=by
 have hp:2^(8*n)=2*2^(8*n-1):=by
  rw [show 8*n=(8*n-1)+1 by omega,Nat.pow_succ];simp;omega
 unfold sgI
 rw [hp] at hN hlt ⊢
 generalize 2^(8*n-1)=H at *
 obtain ⟨d,hd⟩:=hN
 have hd2:z-(N:Int)=2*(H:Int)*d:=by rw [hd,Int.natCast_mul];rfl
 split
 ·have:d=-1:=by
   have e1:d<0:=by
    rcases Int.lt_or_le d 0 with h|h
    ·exact h
    ·have:0≤2*(H:Int)*d:=Int.mul_nonneg (by omega) h
     omega
   have e2:-2<d:=by
    rcases Int.lt_or_le (-2) d with h|h
    ·exact h
    ·have:2*(H:Int)*d≤2*(H:Int)*(-2):=Int.mul_le_mul_of_nonneg_left h (by omega)
     omega
   omega
  subst this
  omega
 ·have:d=0:=by
   have e1:d<1:=by
    rcases Int.lt_or_le d 1 with h|h
    ·exact h
    ·have:2*(H:Int)*1≤2*(H:Int)*d:=Int.mul_le_mul_of_nonneg_left h (by omega)
     omega
   have e2:-1<d:=by
    rcases Int.lt_or_le (-1) d with h|h
    ·exact h
    ·have:2*(H:Int)*d≤2*(H:Int)*(-1):=Int.mul_le_mul_of_nonneg_left h (by omega)
     omega
   omega
  subst this
  omega
theorem yts {k:Int} {x:Lb} (h:zK k x=true) (h1:1≤k) (h4:k≤4) (hx:x≠[]):Lib.itoa (sgI (vG k) (nb (be (vG k) (vT x))))=x:=by
 obtain ⟨q,hq,hd,hl,hh⟩:=yjG h h1 h4 hx
 have hw:=ylB h1 h4
 have e:sgI (vG k) (nb (be (vG k) (vT x)))=q.num:=by
  rw [ykE]
  have hv:(vT x:Int)=q.num%18446744073709551616:=by
   unfold vT;rw [hq]
   show (((q.num%18446744073709551616).toNat:Nat):Int)=_
   omega
  refine yv1 (by omega) ?_ (by rw [← ypu];exact Nat.mod_lt _ (Nat.pow_pos (by omega))) hl hh
  rw [← ypu]
  obtain ⟨m,hm⟩:=yqy k
  refine ⟨q.num/18446744073709551616*m+(vT x:Int)/((256^vG k:Nat):Int),?_⟩
  have a1:=Int.emod_add_mul_ediv q.num 18446744073709551616
  have a2:=Int.emod_add_mul_ediv (vT x:Int) ((256^vG k:Nat):Int)
  have hm2:(18446744073709551616:Int)=((256^vG k:Nat):Int)*(m:Int):=by
   rw [← Int.natCast_mul,← hm];rfl
  rw [Int.natCast_emod]
  generalize ((256^vG k:Nat):Int)=A at *
  rw [← hv,hm2] at a1
  rw [Int.mul_add]
  have e1:A*(q.num/18446744073709551616*(m:Int))=A*(m:Int)*(q.num/(A*(m:Int))):=by
   rw [hm2,Int.mul_comm (q.num/(A*(m:Int))) (m:Int),Int.mul_assoc]
  rw [e1]
  omega
 rw [e]
 have hwr:=yfx hq
 rw [if_pos hd,List.append_nil] at hwr
 rw [hwr]
 unfold Lib.itoa
 by_cases hn:q.num<0
 ·rw [if_pos hn,decide_eq_true hn];rfl
 ·rw [if_neg hn,decide_eq_false hn,show q.num.toNat=q.num.natAbs by omega];rfl
theorem ypv (xs:List Lb) (P:Nat):∀ m,m≤8*P→∀ i,i<8*P→((stP xs P m).getD (i/8) 0).toNat.testBit (i%8)=decide (i<m∧xs.getD i []≠[])
 | 0,_,i,hi=>by
  rw [stP,List.getD_eq_getElem?_getD,List.getElem?_replicate,if_pos (by omega)]
  simp
 | m+1,hm,i,hi=>by
  have ih:=ypv xs P m (by omega) i hi
  rw [stP]
  by_cases he:xs.getD m []=[]
  ·rw [if_pos he,ih]
   congr 1
   refine propext ⟨fun h=>⟨by omega,h.2⟩,fun h=>⟨?_,h.2⟩⟩
   rcases Nat.lt_or_ge i m with h2|h2
   ·exact h2
   ·have:i=m:=by omega
    subst this;exact absurd he h.2
  ·rw [if_neg he]
   have hl:=vZ xs P m
   by_cases hj:i/8=m/8
   ·rw [hj,List.getD_eq_getElem?_getD,List.getElem?_set_self (by rw [hl];omega),Option.getD_some,yfp _ (Nat.mod_lt _ (by omega)),Nat.testBit_or,← hj,ih,Nat.testBit_two_pow]
    by_cases him:i=m
    ·subst him
     rw [decide_eq_true rfl,Bool.or_true]
     exact (decide_eq_true ⟨Nat.lt_succ_self _,he⟩).symm
    ·have h1:¬ m%8=i%8:=by omega
     rw [decide_eq_false h1,Bool.or_false]
     congr 1
     refine propext ⟨fun h=>⟨by omega,h.2⟩,fun h=>⟨by omega,h.2⟩⟩
   ·rw [List.getD_eq_getElem?_getD,List.getElem?_set_ne (fun e=>hj e.symm),← List.getD_eq_getElem?_getD,ih]
    congr 1
    refine propext ⟨fun h=>⟨by omega,h.2⟩,fun h=>⟨by
     rcases Nat.lt_or_ge i m with h2|h2
     ·exact h2
     ·have:i=m:=by omega
      subst this;exact absurd rfl hj,h.2⟩⟩
theorem yv2 (c:UInt8) (r:Nat):bits .and .u8 ((c.toNat:Int)/2^r) 1=(if c.toNat.testBit r then 1 else 0):=by
 have h1:c.toNat<256:=c.toNat_lt
 have e:(c.toNat:Int)/2^r=((c.toNat/2^r:Nat):Int):=by
  rw [show (2:Int)^r=((2^r:Nat):Int) by simp];rfl
 have h2:c.toNat/2^r<256:=Nat.lt_of_le_of_lt (Nat.div_le_self _ _) h1
 rw [e]
 have h3:=u8_and_nat (c.toNat/2^r) 1 h2 (by omega)
 rw [show ((1:Nat):Int)=1 from rfl] at h3
 rw [h3,Nat.testBit_eq_decide_div_mod_eq,Nat.and_one_is_mod]
 have h4:=Nat.mod_two_eq_zero_or_one (c.toNat/2^r)
 rcases h4 with h4|h4<;>rw [h4]<;>rfl
def left (k:Int) (xs:List Lb) (i:Nat):Lb:=(xs.drop i).flatMap (jZ k)
theorem yv3 {k:Int} {xs:List Lb} {i:Nat} (h:i<xs.length):left k xs i=jZ k (xs.getD i [])++left k xs (i+1):=by
 unfold left
 rw [List.drop_eq_getElem_cons h,List.flatMap_cons,List.getD_eq_getElem?_getD,List.getElem?_eq_getElem h];rfl
theorem yla (k:Int) (xs:List Lb):yal k xs=stP xs ((xs.length+7)/8) xs.length++left k xs 0:=by
 unfold yal ybw els left
 rw [List.take_length,List.drop_zero]
theorem ylb {k:Int} {xs:List Lb} (hf:∀ x ∈ xs,zK k x=true) (i:Nat):(left k xs i).length≤83*xs.length:=by
 unfold left
 have key:∀ l:List Lb,(∀ x ∈ l,zK k x=true)→(l.flatMap (jZ k)).length≤83*l.length:=fun l=>by
  induction l with
  | nil=>intro _;simp
  | cons a r ih =>
   intro h
   have h1:=ih (fun x hx=>h x (List.mem_cons_of_mem _ hx))
   have h2:=yfq (h a (List.mem_cons_self ..))
   rw [List.flatMap_cons,List.length_append,List.length_cons]
   omega
 have:=key (xs.drop i) (fun x hx=>hf x (List.mem_of_mem_drop hx))
 rw [List.length_drop] at this
 omega
theorem yqz {x R:Lb} (hx:x≠[]) (hl:x.length≤82):((jZ 5 x++R).drop 1).take (nb ((jZ 5 x++R).take 1))=x∧((jZ 5 x++R).drop 1).drop (nb ((jZ 5 x++R).take 1))=R:=by
 unfold jZ
 rw [if_pos rfl,if_neg hx,List.cons_append]
 have e:nb ((UInt8.ofNat x.length::(x++R)).take 1)=x.length:=by
  show 0*256+(UInt8.ofNat x.length).toNat=_
  rw [UInt8.toNat_ofNat'];omega
 rw [e]
 exact ⟨List.take_left,List.drop_left⟩
theorem ytt {k:Int} {x R:Lb} (h5:k≠5):(jZ k x++R).take (vG k)=be (vG k) (vT x)∧(jZ k x++R).drop (vG k)=R:=by
 unfold jZ
 rw [if_neg h5]
 have e:=zE (vT x) (vG k)
 constructor
 ·exact List.take_left' e
 ·exact List.drop_left' e
theorem yeL {w X W:World} {E:Nat} (h:X.grownBy W (some E)) (hb:Below E w X) (hE:E≤X.heap.size):Below E w W :=
 ⟨h.os.trans hb.os,h.tape.trans hb.tape,h.output.trans hb.output,Nat.le_trans hb.size h.size,fun k hk=>(h.block k (by omega) (by intro e;injection e with e;omega)).trans (hb.block k hk)⟩
theorem ysa {W W':World} {p:Oa} {l:Lb} {E:Nat} (h:Bs W p l) (hb:Below E W W') (hne:∀ b off,p=some ⟨b,off,none⟩→0<l.length→b<E):Bs W' p l:=by
 rcases h with h0|⟨b,off,hp,hlt,hc⟩
 ·exact .inl h0
 ·refine .inr ⟨b,off,hp,Nat.lt_of_lt_of_le hlt hb.size,fun j hj=>?_⟩
  have h1:=hb.block b (hne b off hp (by omega))
  have h2:=hc j hj
  simp only [World.cell?] at h2 ⊢
  rw [h1];exact h2
theorem yiB {w W:World} {E V i:Nat} {v:Value} (h:Below E w W) (hV:E≤V):Below E w (W.setCell ⟨V,i,none⟩ v):=h.setCell (p:=⟨V,i,none⟩) hV v
structure RdI (W2:World) (E V n:Nat) (k:Int) (xs:List Lb) (i:Nat) (W:World):Prop where
 below:Below E W2 W
 rdr:Rdr W E (left k xs i)
 vals:ybN W V n i xs
theorem RdI.store {W2 W w5:World} {E V n i:Nat} {k:Int} {xs:List Lb} (h:RdI W2 E V n k xs i W) (hi:i<n) (hE:E<V) (hr:Rdr w5 E (left k xs (i+1))) (hg:W.grownBy w5 (some E)) (hE2:E≤W.heap.size):RdI W2 E V n k xs (i+1) (w5.setCell ⟨V,i,none⟩ (.string ⟨(xs.getD i []).toArray⟩)):=by
 have hv:ybN w5 V n i xs:=h.vals.keep (by
  obtain ⟨cs,h1,-⟩:=h.vals
  exact hg.block V (Array.getElem?_eq_some_iff.1 h1).1 (by intro e;injection e with e;omega))
 refine ⟨yiB (yeL hg h.below hE2) (by omega),?_,hv.put hi⟩
 obtain ⟨p,c,h1,h2,h3,h4⟩:=hr
 refine ⟨p,c,(Below.heap_setCell _ _ _ _ (by show E≠V;omega)).trans h1,ysa h2 (yiB bR (by omega)) h4,h3,h4⟩
theorem RdI.skip {W2 W w5:World} {E V n i:Nat} {k:Int} {xs:List Lb} (h:RdI W2 E V n k xs i W) (hE:E<V) (he:xs.getD i []=[]) (hr:Rdr w5 E (left k xs (i+1))) (hg:W.grownBy w5 (some E)) (hE2:E≤W.heap.size):RdI W2 E V n k xs (i+1) w5:=by
 have hv:ybN w5 V n i xs:=h.vals.keep (by
  obtain ⟨cs,h1,-⟩:=h.vals
  exact hg.block V (Array.getElem?_eq_some_iff.1 h1).1 (by intro e;injection e with e;omega))
 exact ⟨yeL hg h.below hE2,hr,hv.skip he⟩
theorem yj3 (k:Int) (p:Oa) (c n m:Nat) (xs:List Lb) (w:World) (hx:Hid (xs.length=n)) (hn:n≤4096) (hm:Hid ((yal k xs).length=m)) (hmc:m≤c) (hb:Bs w p (yal k xs)) (HZ:Hid (vH k xs=0)) (he:Env w) :
  Calls Tryz.prog 113 #[.int .i64 k,.int .i64 (n:Int),.slice p m c] w fun e w'=>Be w w'∧∃ q,e=.returned (.slice q n n)∧Ss w' q xs:=by
 have HB:=h_ hb
 have HE:=h_ he
 clear hb he
 have hk:isT k=true∧xs.all (zK k)=true:=by
  have h:=HZ.out
  unfold vH at h
  by_cases h1:isT k=false
  ·rw [if_pos h1] at h;cases h
  ·rw [if_neg h1] at h
   by_cases h2:xs.all (zK k)=false
   ·rw [if_pos h2] at h;cases h
   ·exact ⟨by simpa using h1,by simpa using h2⟩
 have HK1:Hid (1≤k∧k≤5):=h_ (by
  have h:=hk.1
  unfold isT at h
  rw [Bool.and_eq_true,decide_eq_true_eq,decide_eq_true_eq] at h
  exact h)
 have HFA:Hid (∀ x ∈ xs,zK k x=true):=h_ (List.all_eq_true.1 hk.2)
 obtain ⟨P,HPD⟩:=ez ((n+7)/8)
 have hP:P≤512:=by have:=HPD.out;omega
 have hPi:((n:Int)+7)/8=(P:Int):=by have:=HPD.out;omega
 have hni:(n:Int)≤4096:=by omega
 have HPR:=h_ (fun W=>ybs n hni W)
 rw [hPi] at HPR
 have yu6:Hid (yal k xs=stP xs P n++left k xs 0):=h_ (by rw [yla,hx.out,HPD.out])
 have HTK:Hid ((yal k xs).take P=stP xs P n∧(yal k xs).drop P=left k xs 0):=h_ (by
  rw [yu6.out]
  have e:=vZ xs P n
  exact ⟨List.take_left' e,List.drop_left' e⟩)
 have HPTL:Hid ((yal k xs).length≤1000000000):=h_ (by
  rw [yu6.out,List.length_append,vZ]
  have:=ylb HFA.out 0
  have:=hx.out
  omega)
 obtain ⟨E,HEE⟩:=ey (w.heap.size)
 obtain ⟨W1,vI⟩:=ez (w.alloc (.cells #[.slice p m c] 168))
 have yX:Hid (Below E w W1):=h_ (by rw [← vI.out];exact bR.alloc (by rw [HEE.out];exact Nat.le_refl _) _)
 have HR1:Hid (Rdr W1 E (yal k xs)):=h_ (by
  refine ⟨p,c,?_,?_,by rw [hm.out];exact hmc,fun b off e h0=>?_⟩
  ·rw [hm.out,← vI.out,HEE.out];exact heap_alloc_new _ _
  ·refine ysa HB.out yX.out (fun b off e h0=>?_)
   rcases HB.out with h|⟨b',off',hp,hlt,-⟩
   ·omega
   ·rw [hp] at e;cases e;rw [HEE.out];exact hlt
  ·rcases HB.out with h|⟨b',off',hp,hlt,-⟩
   ·omega
   ·rw [hp] at e;cases e;rw [HEE.out];exact hlt)
 have HTAKE:=h_ (yeK E P (yal k xs) W1 (by omega) HPTL.out HR1.out)
 have hee:w.heap.size=E:=HEE.out.symm
 have HENV0:Hid (∀ W,Below E w W→Env W):=h_ (fun W hW=>HE.out.below (by rwa [HEE.out] at hW))
 obtain ⟨Z,hZ,hmk⟩:=yi2 n (by omega)
 have HZS:=h_ hZ
 clear hk hZ hPi
 go_in
 go_wp2_with fail
 rw [vI.out]
 refine (HPR.out _).mono ?_
 rintro e w' ⟨rfl,rfl⟩
 go_wp2_with fail
 refine (HTAKE.out).mono ?_
 rintro e W2 ⟨pp,cc,rfl,hpb,hpc,hpr,hpg,hpe⟩
 rw [HTK.out.1] at hpb hpc hpe ⊢
 rw [HTK.out.2] at hpr
 rw [vZ] at hpc ⊢
 have HPB:=h_ hpb
 have HPE:=h_ hpe
 have HPL:Hid ((stP xs P n).length=P):=h_ (vZ _ _ _)
 have HE1:Hid (E<W1.heap.size):=h_ (by rw [← vI.out,HEE.out];simp)
 have HBE:Hid (Below E w W2):=h_ (yeL hpg yX.out (Nat.le_of_lt HE1.out))
 have HE2':Hid (E<W2.heap.size):=h_ (Nat.lt_of_lt_of_le HE1.out hpg.size)
 have HE2:Hid (E≤W2.heap.size):=h_ (Nat.le_of_lt HE2'.out)
 have HENV:Hid (∀ W,Below E W2 W→Env W):=h_ (fun W hW=>HENV0.out W (HBE.out.trans hW))
 obtain ⟨V,HVV⟩:=ez (W2.heap.size)
 have HEV:Hid (E<V):=h_ (by rw [← HVV.out];exact HE2'.out)
 obtain ⟨W3,HW3⟩:=ez (W2.alloc (.cells Z 9))
 have HI0:Hid (RdI W2 E V n k xs 0 W3):=h_ (by
  have hb3:Be W2 W3:=by rw [← HW3.out];exact bR.alloc nl _
  refine ⟨hb3.mono HE2.out,yiA hpr hb3,Z,?_,HZS.out.1,fun j hj=>?_⟩
  ·rw [← HW3.out,← HVV.out];exact heap_alloc_new _ _
  ·rw [if_neg (by omega)];exact HZS.out.2 j hj)
 clear hpb hpc hpr hpg hpe
 go_wp2_with fail
 rw [HW3.out,HVV.out]
 clear hmk hee
 go_loopw [22] (fun iv wr=>∃ i:Nat,i≤n∧iv=.int .i64 i∧Hid (RdI W2 E V n k xs i wr)) (fun iv _=>n-(intOf iv).toNat)
 case atStart=>exact ⟨0,Nat.zero_le _,rfl,HI0⟩
 case round =>
  obtain ⟨i,hi9,rfl,HK⟩:=hrel
  have ii:(i:Int)≤(n:Int):=by omega
  by_cases hlt:i<n
  ·have ilt:(i:Int)<(n:Int):=by omega
   have hil:i<xs.length:=by rw [hx.out];exact hlt
   have HF:Hid (zK k (xs.getD i [])=true):=h_ (HFA.out _ (by rw [gD hil];exact List.getElem_mem _))
   obtain ⟨x,HXX⟩:=ez (xs.getD i [])
   rw [HXX.out] at HF
   obtain ⟨j,HJ⟩:=ez (i/8)
   obtain ⟨r,HR⟩:=ez (i%8)
   have hjP:j<P:=by have:=HJ.out;have:=HPD.out;omega
   have hr8:r<8:=by have:=HR.out;omega
   obtain ⟨b1,o1,d,e1,hb1,hc1,hd,hd255⟩:=(ysa HPB.out HK.out.below HPE.out).at (k:=j) (by rw [HPL.out];exact hjP)
   subst e1
   obtain ⟨bt,HBT⟩:=ez (decide (x≠[]))
   have yhW:bits .and .u8 ((d:Int)/2^r) 1=(if bt then 1 else 0):=by
    have h:=yv2 ((stP xs P n).getD j 0) r
    have h2:=ypv xs P n (by have:=HPD.out;omega) i (by have:=HPD.out;omega)
    rw [HJ.out,HR.out,HXX.out] at h2
    rw [hd.out] at h h2
    rw [h,h2,← HBT.out]
    by_cases hxe:x=[]
    ·rw [decide_eq_false (fun h=>h.2 hxe),decide_eq_false (fun h=>h hxe)]
    ·rw [decide_eq_true ⟨hlt,hxe⟩,decide_eq_true hxe]
   have hdi:(i:Int)/8=(j:Int):=by have:=HJ.out;omega
   have hmi:(i:Int)%8=(r:Int):=by have:=HR.out;omega
   have ijP:(j:Int)<(P:Int):=by omega
   have ij5:(j:Int)≤512:=by omega
   have HES:Hid (E≤wr.heap.size):=h_ (Nat.le_trans HE2.out HK.out.below.size)
   have HLL:Hid (left k xs i=jZ k x++left k xs (i+1)):=h_ (by rw [yv3 hil,HXX.out])
   have HTB:Hid (∀ W,wr.grownBy W (some E)→Tab W):=h_ (fun W hW=>(HENV.out W (yeL hW HK.out.below HES.out)).tab)
   have HLN:Hid ((left k xs i).length≤1000000000):=h_ (by have:=ylb HFA.out i;have:=hx.out;omega)
   clear hb1 hd hil
   by_cases h5:k=5
   ·have g5:(k != 5)=false:=by rw [h5];rfl
    have H5:=h_ h5
    clear h5
    cases bt with
    | true =>
     have hxe:x≠[]:=by have:=HBT.out;simpa using this
     have HTX:=h_ (yv0 E (left k xs i) wr HLN.out HK.out.rdr)
     have yd6:=yqz (x:=x) (R:=left k xs (i+1)) hxe (ydv HF.out)
     rw [← H5.out,← HLL.out] at yd6
     rw [yd6.1,yd6.2] at HTX
     rw [if_pos rfl] at yhW
     clear yd6 hxe
     go_wp2_with fail
     refine (HTX.out).mono ?_
     rintro e w5 ⟨rfl,hr5,hg5⟩
     have HST:Hid (RdI W2 E V n k xs (i+1) (w5.setCell ⟨V,i,none⟩ (.string ⟨x.toArray⟩))):=h_ (by
      have:=HK.out.store hlt HEV.out hr5 hg5 HES.out
      rwa [HXX.out] at this)
     have hv5:ybN w5 V n i xs:=HK.out.vals.keep (by
      obtain ⟨cs,h1,-⟩:=HK.out.vals
      exact hg5.block V (Array.getElem?_eq_some_iff.1 h1).1 (by intro e;injection e with e;have:=HEV.out;omega))
     obtain ⟨gc,gf⟩:=hv5.old hlt
     obtain ⟨W6,HW6⟩:=ez (w5.setCell ⟨V,i,none⟩ (.string ⟨x.toArray⟩))
     rw [HW6.out] at HST
     clear hv5 hr5 hg5
     go_wp2_with fail
     rw [HW6.out]
     go_roundw
     case rel=>exact ⟨i+1,by omega,by go_num,HST⟩
     case measure=>simp [intOf];omega
    | false =>
     have hxe:x=[]:=by have:=HBT.out;simpa using this
     rw [if_neg (by simp)] at yhW
     have HK2:Hid (RdI W2 E V n k xs (i+1) wr):=h_ (HK.out.skip HEV.out (by rw [HXX.out];exact hxe) (by
      have h:=HK.out.rdr
      have e0:jZ k x=[]:=by unfold jZ;rw [if_pos H5.out,if_pos hxe]
      rw [HLL.out,e0] at h
      exact h) ⟨rfl,rfl,rfl,Nat.le_refl _,fun _ _ _=>rfl⟩ HES.out)
     clear hxe
     go_wp2
     go_roundw
     case rel=>exact ⟨i+1,by omega,by go_num,HK2⟩
     case measure=>simp [intOf];omega
   ·have g5:(k != 5)=true:=by rw [bne_iff_ne];exact h5
    have H5:=h_ h5
    clear h5
    have hkk:1≤k∧k≤4:=by have:=HK1.out;have:=H5.out;omega
    have hw:vG k=1∨vG k=2∨vG k=4∨vG k=8:=by
     have h:k=1∨k=2∨k=3∨k=4:=by omega
     rcases h with h|h|h|h
     ·rw [h];exact .inl rfl
     ·rw [h];exact .inr (.inl rfl)
     ·rw [h];exact .inr (.inr (.inl rfl))
     ·rw [h];exact .inr (.inr (.inr rfl))
    have HIN:=h_ (yoi E (vG k) (left k xs i) wr hw HLN.out HK.out.rdr HTB.out)
    have ynJ:=ytt (x:=x) (R:=left k xs (i+1)) H5.out
    rw [← HLL.out] at ynJ
    rw [ynJ.1,ynJ.2] at HIN
    clear hw ynJ
    cases bt with
    | true =>
     have hxe:x≠[]:=by have:=HBT.out;simpa using this
     rw [yts HF.out hkk.1 hkk.2 hxe] at HIN
     rw [if_pos rfl] at yhW
     clear hxe hkk
     go_wp2_with fail
     refine (ycA k _).mono ?_
     rintro e w' ⟨rfl,rfl⟩
     go_wp2_with fail
     refine (HIN.out).mono ?_
     rintro e w5 ⟨rfl,hr5,hg5⟩
     have HST:Hid (RdI W2 E V n k xs (i+1) (w5.setCell ⟨V,i,none⟩ (.string ⟨x.toArray⟩))):=h_ (by
      have:=HK.out.store hlt HEV.out hr5 hg5 HES.out
      rwa [HXX.out] at this)
     have hv5:ybN w5 V n i xs:=HK.out.vals.keep (by
      obtain ⟨cs,h1,-⟩:=HK.out.vals
      exact hg5.block V (Array.getElem?_eq_some_iff.1 h1).1 (by intro e;injection e with e;have:=HEV.out;omega))
     obtain ⟨gc,gf⟩:=hv5.old hlt
     obtain ⟨W6,HW6⟩:=ez (w5.setCell ⟨V,i,none⟩ (.string ⟨x.toArray⟩))
     rw [HW6.out] at HST
     clear hv5 hr5 hg5
     go_wp2_with fail
     rw [HW6.out]
     go_roundw
     case rel=>exact ⟨i+1,by omega,by go_num,HST⟩
     case measure=>simp [intOf];omega
    | false =>
     have hxe:x=[]:=by have:=HBT.out;simpa using this
     rw [if_neg (by simp)] at yhW
     obtain ⟨T,HT⟩:=ez (Lib.itoa (sgI (vG k) (nb (be (vG k) (vT x)))))
     rw [HT.out] at HIN
     have HXE:=h_ hxe
     clear hxe hkk
     go_wp2_with fail
     refine (ycA k _).mono ?_
     rintro e w' ⟨rfl,rfl⟩
     go_wp2_with fail
     refine (HIN.out).mono ?_
     rintro e w5 ⟨rfl,hr5,hg5⟩
     have HK2:Hid (RdI W2 E V n k xs (i+1) w5):=h_ (HK.out.skip HEV.out (by rw [HXX.out];exact HXE.out) hr5 hg5 HES.out)
     clear hr5 hg5
     go_wp2
     go_roundw
     case rel=>exact ⟨i+1,by omega,by go_num,HK2⟩
     case measure=>simp [intOf];omega
  ·obtain rfl:i=n:=by omega
   have ilt:¬ (i:Int)<(i:Int):=by omega
   have GB:Hid (Be w wr∧∃ q,(.returned (.slice (some ⟨V,0,none⟩) i i):Ending)=.returned (.slice q i i)∧Ss wr q xs):=h_ ⟨by
    have h:=HBE.out.trans HK.out.below
    rwa [HEE.out] at h,_,rfl,HK.out.vals.reads hx.out⟩
   go_wp2
   go_ret
   exact GB.out
end Go.Proofs.YtgepehlpjpccaaaGreatDoor
