/- Contracts. -/
import Derived.Test.YtgepehlpjpccaaaGreatDoorYS
import Derived.Laws.AppendOwnNone
import Derived.Test.YtgepehlpjpccaaaGreatDoorShelfC
set_option maxHeartbeats 8000000
set_option maxRecDepth 100000
namespace Go.Proofs.YtgepehlpjpccaaaGreatDoor
open Go.RowKit
open Go.Lib
theorem yjo {k:Int} (h1:1≤k) (h4:k≤4):0<zY k:=by
 unfold zY
 have:k=1∨k=2∨k=3∨k=4:=by omega
 rcases this with rfl|rfl|rfl|rfl<;>decide
def Rdr (W:World) (E:Nat) (l:Lb):Prop:=∃ p c,W.heap[E]?=some (.cells #[.slice p l.length c] 168 (0,0))∧Bs W p l∧l.length≤c∧∀ b off,p=some ⟨b,off,none⟩→0<l.length→b<E
def yp4 (W:World) (E n:Nat) (l:Lb) (e:Ending) (w':World):Prop :=
 ∃ p c,e=.returned (.slice p (l.take n).length c)∧Bs w' p (l.take n)∧(l.take n).length≤c∧Rdr w' E (l.drop n)∧W.grownBy w' (some E)∧∀ b off,p=some ⟨b,off,none⟩→0<(l.take n).length→b<E
theorem yu4 (W:World) (g k:Nat) (v:Value):W.grownBy (W.setCell ⟨g,k,none⟩ v) (some g):=⟨rfl,rfl,rfl,by simp,fun i _ hi=>Below.heap_setCell _ _ _ _ (fun e=>hi (by rw [e]))⟩
theorem ym6 {W W':World} {p:Oa} {l:Lb} {E:Nat} (h:Bs W p l) (hg:W.grownBy W' (some E)) (hne:∀ b off,p=some ⟨b,off,none⟩→0<l.length→b<E):Bs W' p l:=by
 rcases h with h0|⟨b,off,hp,hlt,hc⟩
 ·exact .inl h0
 ·refine .inr ⟨b,off,hp,Nat.lt_of_lt_of_le hlt hg.size,fun j hj=>?_⟩
  have h1:=hg.block b hlt (by intro e;injection e with e;have:=hne b off hp (by omega);omega)
  have h2:=hc j hj
  simp only [World.cell?] at h2 ⊢
  rw [h1];exact h2
theorem ym7 {W:World} {b off:Nat} {l:Lb} (h:Bs W (some ⟨b,off,none⟩) l) {n:Nat} (hn:n<l.length):Bs W (some ⟨b,off+n,none⟩) (l.drop n):=by
 rcases h with h0|⟨b',off',hp,hlt,hc⟩
 ·omega
 ·cases hp
  refine .inr ⟨b,off+n,rfl,hlt,fun j hj=>?_⟩
  rw [List.length_drop] at hj
  have h2:=hc (n+j) (by omega)
  rw [Nat.add_assoc,h2]
  congr 3
  rw [List.getD_eq_getElem?_getD,List.getD_eq_getElem?_getD,List.getElem?_drop]
theorem ycM (E n:Nat) (l:Lb) (w:World) (hn:n≤1000000) (hl:l.length≤1000000000) (h:Rdr w E l) :
  Calls Tryz.prog 167 #[.pointer (some ⟨E,0,none⟩),.int .i64 (n:Int)] w (yp4 w E n l):=by
 obtain ⟨p,c,h1,h2,h3,h4⟩:=h
 obtain ⟨m,HM⟩:=ez (l.length)
 obtain ⟨k,HK⟩:=ez (min n m)
 have hlen:(l.take n).length=k:=by rw [List.length_take,HM.out,HK.out]
 have hdl:(l.drop n).length=m-k:=by rw [List.length_drop,HM.out,← HK.out];omega
 have HRES:Hid (∀ p2 c2,m-k≤c2→(k<m→∃ b off,p=some ⟨b,off,none⟩∧p2=some ⟨b,off+k,none⟩)→yp4 w E n l (.returned (.slice p k c)) (w.setCell ⟨E,0,none⟩ (.slice p2 (m-k) c2))):=h_ (fun p2 c2 hc2 hp2=>by
  have hg:=yu4 w E 0 (.slice p2 (m-k) c2)
  refine ⟨p,c,by rw [hlen],ym6 (ycd h2 n) hg (fun b off e h0=>h4 b off e (by rw [List.length_take] at h0;omega)),by rw [hlen,← HK.out];have:=HM.out;omega,⟨p2,c2,?_,?_,by rw [hdl];exact hc2,?_⟩,hg,fun b off e h0=>h4 b off e (by rw [List.length_take] at h0;omega)⟩
  ·rw [hdl];exact yfO w E 0 _ _ _ h1
  ·by_cases hk:k<m
   ·obtain ⟨b,off,e1,e2⟩:=hp2 hk
    have hkn:k=n:=by have:=HK.out;omega
    subst e2
    refine ym6 ?_ hg (fun b' off' e h0=>?_)
    ·rw [e1] at h2
     have:=ym7 h2 (n:=n) (by rw [HM.out];omega)
     rwa [← hkn] at this ⊢
    ·cases e;exact h4 _ _ e1 (by rw [HM.out];omega)
   ·exact .inl (by rw [hdl];omega)
  ·intro b' off' e h0
   rw [hdl] at h0
   obtain ⟨b,off,e1,e2⟩:=hp2 (by omega)
   rw [e2] at e;cases e
   exact h4 _ _ e1 (by rw [HM.out];omega))
 have HADR:Hid (k<m→∃ b off,p=some ⟨b,off,none⟩):=h_ (fun hk=>by
  rcases h2 with h0|⟨b,off,hp,-⟩
  ·rw [HM.out] at h0;omega
  ·exact ⟨b,off,hp⟩)
 rw [HM.out] at h1 h3 hl
 have ypd:min (n:Int) (m:Int)=(k:Int):=by rw [← HK.out];omega
 have hmin2:min (m:Int) (n:Int)=(k:Int):=by rw [← HK.out];omega
 have ik:(k:Int)≤(m:Int):=by rw [← HK.out];omega
 have ik2:(k:Int)≤(c:Int):=by omega
 have im:(m:Int)≤1000000000:=by omega
 have g0:w.cell? ⟨E,0,none⟩=some (.slice p m c):=by simp [World.cell?,h1]
 have f0:w.frozen? ⟨E,0,none⟩=false:=by simp [World.frozen?,h1]
 clear h1 h2 h4 hlen hdl
 by_cases hck:c=k
 ·subst hck
  have HF:=h_ (HRES.out p 0 (by omega) (fun h=>by omega))
  rw [show m-c=0 by omega] at HF
  go_in
  go_wp2
  go_ret
  exact HF.out
 ·have HF:=h_ (HRES.out (p.map fun x=>x.add k) (c-k) (by omega) (fun h=>by
   obtain ⟨b,off,e⟩:=HADR.out h
   exact ⟨b,off,e,by rw [e];cases k<;>simp [Addr.add]⟩))
  go_in
  go_wp2
  go_ret
  exact HF.out
theorem ys1 (n:Int) (h0:-9223372036854775808≤n) (h1:n≤9223372036854775807) (w:World) (ht:Tab w):Calls Tryz.prog 200 #[.int .i64 n,.int .i64 10] w (Rp (.string ⟨(Lib.itoa n).toArray⟩) w) :=
 (Tryz.strconv_FormatInt_10 n h0 h1 w ht).mono fun e w' ⟨h,k,os,h2⟩=>⟨h,by rw [h2];exact Lib.below_grow _ _ nl _ _⟩
def sgI (n N:Nat):Int:=if 2^(8*n-1)≤N then (N:Int)-((2^(8*n):Nat):Int) else (N:Int)
def yhE (W:World) (E:Nat) (x r:Lb) (e:Ending) (w':World):Prop:=e=.returned (.string ⟨x.toArray⟩)∧Rdr w' E r∧W.grownBy w' (some E)
theorem yej {W W':World} {E:Nat} {l:Lb} (h:Rdr W E l) (hb:Be W W'):Rdr W' E l:=by
 obtain ⟨p,c,h1,h2,h3,h4⟩:=h
 exact ⟨p,c,(hb.block E (Array.getElem?_eq_some_iff.1 h1).1).trans h1,h2.below hb,h3,h4⟩
theorem ys2 {W W1 W2:World} {E:Nat} (h:W.grownBy W1 (some E)) (hb:Be W1 W2):W.grownBy W2 (some E):=h.trans (yc6 hb _)
theorem yfX (E n:Nat) (l:Lb) (w:World) (hn:n=1∨n=2∨n=4∨n=8) (hl:l.length≤1000000000) (h:Rdr w E l) (ht:∀ W,w.grownBy W (some E)→Tab W) :
  Calls Tryz.prog 168 #[.pointer (some ⟨E,0,none⟩),.int .i64 (n:Int)] w (yhE w E (Lib.itoa (sgI n (nb (l.take n)))) (l.drop n)):=by
 have HT:=h_ (ycM E n l w (by omega) hl h)
 have yuu:=h_ ht
 have HL8:Hid ((l.take n).length≤8):=h_ (by rw [List.length_take];omega)
 have HLN:Hid ((l.take n).length≤n):=h_ (by rw [List.length_take];omega)
 obtain ⟨L,GL⟩:=ez (l.take n)
 obtain ⟨R,HRR⟩:=ez (l.drop n)
 obtain ⟨N,HN⟩:=ez (nb L)
 have HNL:Hid (N<256^n):=h_ (by
  rw [← HN.out,← GL.out]
  exact Nat.lt_of_lt_of_le (GQ _) (Nat.pow_le_pow_right (by omega) HLN.out))
 rw [GL.out,HN.out,HRR.out]
 obtain ⟨v,HV⟩:=ez (sgI n N)
 rw [HV.out]
 clear h ht
 rcases hn with rfl|rfl|rfl|rfl
 all_goals
  first
  | (
    have hN:N<256:=HNL.out
    have hiN:(N:Int)≤255:=by omega
    have hvb:-9223372036854775808≤v∧v≤9223372036854775807:=by
     rw [← HV.out]
     unfold sgI
     split<;>omega
    have hv:wrap64 ((N:Int)*72057594037927936)/72057594037927936=v:=by
     rw [← HV.out]
     unfold sgI wrap64
     split<;>(try split)<;>omega)
  | (
    have hN:N<65536:=HNL.out
    have hiN:(N:Int)≤65535:=by omega
    have hvb:-9223372036854775808≤v∧v≤9223372036854775807:=by
     rw [← HV.out]
     unfold sgI
     split<;>omega
    have hv:wrap64 ((N:Int)*281474976710656)/281474976710656=v:=by
     rw [← HV.out]
     unfold sgI wrap64
     split<;>(try split)<;>omega)
  | (
    have hN:N<4294967296:=HNL.out
    have hiN:(N:Int)≤4294967295:=by omega
    have hvb:-9223372036854775808≤v∧v≤9223372036854775807:=by
     rw [← HV.out]
     unfold sgI
     split<;>omega
    have hv:wrap64 ((N:Int)*4294967296)/4294967296=v:=by
     rw [← HV.out]
     unfold sgI wrap64
     split<;>(try split)<;>omega)
  | (
    have hN:N<18446744073709551616:=HNL.out
    have hiN:(N:Int)≤18446744073709551615:=by omega
    have hvb:-9223372036854775808≤v∧v≤9223372036854775807:=by
     rw [← HV.out]
     unfold sgI
     split<;>omega
    have hv:wrap64 (N:Int)=v:=by
     rw [← HV.out]
     unfold sgI wrap64
     split<;>(try split)<;>omega)
  have HVB:=h_ hvb
  clear hvb
  go_in
  go_wp2_with fail
  refine (HT.out).mono ?_
  rintro e w1 ⟨p,c,rfl,hb,hc,hr,hg,-⟩
  rw [HRR.out] at hr
  have yaq:Hid (∀ w2,Be w1 w2→yhE w E (Lib.itoa v) R (.returned (.string ⟨(Lib.itoa v).toArray⟩)) w2):=h_ (fun w2 hb2=>⟨rfl,yej hr hb2,ys2 hg hb2⟩)
  rw [GL.out] at hb ⊢
  have HB:=h_ (jA p c L w1 (by rw [← GL.out];exact HL8.out) hb)
  have HFM:=h_ (ys1 v HVB.out.1 HVB.out.2 w1 (yuu.out _ hg))
  rw [HN.out] at HB
  clear hb hc hr hg
  go_wp2_with fail
  refine (HB.out).mono ?_
  rintro e w' ⟨rfl,rfl⟩
  go_wp2_with fail
  refine (HFM.out).mono ?_
  rintro e w2 ⟨rfl,hb2⟩
  have HF:=h_ (yaq.out w2 hb2)
  clear hb2
  go_wp2
  go_ret
  exact HF.out
theorem ym8 (E:Nat) (l:Lb) (w:World) (hl:l.length≤1000000000) (h:Rdr w E l) :
  Calls Tryz.prog 169 #[.pointer (some ⟨E,0,none⟩)] w (yhE w E ((l.drop 1).take (nb (l.take 1))) ((l.drop 1).drop (nb (l.take 1)))):=by
 have HT:=h_ (ycM E 1 l w (by omega) hl h)
 obtain ⟨L,GL⟩:=ez (l.take 1)
 obtain ⟨R,HRR⟩:=ez (l.drop 1)
 obtain ⟨N,HN⟩:=ez (nb L)
 have HL1:Hid (L.length≤1):=h_ (by rw [← GL.out,List.length_take];omega)
 have hN:N<256:=by
  rw [← HN.out]
  exact Nat.lt_of_lt_of_le (GQ _) (Nat.pow_le_pow_right (by omega) HL1.out)
 have HRL:Hid (R.length≤1000000000):=h_ (by rw [← HRR.out,List.length_drop];omega)
 have hiN:(N:Int)≤255:=by omega
 rw [GL.out,HN.out,HRR.out]
 clear h
 go_in
 go_wp2_with fail
 refine (HT.out).mono ?_
 rintro e w1 ⟨p,c,rfl,hb,hc,hr,hg,-⟩
 rw [HRR.out] at hr
 have HT2:=h_ (ycM E N R w1 (by omega) HRL.out hr)
 have HG:=h_ hg
 rw [GL.out] at hb ⊢
 have HB:=h_ (jA p c L w1 (by have:=HL1.out;omega) hb)
 rw [HN.out] at HB
 clear hb hc hr hg
 go_wp2_with fail
 refine (HB.out).mono ?_
 rintro e w' ⟨rfl,rfl⟩
 go_wp2_with fail
 refine (HT2.out).mono ?_
 rintro e w2 ⟨p2,c2,rfl,hb,hc,hr,hg,-⟩
 have hcv:=zP w2 p2 c2 (R.take N) hb
 obtain ⟨X,HX⟩:=ez (R.take N)
 obtain ⟨m,HM⟩:=ez (X.length)
 have HF:Hid (yhE w E (R.take N) (R.drop N) (.returned (.string ⟨X.toArray⟩)) w2):=h_ ⟨by rw [HX.out],hr,HG.out.trans hg⟩
 rw [HX.out,HM.out] at hcv ⊢
 clear hb hc hr hg
 go_wp2
 go_ret
 exact HF.out
theorem ynV (k:Int):(256^zY k:Nat) ∣ 18446744073709551616:=by
 have:=ybs k
 refine ⟨256^(8-zY k),?_⟩
 rw [← Nat.pow_add,show zY k+(8-zY k)=8 by omega]
theorem ym9 (n:Nat):256^n=2^(8*n):=by rw [Nat.pow_mul]
theorem ys3 {z:Int} {n N:Nat} (h1:1≤n) (hN:((2^(8*n):Nat):Int) ∣ z-(N:Int)) (hlt:N<2^(8*n)) (hl:-((2^(8*n-1):Nat):Int)≤z) (hh:z<((2^(8*n-1):Nat):Int)):sgI n N=z:=by
 have hp:2^(8*n)=2*2^(8*n-1):=by
  rw [show 8*n=(8*n-1)+1 by omega,Nat.pow_succ];simp;omega
 unfold sgI
 rw [hp] at hN hlt ⊢
 generalize 2^(8*n-1)=H at *
 obtain ⟨d,hd⟩:=hN
 have hd2:z-(N:Int)=2*(H:Int)*d:=by rw [hd,Int.natCast_mul];rfl
 split
 ·have:d=-1:=by
   have e1:d<0:=by
    rcases Int.lt_or_le d 0 with h|h
    ·exact h
    ·have:0≤2*(H:Int)*d:=Int.mul_nonneg (by omega) h
     omega
   have e2:-2<d:=by
    rcases Int.lt_or_le (-2) d with h|h
    ·exact h
    ·have:2*(H:Int)*d≤2*(H:Int)*(-2):=Int.mul_le_mul_of_nonneg_left h (by omega)
     omega
   omega
  subst this
  omega
 ·have:d=0:=by
   have e1:d<1:=by
    rcases Int.lt_or_le d 1 with h|h
    ·exact h
    ·have:2*(H:Int)*1≤2*(H:Int)*d:=Int.mul_le_mul_of_nonneg_left h (by omega)
     omega
   have e2:-1<d:=by
    rcases Int.lt_or_le (-1) d with h|h
    ·exact h
    ·have:2*(H:Int)*d≤2*(H:Int)*(-1):=Int.mul_le_mul_of_nonneg_left h (by omega)
     omega
   omega
  subst this
  omega
theorem yjp {k:Int} {x:Lb} (h:zZ k x=true) (h1:1≤k) (h4:k≤4) (hx:x≠[]):Lib.itoa (sgI (zY k) (nb (be (zY k) (vT x))))=x:=by
 obtain ⟨q,hq,hd,hl,hh⟩:=yhX h h1 h4 hx
 have hw:=yjo h1 h4
 have e:sgI (zY k) (nb (be (zY k) (vT x)))=q.num:=by
  rw [ylx]
  have hv:(vT x:Int)=q.num%18446744073709551616:=by
   unfold vT;rw [hq]
   show (((q.num%18446744073709551616).toNat:Nat):Int)=_
   omega
  refine ys3 (by omega) ?_ (by rw [← ym9];exact Nat.mod_lt _ (Nat.pow_pos (by omega))) hl hh
  rw [← ym9]
  obtain ⟨m,hm⟩:=ynV k
  refine ⟨q.num/18446744073709551616*m+(vT x:Int)/((256^zY k:Nat):Int),?_⟩
  have a1:=Int.emod_add_mul_ediv q.num 18446744073709551616
  have a2:=Int.emod_add_mul_ediv (vT x:Int) ((256^zY k:Nat):Int)
  have hm2:(18446744073709551616:Int)=((256^zY k:Nat):Int)*(m:Int):=by
   rw [← Int.natCast_mul,← hm];rfl
  rw [Int.natCast_emod]
  generalize ((256^zY k:Nat):Int)=A at *
  rw [← hv,hm2] at a1
  rw [Int.mul_add]
  have e1:A*(q.num/18446744073709551616*(m:Int))=A*(m:Int)*(q.num/(A*(m:Int))):=by
   rw [hm2,Int.mul_comm (q.num/(A*(m:Int))) (m:Int),Int.mul_assoc]
  rw [e1]
  omega
 rw [e]
 have hwr:=yer hq
 rw [if_pos hd,List.append_nil] at hwr
 rw [hwr]
 unfold Lib.itoa
 by_cases hn:q.num<0
 ·rw [if_pos hn,decide_eq_true hn];rfl
 ·rw [if_neg hn,decide_eq_false hn,show q.num.toNat=q.num.natAbs by omega];rfl
theorem yhT (xs:List Lb) (P:Nat):∀ m,m≤8*P→∀ i,i<8*P→((GF xs P m).getD (i/8) 0).toNat.testBit (i%8)=decide (i<m∧xs.getD i []≠[])
 | 0,_,i,hi=>by
  rw [GF,List.getD_eq_getElem?_getD,List.getElem?_replicate,if_pos (by omega)]
  simp
 | m+1,hm,i,hi=>by
  have ih:=yhT xs P m (by omega) i hi
  rw [GF]
  by_cases he:xs.getD m []=[]
  ·rw [if_pos he,ih]
   congr 1
   refine propext ⟨fun h=>⟨by omega,h.2⟩,fun h=>⟨?_,h.2⟩⟩
   rcases Nat.lt_or_ge i m with h2|h2
   ·exact h2
   ·have:i=m:=by omega
    subst this;exact absurd he h.2
  ·rw [if_neg he]
   have hl:=jW xs P m
   by_cases hj:i/8=m/8
   ·rw [hj,List.getD_eq_getElem?_getD,List.getElem?_set_self (by rw [hl];omega),Option.getD_some,yes _ (Nat.mod_lt _ (by omega)),Nat.testBit_or,← hj,ih,Nat.testBit_two_pow]
    by_cases him:i=m
    ·subst him
     rw [decide_eq_true rfl,Bool.or_true]
     exact (decide_eq_true ⟨Nat.lt_succ_self _,he⟩).symm
    ·have h1:¬ m%8=i%8:=by omega
     rw [decide_eq_false h1,Bool.or_false]
     congr 1
     refine propext ⟨fun h=>⟨by omega,h.2⟩,fun h=>⟨by omega,h.2⟩⟩
   ·rw [List.getD_eq_getElem?_getD,List.getElem?_set_ne (fun e=>hj e.symm),← List.getD_eq_getElem?_getD,ih]
    congr 1
    refine propext ⟨fun h=>⟨by omega,h.2⟩,fun h=>⟨by
     rcases Nat.lt_or_ge i m with h2|h2
     ·exact h2
     ·have:i=m:=by omega
      subst this;exact absurd rfl hj,h.2⟩⟩
theorem yhU (c:UInt8) (r:Nat):bits .and .u8 ((c.toNat:Int)/2^r) 1=(if c.toNat.testBit r then 1 else 0):=by
 have h1:c.toNat<256:=c.toNat_lt
 have e:(c.toNat:Int)/2^r=((c.toNat/2^r:Nat):Int):=by
  rw [show (2:Int)^r=((2^r:Nat):Int) by simp];rfl
 have h2:c.toNat/2^r<256:=Nat.lt_of_le_of_lt (Nat.div_le_self _ _) h1
 rw [e]
 have h3:=u8_and_nat (c.toNat/2^r) 1 h2 (by omega)
 rw [show ((1:Nat):Int)=1 from rfl] at h3
 rw [h3,Nat.testBit_eq_decide_div_mod_eq,Nat.and_one_is_mod]
 have h4:=Nat.mod_two_eq_zero_or_one (c.toNat/2^r)
 rcases h4 with h4|h4<;>rw [h4]<;>rfl
def left (k:Int) (xs:List Lb) (i:Nat):Lb:=(xs.drop i).flatMap (jD k)
theorem yna {k:Int} {xs:List Lb} {i:Nat} (h:i<xs.length):left k xs i=jD k (xs.getD i [])++left k xs (i+1):=by
 unfold left
 rw [List.drop_eq_getElem_cons h,List.flatMap_cons,List.getD_eq_getElem?_getD,List.getElem?_eq_getElem h];rfl
theorem ydY (k:Int) (xs:List Lb):vI k xs=GF xs ((xs.length+7)/8) xs.length++left k xs 0:=by
 unfold vI ybm els left
 rw [List.take_length,List.drop_zero]
theorem yjq {k:Int} {xs:List Lb} (hf:∀ x ∈ xs,zZ k x=true) (i:Nat):(left k xs i).length≤83*xs.length:=by
 unfold left
 have key:∀ l:List Lb,(∀ x ∈ l,zZ k x=true)→(l.flatMap (jD k)).length≤83*l.length:=fun l=>by
  induction l with
  | nil=>intro _;simp
  | cons a r ih =>
   intro h
   have h1:=ih (fun x hx=>h x (List.mem_cons_of_mem _ hx))
   have h2:=yet (h a (List.mem_cons_self ..))
   rw [List.flatMap_cons,List.length_append,List.length_cons]
   omega
 have:=key (xs.drop i) (fun x hx=>hf x (List.mem_of_mem_drop hx))
 rw [List.length_drop] at this
 omega
theorem ynW {x R:Lb} (hx:x≠[]) (hl:x.length≤82):((jD 5 x++R).drop 1).take (nb ((jD 5 x++R).take 1))=x∧((jD 5 x++R).drop 1).drop (nb ((jD 5 x++R).take 1))=R:=by
 unfold jD
 rw [if_pos rfl,if_neg hx,List.cons_append]
 have e:nb ((UInt8.ofNat x.length::(x++R)).take 1)=x.length:=by
  show 0*256+(UInt8.ofNat x.length).toNat=_
  rw [UInt8.toNat_ofNat'];omega
 rw [e]
 exact ⟨List.take_left,List.drop_left⟩
theorem yjr {k:Int} {x R:Lb} (h5:k≠5):(jD k x++R).take (zY k)=be (zY k) (vT x)∧(jD k x++R).drop (zY k)=R:=by
 unfold jD
 rw [if_neg h5]
 have e:=zD (vT x) (zY k)
 constructor
 ·exact List.take_left' e
 ·exact List.drop_left' e
theorem ybf {w X W:World} {E:Nat} (h:X.grownBy W (some E)) (hb:Below E w X) (hE:E≤X.heap.size):Below E w W :=
 ⟨h.os.trans hb.os,h.tape.trans hb.tape,h.output.trans hb.output,Nat.le_trans hb.size h.size,fun k hk=>(h.block k (by omega) (by intro e;injection e with e;omega)).trans (hb.block k hk)⟩
theorem ygE {W W':World} {p:Oa} {l:Lb} {E:Nat} (h:Bs W p l) (hb:Below E W W') (hne:∀ b off,p=some ⟨b,off,none⟩→0<l.length→b<E):Bs W' p l:=by
 rcases h with h0|⟨b,off,hp,hlt,hc⟩
 ·exact .inl h0
 ·refine .inr ⟨b,off,hp,Nat.lt_of_lt_of_le hlt hb.size,fun j hj=>?_⟩
  have h1:=hb.block b (hne b off hp (by omega))
  have h2:=hc j hj
  simp only [World.cell?] at h2 ⊢
  rw [h1];exact h2
theorem yda {w W:World} {E V i:Nat} {v:Value} (h:Below E w W) (hV:E≤V):Below E w (W.setCell ⟨V,i,none⟩ v):=h.setCell (p:=⟨V,i,none⟩) hV v
structure RdI (W2:World) (E V n:Nat) (k:Int) (xs:List Lb) (i:Nat) (W:World):Prop where
 below:Below E W2 W
 rdr:Rdr W E (left k xs i)
 vals:ybn W V n i xs
theorem RdI.store {W2 W w5:World} {E V n i:Nat} {k:Int} {xs:List Lb} (h:RdI W2 E V n k xs i W) (hi:i<n) (hE:E<V) (hr:Rdr w5 E (left k xs (i+1))) (hg:W.grownBy w5 (some E)) (hE2:E≤W.heap.size):RdI W2 E V n k xs (i+1) (w5.setCell ⟨V,i,none⟩ (.string ⟨(xs.getD i []).toArray⟩)):=by
 have hv:ybn w5 V n i xs:=h.vals.keep (by
  obtain ⟨cs,h1,-⟩:=h.vals
  exact hg.block V (Array.getElem?_eq_some_iff.1 h1).1 (by intro e;injection e with e;omega))
 refine ⟨yda (ybf hg h.below hE2) (by omega),?_,hv.put hi⟩
 obtain ⟨p,c,h1,h2,h3,h4⟩:=hr
 refine ⟨p,c,(Below.heap_setCell _ _ _ _ (by show E≠V;omega)).trans h1,ygE h2 (yda bR (by omega)) h4,h3,h4⟩
theorem RdI.skip {W2 W w5:World} {E V n i:Nat} {k:Int} {xs:List Lb} (h:RdI W2 E V n k xs i W) (hE:E<V) (he:xs.getD i []=[]) (hr:Rdr w5 E (left k xs (i+1))) (hg:W.grownBy w5 (some E)) (hE2:E≤W.heap.size):RdI W2 E V n k xs (i+1) w5:=by
 have hv:ybn w5 V n i xs:=h.vals.keep (by
  obtain ⟨cs,h1,-⟩:=h.vals
  exact hg.block V (Array.getElem?_eq_some_iff.1 h1).1 (by intro e;injection e with e;omega))
 exact ⟨ybf hg h.below hE2,hr,hv.skip he⟩
theorem yih (k:Int) (p:Oa) (c n m:Nat) (xs:List Lb) (w:World) (hx:Hid (xs.length=n)) (hn:n≤4096) (hm:Hid ((vI k xs).length=m)) (hmc:m≤c) (hb:Bs w p (vI k xs)) (HZ:Hid (vN k xs=0)) (he:Env w) :
  Calls Tryz.prog 113 #[.int .i64 k,.int .i64 (n:Int),.slice p m c] w fun e w'=>Be w w'∧∃ q,e=.returned (.slice q n n)∧Ss w' q xs:=by
 have HB:=h_ hb
 have HE:=h_ he
 clear hb he
 have hk:isT k=true∧xs.all (zZ k)=true:=by
  have h:=HZ.out
  unfold vN at h
  by_cases h1:isT k=false
  ·rw [if_pos h1] at h;cases h
  ·rw [if_neg h1] at h
   by_cases h2:xs.all (zZ k)=false
   ·rw [if_pos h2] at h;cases h
   ·exact ⟨by simpa using h1,by simpa using h2⟩
 have HK1:Hid (1≤k∧k≤5):=h_ (by
  have h:=hk.1
  unfold isT at h
  rw [Bool.and_eq_true,decide_eq_true_eq,decide_eq_true_eq] at h
  exact h)
 have HFA:Hid (∀ x ∈ xs,zZ k x=true):=h_ (List.all_eq_true.1 hk.2)
 obtain ⟨P,GO⟩:=ez ((n+7)/8)
 have hP:P≤512:=by have:=GO.out;omega
 have hPi:((n:Int)+7)/8=(P:Int):=by have:=GO.out;omega
 have hni:(n:Int)≤4096:=by omega
 have HPR:=h_ (fun W=>uM n hni W)
 rw [hPi] at HPR
 have yhM:Hid (vI k xs=GF xs P n++left k xs 0):=h_ (by rw [ydY,hx.out,GO.out])
 have HTK:Hid ((vI k xs).take P=GF xs P n∧(vI k xs).drop P=left k xs 0):=h_ (by
  rw [yhM.out]
  have e:=jW xs P n
  exact ⟨List.take_left' e,List.drop_left' e⟩)
 have yuv:Hid ((vI k xs).length≤1000000000):=h_ (by
  rw [yhM.out,List.length_append,jW]
  have:=yjq HFA.out 0
  have:=hx.out
  omega)
 obtain ⟨E,HEE⟩:=ey (w.heap.size)
 obtain ⟨W1,vA⟩:=ez (w.alloc (.cells #[.slice p m c] 168))
 have yY:Hid (Below E w W1):=h_ (by rw [← vA.out];exact bR.alloc (by rw [HEE.out];exact Nat.le_refl _) _)
 have HR1:Hid (Rdr W1 E (vI k xs)):=h_ (by
  refine ⟨p,c,?_,?_,by rw [hm.out];exact hmc,fun b off e h0=>?_⟩
  ·rw [hm.out,← vA.out,HEE.out];exact heap_alloc_new _ _
  ·refine ygE HB.out yY.out (fun b off e h0=>?_)
   rcases HB.out with h|⟨b',off',hp,hlt,-⟩
   ·omega
   ·rw [hp] at e;cases e;rw [HEE.out];exact hlt
  ·rcases HB.out with h|⟨b',off',hp,hlt,-⟩
   ·omega
   ·rw [hp] at e;cases e;rw [HEE.out];exact hlt)
 have ypW:=h_ (ycM E P (vI k xs) W1 (by omega) yuv.out HR1.out)
 have hee:w.heap.size=E:=HEE.out.symm
 have ypX:Hid (∀ W,Below E w W→Env W):=h_ (fun W hW=>HE.out.below (by rwa [HEE.out] at hW))
 obtain ⟨Z,hZ,hmk⟩:=yhx n (by omega)
 have HZS:=h_ hZ
 clear hk hZ hPi
 go_in
 go_wp2_with fail
 rw [vA.out]
 refine (HPR.out _).mono ?_
 rintro e w' ⟨rfl,rfl⟩
 go_wp2_with fail
 refine (ypW.out).mono ?_
 rintro e W2 ⟨pp,cc,rfl,hpb,hpc,hpr,hpg,hpe⟩
 rw [HTK.out.1] at hpb hpc hpe ⊢
 rw [HTK.out.2] at hpr
 rw [jW] at hpc ⊢
 have HPB:=h_ hpb
 have HPE:=h_ hpe
 have HPL:Hid ((GF xs P n).length=P):=h_ (jW _ _ _)
 have HE1:Hid (E<W1.heap.size):=h_ (by rw [← vA.out,HEE.out];simp)
 have HBE:Hid (Below E w W2):=h_ (ybf hpg yY.out (Nat.le_of_lt HE1.out))
 have ypg:Hid (E<W2.heap.size):=h_ (Nat.lt_of_lt_of_le HE1.out hpg.size)
 have HE2:Hid (E≤W2.heap.size):=h_ (Nat.le_of_lt ypg.out)
 have yuw:Hid (∀ W,Below E W2 W→Env W):=h_ (fun W hW=>ypX.out W (HBE.out.trans hW))
 obtain ⟨V,HVV⟩:=ez (W2.heap.size)
 have HEV:Hid (E<V):=h_ (by rw [← HVV.out];exact ypg.out)
 obtain ⟨W3,HW3⟩:=ez (W2.alloc (.cells Z 9))
 have HI0:Hid (RdI W2 E V n k xs 0 W3):=h_ (by
  have hb3:Be W2 W3:=by rw [← HW3.out];exact bR.alloc nl _
  refine ⟨hb3.mono HE2.out,yej hpr hb3,Z,?_,HZS.out.1,fun j hj=>?_⟩
  ·rw [← HW3.out,← HVV.out];exact heap_alloc_new _ _
  ·rw [if_neg (by omega)];exact HZS.out.2 j hj)
 clear hpb hpc hpr hpg hpe
 go_wp2_with fail
 rw [HW3.out,HVV.out]
 clear hmk hee
 go_loopw [22] (fun iv wr=>∃ i:Nat,i≤n∧iv=.int .i64 i∧Hid (RdI W2 E V n k xs i wr)) (fun iv _=>n-(intOf iv).toNat)
 case atStart=>exact ⟨0,Nat.zero_le _,rfl,HI0⟩
 case round =>
  obtain ⟨i,hi9,rfl,HK⟩:=hrel
  have ii:(i:Int)≤(n:Int):=by omega
  by_cases hlt:i<n
  ·have ilt:(i:Int)<(n:Int):=by omega
   have hil:i<xs.length:=by rw [hx.out];exact hlt
   have HF:Hid (zZ k (xs.getD i [])=true):=h_ (HFA.out _ (by rw [gD hil];exact List.getElem_mem _))
   obtain ⟨x,HXX⟩:=ez (xs.getD i [])
   rw [HXX.out] at HF
   obtain ⟨j,HJ⟩:=ez (i/8)
   obtain ⟨r,HR⟩:=ez (i%8)
   have hjP:j<P:=by have:=HJ.out;have:=GO.out;omega
   have hr8:r<8:=by have:=HR.out;omega
   obtain ⟨b1,o1,d,e1,hb1,hc1,hd,hd255⟩:=(ygE HPB.out HK.out.below HPE.out).at (k:=j) (by rw [HPL.out];exact hjP)
   subst e1
   obtain ⟨bt,HBT⟩:=ez (decide (x≠[]))
   have ybJ:bits .and .u8 ((d:Int)/2^r) 1=(if bt then 1 else 0):=by
    have h:=yhU ((GF xs P n).getD j 0) r
    have h2:=yhT xs P n (by have:=GO.out;omega) i (by have:=GO.out;omega)
    rw [HJ.out,HR.out,HXX.out] at h2
    rw [hd.out] at h h2
    rw [h,h2,← HBT.out]
    by_cases hxe:x=[]
    ·rw [decide_eq_false (fun h=>h.2 hxe),decide_eq_false (fun h=>h hxe)]
    ·rw [decide_eq_true ⟨hlt,hxe⟩,decide_eq_true hxe]
   have hdi:(i:Int)/8=(j:Int):=by have:=HJ.out;omega
   have hmi:(i:Int)%8=(r:Int):=by have:=HR.out;omega
   have ijP:(j:Int)<(P:Int):=by omega
   have ij5:(j:Int)≤512:=by omega
   have HES:Hid (E≤wr.heap.size):=h_ (Nat.le_trans HE2.out HK.out.below.size)
   have GL:Hid (left k xs i=jD k x++left k xs (i+1)):=h_ (by rw [yna hil,HXX.out])
   have HTB:Hid (∀ W,wr.grownBy W (some E)→Tab W):=h_ (fun W hW=>(yuw.out W (ybf hW HK.out.below HES.out)).tab)
   have HLN:Hid ((left k xs i).length≤1000000000):=h_ (by have:=yjq HFA.out i;have:=hx.out;omega)
   clear hb1 hd hil
   by_cases h5:k=5
   ·have g5:(k != 5)=false:=by rw [h5];rfl
    have H5:=h_ h5
    clear h5
    cases bt with
    | true =>
     have hxe:x≠[]:=by have:=HBT.out;simpa using this
     have HTX:=h_ (ym8 E (left k xs i) wr HLN.out HK.out.rdr)
     have ylD:=ynW (x:=x) (R:=left k xs (i+1)) hxe (ycc HF.out)
     rw [← H5.out,← GL.out] at ylD
     rw [ylD.1,ylD.2] at HTX
     rw [if_pos rfl] at ybJ
     clear ylD hxe
     go_wp2_with fail
     refine (HTX.out).mono ?_
     rintro e w5 ⟨rfl,hr5,hg5⟩
     have HST:Hid (RdI W2 E V n k xs (i+1) (w5.setCell ⟨V,i,none⟩ (.string ⟨x.toArray⟩))):=h_ (by
      have:=HK.out.store hlt HEV.out hr5 hg5 HES.out
      rwa [HXX.out] at this)
     have hv5:ybn w5 V n i xs:=HK.out.vals.keep (by
      obtain ⟨cs,h1,-⟩:=HK.out.vals
      exact hg5.block V (Array.getElem?_eq_some_iff.1 h1).1 (by intro e;injection e with e;have:=HEV.out;omega))
     obtain ⟨gc,gf⟩:=hv5.old hlt
     obtain ⟨W6,HW6⟩:=ez (w5.setCell ⟨V,i,none⟩ (.string ⟨x.toArray⟩))
     rw [HW6.out] at HST
     clear hv5 hr5 hg5
     go_wp2_with fail
     rw [HW6.out]
     go_roundw
     case rel=>exact ⟨i+1,by omega,by go_num,HST⟩
     case measure=>simp [intOf];omega
    | false =>
     have hxe:x=[]:=by have:=HBT.out;simpa using this
     rw [if_neg (by simp)] at ybJ
     have HK2:Hid (RdI W2 E V n k xs (i+1) wr):=h_ (HK.out.skip HEV.out (by rw [HXX.out];exact hxe) (by
      have h:=HK.out.rdr
      have e0:jD k x=[]:=by unfold jD;rw [if_pos H5.out,if_pos hxe]
      rw [GL.out,e0] at h
      exact h) ⟨rfl,rfl,rfl,Nat.le_refl _,fun _ _ _=>rfl⟩ HES.out)
     clear hxe
     go_wp2
     go_roundw
     case rel=>exact ⟨i+1,by omega,by go_num,HK2⟩
     case measure=>simp [intOf];omega
   ·have g5:(k != 5)=true:=by rw [bne_iff_ne];exact h5
    have H5:=h_ h5
    clear h5
    have hkk:1≤k∧k≤4:=by have:=HK1.out;have:=H5.out;omega
    have hw:zY k=1∨zY k=2∨zY k=4∨zY k=8:=by
     have h:k=1∨k=2∨k=3∨k=4:=by omega
     rcases h with h|h|h|h
     ·rw [h];exact .inl rfl
     ·rw [h];exact .inr (.inl rfl)
     ·rw [h];exact .inr (.inr (.inl rfl))
     ·rw [h];exact .inr (.inr (.inr rfl))
    have HIN:=h_ (yfX E (zY k) (left k xs i) wr hw HLN.out HK.out.rdr HTB.out)
    have ylE:=yjr (x:=x) (R:=left k xs (i+1)) H5.out
    rw [← GL.out] at ylE
    rw [ylE.1,ylE.2] at HIN
    clear hw ylE
    cases bt with
    | true =>
     have hxe:x≠[]:=by have:=HBT.out;simpa using this
     rw [yjp HF.out hkk.1 hkk.2 hxe] at HIN
     rw [if_pos rfl] at ybJ
     clear hxe hkk
     go_wp2_with fail
     refine (yau k _).mono ?_
     rintro e w' ⟨rfl,rfl⟩
     go_wp2_with fail
     refine (HIN.out).mono ?_
     rintro e w5 ⟨rfl,hr5,hg5⟩
     have HST:Hid (RdI W2 E V n k xs (i+1) (w5.setCell ⟨V,i,none⟩ (.string ⟨x.toArray⟩))):=h_ (by
      have:=HK.out.store hlt HEV.out hr5 hg5 HES.out
      rwa [HXX.out] at this)
     have hv5:ybn w5 V n i xs:=HK.out.vals.keep (by
      obtain ⟨cs,h1,-⟩:=HK.out.vals
      exact hg5.block V (Array.getElem?_eq_some_iff.1 h1).1 (by intro e;injection e with e;have:=HEV.out;omega))
     obtain ⟨gc,gf⟩:=hv5.old hlt
     obtain ⟨W6,HW6⟩:=ez (w5.setCell ⟨V,i,none⟩ (.string ⟨x.toArray⟩))
     rw [HW6.out] at HST
     clear hv5 hr5 hg5
     go_wp2_with fail
     rw [HW6.out]
     go_roundw
     case rel=>exact ⟨i+1,by omega,by go_num,HST⟩
     case measure=>simp [intOf];omega
    | false =>
     have hxe:x=[]:=by have:=HBT.out;simpa using this
     rw [if_neg (by simp)] at ybJ
     obtain ⟨T,HT⟩:=ez (Lib.itoa (sgI (zY k) (nb (be (zY k) (vT x)))))
     rw [HT.out] at HIN
     have HXE:=h_ hxe
     clear hxe hkk
     go_wp2_with fail
     refine (yau k _).mono ?_
     rintro e w' ⟨rfl,rfl⟩
     go_wp2_with fail
     refine (HIN.out).mono ?_
     rintro e w5 ⟨rfl,hr5,hg5⟩
     have HK2:Hid (RdI W2 E V n k xs (i+1) w5):=h_ (HK.out.skip HEV.out (by rw [HXX.out];exact HXE.out) hr5 hg5 HES.out)
     clear hr5 hg5
     go_wp2
     go_roundw
     case rel=>exact ⟨i+1,by omega,by go_num,HK2⟩
     case measure=>simp [intOf];omega
  ·obtain rfl:i=n:=by omega
   have ilt:¬ (i:Int)<(i:Int):=by omega
   have yaq:Hid (Be w wr∧∃ q,(.returned (.slice (some ⟨V,0,none⟩) i i):Ending)=.returned (.slice q i i)∧Ss wr q xs):=h_ ⟨by
    have h:=HBE.out.trans HK.out.below
    rwa [HEE.out] at h,_,rfl,HK.out.vals.reads hx.out⟩
   go_wp2
   go_ret
   exact yaq.out
theorem ys4 (k:Int) (p:Oa) (c n m:Nat) (xs:List Lb) (w:World) (hx:Hid (xs.length=n)) (hn:n≤4096) (hm:Hid ((vI k xs).length=m)) (hmc:m≤c) (hb:Bs w p (vI k xs)) (HZ:Hid (vN k xs=0)) (he:Env w) :
  Calls Tryz.prog 62 #[.int .i64 k,.int .i64 (n:Int),.slice p m c] w fun e w'=>∃ q,e=.returned (.tuple #[.slice q n n,.int .i64 0])∧Ss w' q xs∧Be w w':=by
 have HB:=h_ hb
 have HE:=h_ he
 have HRV:=h_ (yih k p c n m xs w hx hn hm hmc hb HZ he)
 clear hb he
 have hkT:isT k=true:=by
  have h:=HZ.out
  unfold vN at h
  by_cases h1:isT k=false
  ·rw [if_pos h1] at h;cases h
  ·simpa using h1
 have HT:=h_ (fun W=>ybj k W)
 rw [hkT] at HT
 have hni:(n:Int)≤4096:=by omega
 obtain ⟨P,GO⟩:=ez ((n+7)/8)
 have hPi:((n:Int)+7)/8=(P:Int):=by have:=GO.out;omega
 have HPR:=h_ (fun W=>uM n hni W)
 rw [hPi] at HPR
 have hPm:P≤m:=by
  rw [← hm.out,ydY,List.length_append,jW,hx.out,GO.out];omega
 have hlt:¬ (m:Int)<(P:Int):=by omega
 clear hkT hPi hPm
 go_in
 go_wp2_with fail
 refine (HT.out _).mono ?_
 rintro e w' ⟨rfl,rfl⟩
 go_wp2_with fail
 refine (GB n hni _).mono ?_
 rintro e w' ⟨rfl,rfl⟩
 go_wp2_with fail
 refine (HPR.out _).mono ?_
 rintro e w' ⟨rfl,rfl⟩
 go_wp2_with fail
 refine (HRV.out).mono ?_
 rintro e w1 ⟨hb1,q,rfl,hq⟩
 have yY:=h_ hb1
 have HQ:=h_ hq
 have yhM:=h_ (yj5 k q n n xs w1 hx hn hq (HE.out.below hb1) HZ)
 clear hb1 hq
 go_wp2_with fail
 refine (yhM.out).mono ?_
 rintro e w2 ⟨v2,rfl,hpg⟩
 obtain ⟨p2,c2,rfl,hbs,-⟩:=zA hpg.own
 have ysk:=h_ hpg.below
 have HEQ:=h_ (ycC p2 p c2 c m (vI k xs) w2 hm hbs ((HB.out.below yY.out).below hpg.below))
 rw [hm.out]
 clear hpg hbs
 go_wp2_with fail
 refine (HEQ.out).mono ?_
 rintro e w' ⟨rfl,rfl⟩
 have yaq:Hid (Ss w2 q xs∧Be w w2):=h_ ⟨HQ.out.below ysk.out,tr yY.out ysk.out⟩
 go_wp2
 go_ret2
 exact ⟨q,rfl,yaq.out.1,yaq.out.2⟩
def ycs (W:World) (V n:Nat):Prop:=∃ cs:Array Value,W.heap[V]?=some (.cells cs 9 (0,0))∧cs.size=n∧∀ j,j<n→∃ x:Lb,cs[j]?=some (.string ⟨x.toArray⟩)
theorem ycs.put {W:World} {V n i:Nat} (h:ycs W V n) (x:Lb):ycs (W.setCell ⟨V,i,none⟩ (.string ⟨x.toArray⟩)) V n:=by
 obtain ⟨cs,h1,h2,h3⟩:=h
 refine ⟨_,yfO W V i _ _ _ h1,by simp [h2],fun j hj=>?_⟩
 rw [Array.getElem?_setIfInBounds]
 by_cases e:i=j
 ·subst e
  rw [if_pos rfl,if_pos (by rw [h2];exact hj)]
  exact ⟨x,rfl⟩
 ·rw [if_neg e];exact h3 j hj
theorem ycs.keep {W W':World} {V n:Nat} (h:ycs W V n) (e:W'.heap[V]?=W.heap[V]?):ycs W' V n:=by
 obtain ⟨cs,h1,h2⟩:=h
 exact ⟨cs,e.trans h1,h2⟩
theorem ycs.old {W:World} {V n i:Nat} (h:ycs W V n) (hi:i<n):∃ x:Lb,W.cell? ⟨V,i,none⟩=some (.string ⟨x.toArray⟩)∧W.frozen? ⟨V,i,none⟩=false:=by
 obtain ⟨cs,h1,h2,h3⟩:=h
 obtain ⟨x,hx⟩:=h3 i hi
 exact ⟨x,by simp [World.cell?,h1,hx],by simp [World.frozen?,h1]⟩
theorem ycs.reads {W:World} {V n:Nat} (h:ycs W V n):∃ xs:List Lb,xs.length=n∧Ss W (some ⟨V,0,none⟩) xs:=by
 obtain ⟨cs,h1,h2,h3⟩:=h
 have hex:∀ j,∃ x:Lb,j<n→cs[j]?=some (.string ⟨x.toArray⟩):=fun j=>by
  by_cases hj:j<n
  ·obtain ⟨x,hx⟩:=h3 j hj
   exact ⟨x,fun _=>hx⟩
  ·exact ⟨[],fun h=>absurd h hj⟩
 obtain ⟨f,hf⟩:=Classical.axiomOfChoice hex
 refine ⟨(List.range n).map f,by simp,.inr ⟨V,0,rfl,(Array.getElem?_eq_some_iff.1 h1).1,fun j hj=>?_⟩⟩
 have hj2:j<n:=by simpa using hj
 have e:((List.range n).map f).getD j []=f j:=by
  rw [List.getD_eq_getElem?_getD,List.getElem?_map,List.getElem?_range hj2];rfl
 rw [Nat.zero_add,e]
 simp [World.cell?,h1,hf j hj2]
structure RdW (W2:World) (E V n:Nat) (W:World):Prop where
 below:Below E W2 W
 rdr:∃ l,l.length≤1000000000∧Rdr W E l
 vals:ycs W V n
theorem RdW.go {W2 W w5:World} {E V n:Nat} (h:RdW W2 E V n W) (hE:E<V) {l:Lb} (hl:l.length≤1000000000) (hr:Rdr w5 E l) (hg:W.grownBy w5 (some E)) (hE2:E≤W.heap.size):RdW W2 E V n w5 :=
 ⟨ybf hg h.below hE2,⟨l,hl,hr⟩,h.vals.keep (by
  obtain ⟨cs,h1,-⟩:=h.vals
  exact hg.block V (Array.getElem?_eq_some_iff.1 h1).1 (by intro e;injection e with e;omega))⟩
theorem RdW.put {W2 W:World} {E V n i:Nat} (h:RdW W2 E V n W) (hE:E<V) (x:Lb):RdW W2 E V n (W.setCell ⟨V,i,none⟩ (.string ⟨x.toArray⟩)):=by
 obtain ⟨l,hl,p,c,h1,h2,h3,h4⟩:=h.rdr
 exact ⟨yda h.below (by omega),⟨l,hl,p,c,(Below.heap_setCell _ _ _ _ (by show E≠V;omega)).trans h1,ygE h2 (yda bR (by omega)) h4,h3,h4⟩,h.vals.put x⟩
theorem yii (k:Int) (p:Oa) (c n m:Nat) (lb:Lb) (w:World) (HK1:Hid (1≤k∧k≤5)) (hn:n≤4096) (hm:Hid (lb.length=m)) (hmc:m≤c) (hb:Bs w p lb) (hml:m≤1048576) (hnm:(n+7)/8≤m) (he:Env w) :
  Calls Tryz.prog 113 #[.int .i64 k,.int .i64 (n:Int),.slice p m c] w fun e w'=>Be w w'∧∃ q,e=.returned (.slice q n n)∧∃ xs,xs.length=n∧Ss w' q xs:=by
 have HB:=h_ hb
 have HE:=h_ he
 clear hb he
 obtain ⟨P,GO⟩:=ez ((n+7)/8)
 have hP:P≤512:=by have:=GO.out;omega
 have hPi:((n:Int)+7)/8=(P:Int):=by have:=GO.out;omega
 have hni:(n:Int)≤4096:=by omega
 have HPR:=h_ (fun W=>uM n hni W)
 rw [hPi] at HPR
 have hPm:P≤m:=by rw [← GO.out];exact hnm
 obtain ⟨PS,HPS⟩:=ez (lb.take P)
 obtain ⟨RS,HRS⟩:=ez (lb.drop P)
 have HPL0:Hid (PS.length=P):=h_ (by rw [← HPS.out,List.length_take,hm.out];omega)
 have HRSL:Hid (RS.length≤1000000000):=h_ (by rw [← HRS.out,List.length_drop,hm.out];omega)
 have yuv:Hid (lb.length≤1000000000):=h_ (by rw [hm.out];omega)
 obtain ⟨E,HEE⟩:=ey (w.heap.size)
 obtain ⟨W1,vA⟩:=ez (w.alloc (.cells #[.slice p m c] 168))
 have yY:Hid (Below E w W1):=h_ (by rw [← vA.out];exact bR.alloc (by rw [HEE.out];exact Nat.le_refl _) _)
 have HR1:Hid (Rdr W1 E lb):=h_ (by
  refine ⟨p,c,?_,?_,by rw [hm.out];exact hmc,fun b off e h0=>?_⟩
  ·rw [hm.out,← vA.out,HEE.out];exact heap_alloc_new _ _
  ·refine ygE HB.out yY.out (fun b off e h0=>?_)
   rcases HB.out with h|⟨b',off',hp,hlt,-⟩
   ·omega
   ·rw [hp] at e;cases e;rw [HEE.out];exact hlt
  ·rcases HB.out with h|⟨b',off',hp,hlt,-⟩
   ·omega
   ·rw [hp] at e;cases e;rw [HEE.out];exact hlt)
 have ypW:=h_ (ycM E P lb W1 (by omega) yuv.out HR1.out)
 have hee:w.heap.size=E:=HEE.out.symm
 have ypX:Hid (∀ W,Below E w W→Env W):=h_ (fun W hW=>HE.out.below (by rwa [HEE.out] at hW))
 obtain ⟨Z,hZ,hmk⟩:=yhx n (by omega)
 have HZS:=h_ hZ
 clear hZ hPi
 go_in
 go_wp2_with fail
 rw [vA.out]
 refine (HPR.out _).mono ?_
 rintro e w' ⟨rfl,rfl⟩
 go_wp2_with fail
 refine (ypW.out).mono ?_
 rintro e W2 ⟨pp,cc,rfl,hpb,hpc,hpr,hpg,hpe⟩
 rw [HPS.out] at hpb hpc hpe ⊢
 rw [HRS.out] at hpr
 rw [HPL0.out] at hpc ⊢
 have HPB:=h_ hpb
 have HPE:=h_ hpe
 have HPL:=HPL0
 have HE1:Hid (E<W1.heap.size):=h_ (by rw [← vA.out,HEE.out];simp)
 have HBE:Hid (Below E w W2):=h_ (ybf hpg yY.out (Nat.le_of_lt HE1.out))
 have ypg:Hid (E<W2.heap.size):=h_ (Nat.lt_of_lt_of_le HE1.out hpg.size)
 have HE2:Hid (E≤W2.heap.size):=h_ (Nat.le_of_lt ypg.out)
 have yuw:Hid (∀ W,Below E W2 W→Env W):=h_ (fun W hW=>ypX.out W (HBE.out.trans hW))
 obtain ⟨V,HVV⟩:=ez (W2.heap.size)
 have HEV:Hid (E<V):=h_ (by rw [← HVV.out];exact ypg.out)
 obtain ⟨W3,HW3⟩:=ez (W2.alloc (.cells Z 9))
 have HI0:Hid (RdW W2 E V n W3):=h_ (by
  have hb3:Be W2 W3:=by rw [← HW3.out];exact bR.alloc nl _
  refine ⟨hb3.mono HE2.out,⟨RS,HRSL.out,yej hpr hb3⟩,Z,?_,HZS.out.1,fun j hj=>⟨[],HZS.out.2 j hj⟩⟩
  rw [← HW3.out,← HVV.out];exact heap_alloc_new _ _)
 clear hpb hpc hpr hpg hpe
 go_wp2_with fail
 rw [HW3.out,HVV.out]
 clear hmk hee
 go_loopw [22] (fun iv wr=>∃ i:Nat,i≤n∧iv=.int .i64 i∧Hid (RdW W2 E V n wr)) (fun iv _=>n-(intOf iv).toNat)
 case atStart=>exact ⟨0,Nat.zero_le _,rfl,HI0⟩
 case round =>
  obtain ⟨i,hi9,rfl,HK⟩:=hrel
  have ii:(i:Int)≤(n:Int):=by omega
  by_cases hlt:i<n
  ·have ilt:(i:Int)<(n:Int):=by omega
   obtain ⟨j,HJ⟩:=ez (i/8)
   obtain ⟨r,HR⟩:=ez (i%8)
   have hjP:j<P:=by have:=HJ.out;have:=GO.out;omega
   obtain ⟨b1,o1,d,e1,hb1,hc1,hd,hd255⟩:=(ygE HPB.out HK.out.below HPE.out).at (k:=j) (by rw [HPL.out];exact hjP)
   subst e1
   obtain ⟨bt,HBT⟩:=ez ((PS.getD j 0).toNat.testBit r)
   have ybJ:bits .and .u8 ((d:Int)/2^r) 1=(if bt then 1 else 0):=by
    have h:=yhU (PS.getD j 0) r
    rw [HBT.out] at h
    rw [hd.out] at h
    exact h
   have hdi:(i:Int)/8=(j:Int):=by have:=HJ.out;omega
   have hmi:(i:Int)%8=(r:Int):=by have:=HR.out;omega
   have ijP:(j:Int)<(P:Int):=by omega
   have ij5:(j:Int)≤512:=by omega
   have HES:Hid (E≤wr.heap.size):=h_ (Nat.le_trans HE2.out HK.out.below.size)
   have HTB:Hid (∀ W,wr.grownBy W (some E)→Tab W):=h_ (fun W hW=>(yuw.out W (ybf hW HK.out.below HES.out)).tab)
   obtain ⟨l,hl,hrd⟩:=HK.out.rdr
   have HLN:=h_ hl
   have HRD:=h_ hrd
   clear hb1 hd hl hrd
   by_cases h5:k=5
   ·have g5:(k != 5)=false:=by rw [h5];rfl
    have H5:=h_ h5
    clear h5
    cases bt with
    | true =>
     have HTX:=h_ (ym8 E l wr HLN.out HRD.out)
     obtain ⟨T,HT⟩:=ez ((l.drop 1).take (nb (l.take 1)))
     rw [HT.out] at HTX
     rw [if_pos rfl] at ybJ
     go_wp2_with fail
     refine (HTX.out).mono ?_
     rintro e w5 ⟨rfl,hr5,hg5⟩
     have ypi:Hid (RdW W2 E V n w5):=h_ (HK.out.go HEV.out (by have h:=HLN.out;simp only [List.length_drop];omega) hr5 hg5 HES.out)
     obtain ⟨old,gc,gf⟩:=ypi.out.vals.old hlt
     obtain ⟨W6,HW6⟩:=ez (w5.setCell ⟨V,i,none⟩ (.string ⟨T.toArray⟩))
     have HST:Hid (RdW W2 E V n W6):=h_ (by rw [← HW6.out];exact ypi.out.put HEV.out T)
     clear hr5 hg5
     go_wp2_with fail
     rw [HW6.out]
     go_roundw
     case rel=>exact ⟨i+1,by omega,by go_num,HST⟩
     case measure=>simp [intOf];omega
    | false =>
     rw [if_neg (by simp)] at ybJ
     go_wp2
     go_roundw
     case rel=>exact ⟨i+1,by omega,by go_num,HK⟩
     case measure=>simp [intOf];omega
   ·have g5:(k != 5)=true:=by rw [bne_iff_ne];exact h5
    have H5:=h_ h5
    clear h5
    have hkk:1≤k∧k≤4:=by have:=HK1.out;have:=H5.out;omega
    have hw:zY k=1∨zY k=2∨zY k=4∨zY k=8:=by
     have h:k=1∨k=2∨k=3∨k=4:=by omega
     rcases h with h|h|h|h
     ·rw [h];exact .inl rfl
     ·rw [h];exact .inr (.inl rfl)
     ·rw [h];exact .inr (.inr (.inl rfl))
     ·rw [h];exact .inr (.inr (.inr rfl))
    have HIN:=h_ (yfX E (zY k) l wr hw HLN.out HRD.out HTB.out)
    obtain ⟨T,HT⟩:=ez (Lib.itoa (sgI (zY k) (nb (l.take (zY k)))))
    rw [HT.out] at HIN
    clear hw hkk
    cases bt with
    | true =>
     rw [if_pos rfl] at ybJ
     go_wp2_with fail
     refine (yau k _).mono ?_
     rintro e w' ⟨rfl,rfl⟩
     go_wp2_with fail
     refine (HIN.out).mono ?_
     rintro e w5 ⟨rfl,hr5,hg5⟩
     have ypi:Hid (RdW W2 E V n w5):=h_ (HK.out.go HEV.out (by have h:=HLN.out;simp only [List.length_drop];omega) hr5 hg5 HES.out)
     obtain ⟨old,gc,gf⟩:=ypi.out.vals.old hlt
     obtain ⟨W6,HW6⟩:=ez (w5.setCell ⟨V,i,none⟩ (.string ⟨T.toArray⟩))
     have HST:Hid (RdW W2 E V n W6):=h_ (by rw [← HW6.out];exact ypi.out.put HEV.out T)
     clear hr5 hg5
     go_wp2_with fail
     rw [HW6.out]
     go_roundw
     case rel=>exact ⟨i+1,by omega,by go_num,HST⟩
     case measure=>simp [intOf];omega
    | false =>
     rw [if_neg (by simp)] at ybJ
     go_wp2_with fail
     refine (yau k _).mono ?_
     rintro e w' ⟨rfl,rfl⟩
     go_wp2_with fail
     refine (HIN.out).mono ?_
     rintro e w5 ⟨rfl,hr5,hg5⟩
     have HK2:Hid (RdW W2 E V n w5):=h_ (HK.out.go HEV.out (by have h:=HLN.out;simp only [List.length_drop];omega) hr5 hg5 HES.out)
     clear hr5 hg5
     go_wp2
     go_roundw
     case rel=>exact ⟨i+1,by omega,by go_num,HK2⟩
     case measure=>simp [intOf];omega
  ·obtain rfl:i=n:=by omega
   have ilt:¬ (i:Int)<(i:Int):=by omega
   have yaq:Hid (Be w wr∧∃ q,(.returned (.slice (some ⟨V,0,none⟩) i i):Ending)=.returned (.slice q i i)∧∃ xs,xs.length=i∧Ss wr q xs):=h_ ⟨by
    have h:=HBE.out.trans HK.out.below
    rwa [HEE.out] at h,by
    obtain ⟨xs,hl,hs⟩:=HK.out.vals.reads
    exact ⟨_,rfl,xs,hl,hs⟩⟩
   go_wp2
   go_ret
   exact yaq.out
def isC (n:Int):Bool:=decide (0≤n)&&decide (n≤4096)
theorem yeL (n:Int) (w:World):Calls Tryz.prog 59 #[.int .i64 n] w (Qp (.bool (isC n)) w):=by
 obtain ⟨b,HB⟩:=ez (isC n)
 rw [HB.out]
 by_cases h0:0≤n
 ·by_cases h1:n≤4096
  ·obtain rfl:b=true:=by rw [← HB.out];unfold isC;rw [decide_eq_true h0,decide_eq_true h1];rfl
   go_in
   go_wp2
   go_ret
   exact ⟨rfl,rfl⟩
  ·obtain rfl:b=false:=by rw [← HB.out];unfold isC;rw [decide_eq_false h1,Bool.and_false]
   go_in
   go_wp2
   go_ret
   exact ⟨rfl,rfl⟩
 ·obtain rfl:b=false:=by rw [← HB.out];unfold isC;rw [decide_eq_false h0];rfl
  go_in
  go_wp2
  go_ret
  exact ⟨rfl,rfl⟩
theorem ygi (p q:Oa) (c d m m2:Nat) (l l2:Lb) (w:World) (hm:Hid (l.length=m)) (hm2:Hid (l2.length=m2)) (hne:l≠l2) (hp:Bs w p l) (hq:Bs w q l2) :
  Calls Tryz.prog 60 #[.slice p m c,.slice q m2 d] w fun r w'=>r=.returned (.bool false)∧w=w':=by
 have h1:=zP w p c l hp
 have h2:=zP w q d l2 hq
 have h3:=ypP hne
 obtain ⟨X,HX⟩:∃ X:ByteArray,Hid (⟨l.toArray⟩=X):=⟨_,rfl⟩
 obtain ⟨Y,HY⟩:∃ Y:ByteArray,Hid (⟨l2.toArray⟩=Y):=⟨_,rfl⟩
 rw [hm.out,HX.out] at h1
 rw [hm2.out,HY.out] at h2
 rw [HX.out,HY.out] at h3
 have h4:¬ X=Y:=h3
 have h5:(X.toList==Y.toList)=false:=by
  rw [Bool.eq_false_iff]
  intro e
  rw [beq_iff_eq] at e
  refine h4 ?_
  rw [← HX.out,← HY.out] at e ⊢
  simp at e
  rw [e]
 clear hp hq hne h3
 go_in
 go_wp2
 go_ret
 exact ⟨rfl,rfl⟩
theorem ykm (k:Int) (p:Oa) (c n m:Nat) (lb:Lb) (w:World) (HK1:Hid (1≤k∧k≤5)) (hn:n≤4096) (hm:Hid (lb.length=m)) (hmc:m≤c) (hb:Bs w p lb) (hml:m≤1048576) (hnm:(n+7)/8≤m) (he:Env w)
  (hno:Hid (∀ xs:List Lb,xs.length=n→vN k xs=0→vI k xs≠lb)) :
  Calls Tryz.prog 62 #[.int .i64 k,.int .i64 (n:Int),.slice p m c] w (Rp (.tuple #[.slice none 0 0,.int .i64 5]) w):=by
 have HB:=h_ hb
 have HE:=h_ he
 have HRV:=h_ (yii k p c n m lb w HK1 hn hm hmc hb hml hnm he)
 have hkT:isT k=true:=by unfold isT;rw [decide_eq_true HK1.out.1,decide_eq_true HK1.out.2];rfl
 have HT:=h_ (fun W=>ybj k W)
 rw [hkT] at HT
 have hni:(n:Int)≤4096:=by omega
 obtain ⟨P,GO⟩:=ez ((n+7)/8)
 have hPi:((n:Int)+7)/8=(P:Int):=by have:=GO.out;omega
 have HPR:=h_ (fun W=>uM n hni W)
 rw [hPi] at HPR
 have hlt:¬ (m:Int)<(P:Int):=by have:=GO.out;omega
 clear hb he hkT hPi hnm
 go_in
 go_wp2_with fail
 refine (HT.out _).mono ?_
 rintro e w' ⟨rfl,rfl⟩
 go_wp2_with fail
 refine (GB n hni _).mono ?_
 rintro e w' ⟨rfl,rfl⟩
 go_wp2_with fail
 refine (HPR.out _).mono ?_
 rintro e w' ⟨rfl,rfl⟩
 go_wp2_with fail
 refine (HRV.out).mono ?_
 rintro e w1 ⟨hb1,q,rfl,xs,hxl,hq⟩
 have yY:=h_ hb1
 have HXL:=h_ hxl
 obtain ⟨z,HZ⟩:=ez (vN k xs)
 by_cases hz:z=0
 ·subst hz
  have yhM:=h_ (yj5 k q n n xs w1 HXL hn hq (HE.out.below hb1) HZ)
  have HNE:=h_ (hno.out xs hxl HZ.out)
  clear hb1 hq hxl
  go_wp2_with fail
  refine (yhM.out).mono ?_
  rintro e w2 ⟨v2,rfl,hpg⟩
  obtain ⟨p2,c2,rfl,hbs,-⟩:=zA hpg.own
  obtain ⟨m2,HM2⟩:=ez ((vI k xs).length)
  have ysk:=h_ hpg.below
  have HEQ:=h_ (ygi p2 p c2 c m2 m (vI k xs) lb w2 HM2 hm HNE.out hbs ((HB.out.below yY.out).below hpg.below))
  rw [HM2.out]
  clear hpg hbs
  go_wp2_with fail
  refine (HEQ.out).mono ?_
  rintro e w' ⟨rfl,rfl⟩
  have yaq:Hid (Be w w2):=h_ (tr yY.out ysk.out)
  go_wp2
  go_ret2
  exact ⟨rfl,yaq.out⟩
 ·have yhM:=h_ (ytR k q n n xs w1 HXL hn hq (HE.out.below hb1) z HZ hz)
  have gz:(z != 0)=true:=by rw [bne_iff_ne];exact hz
  have HZN:=h_ hz
  clear hb1 hq hxl hz
  go_wp2_with fail
  refine (yhM.out).mono ?_
  rintro e w2 ⟨rfl,hb2⟩
  have yaq:Hid (Be w w2):=th yY hb2
  clear hb2
  go_wp2
  go_ret2
  exact ⟨rfl,yaq.out⟩
theorem ys5 (k:Int) (p:Oa) (c n m:Nat) (w:World) (hk:isT k=true) (hn:n≤4096) (hm:m<(n+7)/8) :
  Calls Tryz.prog 62 #[.int .i64 k,.int .i64 (n:Int),.slice p m c] w (Qp (.tuple #[.slice none 0 0,.int .i64 5]) w):=by
 have HT:=h_ (fun W=>ybj k W)
 rw [hk] at HT
 have hni:(n:Int)≤4096:=by omega
 obtain ⟨P,GO⟩:=ez ((n+7)/8)
 have hPi:((n:Int)+7)/8=(P:Int):=by have:=GO.out;omega
 have HPR:=h_ (fun W=>uM n hni W)
 rw [hPi] at HPR
 have hlt:(m:Int)<(P:Int):=by have:=GO.out;omega
 clear hPi hm hk
 go_in
 go_wp2_with fail
 refine (HT.out _).mono ?_
 rintro e w' ⟨rfl,rfl⟩
 go_wp2_with fail
 refine (GB n hni _).mono ?_
 rintro e w' ⟨rfl,rfl⟩
 go_wp2_with fail
 refine (HPR.out _).mono ?_
 rintro e w' ⟨rfl,rfl⟩
 go_wp2
 go_ret2
 exact ⟨rfl,rfl⟩
def dvS (l:Lb) (a:Nat):Nat:=match l with
 | []=>a
 | c::r=>dvS r (if c=45 then a else 10*a+(c.toNat-48))
theorem yp5:∀ (l:Lb) (a:Nat),a≤dvS l a
 | [],a=>Nat.le_refl a
 | c::r,a=>by
  rw [dvS]
  refine Nat.le_trans ?_ (yp5 r _)
  split<;>omega
theorem ydR:∀ (l m:Lb) (a:Nat),dvS (l++m) a=dvS m (dvS l a)
 | [],_,_=>rfl
 | c::r,m,a=>by rw [List.cons_append,dvS,dvS,ydR r m]
theorem yqJ {l:Lb} {i:Nat} (h:i<l.length):dvS (l.take (i+1)) 0=(if l.getD i 0=45 then dvS (l.take i) 0 else 10*dvS (l.take i) 0+((l.getD i 0).toNat-48)):=by
 rw [yc9 h,ydR];rfl
theorem yu5 (l:Lb) (i:Nat):dvS (l.take i) 0≤dvS l 0:=by
 have h:=ydR (l.take i) (l.drop i) 0
 rw [List.take_append_drop] at h
 rw [h];exact yp5 _ _
theorem ys6 (u:Nat):dvS (decDigits u) 0=u∧∀ c ∈ decDigits u,48≤c.toNat∧c.toNat≤57:=by
 induction u using Nat.strongRecOn with
 | _ u ih =>
  by_cases h:u<10
  ·rw [decDigits_one h]
   have e:=ybX h
   have hne:UInt8.ofNat (48+u)≠45:=fun e2=>by rw [e2] at e;have:(45:UInt8).toNat=45:=rfl;omega
   refine ⟨?_,fun c hc=>?_⟩
   ·rw [dvS,dvS,if_neg hne,e];omega
   ·obtain rfl:=List.mem_singleton.1 hc
    rw [e];omega
  ·rw [yh4 h]
   obtain ⟨h1,h2⟩:=ih (u/10) (by omega)
   have e:=ybX (Nat.mod_lt u (show 0<10 by omega))
   have hne:UInt8.ofNat (48+u%10)≠45:=fun e2=>by rw [e2] at e;have:(45:UInt8).toNat=45:=rfl;omega
   refine ⟨?_,fun c hc=>?_⟩
   ·rw [ydR,h1,dvS,dvS,if_neg hne,e];omega
   ·rcases List.mem_append.1 hc with hc|hc
    ·exact h2 c hc
    ·obtain rfl:=List.mem_singleton.1 hc
     rw [e];omega
theorem ynX (x:Lb) (q:Rat) (w:World) (hq:Hid (num x=some q)) (hd:Hid (q.den=1)) (hb:Hid (-9223372036854775808≤q.num∧q.num<9223372036854775808)) :
  Calls Tryz.prog 155 #[.string ⟨x.toArray⟩] w (Qp (.int .u64 (vT x:Int)) w):=by
 obtain ⟨u,HU⟩:=ez (q.num.natAbs)
 have hu:u≤9223372036854775808:=by have:=hb.out;have:=HU.out;omega
 obtain ⟨neg,HNG⟩:∃ b,Hid (decide (q.num<0)=b):=⟨_,rfl⟩
 have hx:=yer hq.out
 rw [if_pos hd.out,List.append_nil,HU.out,HNG.out] at hx
 obtain ⟨hv1,hv2⟩:=ys6 u
 obtain ⟨d0,r0,hd0,hd1,hd2⟩:=yeq u
 have HX:=h_ hx
 have HV:Hid (dvS x 0=u):=h_ (by
  rw [hx,ydR]
  cases neg
  ·exact hv1
  ·exact hv1)
 have HA:Hid (∀ i,i<x.length→x.getD i 0=45∨(48≤(x.getD i 0).toNat∧(x.getD i 0).toNat≤57)):=h_ (fun i hi=>by
  have hm:x.getD i 0 ∈ x:=by rw [gD hi];exact List.getElem_mem _
  generalize x.getD i 0=c at hm
  rw [hx] at hm
  rcases List.mem_append.1 hm with hm|hm
  ·cases neg
   ·cases hm
   ·exact .inl (List.mem_singleton.1 hm)
  ·exact .inr (hv2 c hm))
 have H0:Hid (0<x.length∧((x.getD 0 0).toNat=45↔neg=true)):=h_ (by
  rw [hx,hd0]
  cases neg
  ·refine ⟨by simp,?_⟩
   show d0.toNat=45↔false=true
   exact ⟨fun e=>by omega,fun e=>by cases e⟩
  ·exact ⟨by simp,⟨fun _=>rfl,fun _=>rfl⟩⟩)
 have HR:Hid ((if neg then (-(u:Int))%18446744073709551616 else (u:Int))=(vT x:Int)):=h_ (by
  unfold vT
  rw [hq.out]
  show _=(((q.num%18446744073709551616).toNat:Nat):Int)
  have h1:=HU.out
  have h2:=hb.out
  cases neg
  ·have h3:¬ q.num<0:=by simpa using HNG.out
   rw [if_neg (by simp)];omega
  ·have h3:q.num<0:=by simpa using HNG.out
   rw [if_pos rfl];omega)
 obtain ⟨s,HS⟩:∃ s:ByteArray,Hid (s=⟨x.toArray⟩):=⟨_,rfl⟩
 rw [← HS.out]
 have HN:Hid (s.size=x.length):=h_ (by rw [HS.out];rfl)
 have HG:Hid (∀ k (h:k<s.size),(s[k]).toNat=(x.getD k 0).toNat):=h_ (by
  have e:=HS.out
  subst e
  intro k h
  have h2:k<x.length:=h
  rw [gD h2];rfl)
 obtain ⟨v,HVT⟩:=ez ((vT x:Int))
 rw [HVT.out] at HR ⊢
 have h0s:0<s.size:=by rw [HN.out];exact H0.out.1
 have hfirst:=HG.out 0 h0s
 obtain ⟨f0,HF0⟩:=ez ((x.getD 0 0).toNat)
 rw [HF0.out] at hfirst
 have hs64:(s.size:Int)≤100:=by
  have:=yh3 hq.out
  rw [HN.out];omega
 have hfc:((f0:Int)==45)=neg:=by
  have h:=H0.out.2
  rw [HF0.out] at h
  cases neg
  ·have:f0≠45:=fun e=>by have:=h.1 e;cases this
   simpa using (by omega:¬ (f0:Int)=45)
  ·have:=h.2 rfl
   rw [this];rfl
 clear hx hv1 hv2 hd0 hd1 hd2
 go_in
 go_wp2
 go_loopw [4,5] (fun nv iv wr=>∃ i n:Nat,i≤s.size∧iv=.int .i64 i∧nv=.int .u64 n∧w=wr∧Hid (dvS (x.take i) 0=n)) (fun _ iv _=>s.size-(intOf iv).toNat)
 case atStart=>exact ⟨0,0,Nat.zero_le _,rfl,rfl,rfl,h_ rfl⟩
 case round =>
  obtain ⟨i,n,hi,rfl,rfl,rfl,HNV⟩:=hrel
  by_cases hlt:i<s.size
  ·have hil:i<x.length:=by rw [← HN.out];exact hlt
   have hck:=HG.out i hlt
   obtain ⟨d,HD⟩:=ez ((x.getD i 0).toNat)
   rw [HD.out] at hck
   have hst:=yqJ hil
   have hle:=yu5 x (i+1)
   rw [HV.out] at hle
   rw [HNV.out] at hst
   by_cases h45:d=45
   ·subst h45
    have h45:x.getD i 0=45:=by rw [← UInt8.toNat_inj,HD.out];rfl
    rw [if_pos h45] at hst
    have yux:=h_ hst
    clear hil hst hle h45
    go_wp2
    go_roundw
    case rel=>exact ⟨i+1,n,by omega,by go_num,rfl,by first|rfl|trivial,yux⟩
    case measure=>simp [intOf];omega
   ·have hne:¬ x.getD i 0=45:=fun e=>h45 (by rw [← HD.out,e];rfl)
    rw [if_neg hne,HD.out] at hst
    have hdd:48≤d∧d≤57:=by
     rcases HA.out i hil with h|h
     ·exact absurd h hne
     ·rw [HD.out] at h;exact h
    rw [hst] at hle
    have g45:((d:Int) != 45)=true:=by rw [bne_iff_ne];omega
    obtain ⟨m,HM⟩:=ez (d-48)
    rw [HM.out] at hst hle
    have ybp:(d:Int)-48=(m:Int):=by have:=HM.out;omega
    have im:(m:Int)≤9:=by have:=HM.out;omega
    obtain ⟨n2,HN2⟩:=ez (10*n+m)
    rw [HN2.out] at hst hle
    have yux:=h_ hst
    have hn10:(n:Int)≤922337203685477581:=by have:=HN2.out;omega
    have ya9:10*(n:Int)+(m:Int)=(n2:Int):=by have:=HN2.out;omega
    have hn2:(n2:Int)≤9223372036854775808:=by omega
    clear hil hst hle h45 hne hdd
    go_wp2
    go_roundw
    case rel=>exact ⟨i+1,n2,by omega,by go_num,by go_num,by first|rfl|trivial,yux⟩
    case measure=>simp [intOf];omega
  ·obtain rfl:i=s.size:=by omega
   obtain rfl:n=u:=by
    rw [← HNV.out,List.take_of_length_le (by rw [HN.out];exact Nat.le_refl _)];exact HV.out
   cases neg with
   | true =>
    have zH:(-(n:Int))%18446744073709551616=v:=by have:=HR.out;rwa [if_pos rfl] at this
    have HRS:=h_ zH
    clear zH
    go_wp2
    go_ret
    refine ⟨?_,rfl⟩
    rw [← HRS.out]
    rfl
   | false =>
    obtain rfl:(n:Int)=v:=by have:=HR.out;rwa [if_neg (by simp)] at this
    go_wp2
    go_ret
    exact ⟨rfl,rfl⟩
end Go.Proofs.YtgepehlpjpccaaaGreatDoor
