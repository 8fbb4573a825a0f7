/- Contracts. -/
import Derived.Test.YtgepehlpjpccaaaGreatDoorYS
import Derived.Laws.AppendOwnNone
import Derived.Test.YtgepehlpjpccaaaGreatDoorShelfC
namespace Go.Proofs.YtgepehlpjpccaaaGreatDoor
open Go.RowKit
open Go.Lib
theorem ysf {k:Int} (h1:1≤k) (h4:k≤4):0<vA k:=by
 unfold vA
 have:k=1∨k=2∨k=3∨k=4:=by omega
 rcases this with rfl|rfl|rfl|rfl<;>decide
set_option maxHeartbeats 2000000
set_option maxRecDepth 100000
def Rdr (W:World) (E:Nat) (l:List UInt8):Prop:=∃ p c,W.heap[E]?=some (.cells #[.slice p l.length c] 168 (0,0))∧Bs W p l∧l.length≤c∧∀ b off,p=some ⟨b,off,none⟩→0<l.length→b<E
def yru (W:World) (E n:Nat) (l:List UInt8) (e:Ending) (w':World):Prop :=
 ∃ p c,e=.returned (.slice p (l.take n).length c)∧Bs w' p (l.take n)∧(l.take n).length≤c∧Rdr w' E (l.drop n)∧W.grownBy w' (some E)∧∀ b off,p=some ⟨b,off,none⟩→0<(l.take n).length→b<E
theorem ywl (W:World) (g k:Nat) (v:Value):W.grownBy (W.setCell ⟨g,k,none⟩ v) (some g):=⟨rfl,rfl,rfl,by simp,fun i _ hi=>Below.heap_setCell _ _ _ _ (fun e=>hi (by rw [e]))⟩
theorem yoH {W W':World} {p:Option Addr} {l:List UInt8} {E:Nat} (h:Bs W p l) (hg:W.grownBy W' (some E)) (hne:∀ b off,p=some ⟨b,off,none⟩→0<l.length→b<E):Bs W' p l:=by
 rcases h with h0|⟨b,off,hp,hlt,hc⟩
 ·exact .inl h0
 ·refine .inr ⟨b,off,hp,Nat.lt_of_lt_of_le hlt hg.size,fun j hj=>?_⟩
  have h1:=hg.block b hlt (by intro e;injection e with e;have:=hne b off hp (by omega);omega)
  have h2:=hc j hj
  simp only [World.cell?] at h2 ⊢
  rw [h1];exact h2
theorem yui {W:World} {b off:Nat} {l:List UInt8} (h:Bs W (some ⟨b,off,none⟩) l) {n:Nat} (hn:n<l.length):Bs W (some ⟨b,off+n,none⟩) (l.drop n):=by
 rcases h with h0|⟨b',off',hp,hlt,hc⟩
 ·omega
 ·cases hp
  refine .inr ⟨b,off+n,rfl,hlt,fun j hj=>?_⟩
  rw [List.length_drop] at hj
  have h2:=hc (n+j) (by omega)
  rw [Nat.add_assoc,h2]
  congr 3
  rw [List.getD_eq_getElem?_getD,List.getD_eq_getElem?_getD,List.getElem?_drop]
theorem yei (E n:Nat) (l:List UInt8) (w:World) (hn:n≤1000000) (hl:l.length≤1000000000) (h:Rdr w E l) :
  Calls Tryz.prog 167 #[.pointer (some ⟨E,0,none⟩),.int .i64 (n:Int)] w (yru w E n l):=by
 obtain ⟨p,c,h1,h2,h3,h4⟩:=h
 obtain ⟨m,HM⟩:∃ m,Hid (l.length=m):=⟨_,rfl⟩
 obtain ⟨k,HK⟩:∃ k,Hid (min n m=k):=⟨_,rfl⟩
 have hlen:(l.take n).length=k:=by rw [List.length_take,HM.out,HK.out]
 have hdl:(l.drop n).length=m-k:=by rw [List.length_drop,HM.out,← HK.out];omega
 have HRES:Hid (∀ p2 c2,m-k≤c2→(k<m→∃ b off,p=some ⟨b,off,none⟩∧p2=some ⟨b,off+k,none⟩)→yru w E n l (.returned (.slice p k c)) (w.setCell ⟨E,0,none⟩ (.slice p2 (m-k) c2))):=Lib.hid (fun p2 c2 hc2 hp2=>by
  have hg:=ywl w E 0 (.slice p2 (m-k) c2)
  refine ⟨p,c,by rw [hlen],yoH (yoF h2 n) hg (fun b off e h0=>h4 b off e (by rw [List.length_take] at h0;omega)),by rw [hlen,← HK.out];have:=HM.out;omega,⟨p2,c2,?_,?_,by rw [hdl];exact hc2,?_⟩,hg,fun b off e h0=>h4 b off e (by rw [List.length_take] at h0;omega)⟩
  ·rw [hdl];exact ycZ w E 0 _ _ _ h1
  ·by_cases hk:k<m
   ·obtain ⟨b,off,e1,e2⟩:=hp2 hk
    have hkn:k=n:=by have:=HK.out;omega
    subst e2
    refine yoH ?_ hg (fun b' off' e h0=>?_)
    ·rw [e1] at h2
     have:=yui h2 (n:=n) (by rw [HM.out];omega)
     rwa [← hkn] at this ⊢
    ·cases e;exact h4 _ _ e1 (by rw [HM.out];omega)
   ·exact .inl (by rw [hdl];omega)
  ·intro b' off' e h0
   rw [hdl] at h0
   obtain ⟨b,off,e1,e2⟩:=hp2 (by omega)
   rw [e2] at e;cases e
   exact h4 _ _ e1 (by rw [HM.out];omega))
 have HADR:Hid (k<m→∃ b off,p=some ⟨b,off,none⟩):=Lib.hid (fun hk=>by
  rcases h2 with h0|⟨b,off,hp,-⟩
  ·rw [HM.out] at h0;omega
  ·exact ⟨b,off,hp⟩)
 rw [HM.out] at h1 h3 hl
 have yqC:min (n:Int) (m:Int)=(k:Int):=by rw [← HK.out];omega
 have yrd:min (m:Int) (n:Int)=(k:Int):=by rw [← HK.out];omega
 have ik:(k:Int)≤(m:Int):=by rw [← HK.out];omega
 have ik2:(k:Int)≤(c:Int):=by omega
 have im:(m:Int)≤1000000000:=by omega
 have g0:w.cell? ⟨E,0,none⟩=some (.slice p m c):=by simp [World.cell?,h1]
 have f0:w.frozen? ⟨E,0,none⟩=false:=by simp [World.frozen?,h1]
 clear h1 h2 h4 hlen hdl
 by_cases hck:c=k
 ·subst hck
  have HF:=Lib.hid (HRES.out p 0 (by omega) (fun h=>by omega))
  rw [show m-c=0 by omega] at HF
  go_enter Tryz.func167,Tryz.ntmps167
  go_wp2_with fail
  go_ret
  exact HF.out
 ·have HF:=Lib.hid (HRES.out (p.map fun x=>x.add k) (c-k) (by omega) (fun h=>by
   obtain ⟨b,off,e⟩:=HADR.out h
   exact ⟨b,off,e,by rw [e];cases k<;>simp [Addr.add]⟩))
  go_enter Tryz.func167,Tryz.ntmps167
  go_wp2_with fail
  go_ret
  exact HF.out
theorem yfO (n:Int) (h0:-9223372036854775808≤n) (h1:n≤9223372036854775807) (w:World) (ht:Tab w):Calls Tryz.prog 200 #[.int .i64 n,.int .i64 10] w fun e w'=>e=.returned (.string ⟨(Lib.itoa n).toArray⟩)∧Below w.heap.size w w' :=
 (Tryz.strconv_FormatInt_10 n h0 h1 w ht).mono fun e w' ⟨h,k,os,h2⟩=>⟨h,by rw [h2];exact Lib.below_grow _ _ (Nat.le_refl _) _ _⟩
def sgI (n N:Nat):Int:=if 2^(8*n-1)≤N then (N:Int)-((2^(8*n):Nat):Int) else (N:Int)
def ydD (W:World) (E:Nat) (x r:List UInt8) (e:Ending) (w':World):Prop:=e=.returned (.string ⟨x.toArray⟩)∧Rdr w' E r∧W.grownBy w' (some E)
theorem yb9 {W W':World} {E:Nat} {l:List UInt8} (h:Rdr W E l) (hb:Below W.heap.size W W'):Rdr W' E l:=by
 obtain ⟨p,c,h1,h2,h3,h4⟩:=h
 exact ⟨p,c,(hb.block E (Array.getElem?_eq_some_iff.1 h1).1).trans h1,h2.below hb,h3,h4⟩
theorem yfP {W W1 W2:World} {E:Nat} (h:W.grownBy W1 (some E)) (hb:Below W1.heap.size W1 W2):W.grownBy W2 (some E):=h.trans (yak hb _)
theorem ynl (E n:Nat) (l:List UInt8) (w:World) (hn:n=1∨n=2∨n=4∨n=8) (hl:l.length≤1000000000) (h:Rdr w E l) (ht:∀ W,w.grownBy W (some E)→Tab W) :
  Calls Tryz.prog 168 #[.pointer (some ⟨E,0,none⟩),.int .i64 (n:Int)] w (ydD w E (Lib.itoa (sgI n (nb (l.take n)))) (l.drop n)):=by
 have HT:=Lib.hid (yei E n l w (by omega) hl h)
 have yiS:=Lib.hid ht
 have HL8:Hid ((l.take n).length≤8):=Lib.hid (by rw [List.length_take];omega)
 have HLN:Hid ((l.take n).length≤n):=Lib.hid (by rw [List.length_take];omega)
 obtain ⟨L,HLL⟩:∃ L,Hid (l.take n=L):=⟨_,rfl⟩
 obtain ⟨R,HRR⟩:∃ R,Hid (l.drop n=R):=⟨_,rfl⟩
 obtain ⟨N,HN⟩:∃ N,Hid (nb L=N):=⟨_,rfl⟩
 have HNL:Hid (N<256^n):=Lib.hid (by
  rw [← HN.out,← HLL.out]
  exact Nat.lt_of_lt_of_le (yeD _) (Nat.pow_le_pow_right (by omega) HLN.out))
 rw [HLL.out,HN.out,HRR.out]
 obtain ⟨v,HV⟩:∃ v,Hid (sgI n N=v):=⟨_,rfl⟩
 rw [HV.out]
 clear h ht
 rcases hn with rfl|rfl|rfl|rfl
 ·have hN:N<256:=HNL.out
  have hiN:(N:Int)≤255:=by omega
  have hvb:-9223372036854775808≤v∧v≤9223372036854775807:=by
   rw [← HV.out]
   unfold sgI
   split<;>omega
  have hv:wrap64 ((N:Int)*72057594037927936)/72057594037927936=v:=by
   rw [← HV.out]
   unfold sgI wrap64
   split<;>(try split)<;>omega
  have HVB:=Lib.hid hvb
  clear hvb
  go_enter Tryz.func168,Tryz.ntmps168
  go_wp2_with fail
  refine (HT.out).mono ?_
  rintro e w1 ⟨p,c,rfl,hb,hc,hr,hg,-⟩
  rw [HRR.out] at hr
  have uW:Hid (∀ w2,Below w1.heap.size w1 w2→ydD w E (Lib.itoa v) R (.returned (.string ⟨(Lib.itoa v).toArray⟩)) w2):=Lib.hid (fun w2 hb2=>⟨rfl,yb9 hr hb2,yfP hg hb2⟩)
  rw [HLL.out] at hb ⊢
  have HB:=Lib.hid (jS p c L w1 (by rw [← HLL.out];exact HL8.out) hb)
  have HFM:=Lib.hid (yfO v HVB.out.1 HVB.out.2 w1 (yiS.out _ hg))
  rw [HN.out] at HB
  clear hb hc hr hg
  go_wp2_with fail
  refine (HB.out).mono ?_
  rintro e w' ⟨rfl,rfl⟩
  go_wp2_with fail
  refine (HFM.out).mono ?_
  rintro e w2 ⟨rfl,hb2⟩
  have HF:=Lib.hid (uW.out w2 hb2)
  clear hb2
  go_wp2_with fail
  go_ret
  exact HF.out
 ·have hN:N<65536:=HNL.out
  have hiN:(N:Int)≤65535:=by omega
  have hvb:-9223372036854775808≤v∧v≤9223372036854775807:=by
   rw [← HV.out]
   unfold sgI
   split<;>omega
  have hv:wrap64 ((N:Int)*281474976710656)/281474976710656=v:=by
   rw [← HV.out]
   unfold sgI wrap64
   split<;>(try split)<;>omega
  have HVB:=Lib.hid hvb
  clear hvb
  go_enter Tryz.func168,Tryz.ntmps168
  go_wp2_with fail
  refine (HT.out).mono ?_
  rintro e w1 ⟨p,c,rfl,hb,hc,hr,hg,-⟩
  rw [HRR.out] at hr
  have uW:Hid (∀ w2,Below w1.heap.size w1 w2→ydD w E (Lib.itoa v) R (.returned (.string ⟨(Lib.itoa v).toArray⟩)) w2):=Lib.hid (fun w2 hb2=>⟨rfl,yb9 hr hb2,yfP hg hb2⟩)
  rw [HLL.out] at hb ⊢
  have HB:=Lib.hid (jS p c L w1 (by rw [← HLL.out];exact HL8.out) hb)
  have HFM:=Lib.hid (yfO v HVB.out.1 HVB.out.2 w1 (yiS.out _ hg))
  rw [HN.out] at HB
  clear hb hc hr hg
  go_wp2_with fail
  refine (HB.out).mono ?_
  rintro e w' ⟨rfl,rfl⟩
  go_wp2_with fail
  refine (HFM.out).mono ?_
  rintro e w2 ⟨rfl,hb2⟩
  have HF:=Lib.hid (uW.out w2 hb2)
  clear hb2
  go_wp2_with fail
  go_ret
  exact HF.out
 ·have hN:N<4294967296:=HNL.out
  have hiN:(N:Int)≤4294967295:=by omega
  have hvb:-9223372036854775808≤v∧v≤9223372036854775807:=by
   rw [← HV.out]
   unfold sgI
   split<;>omega
  have hv:wrap64 ((N:Int)*4294967296)/4294967296=v:=by
   rw [← HV.out]
   unfold sgI wrap64
   split<;>(try split)<;>omega
  have HVB:=Lib.hid hvb
  clear hvb
  go_enter Tryz.func168,Tryz.ntmps168
  go_wp2_with fail
  refine (HT.out).mono ?_
  rintro e w1 ⟨p,c,rfl,hb,hc,hr,hg,-⟩
  rw [HRR.out] at hr
  have uW:Hid (∀ w2,Below w1.heap.size w1 w2→ydD w E (Lib.itoa v) R (.returned (.string ⟨(Lib.itoa v).toArray⟩)) w2):=Lib.hid (fun w2 hb2=>⟨rfl,yb9 hr hb2,yfP hg hb2⟩)
  rw [HLL.out] at hb ⊢
  have HB:=Lib.hid (jS p c L w1 (by rw [← HLL.out];exact HL8.out) hb)
  have HFM:=Lib.hid (yfO v HVB.out.1 HVB.out.2 w1 (yiS.out _ hg))
  rw [HN.out] at HB
  clear hb hc hr hg
  go_wp2_with fail
  refine (HB.out).mono ?_
  rintro e w' ⟨rfl,rfl⟩
  go_wp2_with fail
  refine (HFM.out).mono ?_
  rintro e w2 ⟨rfl,hb2⟩
  have HF:=Lib.hid (uW.out w2 hb2)
  clear hb2
  go_wp2_with fail
  go_ret
  exact HF.out
 ·have hN:N<18446744073709551616:=HNL.out
  have hiN:(N:Int)≤18446744073709551615:=by omega
  have hvb:-9223372036854775808≤v∧v≤9223372036854775807:=by
   rw [← HV.out]
   unfold sgI
   split<;>omega
  have hv:wrap64 (N:Int)=v:=by
   rw [← HV.out]
   unfold sgI wrap64
   split<;>(try split)<;>omega
  have HVB:=Lib.hid hvb
  clear hvb
  go_enter Tryz.func168,Tryz.ntmps168
  go_wp2_with fail
  refine (HT.out).mono ?_
  rintro e w1 ⟨p,c,rfl,hb,hc,hr,hg,-⟩
  rw [HRR.out] at hr
  have uW:Hid (∀ w2,Below w1.heap.size w1 w2→ydD w E (Lib.itoa v) R (.returned (.string ⟨(Lib.itoa v).toArray⟩)) w2):=Lib.hid (fun w2 hb2=>⟨rfl,yb9 hr hb2,yfP hg hb2⟩)
  rw [HLL.out] at hb ⊢
  have HB:=Lib.hid (jS p c L w1 (by rw [← HLL.out];exact HL8.out) hb)
  have HFM:=Lib.hid (yfO v HVB.out.1 HVB.out.2 w1 (yiS.out _ hg))
  rw [HN.out] at HB
  clear hb hc hr hg
  go_wp2_with fail
  refine (HB.out).mono ?_
  rintro e w' ⟨rfl,rfl⟩
  go_wp2_with fail
  refine (HFM.out).mono ?_
  rintro e w2 ⟨rfl,hb2⟩
  have HF:=Lib.hid (uW.out w2 hb2)
  clear hb2
  go_wp2_with fail
  go_ret
  exact HF.out
theorem yuj (E:Nat) (l:List UInt8) (w:World) (hl:l.length≤1000000000) (h:Rdr w E l) :
  Calls Tryz.prog 169 #[.pointer (some ⟨E,0,none⟩)] w (ydD w E ((l.drop 1).take (nb (l.take 1))) ((l.drop 1).drop (nb (l.take 1)))):=by
 have HT:=Lib.hid (yei E 1 l w (by omega) hl h)
 obtain ⟨L,HLL⟩:∃ L,Hid (l.take 1=L):=⟨_,rfl⟩
 obtain ⟨R,HRR⟩:∃ R,Hid (l.drop 1=R):=⟨_,rfl⟩
 obtain ⟨N,HN⟩:∃ N,Hid (nb L=N):=⟨_,rfl⟩
 have HL1:Hid (L.length≤1):=Lib.hid (by rw [← HLL.out,List.length_take];omega)
 have hN:N<256:=by
  rw [← HN.out]
  exact Nat.lt_of_lt_of_le (yeD _) (Nat.pow_le_pow_right (by omega) HL1.out)
 have HRL:Hid (R.length≤1000000000):=Lib.hid (by rw [← HRR.out,List.length_drop];omega)
 have hiN:(N:Int)≤255:=by omega
 rw [HLL.out,HN.out,HRR.out]
 clear h
 go_enter Tryz.func169,Tryz.ntmps169
 go_wp2_with fail
 refine (HT.out).mono ?_
 rintro e w1 ⟨p,c,rfl,hb,hc,hr,hg,-⟩
 rw [HRR.out] at hr
 have HT2:=Lib.hid (yei E N R w1 (by omega) HRL.out hr)
 have HG:=Lib.hid hg
 rw [HLL.out] at hb ⊢
 have HB:=Lib.hid (jS p c L w1 (by have:=HL1.out;omega) hb)
 rw [HN.out] at HB
 clear hb hc hr hg
 go_wp2_with fail
 refine (HB.out).mono ?_
 rintro e w' ⟨rfl,rfl⟩
 go_wp2_with fail
 refine (HT2.out).mono ?_
 rintro e w2 ⟨p2,c2,rfl,hb,hc,hr,hg,-⟩
 have hcv:=ybu w2 p2 c2 (R.take N) hb
 obtain ⟨X,HX⟩:∃ X,Hid (R.take N=X):=⟨_,rfl⟩
 obtain ⟨m,HM⟩:∃ m,Hid (X.length=m):=⟨_,rfl⟩
 have HF:Hid (ydD w E (R.take N) (R.drop N) (.returned (.string ⟨X.toArray⟩)) w2):=Lib.hid ⟨by rw [HX.out],hr,HG.out.trans hg⟩
 rw [HX.out,HM.out] at hcv ⊢
 clear hb hc hr hg
 go_wp2_with fail
 go_ret
 exact HF.out
theorem ypy (k:Int):(256^vA k:Nat) ∣ 18446744073709551616:=by
 have:=yd8 k
 refine ⟨256^(8-vA k),?_⟩
 rw [← Nat.pow_add,show vA k+(8-vA k)=8 by omega]
theorem yoI (n:Nat):256^n=2^(8*n):=by rw [Nat.pow_mul]
theorem yuk {z:Int} {n N:Nat} (h1:1≤n) (hN:((2^(8*n):Nat):Int) ∣ z-(N:Int)) (hlt:N<2^(8*n)) (hl:-((2^(8*n-1):Nat):Int)≤z) (hh:z<((2^(8*n-1):Nat):Int)):sgI n N=z:=by
 have hp:2^(8*n)=2*2^(8*n-1):=by
  rw [show 8*n=(8*n-1)+1 by omega,Nat.pow_succ];simp;omega
 unfold sgI
 rw [hp] at hN hlt ⊢
 generalize 2^(8*n-1)=H at *
 obtain ⟨d,hd⟩:=hN
 have hd2:z-(N:Int)=2*(H:Int)*d:=by rw [hd,Int.natCast_mul];rfl
 split
 ·have:d=-1:=by
   have e1:d<0:=by
    rcases Int.lt_or_le d 0 with h|h
    ·exact h
    ·have:0≤2*(H:Int)*d:=Int.mul_nonneg (by omega) h
     omega
   have e2:-2<d:=by
    rcases Int.lt_or_le (-2) d with h|h
    ·exact h
    ·have:2*(H:Int)*d≤2*(H:Int)*(-2):=Int.mul_le_mul_of_nonneg_left h (by omega)
     omega
   omega
  subst this
  omega
 ·have:d=0:=by
   have e1:d<1:=by
    rcases Int.lt_or_le d 1 with h|h
    ·exact h
    ·have:2*(H:Int)*1≤2*(H:Int)*d:=Int.mul_le_mul_of_nonneg_left h (by omega)
     omega
   have e2:-1<d:=by
    rcases Int.lt_or_le (-1) d with h|h
    ·exact h
    ·have:2*(H:Int)*d≤2*(H:Int)*(-1):=Int.mul_le_mul_of_nonneg_left h (by omega)
     omega
   omega
  subst this
  omega
theorem ysg {k:Int} {x:List UInt8} (h:uB k x=true) (h1:1≤k) (h4:k≤4) (hx:x≠[]):Lib.itoa (sgI (vA k) (nb (be (vA k) (vT x))))=x:=by
 obtain ⟨q,hq,hd,hl,hh⟩:=yoE h h1 h4 hx
 have hw:=ysf h1 h4
 have e:sgI (vA k) (nb (be (vA k) (vT x)))=q.num:=by
  rw [yka]
  have hv:(vT x:Int)=q.num%18446744073709551616:=by
   unfold vT;rw [hq]
   show (((q.num%18446744073709551616).toNat:Nat):Int)=_
   omega
  refine yuk (by omega) ?_ (by rw [← yoI];exact Nat.mod_lt _ (Nat.pow_pos (by omega))) hl hh
  rw [← yoI]
  obtain ⟨m,hm⟩:=ypy k
  refine ⟨q.num/18446744073709551616*m+(vT x:Int)/((256^vA k:Nat):Int),?_⟩
  have a1:=Int.emod_add_mul_ediv q.num 18446744073709551616
  have a2:=Int.emod_add_mul_ediv (vT x:Int) ((256^vA k:Nat):Int)
  have hm2:(18446744073709551616:Int)=((256^vA k:Nat):Int)*(m:Int):=by
   rw [← Int.natCast_mul,← hm];rfl
  rw [Int.natCast_emod]
  generalize ((256^vA k:Nat):Int)=A at *
  rw [← hv,hm2] at a1
  rw [Int.mul_add]
  have e1:A*(q.num/18446744073709551616*(m:Int))=A*(m:Int)*(q.num/(A*(m:Int))):=by
   rw [hm2,Int.mul_comm (q.num/(A*(m:Int))) (m:Int),Int.mul_assoc]
  rw [e1]
  omega
 rw [e]
 have hwr:=yim hq
 rw [if_pos hd,List.append_nil] at hwr
 rw [hwr]
 unfold Lib.itoa
 by_cases hn:q.num<0
 ·rw [if_pos hn,decide_eq_true hn];rfl
 ·rw [if_neg hn,decide_eq_false hn,show q.num.toNat=q.num.natAbs by omega];rfl
theorem yoJ (xs:List (List UInt8)) (P:Nat):∀ m,m≤8*P→∀ i,i<8*P→((stP xs P m).getD (i/8) 0).toNat.testBit (i%8)=decide (i<m∧xs.getD i []≠[])
 | 0,_,i,hi=>by
  rw [stP,List.getD_eq_getElem?_getD,List.getElem?_replicate,if_pos (by omega)]
  simp
 | m+1,hm,i,hi=>by
  have ih:=yoJ xs P m (by omega) i hi
  rw [stP]
  by_cases he:xs.getD m []=[]
  ·rw [if_pos he,ih]
   congr 1
   refine propext ⟨fun h=>⟨by omega,h.2⟩,fun h=>⟨?_,h.2⟩⟩
   rcases Nat.lt_or_ge i m with h2|h2
   ·exact h2
   ·have:i=m:=by omega
    subst this;exact absurd he h.2
  ·rw [if_neg he]
   have hl:=uK xs P m
   by_cases hj:i/8=m/8
   ·rw [hj,List.getD_eq_getElem?_getD,List.getElem?_set_self (by rw [hl];omega),Option.getD_some,yin _ (Nat.mod_lt _ (by omega)),Nat.testBit_or,← hj,ih,Nat.testBit_two_pow]
    by_cases him:i=m
    ·subst him
     rw [decide_eq_true rfl,Bool.or_true]
     exact (decide_eq_true ⟨Nat.lt_succ_self _,he⟩).symm
    ·have h1:¬ m%8=i%8:=by omega
     rw [decide_eq_false h1,Bool.or_false]
     congr 1
     refine propext ⟨fun h=>⟨by omega,h.2⟩,fun h=>⟨by omega,h.2⟩⟩
   ·rw [List.getD_eq_getElem?_getD,List.getElem?_set_ne (fun e=>hj e.symm),← List.getD_eq_getElem?_getD,ih]
    congr 1
    refine propext ⟨fun h=>⟨by omega,h.2⟩,fun h=>⟨by
     rcases Nat.lt_or_ge i m with h2|h2
     ·exact h2
     ·have:i=m:=by omega
      subst this;exact absurd rfl hj,h.2⟩⟩
theorem yul (c:UInt8) (r:Nat):bits .and .u8 ((c.toNat:Int)/2^r) 1=(if c.toNat.testBit r then 1 else 0):=by
 have h1:c.toNat<256:=c.toNat_lt
 have e:(c.toNat:Int)/2^r=((c.toNat/2^r:Nat):Int):=by
  rw [show (2:Int)^r=((2^r:Nat):Int) by simp];rfl
 have h2:c.toNat/2^r<256:=Nat.lt_of_le_of_lt (Nat.div_le_self _ _) h1
 rw [e]
 have h3:=u8_and_nat (c.toNat/2^r) 1 h2 (by omega)
 rw [show ((1:Nat):Int)=1 from rfl] at h3
 rw [h3,Nat.testBit_eq_decide_div_mod_eq,Nat.and_one_is_mod]
 have h4:=Nat.mod_two_eq_zero_or_one (c.toNat/2^r)
 rcases h4 with h4|h4<;>rw [h4]<;>rfl
def left (k:Int) (xs:List (List UInt8)) (i:Nat):List UInt8:=(xs.drop i).flatMap (uL k)
theorem yum {k:Int} {xs:List (List UInt8)} {i:Nat} (h:i<xs.length):left k xs i=uL k (xs.getD i [])++left k xs (i+1):=by
 unfold left
 rw [List.drop_eq_getElem_cons h,List.flatMap_cons,List.getD_eq_getElem?_getD,List.getElem?_eq_getElem h];rfl
theorem ykF (k:Int) (xs:List (List UInt8)):yat k xs=stP xs ((xs.length+7)/8) xs.length++left k xs 0:=by
 unfold yat yby els left
 rw [List.take_length,List.drop_zero]
theorem ykG {k:Int} {xs:List (List UInt8)} (hf:∀ x ∈ xs,uB k x=true) (i:Nat):(left k xs i).length≤83*xs.length:=by
 unfold left
 have key:∀ l:List (List UInt8),(∀ x ∈ l,uB k x=true)→(l.flatMap (uL k)).length≤83*l.length:=fun l=>by
  induction l with
  | nil=>intro _;simp
  | cons a r ih =>
   intro h
   have h1:=ih (fun x hx=>h x (List.mem_cons_of_mem _ hx))
   have h2:=yio (h a (List.mem_cons_self ..))
   rw [List.flatMap_cons,List.length_append,List.length_cons]
   omega
 have:=key (xs.drop i) (fun x hx=>hf x (List.mem_of_mem_drop hx))
 rw [List.length_drop] at this
 omega
theorem ypz {x R:List UInt8} (hx:x≠[]) (hl:x.length≤82):((uL 5 x++R).drop 1).take (nb ((uL 5 x++R).take 1))=x∧((uL 5 x++R).drop 1).drop (nb ((uL 5 x++R).take 1))=R:=by
 unfold uL
 rw [if_pos rfl,if_neg hx,List.cons_append]
 have e:nb ((UInt8.ofNat x.length::(x++R)).take 1)=x.length:=by
  show 0*256+(UInt8.ofNat x.length).toNat=_
  rw [UInt8.toNat_ofNat'];omega
 rw [e]
 exact ⟨List.take_left,List.drop_left⟩
theorem ysh {k:Int} {x R:List UInt8} (h5:k≠5):(uL k x++R).take (vA k)=be (vA k) (vT x)∧(uL k x++R).drop (vA k)=R:=by
 unfold uL
 rw [if_neg h5]
 have e:=jI (vT x) (vA k)
 constructor
 ·exact List.take_left' e
 ·exact List.drop_left' e
end Go.Proofs.YtgepehlpjpccaaaGreatDoor
