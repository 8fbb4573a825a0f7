/- Contracts. -/
import Derived.Test.YtgepehlpjpccaaaGreatDoorNEJ
namespace Go.Proofs.YtgepehlpjpccaaaGreatDoor
theorem yli (n:Nat):∀ (k:Nat) (l:List UInt8),k*n≤l.length→∀ x ∈ gl n k l,x<256^n
 | 0,_,_,x,h=>by cases h
 | k+1,l,hl,x,h=>by
  rw [Nat.succ_mul] at hl
  rw [gl,List.mem_cons] at h
  rcases h with rfl|h
  ·have h1:=yeD (l.take n)
   rwa [List.length_take,Nat.min_eq_left (by omega)] at h1
  ·exact yli n k _ (by rw [List.length_drop];omega) x h
theorem yvy (n:Nat):∀ (k:Nat) (l:List UInt8),k*n≤l.length→jl n (gl n k l)++l.drop (k*n)=l
 | 0,l,_=>by rw [gl,jl,Nat.zero_mul,List.drop_zero,List.nil_append]
 | k+1,l,hl=>by
  rw [Nat.succ_mul] at hl
  have h1:=yvy n k (l.drop n) (by rw [List.length_drop];omega)
  rw [List.drop_drop,Nat.add_comm n] at h1
  rw [gl,jl,yq3 n _ (by rw [List.length_take];omega),List.append_assoc,Nat.succ_mul,h1,List.take_append_drop]
theorem ylj {b:Nat→Nat} {t0 d w:Nat} (hd:d<2^w) (hd64:d<jM) (h:∀ j,j<w→b (t0+j)=d/2^(w-1-j)%2):∀ j,j≤w→dfB b t0 j=d/2^(w-j)
 | 0,_=>by rw [dfB,Nat.sub_zero,Nat.div_eq_of_lt hd]
 | j+1,hj=>by
  have h1:=ylj hd hd64 h j (by omega)
  have h2:=ypx d (w:=w) (j:=j) (by omega)
  have h3:d/2^(w-1-j)<jM:=Nat.lt_of_le_of_lt (Nat.div_le_self _ _) hd64
  have e:w-(j+1)=w-1-j:=by omega
  rw [dfB,h1,h j (by omega),e,Nat.mod_eq_of_lt (by omega)]
  exact h2.symm
theorem ywF {gs:List Nat} {m w:Nat} {l2:List UInt8} (hm:∀ g ∈ gs,m≤g) (hg:∀ g ∈ gs,g<jM) (hw:∀ g ∈ gs,g-m<2^w) (hb:∀ t,t<gs.length*w→rdB l2 t=btF gs m w t):unG (rdB l2) w m gs.length=gs:=by
 refine List.ext_getElem (by rw [ycw]) fun i h1 h2=>?_
 have ytM:gs[i] ∈ gs:=List.getElem_mem h2
 have hgd:gs.getD i 0=gs[i]:=by rw [List.getD_eq_getElem?_getD,List.getElem?_eq_getElem h2];rfl
 have hdl:gs[i]-m<jM:=Nat.lt_of_le_of_lt (Nat.sub_le _ _) (hg _ ytM)
 have h3:dfB (rdB l2) (i*w) w=gs[i]-m:=by
  rw [ylj (hw _ ytM) hdl (fun j hj=>?_) w (Nat.le_refl _),Nat.sub_self,Nat.pow_zero,Nat.div_one]
  have h5:(i+1)*w≤gs.length*w:=Nat.mul_le_mul_right _ h2
  rw [Nat.succ_mul] at h5
  rw [hb _ (by omega),yrJ _ _ hj,hgd]
 have h4:=hm _ ytM
 have h6:=hg _ ytM
 simp only [unG,List.getElem_map,List.getElem_range,unV,h3]
 rw [show m+(gs[i]-m)=gs[i] by omega]
 exact Nat.mod_eq_of_lt h6
theorem yvh {gs:List Nat} (hg:∀ g ∈ gs,g<jM):∀ g ∈ gs,g-mnL gs<2^wdL gs:=by
 intro g h
 have h1:=yrH h
 have h2:=ymw hg
 exact Nat.lt_of_le_of_lt (Nat.sub_le_sub_right h1 _) (yxF (Nat.lt_of_le_of_lt (Nat.sub_le _ _) h2))
structure PkParts (l:List UInt8) (n k:Nat) (P:List UInt8) (m wd s:Nat) (rs:List UInt8):Prop where
 len:P.length=rs.length+s+(n+1)+4
 hs:s=(k*wd+7)/8
 cnt:nb (P.take 4)=k
 lst:nb ((P.drop 4).take n)=m
 wid:((P.drop 4).getD n 0).toNat=wd
 wdl:wd≤64
 rsl:rs.length+k*n=l.length
 out:jl n (unG (rdB ((P.drop 4).drop (n+1))) wd m k)++((P.drop 4).drop (n+1)).drop s=l
 grp:unG (rdB ((P.drop 4).drop (n+1))) wd m k=gl n k l
 rst:((P.drop 4).drop (n+1)).drop s=rs
theorem ymk {l:List UInt8} {n:Nat} (_h1:1≤n) (h2:n≤8) (hl:l.length≤1048576) (hk0:0<l.length/n) :
  PkParts l n (l.length/n) (GG l n) (mnL (gl n (l.length/n) l)) (wdL (gl n (l.length/n) l)) ((l.length/n*wdL (gl n (l.length/n) l)+7)/8) (l.drop (l.length/n*n)):=by
 obtain ⟨k,HK⟩:∃ k,k=l.length/n:=⟨_,rfl⟩
 rw [← HK] at hk0 ⊢
 have hkn:k*n≤l.length:=by rw [HK];exact Nat.div_mul_le_self _ _
 have hkl:k≤1048576:=by rw [HK];exact Nat.le_trans (Nat.div_le_self _ _) hl
 obtain ⟨gs,HG⟩:∃ gs,gs=gl n k l:=⟨_,rfl⟩
 have hgl:gs.length=k:=by rw [HG,yaD]
 have hg64:∀ g ∈ gs,g<jM:=by rw [HG];exact yq8 h2 k l
 have hg256:∀ g ∈ gs,g<256^n:=by rw [HG];exact yli n k l hkn
 have hne:gs≠[]:=fun e=>by rw [← List.length_eq_zero_iff,hgl] at e;omega
 have hm256:mnL gs<256^n:=by
  cases hc:gs with
  | nil=>exact absurd hc hne
  | cons x xs=>rw [← hc];exact Nat.lt_of_le_of_lt (yiF (by rw [hc];exact List.mem_cons_self)) (hg256 x (by rw [hc];exact List.mem_cons_self))
 have hw64:wdL gs≤64:=yrL gs
 have hP:GG l n=be 4 k++(be n (mnL gs)++([UInt8.ofNat (wdL gs)]++(pkF gs++l.drop (k*n)))):=by
  rw [GG,← HK,← HG,yku,pkB,if_neg (by rw [hgl];omega),hgl];simp only [List.append_assoc]
 have hpk:(pkF gs).length=(k*wdL gs+7)/8:=by rw [pkF,yaJ,hgl]
 rw [← HG]
 have hd4:(GG l n).drop 4=be n (mnL gs)++([UInt8.ofNat (wdL gs)]++(pkF gs++l.drop (k*n))):=by
  rw [hP];exact yfM 4 k _
 have hd5:((GG l n).drop 4).drop (n+1)=pkF gs++l.drop (k*n):=by
  have e:((GG l n).drop 4).drop (n+1)=(((GG l n).drop 4).drop n).drop 1:=by
   generalize (GG l n).drop 4=X
   rw [List.drop_drop]
  rw [e,hd4,yfM];rfl
 have hrst:((GG l n).drop 4 |>.drop (n+1)).drop ((k*wdL gs+7)/8)=l.drop (k*n):=by rw [hd5,← hpk];exact List.drop_left
 have hgrp:unG (rdB (((GG l n).drop 4).drop (n+1))) (wdL gs) (mnL gs) k=gs:=by
  have hu:=ywF (m:=mnL gs) (w:=wdL gs) (l2:=pkF gs++l.drop (k*n)) (fun g h=>yiF h) hg64 (yvh hg64) (fun t ht=>by
   rw [rdB,List.getD_eq_getElem?_getD,List.getElem?_append_left (by rw [hpk,← hgl];omega),← List.getD_eq_getElem?_getD]
   exact yue _ (yrI gs (mnL gs) (wdL gs)) ht)
  rw [hgl] at hu
  rw [hd5,hu]
 refine ⟨?_,rfl,?_,?_,?_,hw64,by rw [List.length_drop];omega,?_,by rw [hgrp,HG],hrst⟩
 ·rw [hP];simp only [List.length_append,jI,List.length_cons,List.length_nil,hpk];omega
 ·rw [hP,yfL,yka];exact Nat.mod_eq_of_lt (by omega)
 ·rw [hd4,yfL,yka];exact Nat.mod_eq_of_lt hm256
 ·rw [hd4,List.getD_eq_getElem?_getD,List.getElem?_append_right (by rw [jI];exact Nat.le_refl _),jI,Nat.sub_self]
  show (UInt8.ofNat (wdL gs)).toNat=_
  rw [UInt8.toNat_ofNat'];exact Nat.mod_eq_of_lt (by omega)
 ·rw [hrst,hgrp,HG]
  exact yvy n k l hkn
set_option maxHeartbeats 1600000
set_option maxRecDepth 100000
section
open Go.RowKit
open Go.Lib
theorem yot (p q:Option Addr) (c d:Nat) (l:List UInt8) (w:World) (hp:Bs w p l) (hq:Bs w q l) :
  Calls Tryz.prog 60 #[.slice p l.length c,.slice q l.length d] w fun r w'=>r=.returned (.bool true)∧w=w':=by
 have h1:=ybu w p c l hp
 have h2:=ybu w q d l hq
 clear hp hq
 obtain ⟨s,hs⟩:∃ s:ByteArray,s=⟨l.toArray⟩:=⟨_,rfl⟩
 rw [← hs] at h1 h2
 clear hs
 go_enter Tryz.func60,Tryz.ntmps60
 go_wp2_with fail
 go_ret
 exact ⟨rfl,rfl⟩
theorem yjn {w:World} {p:Option Addr} {l:List UInt8} (h:Bs w p l) (hl:0<l.length):∃ b off,p=some ⟨b,off,none⟩:=by
 obtain ⟨b,off,hp,-⟩:=yeb h hl
 exact ⟨b,off,hp⟩
theorem you (p:Option Addr) (c n len0:Nat) (l P:List UInt8) (w:World) (hP:Hid (P=GG l n)) (h1:1≤n) (h2:n≤8) (hl:l.length≤1048576) (hp0:Hid (P.length=len0)) (hpl:len0≤1048576) (hc:len0≤c) (hb:Bs w p P) :
  Calls Tryz.prog 164 #[.slice p len0 c,.int .i64 (n:Int)] w (ybD l w):=by
 by_cases hk:l.length/n=0
 ·have hP2:P=be 4 0++l:=by rw [hP.out,GG,hk,Nat.zero_mul,List.drop_zero];rfl
  have hl4:P.length=l.length+4:=by rw [hP2,List.length_append,jI,Nat.add_comm]
  obtain ⟨b0,off,rfl⟩:=yjn hb (by omega)
  have h:=yse b0 off len0 l.length c (n:Int) P w (Lib.hid (by rw [← hp0.out];exact hl4)) hc (by omega) hp0 (Lib.hid (by rw [hP2,yfL];rfl)) hb
  rwa [hP2,show (be 4 0++l).drop 4=l from yfM 4 0 l] at h
 ·have hp:=ymk h1 h2 hl (Nat.pos_of_ne_zero hk)
  rw [← hP.out] at hp
  obtain ⟨k,HK⟩:∃ k,k=l.length/n:=⟨_,rfl⟩
  obtain ⟨m,HM⟩:∃ m,m=mnL (gl n k l):=⟨_,rfl⟩
  obtain ⟨wd,HW⟩:∃ wd,wd=wdL (gl n k l):=⟨_,rfl⟩
  obtain ⟨s,HS⟩:∃ s,s=(k*wd+7)/8:=⟨_,rfl⟩
  obtain ⟨rs,HR⟩:∃ rs,rs=l.drop (k*n):=⟨_,rfl⟩
  rw [← HK,← HM,← HW,← HS,← HR] at hp
  have hlen:=hp.len
  have hkn:k*n≤1048576:=by have:=hp.rsl;omega
  have hk0:0<k:=by rw [HK];exact Nat.pos_of_ne_zero hk
  have hwd:=hp.wdl
  have hpo:=hp0.out
  obtain ⟨b0,off,rfl⟩:=yjn hb (by omega)
  by_cases hc2:c=len0∧s=0∧rs.length=0
  ·obtain ⟨rfl,hs0,hr0⟩:=hc2
   have hwd0:wd=0:=by
    rcases Nat.eq_zero_or_pos wd with h|h
    ·exact h
    ·have:1*1≤k*wd:=Nat.mul_le_mul hk0 h
     omega
   have hw:=hp.wid
   rw [hwd0] at hw
   have h:=yuh b0 off c n (n+1) k m P w h1 h2 (Lib.hid rfl) (Lib.hid (by omega)) hp0 hk0 hkn (Lib.hid hp.cnt) (Lib.hid hp.lst) (Lib.hid hw) hb
   have ho:=hp.out
   have hn:(P.drop 4).drop (n+1)=[]:=by rw [← List.length_eq_zero_iff,List.length_drop,List.length_drop];omega
   rw [hn,hwd0,List.drop_nil] at ho
   rwa [ho] at h
  ·have h:=yug b0 off len0 (rs.length+s+(n+1)) (rs.length+s) rs.length c (c-4) (c-4-(n+1)) s n (n+1) k m wd P w h1 h2 (Lib.hid rfl) (Lib.hid (by omega)) (Lib.hid rfl) (Lib.hid rfl) (Lib.hid (by omega)) (Lib.hid (by omega)) (by omega) (Lib.hid (by omega)) hc (by omega) hp0 hk0 hkn (by omega) (Lib.hid hp.hs) (Lib.hid hp.cnt) (Lib.hid hp.lst) (Lib.hid hp.wid) hb
   rwa [hp.out] at h
theorem yhQ (p:Option Addr) (c n len0 len:Nat) (l P:List UInt8) (w:World) (hP:Hid (P=GG l n)) (h1:1≤n) (h2:n≤8) (hlen:Hid (len=l.length)) (hl:len≤1048576) (hp0:Hid (P.length=len0)) (hpl:len0≤1048576) (hc:Hid (len0≤c)) (hb:Bs w p P) :
  Calls Tryz.prog 111 #[.slice p len0 c,.int .i64 (n:Int)] w (ybO l len w):=by
 have HA:=Lib.hid (ybr p len0 c n w h1 h2 hpl)
 have HU:=Lib.hid (you p c n len0 l P w hP h1 h2 (by rw [← hlen.out];exact hl) hp0 hpl hc.out hb)
 have HB:=Lib.hid hb
 have hn1:1≤(n:Int):=by omega
 have hn8:(n:Int)≤8:=by omega
 clear hb
 go_enter Tryz.func111,Tryz.ntmps111
 go_wp2_with fail
 refine (HA.out).mono ?_
 rintro e w' ⟨rfl,rfl⟩
 go_wp2_with fail
 refine (HU.out).mono ?_
 rintro e w1 ⟨hb1,q,d,rfl,hd,hq,hs⟩
 rw [← hlen.out] at hd ⊢
 have zG:=Lib.hid hb1
 have HQ:=hq
 have HS:=Lib.hid hs
 have HPk:=Lib.hid (ylb q d n len l w1 hlen h1 h2 hl hd hq hs)
 clear hb1 hs
 go_wp2_with fail
 refine (HPk.out).mono ?_
 rintro e w2 ⟨hb2,v,rfl,ho⟩
 obtain ⟨q2,d2,rfl,hs2,-⟩:=zE ho
 have uV:=Lib.hid (zG.out.trans (hb2.mono zG.out.size))
 have HE:=Lib.hid (yot q2 p d2 c P w2 (by rw [hP.out];exact hs2) (HB.out.below uV.out))
 have HS2:=Lib.hid (HS.out.below hb2)
 rw [← hP.out,hp0.out]
 rw [hp0.out] at HE
 clear ho hs2 hb2
 go_wp2_with fail
 refine (HE.out).mono ?_
 rintro e w3 ⟨rfl,rfl⟩
 go_wp2_with fail
 go_ret2
 exact ⟨uV.out,_,_,rfl,hd,HQ,HS2.out⟩
theorem yvi:∀ (k:Nat) (out b:List UInt8),b.length≤k→∀ L,und out b=some L→out.length≤L.length:=by
 intro k
 induction k with
 | zero =>
  intro out b hb L h
  obtain rfl:b=[]:=List.length_eq_zero_iff.1 (by omega)
  rw [yfN] at h
  cases h;exact Nat.le_refl _
 | succ k ih =>
  intro out b hb L h
  cases b with
  | nil=>rw [yfN] at h;cases h;exact Nat.le_refl _
  | cons c r =>
   rw [List.length_cons] at hb
   by_cases hc:c.toNat<128
   ·by_cases hr:r.length<c.toNat+1
    ·rw [yew hc hr] at h;cases h
    ·rw [yeO hc (by omega)] at h
     have:=ih _ _ (by rw [List.length_drop];omega) L h
     rw [List.length_append] at this
     omega
   ·by_cases hr:r.length<2
    ·rw [yhW (by omega) hr] at h;cases h
    ·by_cases hd:nb (r.take 2)=0∨out.length<nb (r.take 2)
     ·rw [yoG (by omega) (by omega) hd] at h;cases h
     ·rw [ygl (by omega) (by omega) hd] at h
      have:=ih _ _ (by rw [List.length_drop];omega) L h
      rw [yhV] at this
      omega
structure UAw (w wr:World) (L rest o:List UInt8) (pb:Option Addr) (n cb:Nat) (ov:Value):Prop where
 len:rest.length=n
 cap:n≤cb
 bytes:Bs w pb rest
 out:Grew w.heap.size w (.slice none 0 0) o wr ov
 eq:und o rest=some L
theorem UAw.below {w wr:World} {l rest o:List UInt8} {pb:Option Addr} {n cb:Nat} {ov:Value} (h:UAw w wr l rest o pb n cb ov):Below w.heap.size w wr:=h.out.below (Nat.le_refl _) (by intro k hk;cases hk)
theorem UAw.room {w wr:World} {l rest o:List UInt8} {pb:Option Addr} {n cb:Nat} {ov:Value} (h:UAw w wr l rest o pb n cb ov):o.length≤l.length:=yvi _ _ _ (Nat.le_refl _) _ h.eq
theorem UAw.next {w wr w2:World} {l rest o o2:List UInt8} {b0 off n cb k:Nat} {ov v2:Value} (h:UAw w wr l rest o (some ⟨b0,off,none⟩) n cb ov) (hk:k≤n) (hg:Grew w.heap.size w (.slice none 0 0) o2 w2 v2) (he:und o2 (rest.drop k)=some l) (q:Nat) :
  UAw w (w2.drewN q) l (rest.drop k) o2 (if cb=k then some ⟨b0,off,none⟩ else some ⟨b0,off+k,none⟩) (n-k) (cb-k) v2:=by
 refine ⟨by rw [List.length_drop,h.len],by have:=h.cap;omega,?_,hg.drewN q,he⟩
 split
 ·exact .inl (by rw [List.length_drop,h.len];have:=h.cap;omega)
 ·exact yaA h.bytes k (by rw [h.len];exact hk) rfl
theorem yml (p:Option Addr) (c len:Nat) (l L:List UInt8) (w:World) (HL0:Hid (len=l.length)) (hU:und [] l=some L) (hl:L.length≤200000) (hc:len≤c) (hb:Bs w p l) :
  Calls Tryz.prog 112 #[.slice p len c] w (ybO L L.length w):=by
 have H0:Hid (UAw w w L l [] p len c (.slice none 0 0)):=Lib.hid ⟨HL0.out.symm,hc,hb,Grew.refl (l:=[]) (World.ownsRow_nil w w.heap.size 5 1),hU⟩
 have HL8:=Lib.hid hl
 clear hb hc hU
 go_enter Tryz.func112,Tryz.ntmps112
 go_wp2_with fail
 go_loopw [0,4] (fun bv ov wr=>∃ (rest o:List UInt8) (pb:Option Addr) (n cb:Nat),bv=.slice pb n cb∧Hid (UAw w wr L rest o pb n cb ov)) (fun bv _ _=>yym bv)
 case atStart=>exact ⟨l,[],p,_,_,rfl,H0⟩
 case round =>
  obtain ⟨rest,o,pb,n,cb,rfl,HU⟩:=hrel
  cases rest with
  | nil =>
   obtain rfl:n=0:=HU.out.len.symm
   go_wp2_with fail
   go_ret2
   have h:=HU.out
   have e:=h.eq
   rw [yfN] at e
   obtain rfl:o=L:=Option.some.inj e
   obtain ⟨q5,d5,rfl,h5,h6⟩:=zE h.out.own
   exact ⟨h.below,_,_,rfl,Lib.hid h6,Lib.hid (ybe h.out.own),h5⟩
  | cons x r =>
   have hlen:=HU.out.len
   rw [List.length_cons] at hlen
   obtain ⟨b0,off,d,rfl,hb0,hc0,hd,hd2⟩:=(HU.out.bytes.below HU.out.below).at (k:=0) (by simp)
   have hn0:0<n:=by omega
   rw [Nat.add_zero] at hc0
   obtain ⟨qo,co,rfl,-,-⟩:=zE HU.out.out.own
   have HL:=Lib.hid hlen
   clear hlen
   have hx:Hid (x.toNat=d):=Lib.hid hd.out
   have hbw:Hid (Below w.heap.size w wr):=Lib.hid HU.out.below
   have hno:Hid ((o.length:Int)≤200000):=Lib.hid (by have:=HU.out.room;have:=HL8.out;omega)
   by_cases hp:d<128
   ·have t1:decide ((128:Int)≤(d:Int))=false:=by simp;omega
    by_cases hs:n<d+2
    ·have e:=HU.out.eq
     rw [yew (by rw [hx.out];exact hp) (by rw [hx.out];have:=HL.out;omega)] at e
     cases e
    ·have hB2:=HU.out.bytes.below hbw.out
     have HT:=Lib.hid (yjt w.heap.size qo o (x::r) co b0 off cb d n wr hbw.out.size HU.out.out.own (by simp [HL.out]) hB2 hx.out (by have:=hno.out;omega) (by omega) HU.out.cap)
     have hR:Hid (und (o++((x::r).drop 1).take (d+1)) ((x::r).drop (d+2))=some L):=Lib.hid (by rw [← HU.out.eq,yeO (by rw [hx.out];exact hp) (by rw [hx.out];have:=HL.out;omega),hx.out];rfl)
     have hcb:=HU.out.cap
     clear hB2
     go_wp2_with fail
     refine (HT.out).mono ?_
     rintro e w2 ⟨v2,rfl,hg2⟩
     have HG2:=Lib.hid (HU.out.out.trans hg2)
     clear hg2
     go_wp2_with fail
     go_quiet (fail)
     go_wp2_with fail
     go_roundw
     case rel=>exact ⟨_,_,_,_,_,rfl,Lib.hid (HU.out.next (by omega) HG2.out hR.out _)⟩
     case measure=>show n-(d+2)<n;omega
   ·have t1:decide ((128:Int)≤(d:Int))=true:=by simp;omega
    by_cases hs:n<3
    ·have e:=HU.out.eq
     rw [yhW (by rw [hx.out];omega) (by have:=HL.out;omega)] at e
     cases e
    ·have hB2:=HU.out.bytes.below hbw.out
     by_cases hf:nb (r.take 2)=0∨o.length<nb (r.take 2)
     ·have e:=HU.out.eq
      rw [yoG (by rw [hx.out];omega) (by have:=HL.out;omega) hf] at e
      cases e
     ·have HT:=Lib.hid (ylx w.heap.size qo o (x::r) co b0 off cb d n wr hbw.out.size HU.out.out.own (by simp [HL.out]) hB2 hx.out (by omega) (by have:=hno.out;omega) (by omega) HU.out.cap (fun h=>hf (.inl h)) (by exact Nat.le_of_not_lt fun h=>hf (.inr h)))
      have hR:Hid (und (cp (d-124) (nb (((x::r).drop 1).take 2)) o) ((x::r).drop 3)=some L):=Lib.hid (by rw [← HU.out.eq,ygl (by rw [hx.out];omega) (by have:=HL.out;omega) hf,hx.out];rfl)
      have hcb:=HU.out.cap
      clear hB2 hf
      go_wp2_with fail
      refine (HT.out).mono ?_
      rintro e w2 ⟨v2,rfl,hg2⟩
      have HG2:=Lib.hid (HU.out.out.trans hg2)
      clear hg2
      go_wp2_with fail
      go_quiet (fail)
      go_wp2_with fail
      go_roundw
      case rel=>exact ⟨_,_,_,_,_,rfl,Lib.hid (HU.out.next (by omega) HG2.out hR.out _)⟩
      case measure=>show n-3<n;omega
end
theorem yjo:∀ (k:Nat) (l:List UInt8),l.length≤k→∀ out b,und out (spL l++b)=und (out++l) b
 | 0,l,h,out,b=>by
  obtain rfl:=List.eq_nil_of_length_eq_zero (Nat.le_zero.1 h)
  rw [yji,List.nil_append,List.append_nil]
 | k+1,l,h,out,b=>by
  by_cases h0:0<l.length
  ·obtain ⟨m,hm⟩:∃ m,m=min l.length 128:=⟨_,rfl⟩
   have hc:(UInt8.ofNat (m-1)).toNat=m-1:=by rw [UInt8.toNat_ofNat'];omega
   have htl:(l.take m).length=m:=by rw [List.length_take];omega
   have h1:=yjo k (l.drop m) (by rw [List.length_drop];omega) (out++l.take m) b
   rw [yep h0,← hm,List.cons_append,List.append_assoc,yeO (by rw [hc];omega) (by rw [hc,List.length_append,htl];omega),hc,show m-1+1=m by omega]
   have e1:(l.take m++(spL (l.drop m)++b)).take m=l.take m:=by
    have:=List.take_left (l₁:=l.take m) (l₂:=spL (l.drop m)++b);rwa [htl] at this
   have e2:(l.take m++(spL (l.drop m)++b)).drop m=spL (l.drop m)++b:=by
    have:=List.drop_left (l₁:=l.take m) (l₂:=spL (l.drop m)++b);rwa [htl] at this
   rw [e1,e2,h1,List.append_assoc,List.take_append_drop]
  ·obtain rfl:=List.eq_nil_of_length_eq_zero (by omega:l.length=0)
   rw [yji,List.nil_append,List.append_nil]
theorem ylk {l:List UInt8} {a d n:Nat} (hd:1≤d) (hda:d≤a) (h:∀ j,j<n→yaN l a d j):∀ m i,i+m≤n→a+i≤l.length→cp m d (l.take (a+i))=l.take (a+i+m)
 | 0,_,_,_=>rfl
 | m+1,i,hi,hl=>by
  obtain ⟨h1,h2⟩:=h i (by omega)
  have hlen:(l.take (a+i)).length=a+i:=by rw [List.length_take];omega
  have e:(l.take (a+i)).getD (a+i-d) 0=l.getD (a+i) 0:=by
   rw [h2,List.getD_eq_getElem?_getD,List.getElem?_take_of_lt (by omega),← List.getD_eq_getElem?_getD]
  rw [cp,hlen,e,← ypv 0 h1,show a+i+1=a+(i+1) by omega,ylk hd hda h m (i+1) (by omega) (by omega)]
  congr 1;omega
theorem ypl (l:List UInt8) (a:Nat):∀ D,0<(vB l a D).1→1≤(vB l a D).2∧(vB l a D).2≤D∧rn l a (vB l a D).2=(vB l a D).1
 | 0,h=>by cases h
 | D+1,h=>by
  rw [vB] at h ⊢
  by_cases hc:(vB l a D).1<rn l a (D+1)
  ·rw [if_pos hc];exact ⟨Nat.le_add_left _ _,Nat.le_refl _,rfl⟩
  ·rw [if_neg hc] at h ⊢
   obtain ⟨h1,h2,h3⟩:=ypl l a D h
   exact ⟨h1,Nat.le_succ_of_le h2,h3⟩
theorem yvj {d:Nat} (h:d<65536) (r:List UInt8):nb ((UInt8.ofNat (d/256)::UInt8.ofNat (d%256)::r).take 2)=d:=by
 show (0*256+(UInt8.ofNat (d/256)).toNat)*256+(UInt8.ofNat (d%256)).toNat=d
 rw [UInt8.toNat_ofNat',UInt8.toNat_ofNat'];omega
theorem yvk {l:List UInt8} {a n d:Nat} (hn:4≤n) (hn2:n≤131) (hd:1≤d) (hda:d≤a) (ha:a<65536) (hal:a+n≤l.length) (h:∀ j,j<n→yaN l a d j) (b:List UInt8):und (l.take a) (tok n d++b)=und (l.take (a+n)) b:=by
 have hc:(UInt8.ofNat (124+n)).toNat=124+n:=by rw [UInt8.toNat_ofNat'];omega
 have hnb:=yvj (d:=d) (by omega) b
 have ht:(l.take a).length=a:=by rw [List.length_take];omega
 show und _ (UInt8.ofNat (124+n)::(UInt8.ofNat (d/256)::UInt8.ofNat (d%256)::b))=_
 rw [ygl (by rw [hc];omega) (by simp) (by rw [hnb,ht];omega),hnb,hc,show 124+n-124=n by omega]
 have:=ylk hd hda h n 0 (by omega) (by omega)
 rw [Nat.add_zero] at this
 rw [this];rfl
theorem yjp {l:List UInt8} (hl:l.length≤20000):∀ f fr a,fr≤a→a≤l.length→l.length-a≤f→und (l.take fr) (dcF l f fr a)=some l
 | f,fr,a,hfa,hal,hf=>by
  have yai:und (l.take fr) (spL (l.drop fr))=some l:=by
   have:=yjo _ (l.drop fr) (Nat.le_refl _) (l.take fr) []
   rw [List.append_nil,List.take_append_drop,yfN] at this;exact this
  cases f with
  | zero=>exact yai
  | succ f =>
   by_cases hlt:a<l.length
   ·rw [dcF,if_pos hlt]
    by_cases h4:(vB l a a).1<4
    ·rw [if_pos h4];exact yjp hl f fr (a+1) (by omega) (by omega) (by omega)
    ·rw [if_neg h4]
     obtain ⟨b1,b2,b3⟩:=ypl l a a (by omega)
     have ydw:=ydm l a (by omega) a
     have zL:=ygf l a (vB l a a).2
     rw [b3] at zL
     have eseg:l.take fr++(l.drop fr).take (a-fr)=l.take a:=by
      rw [List.take_drop,show fr+(a-fr)=a by omega,show l.take fr=(l.take a).take fr by rw [List.take_take,Nat.min_eq_left hfa],List.take_append_drop]
     rw [yjo _ _ (Nat.le_refl _),eseg,yvk (by omega) zL.le b1 b2 (by omega) ydw zL.same]
     exact yjp hl f _ _ (Nat.le_refl _) ydw (by omega)
   ·rw [yjk hlt];exact yai
theorem yvl {l:List UInt8} (hl:l.length≤20000):und [] (yet l)=some l:=yjp hl l.length 0 0 (Nat.le_refl _) (Nat.zero_le _) (Nat.le_refl _)
set_option maxHeartbeats 2000000
section
open Go.RowKit
open Go.Lib
theorem ybO.below {L:List UInt8} {len:Nat} {w W w':World} {e:Ending} (h:ybO L len W e w') (hb:Below w.heap.size w W):ybO L len w e w':=by
 obtain ⟨h1,h2⟩:=h
 exact ⟨hb.trans (h1.mono hb.size),h2⟩
theorem ymA (kk:Int) (ff:Nat) (n:Int) (X:ByteArray) (p:Option Addr) (len c:Nat) (L:List UInt8) (m:Nat) (w:World) (hkk:(kk=2∧ff=109)∨(kk=3∧ff=110)∨(kk=5∧ff=111))
  (hc:∀ W,Below w.heap.size w W→Calls Tryz.prog ff #[.slice p len c,.int .i64 n] W (ybO L m W)) :
  Calls Tryz.prog 61 #[.agg #[.int .i64 kk,.int .i64 n,.string X],.slice p len c] w (ybO L m w):=by
 obtain ⟨W1,vK⟩:∃ W1,Hid (w.alloc (.cells #[.int .i64 kk,.int .i64 n,.string X] 45)=W1):=⟨_,Lib.hid rfl⟩
 have zG:Hid (Below w.heap.size w W1):=Lib.hid (by rw [← vK.out];exact (Below.refl _ _).alloc (Nat.le_refl _) _)
 have HC:=Lib.hid (hc W1 zG.out)
 clear hc
 rcases hkk with ⟨rfl,rfl⟩|⟨rfl,rfl⟩|⟨rfl,rfl⟩
 all_goals
  go_enter Tryz.func61,Tryz.ntmps61
  go_wp2_with fail
  try rw [vK.out]
  refine (HC.out).mono ?_
  rintro e w2 ⟨hb2,q2,d2,rfl,h3,h4,h5⟩
  have HF:Hid (ybO L m w (.returned (.tuple #[.slice q2 m d2,.int .i64 0])) w2):=Lib.hid (ybO.below (W:=W1) ⟨hb2,q2,d2,rfl,h3,h4,h5⟩ zG.out)
  clear hb2 h5
  go_wp2_with fail
  go_ret2
  exact HF.out
theorem ywG (n:Int) (X:ByteArray) (p:Option Addr) (len c:Nat) (L:List UInt8) (m:Nat) (w:World)
  (hc:∀ W,Below w.heap.size w W→Calls Tryz.prog 112 #[.slice p len c] W (ybO L m W)) :
  Calls Tryz.prog 61 #[.agg #[.int .i64 4,.int .i64 n,.string X],.slice p len c] w (ybO L m w):=by
 obtain ⟨W1,vK⟩:∃ W1,Hid (w.alloc (.cells #[.int .i64 4,.int .i64 n,.string X] 45)=W1):=⟨_,Lib.hid rfl⟩
 have zG:Hid (Below w.heap.size w W1):=Lib.hid (by rw [← vK.out];exact (Below.refl _ _).alloc (Nat.le_refl _) _)
 have HC:=Lib.hid (hc W1 zG.out)
 clear hc
 go_enter Tryz.func61,Tryz.ntmps61
 go_wp2_with fail
 try rw [vK.out]
 refine (HC.out).mono ?_
 rintro e w2 ⟨hb2,q2,d2,rfl,h3,h4,h5⟩
 have HF:Hid (ybO L m w (.returned (.tuple #[.slice q2 m d2,.int .i64 0])) w2):=Lib.hid (ybO.below (W:=W1) ⟨hb2,q2,d2,rfl,h3,h4,h5⟩ zG.out)
 clear hb2 h5
 go_wp2_with fail
 go_ret2
 exact HF.out
theorem ywH (n:Int) (X:ByteArray) (p:Option Addr) (len c:Nat) (L:List UInt8) (w:World) (hc:len≤c) (hn:p=none→c=0) (ho:Bs w p L) :
  Calls Tryz.prog 61 #[.agg #[.int .i64 1,.int .i64 n,.string X],.slice p len c] w (ybO L len w):=by
 have HF:Hid (ybO L len w (.returned (.tuple #[.slice p len c,.int .i64 0])) (w.alloc (.cells #[.int .i64 1,.int .i64 n,.string X] 45))):=Lib.hid (by
  have hb:Below w.heap.size w (w.alloc (.cells #[.int .i64 1,.int .i64 n,.string X] 45)):=(Below.refl _ _).alloc (Nat.le_refl _) _
  exact ⟨hb,p,c,rfl,Lib.hid hc,Lib.hid hn,ho.below hb⟩)
 clear ho hc hn
 go_enter Tryz.func61,Tryz.ntmps61
 go_wp2_with fail
 go_ret2
 exact HF.out
theorem ytq (x:Sg) (p:Option Addr) (len c:Nat) (l:List UInt8) (w:World) (hok:ydr x=true) (hl:l.length≤10000) (HL:Hid (len=(GO x l).length)) (hc:len≤c) (hn:p=none→c=0) (hb:Bs w p (GO x l)) :
  Calls Tryz.prog 61 #[.agg #[.int .i64 x.1,.int .i64 x.2.1,.string ⟨x.2.2.toArray⟩],.slice p len c] w (ybO l l.length w):=by
 have hlen:=ypk (l:=l) hok hl
 obtain rfl:len=(GO x l).length:=HL.out
 obtain ⟨k,n,s⟩:=x
 rcases ygJ hok with (h1|h4)|⟨h2,h3,h8⟩
 ·have h1:k=1:=h1
  subst h1
  have e:GO (1,n,s) l=l:=by unfold GO;rw [if_neg (by show ¬ (1:Int)=2;decide),if_neg (by show ¬ (1:Int)=3;decide),if_neg (by show ¬ (1:Int)=5;decide),if_neg (by show ¬ (1:Int)=4;decide)]
  rw [e] at hc hb ⊢
  exact ywH n _ _ _ _ l w hc hn hb
 ·have h4:k=4:=h4
  subst h4
  have e:GO (4,n,s) l=yet l:=by unfold GO;rw [if_neg (by show ¬ (4:Int)=2;decide),if_neg (by show ¬ (4:Int)=3;decide),if_neg (by show ¬ (4:Int)=5;decide),if_pos (by show (4:Int)=4;rfl)]
  rw [e] at hc hb hlen ⊢
  exact ywG n _ _ _ _ _ _ w (fun W hW=>yml p c _ (yet l) l W (Lib.hid rfl) (yvl (by omega)) (by omega) hc (hb.below hW))
 ·have h3:1≤n:=h3
  have h8:n≤8:=h8
  obtain ⟨m,rfl⟩:∃ m:Nat,n=m:=⟨n.toNat,by omega⟩
  have m1:1≤m:=by omega
  have m8:m≤8:=by omega
  have h2:k=2∨k=3∨k=5:=h2
  rcases h2 with rfl|rfl|rfl
  ·have e:GO (2,(m:Int),s) l=yiK l m:=by unfold GO;rw [if_pos (by show (2:Int)=2;rfl)];rfl
   rw [e] at hc hb hlen ⊢
   have eu:=yud l m8
   exact ymA 2 109 m _ _ _ _ _ _ w (.inl ⟨rfl,rfl⟩) (fun W hW=>(ynk p c m (yiK l m) W m1 m8 (by omega) hc hn (hb.below hW)).mono (fun _ _ h=>(by rw [eu] at h;exact h.bc rfl)))
  ·have e:GO (3,(m:Int),s) l=yaM l m:=by unfold GO;rw [if_neg (by show ¬ (3:Int)=2;decide),if_pos (by show (3:Int)=3;rfl)];rfl
   rw [e] at hc hb hlen ⊢
   have eu:=yhU l m1
   exact ymA 3 110 m _ _ _ _ _ _ w (.inr (.inl ⟨rfl,rfl⟩)) (fun W hW=>(yju p c m (yaM l m) W m1 m8 (by omega) (hb.below hW)).mono (fun _ _ h=>(by rw [eu] at h;exact h.bc rfl)))
  ·have e:GO (5,(m:Int),s) l=GG l m:=by unfold GO;rw [if_neg (by show ¬ (5:Int)=2;decide),if_neg (by show ¬ (5:Int)=3;decide),if_pos (by show (5:Int)=5;rfl)];rfl
   rw [e] at hc hb hlen ⊢
   exact ymA 5 111 m _ _ _ _ _ _ w (.inr (.inr ⟨rfl,rfl⟩)) (fun W hW=>yhQ p c m _ l.length l (GG l m) W (Lib.hid rfl) m1 m8 (Lib.hid rfl) (by omega) (Lib.hid rfl) (by omega) (Lib.hid hc) (hb.below hW))
end
end Go.Proofs.YtgepehlpjpccaaaGreatDoor
