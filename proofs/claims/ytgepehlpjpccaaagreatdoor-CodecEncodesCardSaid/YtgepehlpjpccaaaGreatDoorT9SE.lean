/- Contracts. -/
import Derived.Test.YtgepehlpjpccaaaGreatDoorNEJ
import Derived.Laws.AppendOwnNone
set_option maxHeartbeats 4000000
set_option maxRecDepth 100000
namespace Go.Proofs.YtgepehlpjpccaaaGreatDoor
theorem yly (n:Nat):∀ (k:Nat) (l:Lb),k*n≤l.length→∀ x ∈ gl n k l,x<256^n
 | 0,_,_,x,h=>by cases h
 | k+1,l,hl,x,h=>by
  rw [Nat.succ_mul] at hl
  rw [gl,List.mem_cons] at h
  rcases h with rfl|h
  ·have h1:=ye8 (l.take n)
   rwa [List.length_take,Nat.min_eq_left (by omega)] at h1
  ·exact yly n k _ (by rw [List.length_drop];omega) x h
theorem yw8 (n:Nat):∀ (k:Nat) (l:Lb),k*n≤l.length→jl n (gl n k l)++l.drop (k*n)=l
 | 0,l,_=>by rw [gl,jl,Nat.zero_mul,List.drop_zero,List.nil_append]
 | k+1,l,hl=>by
  rw [Nat.succ_mul] at hl
  have h1:=yw8 n k (l.drop n) (by rw [List.length_drop];omega)
  rw [List.drop_drop,Nat.add_comm n] at h1
  rw [gl,jl,yr9 n _ (by rw [List.length_take];omega),List.append_assoc,Nat.succ_mul,h1,List.take_append_drop]
theorem ylz {b:Nat→Nat} {t0 d w:Nat} (hd:d<2^w) (hd64:d<zT) (h:∀ j,j<w→b (t0+j)=d/2^(w-1-j)%2):∀ j,j≤w→dfB b t0 j=d/2^(w-j)
 | 0,_=>by rw [dfB,Nat.sub_zero,Nat.div_eq_of_lt hd]
 | j+1,hj=>by
  have h1:=ylz hd hd64 h j (by omega)
  have h2:=yqx d (w:=w) (j:=j) (by omega)
  have h3:d/2^(w-1-j)<zT:=Nat.lt_of_le_of_lt (Nat.div_le_self _ _) hd64
  have e:w-(j+1)=w-1-j:=by omega
  rw [dfB,h1,h j (by omega),e,Nat.mod_eq_of_lt (by omega)]
  exact h2.symm
theorem yye {gs:List Nat} {m w:Nat} {l2:Lb} (hm:∀ g ∈ gs,m≤g) (hg:∀ g ∈ gs,g<zT) (hw:∀ g ∈ gs,g-m<2^w) (hb:∀ t,t<gs.length*w→rdB l2 t=btF gs m w t):unG (rdB l2) w m gs.length=gs:=by
 refine List.ext_getElem (by rw [ycS]) fun i h1 h2=>?_
 have ykX:gs[i] ∈ gs:=List.getElem_mem h2
 have hgd:gs.getD i 0=gs[i]:=by rw [gD h2];rfl
 have hdl:gs[i]-m<zT:=Nat.lt_of_le_of_lt (Nat.sub_le _ _) (hg _ ykX)
 have h3:dfB (rdB l2) (i*w) w=gs[i]-m:=by
  rw [ylz (hw _ ykX) hdl (fun j hj=>?_) w nl,Nat.sub_self,Nat.pow_zero,Nat.div_one]
  have h5:(i+1)*w≤gs.length*w:=Nat.mul_le_mul_right _ h2
  rw [Nat.succ_mul] at h5
  rw [hb _ (by omega),ynf _ _ hj,hgd]
 have h4:=hm _ ykX
 have h6:=hg _ ykX
 simp only [unG,List.getElem_map,List.getElem_range,unV,h3]
 rw [show m+(gs[i]-m)=gs[i] by omega]
 exact Nat.mod_eq_of_lt h6
theorem ywp {gs:List Nat} (hg:∀ g ∈ gs,g<zT):∀ g ∈ gs,g-mnL gs<2^wdL gs:=by
 intro g h
 have h1:=ysQ h
 have h2:=ynd hg
 exact Nat.lt_of_le_of_lt (Nat.sub_le_sub_right h1 _) (yzC (Nat.lt_of_le_of_lt (Nat.sub_le _ _) h2))
structure PkParts (l:Lb) (n k:Nat) (P:Lb) (m wd s:Nat) (rs:Lb):Prop where
 len:P.length=rs.length+s+(n+1)+4
 hs:s=(k*wd+7)/8
 cnt:nb (P.take 4)=k
 lst:nb ((P.drop 4).take n)=m
 wid:((P.drop 4).getD n 0).toNat=wd
 wdl:wd≤64
 rsl:rs.length+k*n=l.length
 out:jl n (unG (rdB ((P.drop 4).drop (n+1))) wd m k)++((P.drop 4).drop (n+1)).drop s=l
 grp:unG (rdB ((P.drop 4).drop (n+1))) wd m k=gl n k l
 rst:((P.drop 4).drop (n+1)).drop s=rs
theorem ymG {l:Lb} {n:Nat} (_h1:1≤n) (h2:n≤8) (hl:l.length≤1048576) (hk0:0<l.length/n) :
  PkParts l n (l.length/n) (uU l n) (mnL (gl n (l.length/n) l)) (wdL (gl n (l.length/n) l)) ((l.length/n*wdL (gl n (l.length/n) l)+7)/8) (l.drop (l.length/n*n)):=by
 obtain ⟨k,HK⟩:∃ k,k=l.length/n:=⟨_,rfl⟩
 rw [← HK] at hk0 ⊢
 have hkn:k*n≤l.length:=by rw [HK];exact Nat.div_mul_le_self _ _
 have hkl:k≤1048576:=by rw [HK];exact Nat.le_trans (Nat.div_le_self _ _) hl
 obtain ⟨gs,HG⟩:∃ gs,gs=gl n k l:=⟨_,rfl⟩
 have hgl:gs.length=k:=by rw [HG,uL]
 have hg64:∀ g ∈ gs,g<zT:=by rw [HG];exact ykI h2 k l
 have hg256:∀ g ∈ gs,g<256^n:=by rw [HG];exact yly n k l hkn
 have hne:gs≠[]:=fun e=>by rw [← List.length_eq_zero_iff,hgl] at e;omega
 have hm256:mnL gs<256^n:=by
  cases hc:gs with
  | nil=>exact absurd hc hne
  | cons x xs=>rw [← hc];exact Nat.lt_of_le_of_lt (ygN (by rw [hc];exact List.mem_cons_self)) (hg256 x (by rw [hc];exact List.mem_cons_self))
 have hw64:wdL gs≤64:=ynh gs
 have hP:uU l n=be 4 k++(be n (mnL gs)++([UInt8.ofNat (wdL gs)]++(pkF gs++l.drop (k*n)))):=by
  rw [uU,← HK,← HG,ydQ,pkB,if_neg (by rw [hgl];omega),hgl];simp only [List.append_assoc]
 have hpk:(pkF gs).length=(k*wdL gs+7)/8:=by rw [pkF,vK,hgl]
 rw [← HG]
 have hd4:(uU l n).drop 4=be n (mnL gs)++([UInt8.ofNat (wdL gs)]++(pkF gs++l.drop (k*n))):=by
  rw [hP];exact ygh 4 k _
 have hd5:((uU l n).drop 4).drop (n+1)=pkF gs++l.drop (k*n):=by
  have e:((uU l n).drop 4).drop (n+1)=(((uU l n).drop 4).drop n).drop 1:=by
   generalize (uU l n).drop 4=X
   rw [List.drop_drop]
  rw [e,hd4,ygh];rfl
 have hrst:((uU l n).drop 4 |>.drop (n+1)).drop ((k*wdL gs+7)/8)=l.drop (k*n):=by rw [hd5,← hpk];exact List.drop_left
 have hgrp:unG (rdB (((uU l n).drop 4).drop (n+1))) (wdL gs) (mnL gs) k=gs:=by
  have hu:=yye (m:=mnL gs) (w:=wdL gs) (l2:=pkF gs++l.drop (k*n)) (fun g h=>ygN h) hg64 (ywp hg64) (fun t ht=>by
   rw [rdB,List.getD_eq_getElem?_getD,List.getElem?_append_left (by rw [hpk,← hgl];omega),← List.getD_eq_getElem?_getD]
   exact yvT _ (yne gs (mnL gs) (wdL gs)) ht)
  rw [hgl] at hu
  rw [hd5,hu]
 refine ⟨?_,rfl,?_,?_,?_,hw64,by rw [List.length_drop];omega,?_,by rw [hgrp,HG],hrst⟩
 ·rw [hP];simp only [List.length_append,zE,List.length_cons,List.length_nil,hpk];omega
 ·rw [hP,ygg,ykE];exact Nat.mod_eq_of_lt (by omega)
 ·rw [hd4,ygg,ykE];exact Nat.mod_eq_of_lt hm256
 ·rw [hd4,List.getD_eq_getElem?_getD,List.getElem?_append_right (by rw [zE];exact Nat.le_refl _),zE,Nat.sub_self]
  show (UInt8.ofNat (wdL gs)).toNat=_
  rw [UInt8.toNat_ofNat'];exact Nat.mod_eq_of_lt (by omega)
 ·rw [hrst,hgrp,HG]
  exact yw8 n k l hkn
section
open Go.RowKit
open Go.Lib
theorem yoQ (p q:Oa) (c d:Nat) (l:Lb) (w:World) (hp:Bs w p l) (hq:Bs w q l) :
  Calls Tryz.prog 60 #[.slice p l.length c,.slice q l.length d] w fun r w'=>r=.returned (.bool true)∧w=w':=by
 have h1:=GG w p c l hp
 have h2:=GG w q d l hq
 clear hp hq
 obtain ⟨s,hs⟩:∃ s:ByteArray,s=⟨l.toArray⟩:=⟨_,rfl⟩
 rw [← hs] at h1 h2
 clear hs
 go_in
 go_wp2
 go_ret
 exact ⟨rfl,rfl⟩
theorem yjQ {w:World} {p:Oa} {l:Lb} (h:Bs w p l) (hl:0<l.length):∃ b off,p=some ⟨b,off,none⟩:=by
 obtain ⟨b,off,hp,-⟩:=ybl h hl
 exact ⟨b,off,hp⟩
theorem yoR (p:Oa) (c n len0:Nat) (l P:Lb) (w:World) (hP:Hid (P=uU l n)) (h1:1≤n) (h2:n≤8) (hl:l.length≤1048576) (hp0:Hid (P.length=len0)) (hpl:len0≤1048576) (hc:len0≤c) (hb:Bs w p P) :
  Calls Tryz.prog 164 #[.slice p len0 c,.int .i64 (n:Int)] w (ybS l w):=by
 by_cases hk:l.length/n=0
 ·have hP2:P=be 4 0++l:=by rw [hP.out,uU,hk,Nat.zero_mul,List.drop_zero];rfl
  have hl4:P.length=l.length+4:=by rw [hP2,List.length_append,zE,Nat.add_comm]
  obtain ⟨b0,off,rfl⟩:=yjQ hb (by omega)
  have h:=ytr b0 off len0 l.length c (n:Int) P w (h_ (by rw [← hp0.out];exact hl4)) hc (by omega) hp0 (h_ (by rw [hP2,ygg];rfl)) hb
  rwa [hP2,show (be 4 0++l).drop 4=l from ygh 4 0 l] at h
 ·have hp:=ymG h1 h2 hl (Nat.pos_of_ne_zero hk)
  rw [← hP.out] at hp
  obtain ⟨k,HK⟩:∃ k,k=l.length/n:=⟨_,rfl⟩
  obtain ⟨m,HM⟩:∃ m,m=mnL (gl n k l):=⟨_,rfl⟩
  obtain ⟨wd,HW⟩:∃ wd,wd=wdL (gl n k l):=⟨_,rfl⟩
  obtain ⟨s,HS⟩:∃ s,s=(k*wd+7)/8:=⟨_,rfl⟩
  obtain ⟨rs,HR⟩:∃ rs,rs=l.drop (k*n):=⟨_,rfl⟩
  rw [← HK,← HM,← HW,← HS,← HR] at hp
  have hlen:=hp.len
  have hkn:k*n≤1048576:=by have:=hp.rsl;omega
  have hk0:0<k:=by rw [HK];exact Nat.pos_of_ne_zero hk
  have hwd:=hp.wdl
  have hpo:=hp0.out
  obtain ⟨b0,off,rfl⟩:=yjQ hb (by omega)
  by_cases hc2:c=len0∧s=0∧rs.length=0
  ·obtain ⟨rfl,hs0,hr0⟩:=hc2
   have hwd0:wd=0:=by
    rcases Nat.eq_zero_or_pos wd with h|h
    ·exact h
    ·have:1*1≤k*wd:=Nat.mul_le_mul hk0 h
     omega
   have hw:=hp.wid
   rw [hwd0] at hw
   have h:=yvW b0 off c n (n+1) k m P w h1 h2 (h_ rfl) (h_ (by omega)) hp0 hk0 hkn (h_ hp.cnt) (h_ hp.lst) (h_ hw) hb
   have ho:=hp.out
   have hn:(P.drop 4).drop (n+1)=[]:=by rw [← List.length_eq_zero_iff,List.length_drop,List.length_drop];omega
   rw [hn,hwd0,List.drop_nil] at ho
   rwa [ho] at h
  ·have h:=yvV b0 off len0 (rs.length+s+(n+1)) (rs.length+s) rs.length c (c-4) (c-4-(n+1)) s n (n+1) k m wd P w h1 h2 (h_ rfl) (h_ (by omega)) (h_ rfl) (h_ rfl) (h_ (by omega)) (h_ (by omega)) (by omega) (h_ (by omega)) hc (by omega) hp0 hk0 hkn (by omega) (h_ hp.hs) (h_ hp.cnt) (h_ hp.lst) (h_ hp.wid) hb
   rwa [hp.out] at h
theorem yir (p:Oa) (c n len0 len:Nat) (l P:Lb) (w:World) (hP:Hid (P=uU l n)) (h1:1≤n) (h2:n≤8) (hlen:Hid (len=l.length)) (hl:len≤1048576) (hp0:Hid (P.length=len0)) (hpl:len0≤1048576) (hc:Hid (len0≤c)) (hb:Bs w p P) :
  Calls Tryz.prog 111 #[.slice p len0 c,.int .i64 (n:Int)] w (ycb l len w):=by
 have HA:=h_ (ycv p len0 c n w h1 h2 hpl)
 have HU:=h_ (yoR p c n len0 l P w hP h1 h2 (by rw [← hlen.out];exact hl) hp0 hpl hc.out hb)
 have HB:=h_ hb
 have hn1:1≤(n:Int):=by omega
 have hn8:(n:Int)≤8:=by omega
 clear hb
 go_in
 go_wp2_with fail
 refine (HA.out).mono ?_
 rintro e w' ⟨rfl,rfl⟩
 go_wp2_with fail
 refine (HU.out).mono ?_
 rintro e w1 ⟨hb1,q,d,rfl,hd,hq,hs⟩
 rw [← hlen.out] at hd ⊢
 have yX:=h_ hb1
 have HQ:=hq
 have HS:=h_ hs
 have HPk:=h_ (ylO q d n len l w1 hlen h1 h2 hl hd hq hs)
 clear hb1 hs
 go_wp2_with fail
 refine (HPk.out).mono ?_
 rintro e w2 ⟨hb2,v,rfl,ho⟩
 obtain ⟨q2,d2,rfl,hs2,-⟩:=yS ho
 have jQ:=th yX hb2
 have HE:=h_ (yoQ q2 p d2 c P w2 (by rw [hP.out];exact hs2) (HB.out.below jQ.out))
 have HS2:=h_ (HS.out.below hb2)
 rw [← hP.out,hp0.out]
 rw [hp0.out] at HE
 clear ho hs2 hb2
 go_wp2_with fail
 refine (HE.out).mono ?_
 rintro e w3 ⟨rfl,rfl⟩
 go_wp2
 go_ret2
 exact ⟨jQ.out,_,_,rfl,hd,HQ,HS2.out⟩
theorem ywq:∀ (k:Nat) (out b:Lb),b.length≤k→∀ L,und out b=some L→out.length≤L.length:=by
 intro k
 induction k with
 | zero =>
  intro out b hb L h
  obtain rfl:b=[]:=List.length_eq_zero_iff.1 (by omega)
  rw [ygi] at h
  cases h;exact Nat.le_refl _
 | succ k ih =>
  intro out b hb L h
  cases b with
  | nil=>rw [ygi] at h;cases h;exact Nat.le_refl _
  | cons c r =>
   rw [List.length_cons] at hb
   by_cases hc:c.toNat<128
   ·by_cases hr:r.length<c.toNat+1
    ·rw [ye0 hc hr] at h;cases h
    ·rw [yfo hc (by omega)] at h
     have:=ih _ _ (by rw [List.length_drop];omega) L h
     rw [List.length_append] at this
     omega
   ·by_cases hr:r.length<2
    ·rw [yiy (by omega) hr] at h;cases h
    ·by_cases hd:nb (r.take 2)=0∨out.length<nb (r.take 2)
     ·rw [ypp (by omega) (by omega) hd] at h;cases h
     ·rw [ygW (by omega) (by omega) hd] at h
      have:=ih _ _ (by rw [List.length_drop];omega) L h
      rw [yix] at this
      omega
structure UAw (w wr:World) (L rest o:Lb) (pb:Oa) (n cb:Nat) (ov:Value):Prop where
 len:rest.length=n
 cap:n≤cb
 bytes:Bs w pb rest
 out:Grew w.heap.size w (.slice none 0 0) o wr ov
 eq:und o rest=some L
theorem UAw.below {w wr:World} {l rest o:Lb} {pb:Oa} {n cb:Nat} {ov:Value} (h:UAw w wr l rest o pb n cb ov):Be w wr:=h.out.below nl (by intro k hk;cases hk)
theorem UAw.room {w wr:World} {l rest o:Lb} {pb:Oa} {n cb:Nat} {ov:Value} (h:UAw w wr l rest o pb n cb ov):o.length≤l.length:=ywq _ _ _ nl _ h.eq
theorem UAw.next {w wr w2:World} {l rest o o2:Lb} {b0 off n cb k:Nat} {ov v2:Value} (h:UAw w wr l rest o (some ⟨b0,off,none⟩) n cb ov) (hk:k≤n) (hg:Grew w.heap.size w (.slice none 0 0) o2 w2 v2) (he:und o2 (rest.drop k)=some l) (q:Nat) :
  UAw w (w2.drewN q) l (rest.drop k) o2 (if cb=k then some ⟨b0,off,none⟩ else some ⟨b0,off+k,none⟩) (n-k) (cb-k) v2:=by
 refine ⟨by rw [List.length_drop,h.len],by have:=h.cap;omega,?_,hg.drewN q,he⟩
 split
 ·exact .inl (by rw [List.length_drop,h.len];have:=h.cap;omega)
 ·exact GZ h.bytes k (by rw [h.len];exact hk) rfl
theorem ymH (p:Oa) (c len:Nat) (l L:Lb) (w:World) (HL0:Hid (len=l.length)) (hU:und [] l=some L) (hl:L.length≤200000) (hc:len≤c) (hb:Bs w p l) :
  Calls Tryz.prog 112 #[.slice p len c] w (ycb L L.length w):=by
 have H0:Hid (UAw w w L l [] p len c (.slice none 0 0)):=h_ ⟨HL0.out.symm,hc,hb,Grew.refl (l:=[]) (World.ownsRow_nil w w.heap.size 5 1),hU⟩
 have HL8:=h_ hl
 clear hb hc hU
 go_in
 go_wp2
 go_loopw [0,4] (fun bv ov wr=>∃ (rest o:Lb) (pb:Oa) (n cb:Nat),bv=.slice pb n cb∧Hid (UAw w wr L rest o pb n cb ov)) (fun bv _ _=>yAm bv)
 case atStart=>exact ⟨l,[],p,_,_,rfl,H0⟩
 case round =>
  obtain ⟨rest,o,pb,n,cb,rfl,HU⟩:=hrel
  cases rest with
  | nil =>
   obtain rfl:n=0:=HU.out.len.symm
   go_wp2
   go_ret2
   have h:=HU.out
   have e:=h.eq
   rw [ygi] at e
   obtain rfl:o=L:=Option.some.inj e
   obtain ⟨q5,d5,rfl,h5,h6⟩:=yS h.out.own
   exact ⟨h.below,_,_,rfl,h_ h6,h_ (yaX h.out.own),h5⟩
  | cons x r =>
   have hlen:=HU.out.len
   rw [List.length_cons] at hlen
   obtain ⟨b0,off,d,rfl,hb0,hc0,hd,hd2⟩:=(HU.out.bytes.below HU.out.below).at (k:=0) (by simp)
   have hn0:0<n:=by omega
   rw [Nat.add_zero] at hc0
   obtain ⟨qo,co,rfl,-,-⟩:=yS HU.out.out.own
   have HL:=h_ hlen
   clear hlen
   have hx:Hid (x.toNat=d):=h_ hd.out
   have hbw:Hid (Be w wr):=h_ HU.out.below
   have hno:Hid ((o.length:Int)≤200000):=h_ (by have:=HU.out.room;have:=HL8.out;omega)
   by_cases hp:d<128
   ·have t1:decide ((128:Int)≤(d:Int))=false:=by simp;omega
    by_cases hs:n<d+2
    ·have e:=HU.out.eq
     rw [ye0 (by rw [hx.out];exact hp) (by rw [hx.out];have:=HL.out;omega)] at e
     cases e
    ·have hB2:=HU.out.bytes.below hbw.out
     have HT:=h_ (yj0 w.heap.size qo o (x::r) co b0 off cb d n wr hbw.out.size HU.out.out.own (by simp [HL.out]) hB2 hx.out (by have:=hno.out;omega) (by omega) HU.out.cap)
     have hR:Hid (und (o++((x::r).drop 1).take (d+1)) ((x::r).drop (d+2))=some L):=h_ (by rw [← HU.out.eq,yfo (by rw [hx.out];exact hp) (by rw [hx.out];have:=HL.out;omega),hx.out];rfl)
     have hcb:=HU.out.cap
     clear hB2
     go_wp2_with fail
     refine (HT.out).mono ?_
     rintro e w2 ⟨v2,rfl,hg2⟩
     have HG2:=h_ (HU.out.out.trans hg2)
     clear hg2
     go_wp2_with fail
     go_quiet (fail)
     go_wp2
     go_roundw
     case rel=>exact ⟨_,_,_,_,_,rfl,h_ (HU.out.next (by omega) HG2.out hR.out _)⟩
     case measure=>show n-(d+2)<n;omega
   ·have t1:decide ((128:Int)≤(d:Int))=true:=by simp;omega
    by_cases hs:n<3
    ·have e:=HU.out.eq
     rw [yiy (by rw [hx.out];omega) (by have:=HL.out;omega)] at e
     cases e
    ·have hB2:=HU.out.bytes.below hbw.out
     by_cases hf:nb (r.take 2)=0∨o.length<nb (r.take 2)
     ·have e:=HU.out.eq
      rw [ypp (by rw [hx.out];omega) (by have:=HL.out;omega) hf] at e
      cases e
     ·have HT:=h_ (ymc w.heap.size qo o (x::r) co b0 off cb d n wr hbw.out.size HU.out.out.own (by simp [HL.out]) hB2 hx.out (by omega) (by have:=hno.out;omega) (by omega) HU.out.cap (fun h=>hf (.inl h)) (by exact Nat.le_of_not_lt fun h=>hf (.inr h)))
      have hR:Hid (und (cp (d-124) (nb (((x::r).drop 1).take 2)) o) ((x::r).drop 3)=some L):=h_ (by rw [← HU.out.eq,ygW (by rw [hx.out];omega) (by have:=HL.out;omega) hf,hx.out];rfl)
      have hcb:=HU.out.cap
      clear hB2 hf
      go_wp2_with fail
      refine (HT.out).mono ?_
      rintro e w2 ⟨v2,rfl,hg2⟩
      have HG2:=h_ (HU.out.out.trans hg2)
      clear hg2
      go_wp2_with fail
      go_quiet (fail)
      go_wp2
      go_roundw
      case rel=>exact ⟨_,_,_,_,_,rfl,h_ (HU.out.next (by omega) HG2.out hR.out _)⟩
      case measure=>show n-3<n;omega
end
theorem yjR:∀ (k:Nat) (l:Lb),l.length≤k→∀ out b,und out (spL l++b)=und (out++l) b
 | 0,l,h,out,b=>by
  obtain rfl:=List.eq_nil_of_length_eq_zero (Nat.le_zero.1 h)
  rw [ygs,List.nil_append,List.append_nil]
 | k+1,l,h,out,b=>by
  by_cases h0:0<l.length
  ·obtain ⟨m,hm⟩:∃ m,m=min l.length 128:=⟨_,rfl⟩
   have hc:(UInt8.ofNat (m-1)).toNat=m-1:=by rw [UInt8.toNat_ofNat'];omega
   have htl:(l.take m).length=m:=by rw [List.length_take];omega
   have h1:=yjR k (l.drop m) (by rw [List.length_drop];omega) (out++l.take m) b
   rw [ydp h0,← hm,List.cons_append,List.append_assoc,yfo (by rw [hc];omega) (by rw [hc,List.length_append,htl];omega),hc,show m-1+1=m by omega]
   have e1:(l.take m++(spL (l.drop m)++b)).take m=l.take m:=by
    have:=List.take_left (l₁:=l.take m) (l₂:=spL (l.drop m)++b);rwa [htl] at this
   have e2:(l.take m++(spL (l.drop m)++b)).drop m=spL (l.drop m)++b:=by
    have:=List.drop_left (l₁:=l.take m) (l₂:=spL (l.drop m)++b);rwa [htl] at this
   rw [e1,e2,h1,List.append_assoc,List.take_append_drop]
  ·obtain rfl:=List.eq_nil_of_length_eq_zero (by omega:l.length=0)
   rw [ygs,List.nil_append,List.append_nil]
theorem ylA {l:Lb} {a d n:Nat} (hd:1≤d) (hda:d≤a) (h:∀ j,j<n→yai l a d j):∀ m i,i+m≤n→a+i≤l.length→cp m d (l.take (a+i))=l.take (a+i+m)
 | 0,_,_,_=>rfl
 | m+1,i,hi,hl=>by
  obtain ⟨h1,h2⟩:=h i (by omega)
  have hlen:(l.take (a+i)).length=a+i:=by rw [List.length_take];omega
  have e:(l.take (a+i)).getD (a+i-d) 0=l.getD (a+i) 0:=by
   rw [h2,List.getD_eq_getElem?_getD,List.getElem?_take_of_lt (by omega),← List.getD_eq_getElem?_getD]
  rw [cp,hlen,e,← ydG 0 h1,show a+i+1=a+(i+1) by omega,ylA hd hda h m (i+1) (by omega) (by omega)]
  congr 1;omega
theorem ypK (l:Lb) (a:Nat):∀ D,0<(jH l a D).1→1≤(jH l a D).2∧(jH l a D).2≤D∧rn l a (jH l a D).2=(jH l a D).1
 | 0,h=>by cases h
 | D+1,h=>by
  rw [jH] at h ⊢
  by_cases hc:(jH l a D).1<rn l a (D+1)
  ·rw [if_pos hc];exact ⟨Nat.le_add_left _ _,Nat.le_refl _,rfl⟩
  ·rw [if_neg hc] at h ⊢
   obtain ⟨h1,h2,h3⟩:=ypK l a D h
   exact ⟨h1,Nat.le_succ_of_le h2,h3⟩
theorem ywr {d:Nat} (h:d<65536) (r:Lb):nb ((UInt8.ofNat (d/256)::UInt8.ofNat (d%256)::r).take 2)=d:=by
 show (0*256+(UInt8.ofNat (d/256)).toNat)*256+(UInt8.ofNat (d%256)).toNat=d
 rw [UInt8.toNat_ofNat',UInt8.toNat_ofNat'];omega
theorem yws {l:Lb} {a n d:Nat} (hn:4≤n) (hn2:n≤131) (hd:1≤d) (hda:d≤a) (ha:a<65536) (hal:a+n≤l.length) (h:∀ j,j<n→yai l a d j) (b:Lb):und (l.take a) (tok n d++b)=und (l.take (a+n)) b:=by
 have hc:(UInt8.ofNat (124+n)).toNat=124+n:=by rw [UInt8.toNat_ofNat'];omega
 have hnb:=ywr (d:=d) (by omega) b
 have ht:(l.take a).length=a:=by rw [List.length_take];omega
 show und _ (UInt8.ofNat (124+n)::(UInt8.ofNat (d/256)::UInt8.ofNat (d%256)::b))=_
 rw [ygW (by rw [hc];omega) (by simp) (by rw [hnb,ht];omega),hnb,hc,show 124+n-124=n by omega]
 have:=ylA hd hda h n 0 (by omega) (by omega)
 rw [Nat.add_zero] at this
 rw [this];rfl
theorem yjS {l:Lb} (hl:l.length≤20000):∀ f fr a,fr≤a→a≤l.length→l.length-a≤f→und (l.take fr) (dcF l f fr a)=some l
 | f,fr,a,hfa,hal,hf=>by
  have yaI:und (l.take fr) (spL (l.drop fr))=some l:=by
   have:=yjR _ (l.drop fr) nl (l.take fr) []
   rw [List.append_nil,List.take_append_drop,ygi] at this;exact this
  cases f with
  | zero=>exact yaI
  | succ f =>
   by_cases hlt:a<l.length
   ·rw [dcF,if_pos hlt]
    by_cases h4:(jH l a a).1<4
    ·rw [if_pos h4];exact yjS hl f fr (a+1) (by omega) (by omega) (by omega)
    ·rw [if_neg h4]
     obtain ⟨b1,b2,b3⟩:=ypK l a a (by omega)
     have ycd:=ycC l a (by omega) a
     have jY:=ye6 l a (jH l a a).2
     rw [b3] at jY
     have eseg:l.take fr++(l.drop fr).take (a-fr)=l.take a:=by
      rw [List.take_drop,show fr+(a-fr)=a by omega,show l.take fr=(l.take a).take fr by rw [List.take_take,Nat.min_eq_left hfa],List.take_append_drop]
     rw [yjR _ _ nl,eseg,yws (by omega) jY.le b1 b2 (by omega) ycd jY.same]
     exact yjS hl f _ _ nl ycd (by omega)
   ·rw [ygu hlt];exact yaI
theorem ywt {l:Lb} (hl:l.length≤20000):und [] (ybP l)=some l:=yjS hl l.length 0 0 nl (Nat.zero_le _) nl
section
open Go.RowKit
open Go.Lib
theorem ycb.below {L:Lb} {len:Nat} {w W w':World} {e:Ending} (h:ycb L len W e w') (hb:Be w W):ycb L len w e w':=by
 obtain ⟨h1,h2⟩:=h
 exact ⟨tr hb h1,h2⟩
theorem ym8 (kk:Int) (ff:Nat) (n:Int) (X:ByteArray) (p:Oa) (len c:Nat) (L:Lb) (m:Nat) (w:World) (hkk:(kk=2∧ff=109)∨(kk=3∧ff=110)∨(kk=5∧ff=111))
  (hc:∀ W,Be w W→Calls Tryz.prog ff #[.slice p len c,.int .i64 n] W (ycb L m W)) :
  Calls Tryz.prog 61 #[.agg #[.int .i64 kk,.int .i64 n,.string X],.slice p len c] w (ycb L m w):=by
 obtain ⟨W1,vI⟩:∃ W1,Hid (w.alloc (.cells #[.int .i64 kk,.int .i64 n,.string X] 45)=W1):=⟨_,h_ rfl⟩
 have yX:Hid (Be w W1):=h_ (by rw [← vI.out];exact bR.alloc nl _)
 have HC:=h_ (hc W1 yX.out)
 clear hc
 rcases hkk with ⟨rfl,rfl⟩|⟨rfl,rfl⟩|⟨rfl,rfl⟩
 all_goals
  go_in
  go_wp2_with fail
  try rw [vI.out]
  refine (HC.out).mono ?_
  rintro e w2 ⟨hb2,q2,d2,rfl,h3,h4,h5⟩
  have HF:Hid (ycb L m w (.returned (.tuple #[.slice q2 m d2,.int .i64 0])) w2):=h_ (ycb.below (W:=W1) ⟨hb2,q2,d2,rfl,h3,h4,h5⟩ yX.out)
  clear hb2 h5
  go_wp2
  go_ret2
  exact HF.out
theorem yyf (n:Int) (X:ByteArray) (p:Oa) (len c:Nat) (L:Lb) (m:Nat) (w:World)
  (hc:∀ W,Be w W→Calls Tryz.prog 112 #[.slice p len c] W (ycb L m W)) :
  Calls Tryz.prog 61 #[.agg #[.int .i64 4,.int .i64 n,.string X],.slice p len c] w (ycb L m w):=by
 obtain ⟨W1,vI⟩:∃ W1,Hid (w.alloc (.cells #[.int .i64 4,.int .i64 n,.string X] 45)=W1):=⟨_,h_ rfl⟩
 have yX:Hid (Be w W1):=h_ (by rw [← vI.out];exact bR.alloc nl _)
 have HC:=h_ (hc W1 yX.out)
 clear hc
 go_in
 go_wp2_with fail
 try rw [vI.out]
 refine (HC.out).mono ?_
 rintro e w2 ⟨hb2,q2,d2,rfl,h3,h4,h5⟩
 have HF:Hid (ycb L m w (.returned (.tuple #[.slice q2 m d2,.int .i64 0])) w2):=h_ (ycb.below (W:=W1) ⟨hb2,q2,d2,rfl,h3,h4,h5⟩ yX.out)
 clear hb2 h5
 go_wp2
 go_ret2
 exact HF.out
theorem yyg (n:Int) (X:ByteArray) (p:Oa) (len c:Nat) (L:Lb) (w:World) (hc:len≤c) (hn:p=none→c=0) (ho:Bs w p L) :
  Calls Tryz.prog 61 #[.agg #[.int .i64 1,.int .i64 n,.string X],.slice p len c] w (ycb L len w):=by
 have HF:Hid (ycb L len w (.returned (.tuple #[.slice p len c,.int .i64 0])) (w.alloc (.cells #[.int .i64 1,.int .i64 n,.string X] 45))):=h_ (by
  have hb:Be w (w.alloc (.cells #[.int .i64 1,.int .i64 n,.string X] 45)):=bR.alloc nl _
  exact ⟨hb,p,c,rfl,h_ hc,h_ hn,ho.below hb⟩)
 clear ho hc hn
 go_in
 go_wp2
 go_ret2
 exact HF.out
theorem yt2 (x:Sg) (p:Oa) (len c:Nat) (l:Lb) (w:World) (hok:yde x=true) (hl:l.length≤10000) (HL:Hid (len=(uG x l).length)) (hc:len≤c) (hn:p=none→c=0) (hb:Bs w p (uG x l)) :
  Calls Tryz.prog 61 #[.agg #[.int .i64 x.1,.int .i64 x.2.1,.string ⟨x.2.2.toArray⟩],.slice p len c] w (ycb l l.length w):=by
 have hlen:=yqe (l:=l) hok hl
 obtain rfl:len=(uG x l).length:=HL.out
 obtain ⟨k,n,s⟩:=x
 rcases yeS hok with (h1|h4)|⟨h2,h3,h8⟩
 ·have h1:k=1:=h1
  subst h1
  have e:uG (1,n,s) l=l:=by unfold uG;rw [if_neg (by show ¬ (1:Int)=2;decide),if_neg (by show ¬ (1:Int)=3;decide),if_neg (by show ¬ (1:Int)=5;decide),if_neg (by show ¬ (1:Int)=4;decide)]
  rw [e] at hc hb ⊢
  exact yyg n _ _ _ _ l w hc hn hb
 ·have h4:k=4:=h4
  subst h4
  have e:uG (4,n,s) l=ybP l:=by unfold uG;rw [if_neg (by show ¬ (4:Int)=2;decide),if_neg (by show ¬ (4:Int)=3;decide),if_neg (by show ¬ (4:Int)=5;decide),if_pos (by show (4:Int)=4;rfl)]
  rw [e] at hc hb hlen ⊢
  exact yyf n _ _ _ _ _ _ w (fun W hW=>ymH p c _ (ybP l) l W (h_ rfl) (ywt (by omega)) (by omega) hc (hb.below hW))
 ·have h3:1≤n:=h3
  have h8:n≤8:=h8
  obtain ⟨m,rfl⟩:∃ m:Nat,n=m:=⟨n.toNat,by omega⟩
  have m1:1≤m:=by omega
  have m8:m≤8:=by omega
  have h2:k=2∨k=3∨k=5:=h2
  rcases h2 with rfl|rfl|rfl
  ·have e:uG (2,(m:Int),s) l=yeV l m:=by unfold uG;rw [if_pos (by show (2:Int)=2;rfl)];rfl
   rw [e] at hc hb hlen ⊢
   have eu:=yvO l m8
   exact ym8 2 109 m _ _ _ _ _ _ w (.inl ⟨rfl,rfl⟩) (fun W hW=>(yoh p c m (yeV l m) W m1 m8 (by omega) hc hn (hb.below hW)).mono (fun _ _ h=>(by rw [eu] at h;exact h.bc rfl)))
  ·have e:uG (3,(m:Int),s) l=yaj l m:=by unfold uG;rw [if_neg (by show ¬ (3:Int)=2;decide),if_pos (by show (3:Int)=3;rfl)];rfl
   rw [e] at hc hb hlen ⊢
   have eu:=yiw l m1
   exact ym8 3 110 m _ _ _ _ _ _ w (.inr (.inl ⟨rfl,rfl⟩)) (fun W hW=>(yj2 p c m (yaj l m) W m1 m8 (by omega) (hb.below hW)).mono (fun _ _ h=>(by rw [eu] at h;exact h.bc rfl)))
  ·have e:uG (5,(m:Int),s) l=uU l m:=by unfold uG;rw [if_neg (by show ¬ (5:Int)=2;decide),if_neg (by show ¬ (5:Int)=3;decide),if_pos (by show (5:Int)=5;rfl)];rfl
   rw [e] at hc hb hlen ⊢
   exact ym8 5 111 m _ _ _ _ _ _ w (.inr (.inr ⟨rfl,rfl⟩)) (fun W hW=>yir p c m _ l.length l (uU l m) W (h_ rfl) m1 m8 (h_ rfl) (by omega) (h_ rfl) (by omega) (h_ hc) (hb.below hW))
theorem ylB {k:Int} (h1:1≤k) (h4:k≤4):0<vG k:=by
 unfold vG
 have:k=1∨k=2∨k=3∨k=4:=by omega
 rcases this with rfl|rfl|rfl|rfl<;>decide
def dvS (l:Lb) (a:Nat):Nat:=match l with
 | []=>a
 | c::r=>dvS r (if c=45 then a else 10*a+(c.toNat-48))
theorem ysL:∀ (l:Lb) (a:Nat),a≤dvS l a
 | [],a=>Nat.le_refl a
 | c::r,a=>by
  rw [dvS]
  refine Nat.le_trans ?_ (ysL r _)
  split<;>omega
theorem yeA:∀ (l m:Lb) (a:Nat),dvS (l++m) a=dvS m (dvS l a)
 | [],_,_=>rfl
 | c::r,m,a=>by rw [List.cons_append,dvS,dvS,yeA r m]
theorem yt3 {l:Lb} {i:Nat} (h:i<l.length):dvS (l.take (i+1)) 0=(if l.getD i 0=45 then dvS (l.take i) 0 else 10*dvS (l.take i) 0+((l.getD i 0).toNat-48)):=by
 rw [ydF h,yeA];rfl
theorem yyh (l:Lb) (i:Nat):dvS (l.take i) 0≤dvS l 0:=by
 have h:=yeA (l.take i) (l.drop i) 0
 rw [List.take_append_drop] at h
 rw [h];exact ysL _ _
theorem ywu (u:Nat):dvS (decDigits u) 0=u∧∀ c ∈ decDigits u,48≤c.toNat∧c.toNat≤57:=by
 induction u using Nat.strongRecOn with
 | _ u ih =>
  by_cases h:u<10
  ·rw [decDigits_one h]
   have e:=yct h
   have hne:UInt8.ofNat (48+u)≠45:=fun e2=>by rw [e2] at e;have:(45:UInt8).toNat=45:=rfl;omega
   refine ⟨?_,fun c hc=>?_⟩
   ·rw [dvS,dvS,if_neg hne,e];omega
   ·obtain rfl:=List.mem_singleton.1 hc
    rw [e];omega
  ·rw [yjO h]
   obtain ⟨h1,h2⟩:=ih (u/10) (by omega)
   have e:=yct (Nat.mod_lt u (show 0<10 by omega))
   have hne:UInt8.ofNat (48+u%10)≠45:=fun e2=>by rw [e2] at e;have:(45:UInt8).toNat=45:=rfl;omega
   refine ⟨?_,fun c hc=>?_⟩
   ·rw [yeA,h1,dvS,dvS,if_neg hne,e];omega
   ·rcases List.mem_append.1 hc with hc|hc
    ·exact h2 c hc
    ·obtain rfl:=List.mem_singleton.1 hc
     rw [e];omega
theorem yq3 (x:Lb) (q:Rat) (w:World) (hq:Hid (num x=some q)) (hd:Hid (q.den=1)) (hb:Hid (-9223372036854775808≤q.num∧q.num<9223372036854775808)) :
  Calls Tryz.prog 155 #[.string ⟨x.toArray⟩] w (Qp (.int .u64 (vT x:Int)) w):=by
 obtain ⟨u,HU⟩:=ez (q.num.natAbs)
 have hu:u≤9223372036854775808:=by have:=hb.out;have:=HU.out;omega
 obtain ⟨neg,HNG⟩:∃ b,Hid (decide (q.num<0)=b):=⟨_,rfl⟩
 have hx:=yfx hq.out
 rw [if_pos hd.out,List.append_nil,HU.out,HNG.out] at hx
 obtain ⟨hv1,hv2⟩:=ywu u
 obtain ⟨d0,r0,hd0,hd1,hd2⟩:=yfw u
 have HX:=h_ hx
 have HV:Hid (dvS x 0=u):=h_ (by
  rw [hx,yeA]
  cases neg
  ·exact hv1
  ·exact hv1)
 have HA:Hid (∀ i,i<x.length→x.getD i 0=45∨(48≤(x.getD i 0).toNat∧(x.getD i 0).toNat≤57)):=h_ (fun i hi=>by
  have hm:x.getD i 0 ∈ x:=by rw [gD hi];exact List.getElem_mem _
  generalize x.getD i 0=c at hm
  rw [hx] at hm
  rcases List.mem_append.1 hm with hm|hm
  ·cases neg
   ·cases hm
   ·exact .inl (List.mem_singleton.1 hm)
  ·exact .inr (hv2 c hm))
 have H0:Hid (0<x.length∧((x.getD 0 0).toNat=45↔neg=true)):=h_ (by
  rw [hx,hd0]
  cases neg
  ·refine ⟨by simp,?_⟩
   show d0.toNat=45↔false=true
   exact ⟨fun e=>by omega,fun e=>by cases e⟩
  ·exact ⟨by simp,⟨fun _=>rfl,fun _=>rfl⟩⟩)
 have HR:Hid ((if neg then (-(u:Int))%18446744073709551616 else (u:Int))=(vT x:Int)):=h_ (by
  unfold vT
  rw [hq.out]
  show _=(((q.num%18446744073709551616).toNat:Nat):Int)
  have h1:=HU.out
  have h2:=hb.out
  cases neg
  ·have h3:¬ q.num<0:=by simpa using HNG.out
   rw [if_neg (by simp)];omega
  ·have h3:q.num<0:=by simpa using HNG.out
   rw [if_pos rfl];omega)
 obtain ⟨s,HS⟩:∃ s:ByteArray,Hid (s=⟨x.toArray⟩):=⟨_,rfl⟩
 rw [← HS.out]
 have HN:Hid (s.size=x.length):=h_ (by rw [HS.out];rfl)
 have HG:Hid (∀ k (h:k<s.size),(s[k]).toNat=(x.getD k 0).toNat):=h_ (by
  have e:=HS.out
  subst e
  intro k h
  have h2:k<x.length:=h
  rw [gD h2];rfl)
 obtain ⟨v,HVT⟩:=ez ((vT x:Int))
 rw [HVT.out] at HR ⊢
 have h0s:0<s.size:=by rw [HN.out];exact H0.out.1
 have hfirst:=HG.out 0 h0s
 obtain ⟨f0,HF0⟩:=ez ((x.getD 0 0).toNat)
 rw [HF0.out] at hfirst
 have hs64:(s.size:Int)≤100:=by
  have:=yjN hq.out
  rw [HN.out];omega
 have hfc:((f0:Int)==45)=neg:=by
  have h:=H0.out.2
  rw [HF0.out] at h
  cases neg
  ·have:f0≠45:=fun e=>by have:=h.1 e;cases this
   simpa using (by omega:¬ (f0:Int)=45)
  ·have:=h.2 rfl
   rw [this];rfl
 clear hx hv1 hv2 hd0 hd1 hd2
 go_in
 go_wp2
 go_loopw [4,5] (fun nv iv wr=>∃ i n:Nat,i≤s.size∧iv=.int .i64 i∧nv=.int .u64 n∧w=wr∧Hid (dvS (x.take i) 0=n)) (fun _ iv _=>s.size-(intOf iv).toNat)
 case atStart=>exact ⟨0,0,Nat.zero_le _,rfl,rfl,rfl,h_ rfl⟩
 case round =>
  obtain ⟨i,n,hi,rfl,rfl,rfl,HNV⟩:=hrel
  by_cases hlt:i<s.size
  ·have hil:i<x.length:=by rw [← HN.out];exact hlt
   have hck:=HG.out i hlt
   obtain ⟨d,HD⟩:=ez ((x.getD i 0).toNat)
   rw [HD.out] at hck
   have hst:=yt3 hil
   have hle:=yyh x (i+1)
   rw [HV.out] at hle
   rw [HNV.out] at hst
   by_cases h45:d=45
   ·subst h45
    have h45:x.getD i 0=45:=by rw [← UInt8.toNat_inj,HD.out];rfl
    rw [if_pos h45] at hst
    have yxS:=h_ hst
    clear hil hst hle h45
    go_wp2
    go_roundw
    case rel=>exact ⟨i+1,n,by omega,by go_num,rfl,by first|rfl|trivial,yxS⟩
    case measure=>simp [intOf];omega
   ·have hne:¬ x.getD i 0=45:=fun e=>h45 (by rw [← HD.out,e];rfl)
    rw [if_neg hne,HD.out] at hst
    have hdd:48≤d∧d≤57:=by
     rcases HA.out i hil with h|h
     ·exact absurd h hne
     ·rw [HD.out] at h;exact h
    rw [hst] at hle
    have g45:((d:Int) != 45)=true:=by rw [bne_iff_ne];omega
    obtain ⟨m,HM⟩:=ez (d-48)
    rw [HM.out] at hst hle
    have ybn:(d:Int)-48=(m:Int):=by have:=HM.out;omega
    have im:(m:Int)≤9:=by have:=HM.out;omega
    obtain ⟨n2,HN2⟩:=ez (10*n+m)
    rw [HN2.out] at hst hle
    have yxS:=h_ hst
    have hn10:(n:Int)≤922337203685477581:=by have:=HN2.out;omega
    have ybb:10*(n:Int)+(m:Int)=(n2:Int):=by have:=HN2.out;omega
    have hn2:(n2:Int)≤9223372036854775808:=by omega
    clear hil hst hle h45 hne hdd
    go_wp2
    go_roundw
    case rel=>exact ⟨i+1,n2,by omega,by go_num,by go_num,by first|rfl|trivial,yxS⟩
    case measure=>simp [intOf];omega
  ·obtain rfl:i=s.size:=by omega
   obtain rfl:n=u:=by
    rw [← HNV.out,List.take_of_length_le (by rw [HN.out];exact Nat.le_refl _)];exact HV.out
   cases neg with
   | true =>
    have zF:(-(n:Int))%18446744073709551616=v:=by have:=HR.out;rwa [if_pos rfl] at this
    have HRS:=h_ zF
    clear zF
    go_wp2
    go_ret
    refine ⟨?_,rfl⟩
    rw [← HRS.out]
    rfl
   | false =>
    obtain rfl:(n:Int)=v:=by have:=HR.out;rwa [if_neg (by simp)] at this
    go_wp2
    go_ret
    exact ⟨rfl,rfl⟩
def ydY (w:World) (L:Lb) (e:Ending) (w':World):Prop:=∃ v,e=.returned v∧Be w w'∧((v=.slice none 0 0∧L=[])∨∃ ad c,v=.slice (some ad) L.length c∧∀ j u,(zG L)[j]?=some u→w'.cell? (ad.add j)=some u)
theorem ywv (w:World) (c:UInt8):(w.alloc (.cells #[.int .u8 (c.toNat:Int)] 5)).ownsRow w.heap.size 5 1 (.slice (some ⟨w.heap.size,0,none⟩) 1 1) 1 [.int .u8 (c.toNat:Int)] :=
 ⟨rfl,.inr ⟨w.heap.size,1,#[.int .u8 (c.toNat:Int)],rfl,Nat.le_refl _,heap_alloc_new w _,Nat.le_refl _,by unfold maxLen;omega,rfl,rfl⟩⟩
theorem yiW {w w':World} {v:Value} {L:Lb} (h:w'.ownsRow w.heap.size 5 1 v L.length (zG L)) (hb:Be w w') (h0:0<L.length):ydY w L (.returned v) w':=by
 obtain ⟨p,c,rfl,hB,-⟩:=yS h
 obtain ⟨ad,rfl⟩:=hB.some h0
 exact ⟨_,rfl,hb,.inr ⟨ad,c,rfl,hB.news bR ad rfl⟩⟩
theorem yyi {w w':World} {L:Lb} {e:Ending} (h0:0<L.length) (h:App w.heap.size w (.slice none 0 0) L e w'):ydY w L e w':=by
 obtain ⟨v',rfl,hg⟩:=h
 exact yiW hg.own (hg.below nl (fun k e=>by cases e)) h0
theorem yt4 (x:Lb) (w:World) (hx:x.length≤82) :
  Calls Tryz.prog 103 #[.int .i64 5,.string ⟨x.toArray⟩] w (ydY w (jZ 5 x)):=by
 obtain ⟨i0,hi,hz0,hz1,hz2⟩:=info_parts GE
 have e5:jZ 5 x=if x=[] then [] else UInt8.ofNat x.length::x:=by unfold jZ;rw [if_pos rfl]
 rw [e5]
 by_cases he:x=[]
 ·subst he
  have HR:Hid (ydY w [] (.returned (.slice none 0 0)) w):=h_ ⟨_,rfl,Below.refl _ _,.inl ⟨rfl,rfl⟩⟩
  rw [if_pos rfl]
  go_in
  go_wp2
  go_ret
  exact HR.out
 rw [if_neg he]
 obtain ⟨m,HM⟩:=ez (x.length)
 have hne:x.isEmpty=false:=by
  cases x with
  | nil=>exact absurd rfl he
  | cons=>rfl
 have hm82:(m:Int)≤82:=by rw [← HM.out];omega
 have hsz:(⟨x.toArray⟩:ByteArray).size=m:=by rw [← ByteArray.size_data];simpa using HM.out
 obtain ⟨c,HC⟩:=ey (UInt8.ofNat m)
 have HCM:Hid (((c.toNat:Nat):Int)=(m:Int)):=h_ (by rw [HC.out,UInt8.toNat_ofNat'];omega)
 have zF:Hid (UInt8.ofNat x.length::x=[c]++x):=h_ (by rw [HM.out,← HC.out];rfl)
 rw [zF.out]
 have HO:=h_ (ywv w c)
 have yX:Hid (Be w (w.alloc (.cells #[.int .u8 (c.toNat:Int)] 5))):=h_ ((Below.refl _ w).alloc nl _)
 have yfJ:Hid (1+(⟨x.toArray⟩:ByteArray).size≤maxLen∧1+(⟨x.toArray⟩:ByteArray).size≤140737488355328∧w.heap.size≤(w.alloc (.cells #[.int .u8 (c.toNat:Int)] 5)).heap.size):=h_ (by
  have h4:=yX.out.size
  have h5:=HM.out
  rw [hsz]
  unfold maxLen;omega)
 rw [HCM.out] at HO yX yfJ
 clear hx
 go_in
 go_wp2_with (at_builtin;refine wpList_append_own_string _ rfl (.tmp 13) (.tmp 14) 39 9 rfl w.heap.size 5 i0 Tryz.underlying39 Tryz.underlying9 hi hz0 hz1 hz2 _ _ _ rfl HO.out ⟨x.toArray⟩ rfl yfJ.out.1 yfJ.out.2.1 yfJ.out.2.2 ?_)
 intro v6 w6 yaN ybq _
 have HR:Hid (ydY w ([c]++x) (.returned v6) w6):=h_ (by
  refine yiW ?_ (yX.out.grown ybq yX.out.size (fun _ e=>by cases e;exact Nat.le_refl _)) (by simp)
  rw [ypr,← HCM.out] at yaN
  have e:1+m=([c]++x).length:=by simp only [List.length_append,HM.out,List.length_singleton]
  have e2:zG ([c]++x)=[Value.int .u8 (c.toNat:Int)]++zG x:=yjH [c] x
  rw [e2,← e]
  exact yaN)
 clear yaN ybq
 go_wp2
 go_ret
 exact HR.out
theorem yt5 (k:Int) (x:Lb) (w:World) (hf:zK k x=true) (h1:1≤k) (h4:k≤4) :
  Calls Tryz.prog 103 #[.int .i64 k,.string ⟨x.toArray⟩] w (ydY w (jZ k x)):=by
 have e5:jZ k x=be (vG k) (vT x):=by unfold jZ;rw [if_neg (by omega)]
 rw [e5]
 have g5:(k==5)=false:=by simpa using (by omega:¬ k=5)
 have HN:=h_ (fun W=>(ybc (vT x) (vG k) W (ydu k) (yw6 x)).mono fun _ _=>yyi (by rw [zE];exact ylB h1 h4))
 have HW:=h_ (fun W=>yog k W)
 by_cases hx:x=[]
 ·subst hx
  rw [yst] at HN ⊢
  go_in
  go_wp2_with fail
  refine (HW.out _).mono ?_
  rintro e w' ⟨rfl,rfl⟩
  go_wp2_with fail
  refine (HN.out _).mono ?_
  rintro e w3 ⟨v,rfl,h⟩
  have HR:=h_ h
  clear h
  go_wp2
  go_ret
  exact ⟨_,rfl,HR.out⟩
 ·obtain ⟨q,hq,hd,hl,hh⟩:=yjG hf h1 h4 hx
  have hp:=yk9 k
  have HI:=h_ (fun W=>yq3 x q W (h_ hq) (h_ hd) (h_ ⟨by omega,by omega⟩))
  have hne:x.isEmpty=false:=by
   cases x with
   | nil=>exact absurd rfl hx
   | cons=>rfl
  clear hq hd hl hh hp hf
  go_in
  go_wp2_with fail
  refine (HI.out _).mono ?_
  rintro e w' ⟨rfl,rfl⟩
  go_wp2_with fail
  refine (HW.out _).mono ?_
  rintro e w' ⟨rfl,rfl⟩
  go_wp2_with fail
  refine (HN.out _).mono ?_
  rintro e w3 ⟨v,rfl,h⟩
  have HR:=h_ h
  clear h
  go_wp2
  go_ret
  exact ⟨_,rfl,HR.out⟩
theorem yt6 (k:Int) (x:Lb) (w:World) (hf:zK k x=true) (h1:1≤k) (h5:k≤5):Calls Tryz.prog 103 #[.int .i64 k,.string ⟨x.toArray⟩] w (ydY w (jZ k x)):=by
 by_cases h:k=5
 ·subst h;exact yt4 x w (ydv hf)
 ·exact yt5 k x w hf h1 (by omega)
theorem yt7 (k:Int) (p:Oa) (c n:Nat) (xs:List Lb) (w:World) (hx:Hid (xs.length=n)) (hn:n≤4096) (hs:Ss w p xs) (z:Int) (HZ:Hid (vH k xs=z)) (hz:z≠0) :
  Calls Tryz.prog 56 #[.int .i64 k,.slice p n c] w (Rp (.tuple #[.slice none 0 0,.int .i64 z]) w):=by
 have HC:=h_ (ycR k p c n xs w hx hn hs)
 rw [HZ.out] at HC
 clear hs
 have gz:(z != 0)=true:=by rw [bne_iff_ne];exact hz
 go_in
 go_wp2_with fail
 refine (HC.out).mono ?_
 rintro e w1 ⟨rfl,hb1⟩
 have yX:=h_ hb1
 clear hb1
 go_wp2
 go_ret2
 exact ⟨rfl,yX.out⟩
theorem yq4 (k:Int) (p:Oa) (c n:Nat) (xs:List Lb) (w:World) (hx:Hid (xs.length=n)) (hn:n≤4096) (hs:Ss w p xs) (HZ:Hid (vH k xs=0)) :
  Calls Tryz.prog 56 #[.int .i64 k,.slice p n c] w fun e w'=>∃ v,e=.returned (.tuple #[v,.int .i64 0])∧PutG w (yal k xs) w' v:=by
 have HS:=h_ hs
 have HC:=h_ (ycR k p c n xs w hx hn hs)
 rw [HZ.out] at HC
 clear hs
 have hk:isT k=true∧xs.all (zK k)=true:=by
  have h:=HZ.out
  unfold vH at h
  by_cases h1:isT k=false
  ·rw [if_pos h1] at h;cases h
  ·rw [if_neg h1] at h
   by_cases h2:xs.all (zK k)=false
   ·rw [if_pos h2] at h;cases h
   ·exact ⟨by simpa using h1,by simpa using h2⟩
 have HK1:Hid (1≤k∧k≤5):=h_ (by
  have h:=hk.1
  unfold isT at h
  rw [Bool.and_eq_true,decide_eq_true_eq,decide_eq_true_eq] at h
  exact h)
 have HFA:Hid (∀ x ∈ xs,zK k x=true):=h_ (List.all_eq_true.1 hk.2)
 obtain ⟨P,HPD⟩:=ez ((n+7)/8)
 have yu3:Hid ((xs.length+7)/8=P):=h_ (by rw [hx.out];exact HPD.out)
 have hP:P≤512:=by have:=HPD.out;omega
 have hPi:((n:Int)+7)/8=(P:Int):=by have:=HPD.out;omega
 have hni:(n:Int)≤4096:=by omega
 obtain ⟨i0,hi,hz0,hz1,hz2⟩:=info_parts GE
 clear hk
 go_in
 go_wp2_with fail
 refine (HC.out).mono ?_
 rintro e w1 ⟨rfl,hb1⟩
 have yX:=h_ hb1
 clear hb1
 go_wp2_with (at_make;rw [hPi];refine wpList_make_full _ rfl _ _ 39 rfl w.heap.size 5 i0 (.int .u8 0) 1 Tryz.underlying39 hi hz0 hz1 _ _ _ _ P rfl rfl (by rfl) (by rfl) ?b2 ?b3 yX.out.size ?_)
 case b2=>rw [hz2];omega
 case b3=>unfold maxLen;omega
 intro w2 yR yZ
 obtain ⟨G,HGG⟩:=ez (w1.heap.size)
 rw [HGG.out] at yR ⊢
 have HP0:Hid (PutG w (stP xs P 0) w2 (.slice (some ⟨G,0,none⟩) P P)):=h_ (by
  refine ⟨?_,yX.out.grown yZ yX.out.size (fun _ h=>by cases h)⟩
  rw [stP,ysu,List.length_replicate]
  exact yR)
 clear yR yZ hPi
 go_wp2
 go_loopw [8] (fun iv wr=>∃ i:Nat,i≤n∧iv=.int .i64 i∧Hid (PutG w (stP xs P i) wr (.slice (some ⟨G,0,none⟩) P P))) (fun iv _=>n-(intOf iv).toNat)
 case atStart=>exact ⟨0,Nat.zero_le _,rfl,HP0⟩
 case round =>
  obtain ⟨i,hi9,rfl,HK⟩:=hrel
  obtain ⟨wo,rfl⟩:∃ wo,wo=wr:=⟨_,rfl⟩
  have ii:(i:Int)≤(n:Int):=by omega
  by_cases hlt:i<n
  ·have ilt:(i:Int)<(n:Int):=by omega
   have hil:i<xs.length:=by rw [hx.out];exact hlt
   obtain ⟨b1,o1,x,e1,hb1,hc1,hxx⟩:=(HS.out.below HK.out.below).at hil
   subst e1
   by_cases hxe:x=[]
   ·subst hxe
    have HP1:Hid (PutG w (stP xs P (i+1)) wo (.slice (some ⟨G,0,none⟩) P P)):=h_ (by
     rw [stP,if_pos hxx.out];exact HK.out)
    clear hil hb1
    go_wp2
    go_roundw
    case rel=>exact ⟨i+1,by omega,by go_num,HP1⟩
    case measure=>simp [intOf];omega
   ·have hxb:x.isEmpty=false:=by
     cases x with
     | nil=>exact absurd rfl hxe
     | cons=>rfl
    have hi8:i/8<P:=by have:=HPD.out;omega
    obtain ⟨j,HJ⟩:=ez (i/8)
    obtain ⟨r,HR⟩:=ez (i%8)
    have hr8:r<8:=by have:=HR.out;omega
    rw [HJ.out] at hi8
    have hjl:j<(stP xs P i).length:=by rw [vZ];exact hi8
    obtain ⟨g,cap,hv5,hcap,hg,hgl,zU,uQ,yaG⟩:=ybi HK.out.own (by omega)
    rw [vZ] at hv5 yaG
    cases hv5
    have gc:=zU j hjl
    have gf:=uQ j
    have ijM:(j:Int)<(P:Int):=by omega
    have ij5:(j:Int)≤512:=by omega
    have hdi:(i:Int)/8=(j:Int):=by have:=HJ.out;omega
    have hmi:(i:Int)%8=(r:Int):=by have:=HR.out;omega
    obtain ⟨c0,HC0⟩:=ez ((stP xs P i).getD j 0)
    rw [HC0.out] at gc
    obtain ⟨y,HY⟩:=ez (orB c0 r)
    have hor:bits .or .u8 (c0.toNat:Int) (2^r%256)=((y.toNat:Nat):Int):=by
     have h2:2^r<2^8:=Nat.pow_lt_pow_right (by omega) hr8
     have e:(2:Int)^r%256=((2^r:Nat):Int):=by
      have e0:(2:Int)^r=((2^r:Nat):Int):=by simp
      have h3:2^r<256:=h2
      rw [e0]
      generalize 2^r=t at h3
      omega
     rw [e,u8_or_nat _ _ c0.toNat_lt h2,← HY.out,yfp c0 hr8]
    obtain ⟨W1,vI⟩:=ez ((wo.setCell ⟨G,j,none⟩ (.int .u8 (y.toNat:Int))).drew)
    have HP1:Hid (PutG w (stP xs P (i+1)) W1 (.slice (some ⟨G,0,none⟩) P P)):=h_ (by
     have e1:(stP xs P i).set j y=stP xs P (i+1):=by
      rw [stP,if_neg (by rw [hxx.out];exact hxe),HJ.out,HR.out,← HY.out,← HC0.out]
     refine ⟨?_,?_⟩
     ·rw [vZ,← e1,← vI.out];exact yaG j y hi8
     ·rw [← vI.out];exact (HK.out.below.setCell hg _).drew)
    clear hil hb1 zU uQ yaG hjl
    go_wp2_with fail
    go_region
    rw [vI.out]
    clear hor gc gf hdi hmi
    go_wp2
    go_roundw
    case rel=>exact ⟨i+1,by omega,by go_num,HP1⟩
    case measure=>simp [intOf];omega
  ·obtain rfl:i=n:=by omega
   have ilt:¬ (i:Int)<(i:Int):=by omega
   obtain ⟨n,rfl⟩:∃ n,n=i:=⟨_,rfl⟩
   have HPP:Hid (PutG w (stP xs P n++els k xs 0) wo (.slice (some ⟨G,0,none⟩) P P)):=h_ (by
    rw [show els k xs 0=[] by simp [els],List.append_nil];exact HK.out)
   clear HK
   go_wp2
   go_loopw [7,9] (fun v iv wr=>∃ i:Nat,i≤n∧iv=.int .i64 i∧Hid (PutG w (stP xs P n++els k xs i) wr v)) (fun _ iv _=>n-(intOf iv).toNat)
   case atStart=>exact ⟨0,Nat.zero_le _,rfl,HPP⟩
   case round =>
    obtain ⟨i,hi9,rfl,HK⟩:=hrel
    have ii:(i:Int)≤(n:Int):=by omega
    by_cases hlt:i<n
    ·have ilt:(i:Int)<(n:Int):=by omega
     have hil:i<xs.length:=by rw [hx.out];exact hlt
     obtain ⟨b1,o1,x,e1,hb1,hc1,hxx⟩:=(HS.out.below HK.out.below).at hil
     subst e1
     have HF:Hid (zK k x=true):=h_ (HFA.out x (by rw [← hxx.out,List.getD_eq_getElem?_getD,List.getElem?_eq_getElem hil];exact List.getElem_mem _))
     have HEL:Hid (P+(els k xs i).length≤100000000):=h_ (by have:=ygk HFA.out i (by omega);omega)
     have H18:=h_ (yt6 k x wr HF.out HK1.out.1 HK1.out.2)
     clear hb1
     go_wp2_with fail
     refine (H18.out).mono ?_
     rintro e w3 ⟨ev,rfl,hb3,hel⟩
     rcases hel with ⟨rfl,yvn⟩|⟨ad,cc,rfl,yd5⟩
     ·have HP3:Hid (PutG w (stP xs P n++els k xs (i+1)) w3 u7):=h_ (by
       rw [yeJ hil,hxx.out,yvn,List.append_nil]
       exact ⟨jW HK.out.own hb3,tr HK.out.below hb3⟩)
      have yk2:=h_ (jW HK.out.own hb3)
      clear yvn hb3 hil
      go_wp2_with (at_builtin;refine wpList_append_own_none rfl (.tmp 51) (.tmp 57) 39 rfl w.heap.size 5 i0 1 Tryz.underlying39 hi _ _ _ rfl yk2.out rfl ?_)
      go_wp2
      go_roundw
      case rel=>exact ⟨i+1,by omega,by go_num,HP3⟩
      case measure=>simp [intOf];omega
     ·have yk2:=h_ (jW HK.out.own hb3)
      have HBW3:Hid (Be w w3):=h_ (tr HK.out.below hb3)
      have HNEWS:=h_ yd5
      have hbl:Hid ((stP xs P n++els k xs i).length+(jZ k x).length≤maxLen∧((stP xs P n++els k xs i).length+(jZ k x).length)*1≤140737488355328∧w.heap.size≤w3.heap.size):=h_ (by
       have h1:=HEL.out
       have h2:=yfq HF.out
       have h3:=HBW3.out.size
       rw [List.length_append,vZ]
       unfold maxLen;omega)
      clear yd5 hb3
      go_wp2_with (at_builtin;refine wpList_append_own_at _ rfl (.tmp 51) (.tmp 57) 39 rfl w.heap.size 5 i0 (.int .u8 0) 1 1 Tryz.underlying39 hi hz0 hz1 hz2 rfl (by decide) _ _ _ rfl yk2.out ad (jZ k x).length cc (zG (jZ k x)) rfl (by rw [ybI,Nat.mul_one]) HNEWS.out (ygf _) hbl.out.1 hbl.out.2.1 hbl.out.2.2 ?_)
      intro v5 w5 yP yL _ _
      have HP3:Hid (PutG w (stP xs P n++els k xs (i+1)) w5 v5):=h_ (by
       rw [yeJ hil,hxx.out,← List.append_assoc]
       refine PutG.next (L:=stP xs P n++els k xs i) (W:=w3) ⟨yk2.out,HBW3.out⟩ ⟨?_,yL⟩
       rw [List.length_append,yjH,List.length_append];exact yP)
      clear yP yL hil
      go_wp2
      go_roundw
      case rel=>exact ⟨i+1,by omega,by go_num,HP3⟩
      case measure=>simp [intOf];omega
    ·obtain rfl:i=n:=by omega
     have ilt:¬ (i:Int)<(i:Int):=by omega
     have GB:Hid (PutG w (yal k xs) wr u7):=h_ (by unfold yal ybw;rw [hx.out,HPD.out];exact HK.out)
     go_wp2
     go_ret2
     exact ⟨_,rfl,GB.out⟩
def yeT (l:List Lb):List Value:=l.map (fun x=>Value.string ⟨List.toArray x⟩)
theorem yak {w:World} {ops:Array Oper} {rest:List Oper} {o:Oper} {a:Act} {Q:Exit→Act→World→Prop} (hgd:o.guard=none) (s x:Operand)
  (ho:o.op=.call { callee:=.builtin .append,args:=#[s,x],argTypes:=#[30,30] })
  (B:Nat) (pv:Oa) (cv n:Nat) (X:List Lb) (hs:a.eval s=.slice pv n cv) (yR:w.ownsRow B 9 1 (.slice pv n cv) n (yeT X))
  (g:Nat) (y:Lb) (hx:a.eval x=.slice (some ⟨g,0,none⟩) 1 1) (hc:w.cell? ⟨g,0,none⟩=some (.string ⟨List.toArray y⟩)) (hlen:n≤100000) (hB:B≤w.heap.size)
  (h:∀ gv cv' w',w'.ownsRow B 9 1 (.slice (some ⟨gv,0,none⟩) (n+1) cv') (n+1) (yeT (X++[y]))→w.grownBy w' (Value.slice pv n cv).ownBlock→wpList Tryz.prog ops Q rest (a.put o.dst (.slice (some ⟨gv,0,none⟩) (n+1) cv')) w'):wpList Tryz.prog ops Q (o::rest) a w:=by
 obtain ⟨i0,hi,hz0,hz1,hz2⟩:=info_parts ysM
 refine wpList_append_own_at _ hgd s x 30 ho B 9 i0 (.string ⟨#[]⟩) 1 16 Tryz.underlying30 hi hz0 hz1 hz2 rfl (by decide) _ _ _ hs yR ⟨g,0,none⟩ 1 1 [.string ⟨List.toArray y⟩] hx rfl ?_ ?_ (by unfold maxLen;omega) (by omega) hB ?_
 ·intro j u hj
  cases j with
  | zero=>simp at hj;subst hj;exact hc
  | succ j=>simp at hj
 ·intro u hu
  obtain rfl:=List.mem_singleton.1 hu
  rfl
 ·intro v' w' h1 h2 _ _
  obtain ⟨gv,cv',rfl⟩:∃ g c,v'=.slice (some ⟨g,0,none⟩) (n+1) c:=by
   obtain ⟨-,⟨-,e⟩|⟨g,cap,_,e,-⟩⟩:=id h1
   ·omega
   ·exact ⟨g,cap,e⟩
  refine h gv cv' w' ?_ h2
  rw [yeT,List.map_append]
  exact h1
theorem yoS {W:World} {B n cv:Nat} {pv:Oa} {X:List Lb} (h:W.ownsRow B 9 1 (.slice pv n cv) n (yeT X)) (hx:X.length=n):Ss W pv X:=by
 obtain ⟨-,⟨e,e2⟩|⟨g,cap,cur,e,hg,hh,-⟩⟩:=id h
 ·exact .inl (by omega)
 ·injection e with e _ e3
  subst e
  refine .inr ⟨g,0,rfl,(Array.getElem?_eq_some_iff.1 hh).1,fun j hj=>?_⟩
  rw [Nat.zero_add,h.cellAt j (by omega)]
  unfold yeT
  rw [List.getElem?_map,List.getD_eq_getElem?_getD,List.getElem?_eq_getElem hj];rfl
theorem yhp {w U w9:World} {pv:Oa} {cv n:Nat} {vals:List Value} (hb:Be w U) (ho:U.ownsRow w.heap.size 9 1 (.slice pv n cv) n vals) (hg:U.grownBy w9 (Value.slice pv n cv).ownBlock):Be w w9 :=
 hb.grown hg hb.size (fun k e=>by
  obtain ⟨-,⟨hv,-⟩|⟨g,cap,cur,hv,hg,-⟩⟩:=ho
  ·rw [hv] at e;cases e
  ·rw [hv] at e;cases e;exact hg)
end
section
open Go.RowKit Big
section
variable {B : Nat} {s : Bool} {u1 v1 : Value} {t : Bool} {u2 v2 : Value} {w0 W W' : World}
end
section
variable {W : World}
end
section
variable {B : Nat} {w0 W W' : World}
end
theorem ylC (z:Int) (w:World) (h1:-9223372036854775808≤z) (h2:z≤9223372036854775807):Calls Tryz.prog 29 #[.int .i64 z] w (uF (z:Rat) w):=by
 have zF:=yA (Resa.start w)
 have hq:=yA (yg7 z)
 have hno:∀ W,Hid (Calls Tryz.prog 66 #[.int .u64 ((z.natAbs:Nat):Int)] W (zC z.natAbs W)):=fun W=>yA (yaW _ W (by omega))
 have zX:∀ W,Hid (Calls Tryz.prog 67 #[] W (zC 1 W)):=fun W=>yA (ybk W)
 have hmk:∀ W u v,yE W u z.natAbs→yE W v 1→Hid (Calls Tryz.prog 65 #[.bool (decide (z<0)),u,v] W (uF (z:Rat) W)):=fun W u v hu hv=>yA (by
  have h:=GR (decide (z<0)) u v z.natAbs 1 3 W (by omega) (by rw [zA];omega) (by rw [zA];omega) hu hv
  rw [hq.out] at h;exact h)
 by_cases hz:z<0
 ·obtain ⟨m,hm⟩:∃ m:Nat,z=-(m:Int)-1:=⟨(-z-1).toNat,by omega⟩
  have hab:z.natAbs=m+1:=by omega
  have hd:decide (z<0)=true:=by simpa using hz
  rw [hab] at hno
  rw [hd] at hmk
  rw [hab] at hmk
  have hm2:(m:Int)≤9223372036854775807:=by omega
  have hmz:-(z+1)=(m:Int):=by omega
  have hm3:((m+1:Nat):Int)=(m:Int)+1:=by omega
  rw [hm3] at hno
  clear hq
  go_in
  go_wp2_with fail
  refine (hno _).out.mono ?_
  rintro e w1 ⟨v1,rfl,hv1,hb1,-⟩
  obtain ⟨p1,n1,c1,rfl⟩:=hv1.slice
  have hr1:=yA (zF.out.next hb1)
  have Hv1:=yA hv1
  clear hv1 hb1
  go_wp2_with fail
  refine (zX _).out.mono ?_
  rintro e w2 ⟨v2,rfl,hv2,hb2,-⟩
  obtain ⟨p2,n2,c2,rfl⟩:=hv2.slice
  have hr2:=yA (hr1.out.next hb2)
  have hm2':=hmk w2 _ _ (Hv1.out.below hb2) hv2
  clear hv2 hb2
  go_wp2_with fail
  refine hm2'.out.mono ?_
  rintro e w3 ⟨x3,rfl,hx3,hb3⟩
  obtain ⟨p3,n3,c3,p4,n4,c4,rfl,hu3,hv3⟩:=hx3.slices
  have hr3:=yA (hr2.out.next hb3)
  obtain ⟨z0,z1,z2,l0,l1,l2,f0,f1,f2⟩:=hr3.out.slots
  obtain ⟨sb,hsb⟩:∃ sb,Hid (sb=decide ((z:Rat).num<0)):=⟨_,yA rfl⟩
  rw [← hsb.out]
  have q1:=yA (hr3.out.nat3 nl hu3 sb p3 p4 n3 c3 n4 c4)
  have q2:=yA (hv3.imp (fun h=>hr3.out.nat3 nl h sb p3 p4 n3 c3 n4 c4) fun h=>And.intro (hr3.out.nat3 nl h.1 sb p3 p4 n3 c3 n4 c4) h.2)
  have q3:=yA (hr3.out.put3 nl sb p3 p4 n3 c3 n4 c4).below
  clear hu3 hv3 hb3 hm2' hx3
  go_wp2
  refine bodyPost_ret (v:=.agg #[.bool sb,.slice p3 n3 c3,.slice p4 n4 c4]) (by simp [results,Tryz.results29,go_sem,l0,l1,l2]) rfl ?_
  exact ⟨_,rfl,⟨_,_,by rw [hsb.out],q1.out,q2.out⟩,q3.out⟩
 ·obtain ⟨m,rfl⟩:∃ m:Nat,z=(m:Int):=⟨z.toNat,by omega⟩
  have hd:decide ((m:Int)<0)=false:=by simp
  rw [hd] at hmk
  have hab:((m:Int)).natAbs=m:=by omega
  rw [hab] at hno hmk
  clear hq
  go_in
  go_wp2_with fail
  refine (hno _).out.mono ?_
  rintro e w1 ⟨v1,rfl,hv1,hb1,-⟩
  obtain ⟨p1,n1,c1,rfl⟩:=hv1.slice
  have hr1:=yA (zF.out.next hb1)
  have Hv1:=yA hv1
  clear hv1 hb1
  go_wp2_with fail
  refine (zX _).out.mono ?_
  rintro e w2 ⟨v2,rfl,hv2,hb2,-⟩
  obtain ⟨p2,n2,c2,rfl⟩:=hv2.slice
  have hr2:=yA (hr1.out.next hb2)
  have hm2':=hmk w2 _ _ (Hv1.out.below hb2) hv2
  clear hv2 hb2
  go_wp2_with fail
  refine hm2'.out.mono ?_
  rintro e w3 ⟨x3,rfl,hx3,hb3⟩
  obtain ⟨p3,n3,c3,p4,n4,c4,rfl,hu3,hv3⟩:=hx3.slices
  have hr3:=yA (hr2.out.next hb3)
  obtain ⟨z0,z1,z2,l0,l1,l2,f0,f1,f2⟩:=hr3.out.slots
  obtain ⟨sb,hsb⟩:∃ sb,Hid (sb=decide (((m:Int):Rat).num<0)):=⟨_,yA rfl⟩
  rw [← hsb.out]
  have q1:=yA (hr3.out.nat3 nl hu3 sb p3 p4 n3 c3 n4 c4)
  have q2:=yA (hv3.imp (fun h=>hr3.out.nat3 nl h sb p3 p4 n3 c3 n4 c4) fun h=>And.intro (hr3.out.nat3 nl h.1 sb p3 p4 n3 c3 n4 c4) h.2)
  have q3:=yA (hr3.out.put3 nl sb p3 p4 n3 c3 n4 c4).below
  clear hu3 hv3 hb3 hm2' hx3
  go_wp2
  refine bodyPost_ret (v:=.agg #[.bool sb,.slice p3 n3 c3,.slice p4 n4 c4]) (by simp [results,Tryz.results29,go_sem,l0,l1,l2]) rfl ?_
  exact ⟨_,rfl,⟨_,_,by rw [hsb.out],q1.out,q2.out⟩,q3.out⟩
theorem yhq (a b:Rat):yM (decide (a.num<0) != decide (b.num<0)) (a.num.natAbs*b.num.natAbs) (a.den*b.den)=a*b:=by
 rw [ylH a.den_pos b.den_pos,vS,vS]
theorem yt8 (x y:Value) (a b:Rat) (K L:Nat) (w:World) (hK:K+L≤900000) (hab:uA K a) (hbb:uA L b) (hx:jL w x a) (hy:jL w y b):Calls Tryz.prog 142 #[x,y] w (uF (a*b) w):=by
 have ydf:Hid (∀ W,Be w W→Calls Tryz.prog 71 #[x] W (yaM a.den W)):=yA fun W hW=>yaP x a W (hx.below hW)
 have ydg:Hid (∀ W,Be w W→Calls Tryz.prog 71 #[y] W (yaM b.den W)):=yA fun W hW=>yaP y b W (hy.below hW)
 obtain ⟨u1,v1,rfl,hu1,hv1⟩:=hx
 obtain ⟨u2,v2,rfl,hu2,hv2⟩:=hy
 obtain ⟨s,hs⟩:∃ s,Hid (s=decide (a.num<0)):=⟨_,yA rfl⟩
 obtain ⟨t,ht⟩:∃ t,Hid (t=decide (b.num<0)):=⟨_,yA rfl⟩
 rw [← hs.out] at ydf ⊢
 rw [← ht.out] at ydg ⊢
 have hdx:=ydf
 have hdy:=ydg
 clear ydf ydg
 obtain ⟨sb,hsb⟩:∃ sb,Hid (sb=decide ((a*b).num<0)):=⟨_,yA rfl⟩
 have hm1:Hid (∀ W p q,yE W p a.num.natAbs→yE W q b.num.natAbs→Calls Tryz.prog 70 #[p,q] W (zC (a.num.natAbs*b.num.natAbs) W)):=yA fun W p q h1 h2=>jN _ _ _ _ K L W (by unfold yF;omega) (by unfold yF;omega) hab.1 hbb.1 h1 h2
 have hm2:Hid (∀ W p q,yE W p a.den→yE W q b.den→Calls Tryz.prog 70 #[p,q] W (zC (a.den*b.den) W)):=yA fun W p q h1 h2=>jN _ _ _ _ K L W (by unfold yF;omega) (by unfold yF;omega) hab.2 hbb.2 h1 h2
 have hmk:Hid (∀ W f p q,f=(s != t)→yE W p (a.num.natAbs*b.num.natAbs)→yE W q (a.den*b.den)→Calls Tryz.prog 65 #[.bool f,p,q] W (uJ (a*b) sb W)):=yA fun W f p q hf h1 h2=>by
  have h:=GR f p q _ _ (K+L) W hK (jK hab.1 hbb.1) (jK hab.2 hbb.2) h1 h2
  have he:yM f (a.num.natAbs*b.num.natAbs) (a.den*b.den)=a*b:=by rw [hf,hs.out,ht.out];exact yhq a b
  rw [he] at h
  exact h.mono fun e w' h=>h.b hsb.out
 have jC:=Twa.start w s u1 v1 t u2 v2
 have Htwo:=yA jC
 obtain ⟨-,c0,c1,c2,c3,c4,c5⟩:=jC.all
 clear jC hv1 hv2 hab hbb
 go_in
 go_wp2_with fail
 go_region_held3 (fun w'=>Twa w.heap.size s u1 v1 t u2 v2 w w'∧w'.cell? ⟨w.heap.size,0,none⟩=some (.bool s)∧w'.cell? ⟨w.heap.size,1,none⟩=some u1∧w'.cell? ⟨w.heap.size,2,none⟩=some v1∧w'.cell? ⟨w.heap.size+1,0,none⟩=some (.bool t)∧w'.cell? ⟨w.heap.size+1,1,none⟩=some u2∧w'.cell? ⟨w.heap.size+1,2,none⟩=some v2)
  (first|exact Twa.all (Twa.drew Htwo.out)|exact Twa.all Htwo.out|(go_split_ands;exact Twa.all (Twa.next (by assumption) hb1))|(go_split_ands;exact Twa.all (Twa.next (by assumption) hb2))|(go_split_ands;exact Twa.all (Twa.next (by assumption) hb3))|(go_split_ands;exact Twa.all (Twa.next (by assumption) hb4))|(go_split_ands;exact Twa.all (Twa.next (by assumption) hb5))|(go_split_ands;exact Twa.all (Twa.put3 (by assumption) nl _ _ _ _ _ _ _))|go_keep)
  (first|(go_at_call_of 70 (u1);go_split_ands;refine (hm1.out _ _ _ (hu1.below (Twa.below (by assumption))) (hu2.below (Twa.below (by assumption)))).mono ?_;rintro e w1 ⟨vt,rfl,hvt,hb1,-⟩;obtain ⟨pt,nt,ct,rfl⟩:=hvt.slice)|(go_at_call_of 71 (Value.agg #[Value.bool s,u1,v1]);go_split_ands;refine (hdx.out _ (Twa.below (by assumption))).mono ?_;rintro e w2 ⟨px,nx,cx,rfl,hvx,hb2⟩)|(go_at_call_of 71 (Value.agg #[Value.bool t,u2,v2]);go_split_ands;refine (hdy.out _ (Twa.below (by assumption))).mono ?_;rintro e w3 ⟨py,ny,cy,rfl,hvy,hb3⟩)|(go_at_call_of 70 (Value.slice px nx cx);go_split_ands;refine (hm2.out _ _ _ (hvx.below hb3) hvy).mono ?_;rintro e w4 ⟨vb,rfl,hvb,hb4,-⟩;obtain ⟨pb,nb,cb,rfl⟩:=hvb.slice)|(go_at_call 65;go_split_ands;refine (hmk.out _ _ _ _ rfl (((hvt.below hb2).below hb3).below hb4) hvb).mono ?_;rintro e w5 ⟨pr,nr,cr,pq,nq,cq,rfl,hr1,hr2,hb5⟩;have htw:=Twa.next (by assumption) hb5;obtain ⟨z0,z1,z2,k0,k1,k2,f0,f1,f2⟩:=Twa.slots htw))
 go_wp2_with fail
 have yD:=yA (htw.fin nl hsb.out hr1 hr2)
 refine bodyPost_ret (v:=.agg #[.bool sb,.slice pr nr cr,.slice pq nq cq]) (by simp [results,Tryz.results142,go_sem,k0,k1,k2]) rfl ?_
 exact yD.out
end
section
open Go.RowKit Big
open Go.Lib
theorem uA.mul {K L:Nat} {a b:Rat} (ha:uA K a) (hb:uA L b):uA (K+L) (a*b) :=
 ycT (yhq a b) (jK ha.1 hb.1) (jK ha.2 hb.2) (Nat.mul_pos a.den_pos b.den_pos)
theorem yt9 (a b:Int) (w:World) (ha:-1000000000≤a∧a≤1000000000) (hb:-1000000000≤b∧b≤1000000000):Calls Tryz.prog 144 #[.int .i64 a,.int .i64 b] w (uF ((a:Rat)/(b:Rat)) w):=by
 have hl:∀ z:Int,-1000000000≤z∧z≤1000000000→uA 2 (z:Rat):=fun z h=>⟨by rw [Rat.num_intCast,zA];omega,by rw [Rat.den_intCast,zA];omega⟩
 have h1:=yA (fun W=>ylC a W (by omega) (by omega))
 have h2:=yA (fun W=>ylC b W (by omega) (by omega))
 obtain ⟨sb,hsb⟩:∃ sb,Hid (sb=decide ((((a:Rat)/(b:Rat))).num<0)):=⟨_,yA rfl⟩
 have h3:=yA (fun W (x y:Value) (hx:jL W x (a:Rat)) (hy:jL W y (b:Rat))=>(ylJ x y (a:Rat) (b:Rat) 2 2 W (by omega) (hl a ha) (hl b hb) hx hy).mono fun e w' h=>h.b hsb.out)
 have zF:=yA (Resa.start w)
 clear hl
 go_in
 go_wp2_with fail
 refine (h1.out _).mono ?_
 rintro e w1 ⟨x1,rfl,hx1,hb1⟩
 obtain ⟨p,n,c,p2,n2,c2,rfl,hu,hv⟩:=hx1.slices
 have hr1:=yA (zF.out.next hb1)
 have Hx1:=yA hx1
 obtain ⟨s1,hs1⟩:∃ s1,Hid (s1=decide ((a:Rat).num<0)):=⟨_,yA rfl⟩
 rw [← hs1.out] at Hx1 ⊢
 clear hx1 hu hv hb1
 go_wp2_with fail
 refine (h2.out _).mono ?_
 rintro e w2 ⟨x2,rfl,hx2,hb2⟩
 have h4:=yA (h3.out w2 _ _ (Hx1.out.below hb2) hx2)
 obtain ⟨q,m,d,q2,m2,d2,rfl,hu,hv⟩:=hx2.slices
 have hr2:=yA (hr1.out.next hb2)
 obtain ⟨s2,hs2⟩:∃ s2,Hid (s2=decide ((b:Rat).num<0)):=⟨_,yA rfl⟩
 rw [← hs2.out] at h4 ⊢
 clear hx2 hu hv hb2
 go_wp2_with fail
 refine h4.out.mono ?_
 rintro e w3 ⟨pr,nr,cr,pq,nq,cq,rfl,hr1',hr2',hb3⟩
 have hrz:=yA (hr2.out.next hb3)
 have yD:=yA (hrz.out.fin nl hsb.out hr1' hr2')
 obtain ⟨z0,z1,z2,l0,l1,l2,f0,f1,f2⟩:=hrz.out.slots
 clear hr1' hr2' hb3
 go_wp2
 refine bodyPost_ret (v:=.agg #[.bool sb,.slice pr nr cr,.slice pq nq cq]) ?h1 rfl ?h2
 case h1=>simp [results,Tryz.results144,go_sem,l0,l1,l2]
 exact yD.out
end
end Go.Proofs.YtgepehlpjpccaaaGreatDoor
