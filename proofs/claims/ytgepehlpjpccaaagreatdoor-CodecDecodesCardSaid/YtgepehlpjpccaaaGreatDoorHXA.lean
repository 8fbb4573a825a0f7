/- Contracts. -/
import Derived.Test.YtgepehlpjpccaaaGreatDoorGKD
set_option maxHeartbeats 4000000
set_option maxRecDepth 104857600
namespace Go.Proofs.YtgepehlpjpccaaaGreatDoor
section
open Go.RowKit
open Go.Lib
structure GrewU (B:Nat) (w:World) (v:Value) (l:List Nat) (w':World) (v':Value):Prop where
 own:w'.ownsRow B 86 1 v' l.length (zK l)
 grown:w.grownBy w' v.ownBlock
 lies:v'.ownBlock=v.ownBlock∨∃ j,v'.ownBlock=some j∧w.heap.size≤j
theorem GrewU.refl {B:Nat} {w:World} {v:Value} {l:List Nat} (h:w.ownsRow B 86 1 v l.length (zK l)):GrewU B w v l w v:=⟨h,ydE _ _,.inl rfl⟩
theorem GrewU.trans {B:Nat} {w w1 w2:World} {v v1 v2:Value} {l l2:List Nat} (h:GrewU B w v l w1 v1) (k:GrewU B w1 v1 l2 w2 v2):GrewU B w v l2 w2 v2:=by
 refine ⟨k.own,yc4 h.grown k.grown (fun j hj=>?_),?_⟩
 ·rcases h.lies with h1|⟨i,h1,h2⟩
  ·exact .inl h1
  ·rw [h1] at hj;cases hj;exact .inr h2
 ·rcases k.lies with h1|⟨i,h1,h2⟩
  ·rw [h1];exact h.lies
  ·exact .inr ⟨i,h1,Nat.le_trans h.grown.size h2⟩
theorem GrewU.next {B:Nat} {w wr w5:World} {v vr v5:Value} {l:List Nat} {m:Nat} {c:Nat} {o:Obj} (h:GrewU B w v l wr vr) (hm:m=l.length+1) (yP:w5.ownsRow B 86 1 v5 m (zK l++[.int .u64 (c:Int)])) (hg:(wr.alloc o).grownBy w5 vr.ownBlock) (hl:v5.ownBlock=vr.ownBlock∨v5.ownBlock=some (wr.heap.size+1)):GrewU B w v (l++[c]) w5 v5:=by
 subst hm
 refine h.trans ⟨?_,(yeK wr o _).trans hg,?_⟩
 ·have e:zK (l++[c])=zK l++[.int .u64 (c:Int)]:=by simp [zK]
  rw [e,List.length_append];exact yP
 ·rcases hl with h1|h1
  ·exact .inl h1
  ·exact .inr ⟨_,h1,by simp⟩
theorem GrewU.below {B:Nat} {w w':World} {v v':Value} {l:List Nat} (h:GrewU B w v l w' v') (hB:B≤w.heap.size) (hv:∀ k,v.ownBlock=some k→B≤k):Below B w w':=bR.grown h.grown hB hv
theorem yfE {w:World} {B:Nat} {v:Value} {X:List Nat} (h:w.ownsRow B 86 1 v X.length (zK X)):∃ p c,v=.slice p X.length c∧Rd w p X.length X∧X.length≤c:=by
 obtain ⟨h1,⟨rfl,h3⟩|⟨g,cap,cur,rfl,hg,hh,hn,hm,hs,hc⟩⟩:=h
 ·exact ⟨none,0,by rw [h3],⟨rfl,.inl h3⟩,by omega⟩
 ·refine ⟨_,cap,rfl,⟨rfl,.inr ⟨g,0,rfl,(Array.getElem?_eq_some_iff.1 hh).1,fun j hj=>?_⟩⟩,hn⟩
  rw [Nat.mul_one] at hc
  have e:cur[j]?=(zK X)[j]?:=by rw [← hc,List.getElem?_take_of_lt hj,Array.getElem?_toList]
  rw [Nat.zero_add]
  simp only [World.cell?,hh]
  rw [zK,List.getElem?_map,List.getElem?_eq_getElem hj] at e
  simp [e,hj]
theorem ybT (p:Oa) (k c n:Nat) (w:World) (h1:1≤n) (h2:n≤8) (hk:k≤1048576):Calls Tryz.prog 157 #[.slice p k c,.int .i64 (n:Int)] w (Qp (.int .i64 0) w):=by
 have h1':¬ (n:Int)<1:=by omega
 have h2':¬ 8<(n:Int):=by omega
 have hk':(k:Int)≤1048576:=by omega
 clear h1 h2 hk
 go_in
 go_wp2
 go_ret
 exact ⟨rfl,rfl⟩
def ybi (X:List Nat) (r:Lb) (w:World) (e:Ending) (w':World):Prop:=Be w w'∧∃ p c q d,e=.returned (.tuple #[.slice p X.length c,.slice q r.length d])∧Rd w' p X.length X∧Bs w' q r
theorem ykv (b0 off c n:Nat) (l:Lb) (w:World) (h1:1≤n) (h2:n≤8) (hl:l.length≤1048576) (hc:l.length≤c) (hb:Bs w (some ⟨b0,off,none⟩) l) :
  Calls Tryz.prog 158 #[.slice (some ⟨b0,off,none⟩) l.length c,.int .i64 (n:Int)] w (ybi (gl n (l.length/n) l) (l.drop (l.length/n*n)) w):=by
 obtain ⟨i0,hi,hz0,hz1,hz2⟩:=info_parts vP
 obtain ⟨k,HK⟩:=ey (l.length/n)
 have HKN:Hid (k*n≤l.length∧l.length<k*n+n):=h_ (by
  rw [HK.out]
  have h3:=Nat.div_add_mod l.length n
  have h4:=Nat.mod_lt l.length (show n > 0 by omega)
  rw [Nat.mul_comm] at h3;omega)
 obtain ⟨len,HL⟩:=ey (l.length)
 have Hb:=h_ hb
 rw [← HK.out,← HL.out]
 rw [← HL.out] at hl hc HKN
 have HG0:Hid (GrewU w.heap.size w (.slice none 0 0) [] w (.slice none 0 0)):=h_ (GrewU.refl (l:=[]) (World.ownsRow_nil w w.heap.size 86 1))
 have hn1:1≤(n:Int):=by omega
 have hn8:(n:Int)≤8:=by omega
 have hlen:(len:Int)≤1048576:=by omega
 clear hb
 go_in
 go_wp2
 go_loopw [6,7] (fun vr iv wr=>∃ (i t:Nat),i≤k∧iv=.int .i64 t∧Hid (t=i*n)∧Hid (GrewU w.heap.size w (.slice none 0 0) (gl n i l) wr vr)) (fun _ iv _=>len-(intOf iv).toNat)
 case atStart=>exact ⟨0,0,Nat.zero_le _,rfl,h_ (by rw [Nat.zero_mul]),HG0⟩
 case round =>
  obtain ⟨i,t,hik,rfl,HT,HG⟩:=hrel
  by_cases yay:i<k
  ·have htn:t+n≤len:=by
    have h3:=HKN.out.1
    have h4:(i+1)*n≤k*n:=Nat.mul_le_mul_right _ yay
    rw [Nat.succ_mul] at h4
    rw [HT.out];omega
   have htn':(t:Int)+(n:Int)≤(len:Int):=by omega
   have hbw:Hid (Be w wr):=h_ (HG.out.below nl (by intro k hk;cases hk))
   have ybp:Hid (Bs wr (some ⟨b0,off+t,none⟩) ((l.drop t).take n)):=h_ (jK (Hb.out.below hbw.out) t n (by rw [← HL.out];omega) rfl)
   obtain ⟨s,HS⟩:=ey ((l.drop t).take n)
   rw [← HS.out] at ybp
   have hsl:s.length=n:=by rw [HS.out,List.length_take,List.length_drop,← HL.out];omega
   have HR:=h_ (vC (some ⟨b0,off+t,none⟩) (c-t) s wr (by omega) ybp.out)
   rw [hsl] at HR
   go_wp2_with fail
   obtain ⟨x,HX⟩:∃ x:Nat,Hid (x=nb s):=⟨_,rfl⟩
   rw [← HX.out] at HR
   have hbl:Hid ((gl n i l).length+1≤maxLen∧((gl n i l).length+1)*8≤140737488355328∧w.heap.size≤wr.heap.size+1):=h_ (by
    have h3:=HG.out.grown.size
    have h4:i*1≤i*n:=Nat.mul_le_mul_left _ h1
    rw [vV];unfold maxLen
    have h5:=HT.out
    omega)
   refine (HR.out).mono ?_
   rintro e w' ⟨rfl,rfl⟩
   go_wp2_with (at_builtin;refine wpList_append_own_at _ rfl (.tmp 17) (.tmp 25) 56 rfl w.heap.size 86 i0 (.int .u64 0) 1 8 Tryz.underlying56 hi hz0 hz1 hz2 rfl (by decide) _ _ _ rfl ((HG.out.own).alloc _) ⟨_,0,none⟩ 1 1 [.int .u64 (x:Int)] rfl rfl (cell_one_new _ _ _) (by intro u hu;simp at hu;subst hu;rfl) hbl.out.1 hbl.out.2.1 (by simp;exact hbl.out.2.2) ?_)
   intro v5 w5 yM yH _ uS
   have HG5:=h_ (HG.out.next rfl yM yH uS)
   clear yM yH uS
   go_wp2
   go_roundw
   case rel=>exact ⟨i+1,t+n,by omega,by go_num,h_ (by rw [HT.out,Nat.succ_mul]),h_ (by rw [yif,← HT.out,← HS.out,← HX.out];exact HG5.out)⟩
   case measure=>simp [intOf];omega
  ·obtain rfl:i=k:=by omega
   have htn:¬ t+n≤len:=by rw [HT.out];have:=HKN.out.2;omega
   have htl:t≤len:=by rw [HT.out];exact HKN.out.1
   have htn':¬ (t:Int)+(n:Int)≤(len:Int):=by omega
   have hbw:Hid (Be w wr):=h_ (HG.out.below nl (by intro k hk;cases hk))
   have Hb2:=h_ (Hb.out.below hbw.out)
   obtain ⟨qo,co,rfl,hrd,-⟩:=yfE HG.out.own
   have HRD:=h_ hrd
   obtain ⟨X,HXX⟩:=ey (gl n i l)
   have hXl:X.length=i:=by rw [HXX.out,vV]
   rw [← HXX.out,hXl] at HRD
   rw [← HXX.out,hXl]
   clear hrd
   have GJ:(i:Int)*(n:Int)=(t:Int):=by rw [HT.out];simp
   have hrl:(l.drop t).length=len-t:=by rw [List.length_drop,HL.out]
   have yF:Hid (∀ nq q d,Bs wr q (l.drop t)→ybi (gl n i l) (l.drop (i*n)) w (.returned (.tuple #[.slice qo i co,.slice q (len-t) d])) (wr.drewN nq)):=h_ (fun nq q d hq=>by
    refine ⟨yaJ hbw.out _,qo,co,q,d,?_,?_,?_⟩
    ·rw [← HT.out,hrl,vV]
    ·rw [vV,← HXX.out];exact HRD.out.below (yaJ bR _)
    ·rw [← HT.out];exact hq.below (yaJ bR _))
   clear hrl
   by_cases hct:c=t
   ·subst hct
    obtain rfl:len=c:=by omega
    have hq:Hid (Bs wr (some ⟨b0,off,none⟩) (l.drop len)):=h_ (.inl (by rw [HL.out,List.drop_length];rfl))
    go_wp2_with fail
    go_quiet (fail)
    clear GJ
    go_wp2
    go_ret2
    have h:=fun nq=>yF.out nq _ 0 hq.out
    simp only [Nat.sub_self] at h
    exact h _
   ·have hct':t<c:=by omega
    have hq:Hid (Bs wr (some ⟨b0,off+t,none⟩) (l.drop t)):=h_ (vH Hb2.out t (by rw [← HL.out];exact htl) rfl)
    go_wp2_with fail
    go_quiet (fail)
    clear GJ
    go_wp2
    go_ret2
    exact yF.out _ _ _ hq.out
theorem yl2 (p:Oa) (c n:Nat) (w:World) (h1:1≤n) (h2:n≤8) (hpc:p=none→c=0) :
  Calls Tryz.prog 158 #[.slice p 0 c,.int .i64 (n:Int)] w (ybi [] [] w):=by
 have hn1:1≤(n:Int):=by omega
 have hn8:(n:Int)≤8:=by omega
 have htn:¬ 0+(n:Int)≤0:=by omega
 have htn2:¬ (n:Int)≤0:=by omega
 have GJ:(0:Int)*(n:Int)=0:=Int.zero_mul _
 have yF:Hid (∀ nq p c q d,ybi [] [] w (.returned (.tuple #[.slice p 0 c,.slice q 0 d])) (w.drewN nq)):=h_ (fun nq p c q d=>⟨yaJ bR _,p,c,q,d,rfl,Rd.nil _ _,Bs.nil _ _⟩)
 go_in
 go_wp2
 go_loopw [6,7] (fun vr iv wr=>vr=.slice none 0 0∧iv=.int .i64 0∧wr=w) (fun _ _ _=>0)
 case atStart=>exact ⟨rfl,rfl,rfl⟩
 case round =>
  obtain ⟨rfl,rfl,rfl⟩:=hrel
  cases p with
  | none =>
   obtain rfl:c=0:=hpc rfl
   go_wp2_with fail
   go_quiet (fail)
   go_wp2
   go_ret2
   exact yF.out _ _ _ _ _
  | some ad =>
   obtain ⟨b0,off,sp⟩:=ad
   go_wp2_with fail
   go_quiet (fail)
   go_wp2
   go_ret2
   exact yF.out _ _ _ _ _
theorem yfZ (p:Oa) (c n:Nat) (l:Lb) (w:World) (h1:1≤n) (h2:n≤8) (hl:l.length≤1048576) (hc:l.length≤c) (hpc:p=none→c=0) (hb:Bs w p l) :
  Calls Tryz.prog 158 #[.slice p l.length c,.int .i64 (n:Int)] w (ybi (gl n (l.length/n) l) (l.drop (l.length/n*n)) w):=by
 rcases hb with h0|⟨b,off,rfl,h3,h4⟩
 ·obtain rfl:=List.eq_nil_of_length_eq_zero h0
  have e:([]:Lb).length/n=0:=Nat.zero_div n
  rw [e,Nat.zero_mul]
  exact yl2 p c n w h1 h2 hpc
 ·exact ykv b off c n l w h1 h2 hl hc (.inr ⟨b,off,rfl,h3,h4⟩)
theorem yf0 (p:Oa) (c k n:Nat) (gs:List Nat) (q:Oa) (r d:Nat) (rs:Lb) (w:World) (h1:1≤n) (h2:n≤8) (hk:k*n≤1048576) (hr:r≤1048576) (hgs:Rd w p k gs) (hlt:∀ x ∈ gs,x<zR) (hrl:Hid (rs.length=r)) (hrs:Bs w q rs) :
  Calls Tryz.prog 159 #[.slice p k c,.int .i64 (n:Int),.slice q r d] w (App w.heap.size w (.slice none 0 0) (jl n gs++rs)):=by
 obtain ⟨i0,hi,hz0,hz1,hz2⟩:=info_parts uF
 have HK:=h_ hgs
 have HR:=h_ hrs
 have HLT:=h_ hlt
 have HK8:=h_ hk
 have hkk:k≤1048576:=by have:k*1≤k*n:=Nat.mul_le_mul_left _ h1;omega
 have hki:(k:Int)≤1048576:=by omega
 have hn1:1≤(n:Int):=by omega
 have hn8:(n:Int)≤8:=by omega
 have hri:(r:Int)≤1048576:=by omega
 obtain ⟨t,HT⟩:∃ t:Nat,Hid (t=k*n):=⟨_,rfl⟩
 have GJ:(k:Int)*(n:Int)=(t:Int):=by rw [HT.out];simp
 have hti:(t:Int)≤1048576:=by rw [HT.out];omega
 clear hgs hrs hlt hk
 go_in
 go_wp2_with (at_make;refine wpList_make_own _ rfl _ _ 39 rfl w.heap.size 5 i0 (.int .u8 0) 1 Tryz.underlying39 hi hz0 hz1 _ _ _ (t+r) rfl rfl ?b1 ?b2 ?b3 nl ?_)
 case b1=>omega
 case b2=>rw [hz2];omega
 case b3=>unfold maxLen;omega
 intro w1 yP zB
 have HG0:Hid (Grew w.heap.size w (.slice none 0 0) [] w1 (.slice (some ⟨w.heap.size,0,none⟩) 0 (t+r))):=h_ ⟨yP,zB,.inr ⟨_,rfl,Nat.le_refl _⟩⟩
 clear yP zB
 go_wp2
 go_loopw [7,8] (fun vr iv wr=>∃ (i:Nat),i≤k∧iv=.int .i64 i∧Hid (Grew w.heap.size w (.slice none 0 0) (jl n (gs.take i)) wr vr)) (fun _ iv _=>k-(intOf iv).toNat)
 case atStart=>exact ⟨0,Nat.zero_le _,rfl,h_ (by rw [List.take_zero];exact HG0.out)⟩
 case round =>
  obtain ⟨i,hik,rfl,HG⟩:=hrel
  have hbw:Hid (Be w wr):=h_ (HG.out.below nl (by intro k hk;cases hk))
  by_cases yay:i<k
  ·obtain ⟨b1,o1,x,rfl,hb1,hc1,hx⟩:=(HK.out.below hbw.out).at yay
   have hxl:x<zR:=by
    rw [← hx.out]
    have hlen:i<gs.length:=by rw [HK.out.len];exact yay
    rw [gD hlen]
    exact HLT.out _ (List.getElem_mem hlen)
   have HN:=h_ (yaP x n wr h2 hxl)
   have hxi:(x:Int)≤18446744073709551615:=by unfold zR at hxl;omega
   clear hxl
   go_wp2_with fail
   refine (HN.out).mono ?_
   rintro e w2 ⟨v2,rfl,hg2⟩
   obtain ⟨p2,c2,rfl,hb2,-⟩:=zA hg2.own
   rw [zD]
   have ygz:Be wr w2:=hg2.below nl (by intro k hk;cases hk)
   have HG2:=h_ (HG.out.trans (Grew.of_below HG.out.own ygz))
   have vK:=h_ hb2
   have hbl:Hid ((jl n (gs.take i)).length+n≤140737488355328∧w.heap.size≤w2.heap.size):=h_ (by
    have h3:=hbw.out.size
    have h4:=ygz.size
    have h5:(gs.take i).length≤k:=by rw [List.length_take];omega
    have h6:(gs.take i).length*n≤k*n:=Nat.mul_le_mul_right _ h5
    have h7:=HK8.out
    rw [uE]
    exact ⟨by omega,by omega⟩)
   have jY:Hid (jl n (gs.take (i+1))=jl n (gs.take i)++be n x):=h_ (by
    rw [yek 0 (by rw [HK.out.len];exact yay),ydg,hx.out,jl,jl,List.append_nil])
   clear hg2 hb2 ygz
   go_wp2_with (at_builtin;refine yQ rfl (.tmp 23) (.tmp 29) rfl w.heap.size _ (jl n (gs.take i)).length (jl n (gs.take i)) rfl rfl HG2.out.own p2 n c2 (be n x) rfl (zD _ _) vK.out hbl.out.1 hbl.out.2 ?_)
   intro v5 w5 hg5
   have HG5:=h_ (HG2.out.trans hg5)
   clear hg5
   go_wp2
   go_roundw
   case rel=>exact ⟨i+1,by omega,by go_num,h_ (by rw [jY.out];exact HG5.out)⟩
   case measure=>simp [intOf];omega
  ·obtain rfl:i=k:=by omega
   have HRS:=h_ (HR.out.below hbw.out)
   have GR:Hid (gs.take i=gs):=h_ (List.take_of_length_le (by rw [HK.out.len];exact Nat.le_refl _))
   have hbl:Hid ((jl n (gs.take i)).length+r≤140737488355328∧w.heap.size≤wr.heap.size):=h_ (by
    have h3:=hbw.out.size
    have h7:=HK8.out
    rw [uE,GR.out,HK.out.len]
    exact ⟨by omega,h3⟩)
   go_wp2_with (at_builtin;refine yQ rfl (.tmp 31) (.tmp 32) rfl w.heap.size _ (jl n (gs.take i)).length (jl n (gs.take i)) rfl rfl HG.out.own q r d rs rfl hrl.out HRS.out hbl.out.1 hbl.out.2 ?_)
   intro v5 w5 hg5
   have HG5:=h_ (HG.out.trans hg5)
   clear hg5
   rw [GR.out] at HG5
   go_wp2
   go_ret
   exact ⟨_,rfl,HG5.out⟩
end
theorem yp8 (f x:Nat):Lib.bitLenAux (f+1) x=if x=0 then 0 else 1+Lib.bitLenAux f (x/2):=rfl
theorem yjA:∀ (f x:Nat),x<2^f→Lib.bitLenAux (f+1) x=Lib.bitLenAux f x
 | 0,x,h=>by
  obtain rfl:x=0:=by simpa using h
  rfl
 | f+1,x,h=>by
  rw [yp8 (f+1) x,yp8 f x]
  by_cases h0:x=0
  ·rw [if_pos h0,if_pos h0]
  ·rw [if_neg h0,if_neg h0,yjA f (x/2) (by rw [Nat.pow_succ] at h;omega)]
theorem yjB:∀ (f x y:Nat),x≤y→Lib.bitLenAux f x≤Lib.bitLenAux f y
 | 0,_,_,_=>Nat.le_refl _
 | f+1,x,y,h=>by
  rw [Lib.bitLenAux,Lib.bitLenAux]
  by_cases h0:x=0
  ·rw [if_pos h0];exact Nat.zero_le _
  ·rw [if_neg h0,if_neg (by omega)]
   have:=yjB f (x/2) (y/2) (Nat.div_le_div_right h);omega
theorem yne {x y:Nat} (h:x≤y):bl x≤bl y:=yjB 64 x y h
theorem ynf:bl 0=0:=by decide
theorem ytd {x:Nat} (h0:x≠0) (h:x<zR):bl x=1+bl (x/2):=by
 have e:Lib.bitLen x=1+Lib.bitLenAux 63 (x/2):=by
  show Lib.bitLenAux (63+1) x=_
  rw [Lib.bitLenAux,if_neg h0]
 show Lib.bitLen x=1+Lib.bitLenAux (63+1) (x/2)
 rw [e,yjA 63 (x/2) (by unfold zR at h;omega)]
theorem yn8 {gs:List Nat} (h:gs≠[]) (hl:∀ g ∈ gs,g<zR):gs.foldl min (gs.getD 0 0)=mnL gs:=by
 cases gs with
 | nil=>exact absurd rfl h
 | cons x gs =>
  have hx:x<zR:=hl x List.mem_cons_self
  show List.foldl min (min x x) gs=List.foldl min (min 18446744073709551615 x) gs
  rw [Nat.min_self,Nat.min_eq_right (by unfold zR at hx;omega)]
theorem yng (m:Nat):∀ (gs:List Nat) (a:Nat),gs.foldl (fun w g=>max w (bl (g-m))) (bl (a-m))=bl (gs.foldl max a-m)
 | [],_=>rfl
 | x::gs,a=>by
  have e:max (bl (a-m)) (bl (x-m))=bl (max a x-m):=by
   rcases Nat.le_total a x with h|h
   ·rw [Nat.max_eq_right h,Nat.max_eq_right (yne (by omega))]
   ·rw [Nat.max_eq_left h,Nat.max_eq_left (yne (by omega))]
  rw [List.foldl_cons,List.foldl_cons,e,yng m gs]
theorem yq1 (gs:List Nat):gs.foldl (fun w g=>max w (bl (g-mnL gs))) 0=wdL gs:=by
 have:=yng (mnL gs) gs 0
 rwa [Nat.zero_sub,ynf] at this
section
open Go.RowKit
open Go.Lib
theorem yn9 (p:Oa) (c k:Nat) (gs:List Nat) (w:World) (hk0:0<k) (hk:k≤1048576) (hgs:Rd w p k gs) (hlt:∀ g ∈ gs,g<zR) :
  Calls Tryz.prog 194 #[.slice p k c] w (Qp (.int .u64 (mnL gs:Int)) w):=by
 have HG:=h_ hgs
 have hkl:Hid (gs.length=k):=h_ hgs.len
 obtain ⟨m,HM⟩:=ey (mnL gs)
 have HF:Hid (gs.foldl min (gs.getD 0 0)=m):=h_ (by
  rw [HM.out];exact yn8 (fun e=>by rw [← List.length_eq_zero_iff,hkl.out] at e;omega) hlt)
 rw [← HM.out]
 obtain ⟨b0,o0,x0,rfl,hb0,hc0,hx0⟩:=hgs.at hk0
 rw [Nat.add_zero] at hc0
 have hki:0<(k:Int):=by omega
 have ycn:(k:Int)≤1048576:=by omega
 clear hgs hlt
 go_in
 go_wp2_with fail
 clear hc0
 go_loop [3,4] (fun mv iv=>∃ (i a:Nat),i≤k∧iv=.int .i64 i∧mv=.int .u64 (a:Int)∧Hid (a=(gs.take i).foldl min (gs.getD 0 0))) (fun _ iv=>k-(Go.RowKit.intOf iv).toNat)
 case atStart=>exact ⟨0,x0,Nat.zero_le _,rfl,rfl,h_ (by rw [List.take_zero,hx0.out];rfl)⟩
 case round =>
  obtain ⟨i,a,hik,rfl,rfl,HA⟩:=hrel
  by_cases hlt:i<k
  ·obtain ⟨b1,o1,x,e1,hb1,hc1,hx⟩:=HG.out.at hlt
   cases e1
   have hlt':(i:Int)<k:=by omega
   obtain ⟨a2,HA2⟩:=ey (min a x)
   have ypd:min (a:Int) (x:Int)=(a2:Int):=by rw [HA2.out];omega
   go_wp2_with fail
   go_round
   case rel=>exact ⟨i+1,a2,by omega,by go_num,by first|rfl|rw [ypd],h_ (by rw [yek 0 (by rw [hkl.out];exact hlt),List.foldl_append,← HA.out,hx.out,HA2.out];rfl)⟩
   case measure=>simp [Go.RowKit.intOf];omega
  ·obtain rfl:i=k:=by omega
   go_wp2
   go_ret
   refine ⟨?_,rfl⟩
   rw [HA.out,List.take_of_length_le (by rw [hkl.out];exact Nat.le_refl _),HF.out]
   rfl
theorem yq2 (x:Nat) (w:World) (hx:x<zR):Calls Tryz.prog 195 #[.int .u64 (x:Int)] w (Qp (.int .i64 (bl x:Int)) w):=by
 obtain ⟨B,HB⟩:=ey (bl x)
 have hB:B≤64:=by rw [HB.out];exact ypU x
 rw [← HB.out]
 have HX:=h_ hx
 clear hx
 go_in
 go_wp2
 go_loop [0,3] (fun xv nv=>∃ (y j:Nat),xv=.int .u64 (y:Int)∧nv=.int .i64 j∧Hid (y<zR)∧Hid (j+bl y=B)) (fun xv _=>(Go.RowKit.intOf xv).toNat)
 case atStart=>exact ⟨x,0,rfl,rfl,HX,h_ (by rw [Nat.zero_add];exact HB.out.symm)⟩
 case round =>
  obtain ⟨y,j,rfl,rfl,HY,HJ⟩:=hrel
  have hj:(j:Int)≤64:=by have:=HJ.out;omega
  by_cases h0:0<y
  ·have h0':0<(y:Int):=by omega
   obtain ⟨y2,HY2⟩:=ey (y/2)
   have hs:(y:Int)/2=(y2:Int):=by rw [HY2.out];omega
   have hlt:(y2:Int)<(y:Int):=by omega
   go_wp2_with fail
   go_round
   case rel=>exact ⟨y2,j+1,by first|rfl|rw [hs],by go_num,h_ (by have:=HY.out;omega),h_ (by have h:=HJ.out;rw [ytd (by omega) HY.out,← HY2.out] at h;omega)⟩
   case measure=>simp [Go.RowKit.intOf];omega
  ·obtain rfl:y=0:=by omega
   go_wp2
   go_ret
   refine ⟨?_,rfl⟩
   have h:=HJ.out
   rw [ynf] at h
   rw [← h];rfl
def fxL (b:Nat→Nat) (T F:Nat):Lb:=pkL b T++List.replicate (F-(T+7)/8) 0
theorem yq3 (b:Nat→Nat) (F:Nat):fxL b 0 F=List.replicate F 0:=rfl
theorem ydF (b:Nat→Nat) {T F:Nat} (h:(T+7)/8≤F):(fxL b T F).length=F:=by
 rw [fxL,List.length_append,vF,List.length_replicate];omega
theorem yte (b:Nat→Nat) {T F:Nat} (h:T<8*F):(fxL b T F).getD (T/8) 0=UInt8.ofNat (bv b (T/8) (T%8)):=by
 by_cases h8:T%8=0
 ·rw [fxL,List.getD_eq_getElem?_getD,List.getElem?_append_right (by rw [vF];omega),vF,List.getElem?_replicate,if_pos (by omega),h8];rfl
 ·rw [fxL,List.getD_eq_getElem?_getD,List.getElem?_append_left (by rw [vF];omega),← List.getD_eq_getElem?_getD,yle b (by omega),show min 8 (T-8*(T/8))=T%8 by omega]
theorem ytf (b:Nat→Nat) {T F:Nat} (h:T<8*F):(fxL b T F).set (T/8) (UInt8.ofNat (bv b (T/8) (T%8+1)))=fxL b (T+1) F:=by
 by_cases h8:T%8=0
 ·have e1:F-(T+7)/8=(F-(T+1+7)/8)+1:=by omega
  rw [fxL,fxL,List.set_append_right _ _ (by rw [vF];omega),vF,show T/8-(T+7)/8=0 by omega,e1,List.replicate_succ,List.set_cons_zero,ynD b h8,h8,List.append_assoc];rfl
 ·have e1:(T+1+7)/8=(T+7)/8:=by omega
  rw [fxL,fxL,List.set_append_left _ _ (by rw [vF];omega),e1,ynE b h8]
theorem yq4 (b:Nat→Nat) (T:Nat):fxL b T ((T+7)/8)=pkL b T:=by
 rw [fxL,Nat.sub_self,List.replicate_zero,List.append_nil]
theorem yq5 {d e:Nat}:bits .and .u8 (IntKind.u8.wrap ((d:Int)/2^e)) 1=((d/2^e%2:Nat):Int):=by
 have h1:(d:Int)/2^e=((d/2^e:Nat):Int):=by rw [Int.natCast_ediv,Int.natCast_pow];rfl
 have h3:IntKind.u8.wrap ((d:Int)/2^e)=((d/2^e%256:Nat):Int):=by rw [h1,IntKind.wrap_u8'];omega
 have h2:=u8_and_nat (d/2^e%256) 1 (Nat.mod_lt _ (by decide)) (by decide)
 rw [nat_mask1] at h2
 rw [h3,show (1:Int)=((1:Nat):Int) from rfl,h2]
 omega
theorem yq6 {w:World} {B g n:Nat} (h:w.ownsRow B 5 1 (.slice (some ⟨g,0,none⟩) n n) n (madeCells #[Value.int .u8 0] n).toList):w.ownsRow B 5 1 (.slice (some ⟨g,0,none⟩) n n) (List.replicate n (0:UInt8)).length (zN (List.replicate n 0)):=by
 rw [ydL] at h
 rw [List.length_replicate];exact h
theorem yim (p:Oa) (c k n:Nat) (gs:List Nat) (q:Oa) (r d:Nat) (rs:Lb) (w:World) (h1:1≤n) (h2:n≤8) (hk0:0<k) (hk:k≤1048576) (hr:r≤1048576) (hgs:Rd w p k gs) (hlt:∀ g ∈ gs,g<zR) (hrl:Hid (rs.length=r)) (hrs:Bs w q rs) :
  Calls Tryz.prog 160 #[.slice p k c,.int .i64 (n:Int),.slice q r d] w (App w.heap.size w (.slice none 0 0) (ycm n gs rs)):=by
 obtain ⟨i0,hi,hz0,hz1,hz2⟩:=info_parts uF
 have HGS:=h_ hgs
 have HRS:=h_ hrs
 have HLT:=h_ hlt
 have hgl:Hid (gs.length=k):=h_ hgs.len
 have hki:0<(k:Int):=by omega
 have ycn:(k:Int)≤1048576:=by omega
 have ydr:¬ (k:Int)=0:=by omega
 have hn1:1≤(n:Int):=by omega
 have hn8:(n:Int)≤8:=by omega
 have hri:(r:Int)≤1048576:=by omega
 have hz:IntKind.u64.wrap (k:Int)=(k:Int):=by rw [IntKind.wrap_u64];omega
 obtain ⟨m,HM⟩:=ey (mnL gs)
 obtain ⟨wd,HWD⟩:=ey (wdL gs)
 have hm:m<18446744073709551616:=by rw [HM.out];exact yqt gs
 have hwd:wd≤64:=by rw [HWD.out];exact ylj gs
 have HMG:Hid (∀ g ∈ gs,m≤g):=h_ (by rw [HM.out];intro g hg;exact yfu hg)
 have yji:∀ j,j<k→gs.getD j 0 ∈ gs:=fun j hj=>by
  rw [gD (by rw [hgl.out];exact hj)]
  exact List.getElem_mem _
 have yso:=h_ yji
 obtain ⟨R,HR⟩:=ey (ycm n gs rs)
 obtain ⟨y,HY⟩:∃ y:UInt8,Hid (y=UInt8.ofNat wd):=⟨_,rfl⟩
 have hyw:y.toNat=wd:=by rw [HY.out,UInt8.toNat_ofNat'];omega
 obtain ⟨b,HB⟩:=ey (btF gs m wd)
 have vK:Hid (∀ t,b t<2):=h_ (fun t=>by rw [HB.out];exact ylg _ _ _ _)
 obtain ⟨TT,GY⟩:=ey (k*wd)
 have hTT:TT≤67108864:=by
  have h5:k*wd≤1048576*64:=Nat.mul_le_mul hk hwd
  rw [GY.out];omega
 obtain ⟨F,HFF⟩:=ey ((TT+7)/8)
 have hFl:F≤8388609:=by rw [HFF.out];omega
 have GJ:(k:Int)*(wd:Int)=(TT:Int):=by rw [GY.out];simp
 have yfd:((TT:Int)+7)/8=(F:Int):=by rw [HFF.out];omega
 have hR:Hid (be 4 k++be n m++[y]++fxL b TT F++rs=R):=h_ (by
  rw [HFF.out,yq4,HR.out,ycm,pkB,if_neg (by rw [hgl.out];omega),hgl.out,← HM.out,← HWD.out,← HY.out,pkF,hgl.out,← HM.out,← HWD.out,← HB.out,← GY.out])
 rw [← HR.out]
 have HN:=h_ (yaP k 4 w (by decide) (by omega))
 clear hgs hrs hlt yji
 go_in
 go_wp2_with fail
 refine (HN.out).mono ?_
 rintro e w1 ⟨v1,rfl,hg1⟩
 obtain ⟨L1,HL1⟩:=ey (be 4 k)
 rw [← HL1.out] at hg1
 have G1:=h_ hg1
 have hB1:Hid (Be w w1):=h_ (hg1.below nl (by intro k hk;cases hk))
 have HLe:=h_ (yn9 p c k gs w1 hk0 hk (HGS.out.below hB1.out) HLT.out)
 rw [← HM.out] at HLe
 clear hg1
 go_wp2_with fail
 refine (HLe.out).mono ?_
 rintro e w' ⟨rfl,rfl⟩
 go_wp2
 go_loop [9,10] (fun wv iv=>∃ (i a:Nat),i≤k∧iv=.int .i64 i∧wv=.int .i64 (a:Int)∧a≤64∧Hid (a=(gs.take i).foldl (fun w g=>max w (bl (g-m))) 0)) (fun _ iv=>k-(Go.RowKit.intOf iv).toNat)
 case atStart=>exact ⟨0,0,Nat.zero_le _,rfl,rfl,by decide,h_ (by rw [List.take_zero];rfl)⟩
 case round =>
  obtain ⟨i,a,hik,rfl,rfl,ha64,HA⟩:=hrel
  by_cases hlt:i<k
  ·obtain ⟨b1,o1,x,rfl,hb1,hc1,hx⟩:=(HGS.out.below hB1.out).at hlt
   have hlt':(i:Int)<k:=by omega
   have hxl:x<zR:=by rw [← hx.out];exact HLT.out _ (yso.out i hlt)
   have hxm:m≤x:=by rw [← hx.out];exact HMG.out _ (yso.out i hlt)
   obtain ⟨dd,HD⟩:=ey (x-m)
   have ybp:IntKind.u64.wrap ((x:Int)-(m:Int))=(dd:Int):=by
    rw [IntKind.wrap_u64,HD.out];unfold zR at hxl;omega
   have HBits:=h_ (yq2 dd w1 (by rw [HD.out];omega))
   obtain ⟨B,HBL⟩:=ey (bl dd)
   have hB64:B≤64:=by rw [HBL.out];exact ypU _
   rw [← HBL.out] at HBits
   obtain ⟨a2,HA2⟩:=ey (max a B)
   have hmax:max (a:Int) (B:Int)=(a2:Int):=by rw [HA2.out];omega
   have ha2:a2≤64:=by rw [HA2.out];omega
   clear hxl hxm
   go_wp2_with fail
   refine (HBits.out).mono ?_
   rintro e w' ⟨rfl,rfl⟩
   clear ybp
   go_wp2_with fail
   go_round
   case rel=>exact ⟨i+1,a2,by omega,by go_num,by first|rfl|rw [hmax],ha2,h_ (by rw [yek 0 (by rw [hgl.out];exact hlt),List.foldl_append,← HA.out,hx.out,HA2.out,HBL.out,HD.out];rfl)⟩
   case measure=>simp [Go.RowKit.intOf];omega
  ·obtain rfl:i=k:=by omega
   obtain rfl:a=wd:=by rw [HA.out,List.take_of_length_le (by rw [hgl.out];exact Nat.le_refl _),HM.out,yq1,HWD.out]
   have HN2:=h_ (yaP m n w1 h2 hm)
   go_wp2_with fail
   refine (HN2.out).mono ?_
   rintro e w2 ⟨v2,rfl,hg2⟩
   obtain ⟨p2,c2,rfl,hs2,-⟩:=zA hg2.own
   rw [zD]
   have hb2:Be w1 w2:=hg2.below nl (by intro k hk;cases hk)
   have HS2:=h_ hs2
   have G2:=h_ (G1.out.trans (Grew.of_below G1.out.own hb2))
   have hB2:=th hB1 hb2
   have hL1:Hid (L1.length=4):=h_ (by rw [HL1.out,zD])
   have yeB:Hid (L1.length+n≤140737488355328∧w.heap.size≤w2.heap.size):=h_ ⟨by rw [hL1.out];omega,hB2.out.size⟩
   clear hg2 hb2 hs2
   go_wp2_with (at_builtin;refine yQ rfl (.tmp 43) (.tmp 46) rfl w.heap.size v1 L1.length L1 rfl rfl G2.out.own p2 n c2 (be n m) rfl (zD _ _) HS2.out yeB.out.1 yeB.out.2 ?_)
   intro v3 w3 hg3
   obtain ⟨L3,HL3⟩:=ey (L1++be n m)
   rw [← HL3.out] at hg3
   have G3:=h_ (G2.out.trans hg3)
   clear hg3
   have hB3:Hid (Be w w3):=h_ (G3.out.below nl (by intro k hk;cases hk))
   have hL3:Hid (L3.length=4+n):=h_ (by rw [HL3.out,List.length_append,hL1.out,zD])
   have G3a:=h_ (G3.out.trans (Grew.of_below G3.out.own ((Below.refl _ w3).alloc nl (.cells #[.int .u8 (a:Int)] 5))))
   have jT:Hid (Bs (w3.alloc (.cells #[.int .u8 (a:Int)] 5)) (some ⟨w3.heap.size,0,none⟩) [y]):=h_ (by have h:=yli w3 y;rwa [hyw] at h)
   have ypr:Hid (L3.length+1≤140737488355328∧w.heap.size≤(w3.alloc (.cells #[.int .u8 (a:Int)] 5)).heap.size):=h_ ⟨by rw [hL3.out];omega,by have:=hB3.out.size;simp;omega⟩
   go_wp2_with (at_builtin;refine yQ rfl (.tmp 48) (.tmp 51) rfl w.heap.size v3 L3.length L3 rfl rfl G3a.out.own _ 1 1 [y] rfl rfl jT.out ypr.out.1 ypr.out.2 ?_)
   intro v4 w4 hg4
   obtain ⟨L4,HL4⟩:∃ L4,Hid (L4=L3++[y]):=⟨L3++[y],h_ rfl⟩
   rw [← HL4.out] at hg4
   have G4:=h_ (G3a.out.trans hg4)
   clear hg4
   have hB4:Hid (Be w w4):=h_ (G4.out.below nl (by intro k hk;cases hk))
   have hL4:Hid (L4.length=4+n+1):=h_ (by rw [HL4.out,List.length_append,hL3.out];rfl)
   go_wp2_with (at_make;go_loud (refine wpList_make_full _ rfl _ _ 39 rfl w4.heap.size 5 i0 (.int .u8 0) 1 Tryz.underlying39 hi hz0 hz1 _ _ _ _ F rfl rfl (by omega) (by omega) ?b2 ?b3 nl ?_))
   case b2=>rw [hz2];omega
   case b3=>unfold maxLen;omega
   intro w5 yM hgr5
   have HO5:=h_ (yq6 yM)
   have hb5:Hid (Be w4 w5):=h_ (bR.grown hgr5 nl (fun k e=>by cases e))
   have G5:=h_ (G4.out.trans (Grew.of_below G4.out.own hb5.out))
   clear yM hgr5
   have hLoop0:Hid (w5.ownsRow w4.heap.size 5 1 (.slice (some ⟨w4.heap.size,0,none⟩) F F) (fxL b (0*a) F).length (zN (fxL b (0*a) F))):=h_ (by rw [Nat.zero_mul,yq3];exact HO5.out)
   go_wp2
   go_loopw [12] (fun iv wr=>∃ (t:Nat),t≤i∧iv=.int .i64 t∧Hid (wr.ownsRow w4.heap.size 5 1 (.slice (some ⟨w4.heap.size,0,none⟩) F F) (fxL b (t*a) F).length (zN (fxL b (t*a) F)))∧Hid (Be w4 wr)) (fun iv _=>i-(Go.RowKit.intOf iv).toNat)
   case atStart=>exact ⟨0,Nat.zero_le _,rfl,hLoop0,hb5⟩
   case round =>
    obtain ⟨t,hti,rfl,HO,HBw⟩:=hrel
    obtain ⟨P,HP⟩:=ey (t*a)
    have hmulP:(t:Int)*(a:Int)=(P:Int):=by rw [HP.out];simp
    rw [← HP.out] at HO
    by_cases ysp:t<i
    ·have htlt':(t:Int)<i:=by omega
     have hPT:P+a≤TT:=by
      rw [HP.out,GY.out]
      have h5:(t+1)*a≤i*a:=Nat.mul_le_mul_right _ ysp
      rwa [Nat.succ_mul] at h5
     go_wp2
     go_loopw [13] (fun jv wr=>∃ (j:Nat),j≤a∧jv=.int .i64 j∧Hid (wr.ownsRow w4.heap.size 5 1 (.slice (some ⟨w4.heap.size,0,none⟩) F F) (fxL b (P+j) F).length (zN (fxL b (P+j) F)))∧Hid (Be w4 wr)) (fun jv _=>a-(Go.RowKit.intOf jv).toNat)
     case atStart=>exact ⟨0,Nat.zero_le _,rfl,HO,HBw⟩
     case round =>
      clear HO HBw
      obtain ⟨j,hja,rfl,HO,HBw⟩:=hrel
      by_cases hj:j<a
      ·have hj':(j:Int)<a:=by omega
       obtain ⟨T,HT⟩:=ey (P+j)
       have hTs:(P:Int)+(j:Int)=(T:Int):=by rw [HT.out];omega
       have hTT':T<TT:=by rw [HT.out];omega
       rw [← HT.out] at HO
       obtain ⟨b1,o1,x,rfl,hb1,hc1,hx⟩:=(HGS.out.below (tr hB4.out HBw.out)).at ysp
       have hxl:x<zR:=by rw [← hx.out];exact HLT.out _ (yso.out t ysp)
       have hxm:m≤x:=by rw [← hx.out];exact HMG.out _ (yso.out t ysp)
       obtain ⟨dd,HD⟩:=ey (x-m)
       have hddl:(dd:Int)≤18446744073709551615:=by rw [HD.out];unfold zR at hxl;omega
       have ybp:IntKind.u64.wrap ((x:Int)-(m:Int))=(dd:Int):=by
        rw [IntKind.wrap_u64,HD.out];unfold zR at hxl;omega
       obtain ⟨e,HE⟩:=ey (a-1-j)
       have he:(a:Int)-1-(j:Int)=(e:Int):=by rw [HE.out];omega
       have hel:(e:Int)≤63:=by omega
       obtain ⟨bt,HBt⟩:=ey (b T)
       have yuF:bt<2:=by rw [HBt.out];exact vK.out T
       have hbtv:dd/2^e%2=bt:=by rw [HBt.out,HB.out,HT.out,HP.out,ylh _ _ hj,HE.out,HD.out,hx.out]
       have ybJ:bits .and .u8 (IntKind.u8.wrap ((dd:Int)/2^e)) 1=(bt:Int):=by rw [yq5,hbtv]
       have hand2:bits .and .u8 ((dd:Int)/2^e%256) 1=(bt:Int):=by rw [← ybJ,IntKind.wrap_u8']
       have yuB:(bt:Int)≤1:=by omega
       obtain ⟨r7,HR7⟩:=ey (7-T%8)
       have ypn:r7≤7:=by rw [HR7.out];omega
       have hr7:7-(T:Int)%8=(r7:Int):=by rw [HR7.out];omega
       obtain ⟨q8,HQ8⟩:=ey (T/8)
       have hq8:(T:Int)/8=(q8:Int):=by rw [HQ8.out];omega
       have hTF:T<8*F:=by rw [HFF.out];omega
       have hFi:(F:Int)≤8388609:=by omega
       have hq8F:(q8:Int)<F:=by rw [HQ8.out];omega
       obtain ⟨X,HX⟩:=ey (bv b (T/8) (T%8))
       obtain ⟨Y,HYY⟩:∃ Y:UInt8,Hid (Y=UInt8.ofNat (bv b (T/8) (T%8+1))):=⟨_,rfl⟩
       have hXl:X<256:=by
        have h:=ylB b vK.out (T/8) (T%8) (by omega)
        have h5:0<2^(8-T%8):=Nat.pow_pos (by decide)
        rw [HX.out];omega
       have hXi:(X:Int)≤255:=by omega
       have hpw:bt*2^r7<256:=by
        have h6:2^r7≤2^7:=Nat.pow_le_pow_right (by decide) ypn
        have h7:bt*2^r7≤1*2^r7:=Nat.mul_le_mul_right _ (by omega)
        omega
       have ysq:IntKind.u8.wrap ((bt:Int)*2^r7)=((bt*2^r7:Nat):Int):=by
        rw [IntKind.wrap_u8',show (bt:Int)*2^r7=((bt*2^r7:Nat):Int) by rw [Int.natCast_mul,Int.natCast_pow];rfl];omega
       have hor:bits .or .u8 (X:Int) ((bt*2^r7:Nat):Int)=((Y.toNat:Nat):Int):=by
        rw [u8_or_nat X _ hXl hpw,HX.out,HBt.out,HR7.out,HYY.out,yiW b vK.out _ (by omega),← yug b vK.out (T/8) (by omega),show 8*(T/8)+T%8=T by omega]
       obtain ⟨sh,HSH⟩:=ey (bt*2^r7)
       rw [← HSH.out] at ysq hor
       have hshl2:(bt:Int)*2^r7%256=(sh:Int):=by rw [← ysq,IntKind.wrap_u8']
       have hfl:(fxL b T F).length=F:=ydF b (by omega)
       obtain ⟨g,cap,hv,hcap,hgB,hgl2,zS,vW,GZ⟩:=yat HO.out (by omega)
       have hge:g=w4.heap.size:=by injection hv with q1;injection q1 with q1;injection q1 with q1;exact q1.symm
       subst hge
       have c33:wr.cell? ⟨w4.heap.size,q8,none⟩=some (.int .u8 (X:Int)):=by
        have h:=zS (T/8) (by rw [hfl];omega)
        rw [yte b hTF,yiW b vK.out _ (by omega),← HX.out,← HQ8.out] at h;exact h
       have f33:wr.frozen? ⟨w4.heap.size,q8,none⟩=false:=vW _
       have hs:=GZ q8 Y (by rw [hfl];omega)
       have HO6:Hid ((wr.setCell ⟨w4.heap.size,q8,none⟩ (.int .u8 ((Y.toNat:Nat):Int))).ownsRow w4.heap.size 5 1 (.slice (some ⟨w4.heap.size,0,none⟩) F F) (fxL b (T+1) F).length (zN (fxL b (T+1) F))):=h_ (by
        rw [show (fxL b (T+1) F).length=(fxL b T F).length by rw [hfl,ydF b (by omega)],← ytf b hTF,← HYY.out,← HQ8.out];exact hs)
       have HBw6:Hid (Be w4 (wr.setCell ⟨w4.heap.size,q8,none⟩ (.int .u8 ((Y.toNat:Nat):Int)))):=h_ (HBw.out.setCell (p:=⟨w4.heap.size,q8,none⟩) nl _)
       clear hs GZ zS vW hv hcap hgB hgl2 hxl hxm hbtv hpw hXl yuF hfl hTF
       go_wp2_with fail
       go_region
       have HO7:Hid ((wr.setCell ⟨w4.heap.size,q8,none⟩ (.int .u8 ((Y.toNat:Nat):Int))).drew.ownsRow w4.heap.size 5 1 (.slice (some ⟨w4.heap.size,0,none⟩) F F) (fxL b (P+(j+1)) F).length (zN (fxL b (P+(j+1)) F))):=h_ (by rw [show P+(j+1)=T+1 by rw [HT.out];omega];exact HO6.out)
       have HBw7:Hid (Be w4 (wr.setCell ⟨w4.heap.size,q8,none⟩ (.int .u8 ((Y.toNat:Nat):Int))).drew):=h_ HBw6.out.drew
       clear HO6 HBw6 c33 f33 hc1
       go_wp2
       go_roundw
       case rel=>exact ⟨j+1,by omega,by go_num,HO7,HBw7⟩
       case measure=>simp [Go.RowKit.intOf];omega
      ·obtain rfl:j=a:=by omega
       go_wp2
       go_roundw
       case rel=>exact ⟨t+1,by omega,by go_num,h_ (by rw [Nat.succ_mul,← HP.out];exact HO.out),HBw⟩
       case measure=>simp [Go.RowKit.intOf];omega
    ·obtain rfl:t=i:=by omega
     have ePT:P=TT:=by rw [HP.out,GY.out]
     rw [ePT] at HO
     have hfl:(fxL b TT F).length=F:=ydF b (by rw [HFF.out];exact Nat.le_refl _)
     obtain ⟨pf,cf,hvf,hsf,-⟩:=zA HO.out
     have hpf:pf=some ⟨w4.heap.size,0,none⟩:=by injection hvf with q1;exact q1.symm
     subst hpf
     have HSF:=h_ hsf
     obtain ⟨FX,HFX⟩:=ey (fxL b TT F)
     rw [← HFX.out] at HSF hfl
     have G6:=h_ (G4.out.trans (Grew.of_below G4.out.own HBw.out))
     have yps:Hid (L4.length+F≤140737488355328∧w.heap.size≤wr.heap.size):=h_ ⟨by rw [hL4.out];omega,Nat.le_trans hB4.out.size HBw.out.size⟩
     clear hsf hvf HO
     go_wp2_with (at_builtin;refine yQ rfl (.tmp 104) (.tmp 105) rfl w.heap.size v4 L4.length L4 rfl rfl G6.out.own _ F F FX rfl hfl HSF.out yps.out.1 yps.out.2 ?_)
     intro v7 w7 hg7
     obtain ⟨L7,HL7⟩:=ey (L4++FX)
     rw [← HL7.out] at hg7
     have G7:=h_ (G6.out.trans hg7)
     clear hg7
     have hB7:Hid (Be w w7):=h_ (G7.out.below nl (by intro k hk;cases hk))
     have hbl7:Hid (L7.length+r≤140737488355328∧w.heap.size≤w7.heap.size):=h_ ⟨by rw [HL7.out,List.length_append,hL4.out,hfl];omega,hB7.out.size⟩
     have HRS7:=h_ (HRS.out.below hB7.out)
     go_wp2_with (at_builtin;refine yQ rfl (.tmp 107) (.tmp 108) rfl w.heap.size v7 L7.length L7 rfl rfl G7.out.own q r d rs rfl hrl.out HRS7.out hbl7.out.1 hbl7.out.2 ?_)
     intro v8 w8 hg8
     have G8:=h_ (G7.out.trans hg8)
     rw [show L7++rs=R by rw [HL7.out,HL4.out,HL3.out,HL1.out,HFX.out];exact hR.out] at G8
     clear hg8
     go_wp2
     go_ret
     exact ⟨_,rfl,G8.out⟩
theorem yin (p:Oa) (c n:Nat) (q:Oa) (r d:Nat) (rs:Lb) (w:World) (hr:r≤1048576) (hrl:Hid (rs.length=r)) (hrs:Bs w q rs) :
  Calls Tryz.prog 160 #[.slice p 0 c,.int .i64 (n:Int),.slice q r d] w (App w.heap.size w (.slice none 0 0) (ycm n [] rs)):=by
 have HRS:=h_ hrs
 have HN:=h_ (yaP 0 4 w (by decide) (by decide))
 have hz:IntKind.u64.wrap 0=0:=rfl
 have hri:(r:Int)≤1048576:=by omega
 obtain ⟨R,HR⟩:=ey (ycm n [] rs)
 rw [← HR.out]
 clear hrs
 go_in
 go_wp2_with fail
 refine (HN.out).mono ?_
 rintro e w1 ⟨v1,rfl,hg1⟩
 obtain ⟨L1,HL1⟩:=ey (be 4 0)
 rw [← HL1.out] at hg1
 have G1:=h_ hg1
 have hB1:Hid (Be w w1):=h_ (hg1.below nl (by intro k hk;cases hk))
 have HRS1:=h_ (HRS.out.below hB1.out)
 have hbl1:Hid (L1.length+r≤140737488355328∧w.heap.size≤w1.heap.size):=h_ ⟨by rw [HL1.out,zD];omega,hB1.out.size⟩
 clear hg1
 go_wp2_with (at_builtin;refine yQ rfl (.tmp 23) (.tmp 24) rfl w.heap.size v1 L1.length L1 rfl rfl G1.out.own q r d rs rfl hrl.out HRS1.out hbl1.out.1 hbl1.out.2 ?_)
 intro v8 w8 hg8
 have G8:=h_ (G1.out.trans hg8)
 rw [show L1++rs=R by rw [HL1.out,HR.out];rfl] at G8
 clear hg8
 go_wp2
 go_ret
 exact ⟨_,rfl,G8.out⟩
theorem yeM (p:Oa) (c k n:Nat) (gs:List Nat) (q:Oa) (r d:Nat) (rs:Lb) (w:World) (h1:1≤n) (h2:n≤8) (hk:k≤1048576) (hr:r≤1048576) (hgs:Rd w p k gs) (hlt:∀ g ∈ gs,g<zR) (hrl:Hid (rs.length=r)) (hrs:Bs w q rs) :
  Calls Tryz.prog 160 #[.slice p k c,.int .i64 (n:Int),.slice q r d] w (App w.heap.size w (.slice none 0 0) (ycm n gs rs)):=by
 by_cases hk0:k=0
 ·subst hk0
  obtain rfl:=List.eq_nil_of_length_eq_zero hgs.len
  exact yin p c n q r d rs w hr hrl hrs
 ·exact yim p c k n gs q r d rs w h1 h2 (Nat.pos_of_ne_zero hk0) hk hr hgs hlt hrl hrs
theorem yoa (p:Oa) (c n len:Nat) (l:Lb) (w:World) (HN:Hid (len=l.length)) (h1:1≤n) (h2:n≤8) (hl:len≤1048576) (hc:Hid (len≤c)) (hpc:Hid (p=none→c=0)) (hb:Bs w p l) :
  Calls Tryz.prog 106 #[.slice p len c,.int .i64 (n:Int)] w (uR (vJ l n) w):=by
 have HA:=h_ (ybT p len c n w h1 h2 hl)
 have HG:=h_ (yfZ p c n l w h1 h2 (by rw [← HN.out];exact hl) (by rw [← HN.out];exact hc.out) hpc.out hb)
 rw [← HN.out] at HG
 obtain ⟨k,HK⟩:=ey (len/n)
 rw [← HK.out] at HG
 have hkl:k≤1048576:=by rw [HK.out];exact Nat.le_trans (Nat.div_le_self _ _) hl
 obtain ⟨gs,HGS⟩:=ey (gl n k l)
 have hgl:Hid (gs.length=k):=h_ (by rw [HGS.out,vV])
 have hglt:Hid (∀ x ∈ gs,x<zR):=h_ (by rw [HGS.out];exact yiV h2 k l)
 obtain ⟨rs,HRS⟩:=ey (l.drop (k*n))
 rw [← HGS.out,← HRS.out] at HG
 obtain ⟨R,HR⟩:=ey (vJ l n)
 have yF:Hid (ycm n gs rs=R):=h_ (by rw [HR.out,vJ,← HN.out,← HK.out,← HGS.out,← HRS.out])
 obtain ⟨r,HRL⟩:=ez (rs.length)
 have hrl:r≤1048576:=by rw [← HRL.out,HRS.out,List.length_drop,← HN.out];omega
 have hn1:1≤(n:Int):=by omega
 have hn8:(n:Int)≤8:=by omega
 rw [← HR.out]
 clear hb
 go_in
 go_wp2_with fail
 refine (HA.out).mono ?_
 rintro e w' ⟨rfl,rfl⟩
 go_wp2_with fail
 refine (HG.out).mono ?_
 rintro e w1 ⟨hb1,p1,c1,q1,d1,rfl,hrd,hbs⟩
 rw [hgl.out] at hrd ⊢
 rw [HRL.out]
 have yY:=h_ hb1
 have HP:=h_ (yeM p1 c1 k n gs q1 r d1 rs w1 h1 h2 hkl hrl hrd hglt.out HRL hbs)
 rw [yF.out] at HP
 clear hb1 hrd hbs
 go_wp2_with fail
 refine (HP.out).mono ?_
 rintro e w2 ⟨v2,rfl,hg2⟩
 have vK:=h_ (yY.out.trans ((hg2.below nl (by intro k hk;cases hk)).mono yY.out.size))
 obtain ⟨q2,d2,hv2,-,-⟩:=zA hg2.own
 have HO:Hid (w2.ownsRow w.heap.size 5 1 v2 R.length (zN R)):=h_ (by
  obtain ⟨h1,h2|⟨g,cap,cur,hv,hg,h3⟩⟩:=hg2.own
  ·exact ⟨h1,.inl h2⟩
  ·exact ⟨h1,.inr ⟨g,cap,cur,hv,Nat.le_trans yY.out.size hg,h3⟩⟩)
 clear hg2
 subst hv2
 obtain ⟨m,HM⟩:=ey (R.length)
 rw [← HM.out] at HO ⊢
 go_wp2
 go_ret2
 exact ⟨vK.out,_,rfl,by rw [← HM.out];exact HO.out⟩
theorem yu8 (b:Nat→Nat) (wd m k:Nat):∀ x ∈ unG b wd m k,x<zR:=by
 intro x hx;rw [unG,List.mem_map] at hx;obtain ⟨i,_,rfl⟩:=hx;exact Nat.mod_lt _ (by decide)
def ydn (w:World) (e:Ending) (w':World):Prop:=Be w w'∧e=.returned (.tuple #[.slice none 0 0,.bool false])
theorem yob (p:Oa) (len c:Nat) (z:Int) (w:World) (h:len<4):Calls Tryz.prog 164 #[.slice p len c,.int .i64 z] w (ydn w):=by
 have hi:(len:Int)<4:=by omega
 clear h
 go_in
 go_wp2
 go_ret2
 exact ⟨Below.refl _ _,rfl⟩
end
end Go.Proofs.YtgepehlpjpccaaaGreatDoor
