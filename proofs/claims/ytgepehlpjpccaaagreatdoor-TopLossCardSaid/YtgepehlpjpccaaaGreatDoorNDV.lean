/- Contracts. -/
import Derived.Test.YtgepehlpjpccaaaGreatDoorNCM
namespace Go.Proofs.YtgepehlpjpccaaaGreatDoor
set_option maxHeartbeats 1600000
set_option maxRecDepth 100000
section
open Go.RowKit
open Go.Lib
theorem ylx (B:Nat) (q:Option Addr) (o l:List UInt8) (co b0 off cap d n:Nat) (w:World) (hB:B≤w.heap.size) (ho:w.ownsRow B 5 1 (.slice q o.length co) o.length (zS o)) (hl:l.length=n) (hb:Bs w (some ⟨b0,off,none⟩) l) (hd0:(l.getD 0 0).toNat=d) (hd1:128≤(d:Int)) (hno:(o.length:Int)≤500000) (hn:3≤n) (hcap:n≤cap) (hf0:nb ((l.drop 1).take 2)≠0) (hf:nb ((l.drop 1).take 2)≤o.length) :
  Calls Tryz.prog 166 #[.slice q o.length co,.slice (some ⟨b0,off,none⟩) n cap] w (Tok B w (.slice q o.length co) (cp (d-124) (nb ((l.drop 1).take 2)) o) 3):=by
 obtain ⟨i0,hi,hz0,hz1,hz2⟩:=info_parts ya6
 have hd:(d:Int)≤255:=by have:=(l.getD 0 0).toNat_lt;omega
 have hc:w.cell? ⟨b0,off,none⟩=some (.int .u8 (d:Int)):=by
  rcases hb with h0|⟨b1,o1,h1,h2,h3⟩
  ·omega
  ·cases h1
   have:=h3 0 (by omega)
   rw [hd0] at this;exact this
 have hs:=ya8 hb 1 2 (by omega) rfl
 have hl2:((l.drop 1).take 2).length=2:=by simp;omega
 have HN:=Lib.hid (jS (some ⟨b0,off+1,none⟩) (cap-1) _ w (by omega) hs)
 rw [hl2] at HN
 have hlt:=yeD ((l.drop 1).take 2)
 rw [hl2] at hlt
 obtain ⟨D,HD⟩:∃ D,Hid (D=nb ((l.drop 1).take 2)):=⟨_,rfl⟩
 rw [← HD.out] at HN hlt hf hf0 ⊢
 have hD:(D:Int)≤65535:=by
                  have:(256:Nat)^2=65536:=by decide
                  omega
 have HG0:=Lib.hid (Grew.refl ho)
 have HB:=Lib.hid hB
 have HF:=Lib.hid hf
 obtain ⟨no,hk⟩:∃ no,Hid (no=o.length):=⟨_,rfl⟩
 obtain ⟨m,hm⟩:∃ m,Hid (m=d-124):=⟨_,rfl⟩
 rw [← hm.out]
 rw [← hk.out] at hno HG0 HF ⊢
 have hmd:(d:Int)-128+4=((m:Nat):Int):=by rw [hm.out];omega
 have hm2:(m:Int)≤131:=by rw [hm.out];omega
 have t1:decide (1048576<(no:Int)+(m:Int))=false:=by simp;omega
 have hn3:¬ (n:Int)<3:=by omega
 have t2:((D:Int)==0)=false:=by simp;omega
 have t3:decide (no<D)=false:=by have:=HF.out;simp;omega
 have hD1:Hid (0<D):=Lib.hid (by omega)
 clear hb hs hl2 hd0 hlt hl hf hf0 ho hB
 go_enter Tryz.func166,Tryz.ntmps166
 go_wp2_with fail
 refine (HN.out).mono ?_
 rintro e w' ⟨rfl,rfl⟩
 go_wp2_with fail
 clear t1 t2 t3
 go_loopw [0,36] (fun vr i wr=>∃ (k:Nat) (b:List UInt8),k≤m∧i=.int .i64 k∧Hid (b.length=no+k)∧Hid (cp (m-k) D b=cp m D o)∧Hid (Grew B w (.slice q no co) b wr vr)) (fun _ i _=>m-(intOf i).toNat)
 case atStart=>exact ⟨0,o,Nat.zero_le _,rfl,Lib.hid hk.out.symm,Lib.hid (by rw [Nat.sub_zero]),HG0⟩
 case round =>
  obtain ⟨k,b,hkm,rfl,HL,HE,HG⟩:=hrel
  by_cases hlt:k<m
  ·obtain ⟨g,cp1,hv5,ym3,hg,hgl,vH,-,-⟩:=yi7 HG.out.own (by have:=HL.out;have:=HF.out;have:=hD1.out;omega)
   rw [HL.out] at hv5 ym3 vH
   subst hv5
   obtain ⟨x,HX⟩:∃ x:UInt8,Hid (x=b.getD (no+k-D) 0):=⟨_,rfl⟩
   have gc:wr.cell? ⟨g,no+k-D,none⟩=some (.int .u8 ((x.toNat:Nat):Int)):=by rw [HX.out];exact vH _ (by have:=hD1.out;have:=HF.out;omega)
   have hbl:Hid (b.length+1≤maxLen∧(b.length+1)*1≤140737488355328∧B≤wr.heap.size+1):=Lib.hid (by
    have h1:=HL.out
    have h3:=HG.out.grown.size
    have h4:=HB.out
    unfold maxLen;omega)
   have hix:(no:Int)+(k:Int)-(D:Int)=((no+k-D:Nat):Int):=by have:=HF.out;omega
   have hne:Hid (cp (m-(k+1)) D (b++[x])=cp m D o):=Lib.hid (by
    rw [← HE.out,show m-k=(m-(k+1))+1 by omega,cp,HL.out,HX.out])
   rw [HL.out] at hbl
   clear vH
   have yW:=Lib.hid HG.out.own
   rw [HL.out] at yW
   have q3:no+k-D<no+k:=by have:=hD1.out;have:=HF.out;omega
   go_wp2_with (at_builtin;refine wpList_append_own_at _ rfl (.tmp 38) (.tmp 46) 39 rfl B 5 i0 (.int .u8 0) 1 1 Tryz.underlying39 hi hz0 hz1 hz2 rfl (by decide) _ _ _ rfl ((yW.out).alloc _) ⟨_,0,none⟩ 1 1 [.int .u8 (x.toNat:Int)] rfl rfl (cell_one_new _ _ _) (by intro u hu;simp at hu;subst hu;rfl) hbl.out.1 hbl.out.2.1 (by simp;exact hbl.out.2.2) ?_)
   intro v5 w5 yQ yS _ ye1
   have HG5:=Lib.hid (HG.out.next (by rw [HL.out]) yQ yS ye1)
   clear yQ yS ye1
   go_wp2_with fail
   go_roundw
   case rel=>exact ⟨k+1,b++[x],by omega,by go_num,Lib.hid (by rw [List.length_append,HL.out];rfl),hne,HG5⟩
   case measure=>simp [intOf];omega
  ·obtain rfl:k=m:=by omega
   go_wp2_with fail
   go_ret3
   have hE:=HE.out
   rw [Nat.sub_self,cp] at hE
   rw [← hE]
   exact ⟨_,rfl,HG.out⟩
def yym:Value→Nat | .slice _ n _=>n|_=>0
theorem ypv {α:Type} {l:List α} {i:Nat} (d:α) (h:i<l.length):l.take (i+1)=l.take i++[l.getD i d]:=by
 rw [List.getD_eq_getElem?_getD,List.getElem?_eq_getElem h,Option.getD_some,List.take_append_getElem h]
end
theorem ysc {len n s t:Nat} (hn:0<n) (hs:s<len) (ht:t<len) (h:uH len n s=uH len n t):s=t:=by
 -- a list whose bytes tell their places apart is not at yiQ: by arithmetic
 by_cases h1:s<len/n*n<;>by_cases h2:t<len/n*n
 ·have hk:0<len/n:=Nat.pos_of_ne_zero fun h0=>by rw [h0] at h1;omega
  obtain ⟨j,i,hj,hi,rfl⟩:=yaI (k:=n) (n:=len/n) (by rw [Nat.mul_comm];exact h1) hk
  obtain ⟨j',i',hj',hi',rfl⟩:=yaI (k:=n) (n:=len/n) (by rw [Nat.mul_comm];exact h2) hk
  rw [ybc hi hj,ybc hi' hj'] at h
  have e1:=congrArg (·%n) h
  have e2:=congrArg (·/n) h
  simp only [Nat.mul_comm _ n,Nat.mul_add_mod,Nat.mod_eq_of_lt hj,Nat.mod_eq_of_lt hj',Nat.mul_add_div hn,Nat.div_eq_of_lt hj,Nat.div_eq_of_lt hj',Nat.add_zero] at e1 e2
  rw [e1,e2]
 ·have h3:uH len n s<len/n*n:=by
   have hk:0<len/n:=Nat.pos_of_ne_zero fun h0=>by rw [h0] at h1;omega
   obtain ⟨j,i,hj,hi,rfl⟩:=yaI (k:=n) (n:=len/n) (by rw [Nat.mul_comm];exact h1) hk
   rw [ybc hi hj];exact ybG hi hj
  rw [h,ybd (by omega)] at h3;omega
 ·have h3:uH len n t<len/n*n:=by
   have hk:0<len/n:=Nat.pos_of_ne_zero fun h0=>by rw [h0] at h2;omega
   obtain ⟨j,i,hj,hi,rfl⟩:=yaI (k:=n) (n:=len/n) (by rw [Nat.mul_comm];exact h2) hk
   rw [ybc hi hj];exact ybG hi hj
  rw [← h,ybd (by omega)] at h3;omega
 ·rw [ybd (by omega),ybd (by omega)] at h;exact h
theorem ypw (l:List UInt8) {n:Nat} (hn:0<n):ya0 l (fun t=>uH l.length n t) (fun t=>t) (List.range l.length)=ydF l n:=by
 obtain ⟨r,hr⟩:∃ r,r=ya0 l (fun t=>uH l.length n t) (fun t=>t) (List.range l.length):=⟨_,rfl⟩
 have hl:r.length=l.length:=by rw [hr,GL]
 have h:yaM r n=l:=by
  refine ygw (by rw [jX,hl]) fun t ht=>?_
  rw [jX] at ht
  rw [yir r hn ht,hl,hr]
  exact yeU l (fun t=>uH l.length n t) (fun t=>t) (fun s t hs ht h=>ysc hn hs ht h) (fun t h=>yjh hn h) l.length (Nat.le_refl _) t (by omega)
 rw [← hr,← h,yhU r hn]
set_option maxHeartbeats 2000000
section
open Go.RowKit Go.Shelf
open Go.Lib
attribute [local go_sem] Oper.semAt_some
theorem yju (p:Option Addr) (c n:Nat) (l:List UInt8) (w:World) (h1:1≤n) (h2:n≤8) (hl:l.length≤20000) (hb:Bs w p l) :
  Calls Tryz.prog 110 #[.slice p l.length c,.int .i64 (n:Int)] w (jY (ydF l n) w):=by
 have HA:∀ W,Calls Tryz.prog 147 #[.slice p l.length c,.int .i64 (n:Int)] W fun e w'=>e=.returned (.int .i64 0)∧W=w':=fun W=>ybr p l.length c n W h1 h2 (Nat.le_trans hl (by decide))
 obtain ⟨len,HL⟩:∃ len,Hid (len=l.length):=⟨_,rfl⟩
 have Hb:=Lib.hid hb
 rw [← HL.out] at hl HA ⊢
 have HAh:=Lib.hid HA
 clear hb HA
 refine (callsIn_wide (n:=9)).1 ?_
 refine callsIn_of_wp_marks Tryz.func110 rfl trivial ?_ rfl
 simp only [Tryz.ntmps110,List.size_toArray,List.length_cons,List.length_nil,Nat.reduceAdd,Nat.reduceSub,Array.replicate_succ,Array.replicate_zero,List.push_toArray,List.append_toArray,List.nil_append,List.cons_append]
 gi_wp2_with (first|(refine ⟨trivial,?_⟩;gi_at_call 147;refine (callsIn_wide.2 (HAh.out _)).mono ?_;rintro e w' ⟨rfl,rfl⟩)|(gi_at_make;refine ybb _ rfl _ _ rfl _ _ len rfl rfl hl ?_))
 intro w2 jG hgr
 have hb2:w2.heap[w.heap.size]?=some (.cells #[.slice p len c] 39 (0,0)):=(hgr.block w.heap.size (by simp) (by simp)).trans (World.alloc_heap_new w _)
 have gb:w2.cell? ⟨w.heap.size,0,none⟩=some (.slice p len c):=by simp [World.cell?,hb2]
 have hB2:Below w.heap.size w w2:=((Below.refl _ w).alloc (Nat.le_refl _) _).grown hgr (by simp) (fun k e=>by cases e)
 have hN:w.heap.size+1<w2.heap.size:=by
  have h:=(Array.getElem?_eq_some_iff.1 jG).1
  simpa using h
 have gb3:(w2.alloc (.cells #[.slice (some ⟨w.heap.size+1,0,none⟩) len len] 39)).cell? ⟨w.heap.size,0,none⟩=some (.slice p len c):=by
  rw [World.cell?_of_block (w:=w2) (Below.heap_alloc _ _ _ (by show w.heap.size<w2.heap.size;omega))];exact gb
 have HR:=Lib.hid jG
 have uV:=Lib.hid hB2
 have Hb2:=Lib.hid hb2
 clear jG hb2 hB2 hgr
 gi_wp2_with (refine ⟨trivial,?_⟩;gi_at_call 148;refine (yfx Fence.wide _ trivial rfl _ _ _).mono ?_;rintro e w' ⟨rfl,rfl⟩)
 obtain ⟨W0,hW0⟩:∃ W0,((w2.alloc (.cells #[.slice (some ⟨w.heap.size+1,0,none⟩) len len] 39)).alloc (.cells #[.int .i64 (len:Int)] 3)).alloc (.cells #[.int .i64 (n:Int)] 3)=W0:=⟨_,rfl⟩
 have hs0:W0.heap.size=w2.heap.size+3:=by rw [← hW0];simp
 have hO:W0.heap[w2.heap.size]?=some (.cells #[.slice (some ⟨w.heap.size+1,0,none⟩) len len] 39 (0,0)):=by
  rw [← hW0];exact ((Below.heap_alloc _ _ _ (by simp;omega)).trans (Below.heap_alloc _ _ _ (by simp))).trans (World.alloc_heap_new w2 _)
 have hBl:W0.heap[w2.heap.size+1]?=some (.cells #[.int .i64 (len:Int)] 3 (0,0)):=by
  rw [← hW0];refine (Below.heap_alloc _ _ _ (by simp)).trans ?_
  have:=World.alloc_heap_new (w2.alloc (.cells #[.slice (some ⟨w.heap.size+1,0,none⟩) len len] 39)) (.cells #[.int .i64 (len:Int)] 3);rwa [World.size_alloc] at this
 have hBn:W0.heap[w2.heap.size+1+1]?=some (.cells #[.int .i64 (n:Int)] 3 (0,0)):=by
  rw [← hW0];have:=World.alloc_heap_new ((w2.alloc (.cells #[.slice (some ⟨w.heap.size+1,0,none⟩) len len] 39)).alloc (.cells #[.int .i64 (len:Int)] 3)) (.cells #[.int .i64 (n:Int)] 3);rwa [World.size_alloc,World.size_alloc] at this
 have ydI:Below w2.heap.size w2 W0:=by rw [← hW0];exact (((Below.refl _ w2).alloc (Nat.le_refl _) _).alloc (by simp) _).alloc (by simp;omega) _
 have hS:W0.heap[w.heap.size]?=some (.cells #[.slice p len c] 39 (0,0)):=(ydI.block _ (by omega)).trans Hb2.out
 have hR0:W0.heap[w.heap.size+1]?=some (.cells (zS (List.replicate len 0)).toArray 5 (0,0)):=(ydI.block _ hN).trans HR.out
 have hBW:Below w.heap.size w W0:=uV.out.trans (ydI.mono (by omega))
 rw [hW0]
 clear gb gb3
 refine wpIn_rangeFunc_ownF rfl (by omega) (gf:=189) (lb:=#[.pointer (some ⟨w2.heap.size+1,0,none⟩),.pointer (some ⟨w2.heap.size+1+1,0,none⟩)]) rfl trivial (enters_of Tryz.func189 (by kernel_rfl) rfl)
  (ygS Fence.wide _ trivial rfl (by omega) (w2.heap.size+1) (w2.heap.size+1+1) len n h1 h2 hl W0 (by omega) (by omega) (by simp [World.cell?,hBl]) (by simp [World.cell?,hBn])) ycg.trans
  (fun W lo o o' hlo ho hc hw=>⟨World.putObj_heap_other (by omega),World.putObj_heap_other (by omega)⟩) (Below.refl _ _) (fun _=>rfl)
  (fun pre W=>W.heap[w.heap.size+1]?=some (.cells (zS (ya0 l (fun t=>uH len n t) (fun t=>t) (pre.map (·.1)))).toArray 5 (0,0))∧W.heap[w.heap.size]?=some (.cells #[.slice p len c] 39 (0,0)) ∧
   W.heap[w2.heap.size]?=some (.cells #[.slice (some ⟨w.heap.size+1,0,none⟩) len len] 39 (0,0))∧Below w.heap.size w W)
  (fun _ _ _=>False)
  (OwnFrom.and (uY (fun _=>rfl)) (OwnFrom.and (uY (fun _=>rfl)) (OwnFrom.and (uY (fun _=>rfl)) (ownFrom_below (Nat.le_refl _) (by omega)))))
  (fun _ _ _ _ _ h _ _=>h)
  ⟨(by rw [hR0,HL.out];rfl),hS,hO,hBW⟩
  (fun x=>{ tmps:=#[.slice p len c,.int .i64 (n:Int),.pointer (some ⟨w.heap.size,0,none⟩),undef,.slice none 0 0,.int .i64 0,.int .i64 0,.pointer (some ⟨w2.heap.size,0,none⟩),.int .i64 ((x.1:Nat):Int),.int .i64 ((uH len n x.1:Nat):Int),.slice p len c,.int .i64 (n:Int),.int .i64 0,.int .i64 0,.bool false,undef,.slice p len c,.int .i64 (len:Int),.slice (some ⟨w.heap.size+1,0,none⟩) len len,.slice p len c,.int .i64 (len:Int),.int .i64 (n:Int),.func (.func 189) #[] #[.pointer (some ⟨w2.heap.size+1,0,none⟩),.pointer (some ⟨w2.heap.size+1+1,0,none⟩)],.int .i64 ((x.1:Nat):Int),.int .i64 ((uH len n x.1:Nat):Int),undef,undef,undef,undef,undef,undef,undef,undef],defers:=[] }) ?assign ?body ?done ?stop
 case assign =>
  intro lo x W K hK
  gi_wp2
  exact hK
 case body =>
  rintro lo pre x W ⟨hA,hS,hO,hB⟩ _
  obtain ⟨t,ht⟩:=x
  have hfr:uH len n t<len:=yjh (by omega) ht
  obtain ⟨b1,o1,hp1,hb1,hc1⟩:=yeb (t:=t) (Hb.out.below hB) (by rw [← HL.out];exact ht)
  obtain ⟨y,HY⟩:∃ y:UInt8,Hid (y=l.getD t 0):=⟨_,rfl⟩
  rw [← HY.out] at hc1
  obtain ⟨fr,HFR⟩:∃ fr,Hid (fr=uH len n t):=⟨_,rfl⟩
  have e1:W.cell? ⟨w.heap.size,0,none⟩=some (.slice p len c):=by simp [World.cell?,hS]
  have e2:W.cell? ⟨w2.heap.size,0,none⟩=some (.slice (some ⟨w.heap.size+1,0,none⟩) len len):=by simp [World.cell?,hO]
  obtain ⟨A,HA⟩:∃ A:List UInt8,Hid (A=ya0 l (fun t=>uH len n t) (fun t=>t) (pre.map (·.1))):=⟨_,rfl⟩
  have HAl:Hid (A.length=len):=Lib.hid (by rw [HA.out,GL,HL.out])
  rw [← HA.out] at hA
  have e3:W.cell? ⟨w.heap.size+1,fr,none⟩=some (.int .u8 (((A.getD fr 0).toNat:Nat):Int)):=by
   simp only [World.cell?,hA]
   have h6:(zS A)[fr]?=some (.int .u8 (((A.getD fr 0).toNat:Nat):Int)):=by
    rw [zS,List.getElem?_map,List.getD_eq_getElem?_getD,List.getElem?_eq_getElem (by rw [HAl.out,HFR.out];exact hfr)];rfl
   simpa using h6
  have e4:W.frozen? ⟨w.heap.size+1,fr,none⟩=false:=by simp [World.frozen?,hA]
  subst hp1
  rw [← HFR.out] at hfr ⊢
  have hF:KeepsOthers W (W.setCell ⟨w.heap.size+1,fr,none⟩ (.int .u8 (y.toNat:Int))).drew∧ycg (w2.heap.size+1) (w2.heap.size+1+1) W (W.setCell ⟨w.heap.size+1,fr,none⟩ (.int .u8 (y.toNat:Int))).drew ∧
    (W.setCell ⟨w.heap.size+1,fr,none⟩ (.int .u8 (y.toNat:Int))).drew.heap[w.heap.size+1]?=some (.cells (zS (ya0 l (fun t=>uH len n t) (fun t=>t) ((pre++[(⟨t,ht⟩:Pl len)]).map (·.1)))).toArray 5 (0,0)) ∧
    (W.setCell ⟨w.heap.size+1,fr,none⟩ (.int .u8 (y.toNat:Int))).drew.heap[w.heap.size]?=some (.cells #[.slice (some ⟨b1,o1,none⟩) len c] 39 (0,0)) ∧
    (W.setCell ⟨w.heap.size+1,fr,none⟩ (.int .u8 (y.toNat:Int))).drew.heap[w2.heap.size]?=some (.cells #[.slice (some ⟨w.heap.size+1,0,none⟩) len len] 39 (0,0)) ∧
    Below w.heap.size w (W.setCell ⟨w.heap.size+1,fr,none⟩ (.int .u8 (y.toNat:Int))).drew:=by
   refine ⟨ygU (KeepsOthers.setCell _ _ _),⟨yad _ (by omega),yad _ (by omega)⟩,?_,(yad _ (by omega)).trans hS,(yad _ (by omega)).trans hO,(hB.setCell (p:=⟨w.heap.size+1,fr,none⟩) (by simp) _).drew⟩
   rw [List.map_append,List.map_cons,List.map_nil,yd4,← HA.out,← HY.out,← HFR.out];exact yis hA y
  gi_wp2
  gi_region
  all_goals (gi_wp2;exact hF)
 case done =>
  rintro D xs W hD hxs ⟨hA,hS,hO,hB⟩ hK
  have e2:W.cell? ⟨w2.heap.size,0,none⟩=some (.slice (some ⟨w.heap.size+1,0,none⟩) len len):=by simp [World.cell?,hO]
  gi_wp2
  refine ⟨by simp,.inl ⟨_,_,rfl,run_takeDeferred hK,?_⟩⟩
  have hB9:Below w.heap.size w (W.putObj D (.deferred none)):=hB.trans (belowK_b (w:=w) (Nat.le_refl _) W D _ _ (by omega) hK rfl rfl)
  have hA9:(W.putObj D (.deferred none)).heap[w.heap.size+1]?=_:=(World.putObj_heap_other (by omega)).trans hA
  rw [hxs,HL.out,ypw l (by omega)] at hA9
  refine ⟨_,?_,hB9,_,rfl,yez hA9 (by rw [ycC,HL.out]) (by omega) hl⟩
  simp [results,Tryz.f110,go_sem]
 case stop =>
  rintro D c pre W hD _ h
  exact h.elim
end
section
open Go.RowKit Go.Shelf
open Go.Lib
attribute [local go_sem] Oper.semAt_some
theorem yf0 (Bl:Nat):yo5 163 Bl GM:=by
 intro W a g ha hg hc hf
 have ycl:IntKind.u64.wrap ((a:Int)+(g:Int))=(((GM a g).1:Nat):Int):=by
  show _=(((a+g)%jM:Nat):Int)
  rw [IntKind.wrap_u64];unfold jM at *;omega
 have h2:(GM a g).2=(GM a g).1:=rfl
 rw [h2,← ycl]
 clear ycl ha hg
 go_enter Tryz.func163,Tryz.ntmps163
 go_wp2_with fail
 go_ret
 exact ⟨rfl,rfl⟩
end
set_option maxHeartbeats 4000000
section
open Go.RowKit Go.Shelf
open Go.Lib
attribute [local go_sem] Oper.semAt_some
theorem ynj (p:Option Addr) (c n Bl:Nat) (l:List UInt8) (w:World) (h1:1≤n) (h2:n≤8) (hl:l.length≤20000) (hc:l.length≤c) (hpc:p=none→c=0) (hbs:BsN Bl w p l) (hBl:w.heap[Bl]?=some (.cells #[.int .u64 0] 86 (0,0))) :
  Calls Tryz.prog 145 #[.slice p l.length c,.int .i64 (n:Int),.func (.func 163) #[] #[.pointer (some ⟨Bl,0,none⟩)]] w (yrE Bl (chR GM n (l.length/n) 0 l) w):=by
 have HA:∀ W,Calls Tryz.prog 147 #[.slice p l.length c,.int .i64 (n:Int)] W fun e w'=>e=.returned (.int .i64 0)∧W=w':=fun W=>ybr p l.length c n W h1 h2 (Nat.le_trans hl (by decide))
 have yhe:Bl<w.heap.size:=(Array.getElem?_eq_some_iff.1 hBl).1
 obtain ⟨len,HL⟩:∃ len,Hid (len=l.length):=⟨_,rfl⟩
 rw [← HL.out] at hl hc HA ⊢
 obtain ⟨k,HK⟩:∃ k,Hid (k=len/n):=⟨_,rfl⟩
 have HKN:Hid (k*n≤len):=Lib.hid (by rw [HK.out];exact Nat.div_mul_le_self _ _)
 rw [← HK.out]
 obtain ⟨R,HR⟩:∃ R,Hid (R=chR GM n k 0 l):=⟨_,rfl⟩
 rw [← HR.out]
 have HAh:=Lib.hid HA
 have HBS:=Lib.hid hbs
 have HBL:=Lib.hid hBl
 have HPC:=Lib.hid hpc
 clear HA hbs hBl hpc
 refine (callsIn_wide (n:=9)).1 ?_
 refine callsIn_of_wp_marks Tryz.func145 rfl trivial ?_ rfl
 simp only [Tryz.ntmps145,List.size_toArray,List.length_cons,List.length_nil,Nat.reduceAdd,Nat.reduceSub,Array.replicate_succ,Array.replicate_zero,List.push_toArray,List.append_toArray,List.nil_append,List.cons_append]
 gi_wp2_with (first|(refine ⟨trivial,?_⟩;gi_at_call 147;refine (callsIn_wide.2 (HAh.out _)).mono ?_;rintro e w' ⟨rfl,rfl⟩)|(gi_at_make;refine ybC _ rfl _ _ rfl _ _ len rfl rfl hl ?_))
 intro w2 yW hgr
 have hB2:Below (w.heap.size+2) ((w.alloc (.cells #[.int .i64 (n:Int)] 3)).alloc (.cells #[.func (.func 163) #[] #[.pointer (some ⟨Bl,0,none⟩)]] 141)) w2:=(Below.refl _ _).grown hgr (by simp) (fun k e=>by cases e)
 have hb4:w2.heap[w.heap.size]?=some (.cells #[.int .i64 (n:Int)] 3 (0,0)):=by
  refine (hB2.block w.heap.size (by omega)).trans ((Below.heap_alloc _ _ _ (by simp)).trans (World.alloc_heap_new w _))
 have hb5:w2.heap[w.heap.size+1]?=some (.cells #[.func (.func 163) #[] #[.pointer (some ⟨Bl,0,none⟩)]] 141 (0,0)):=by
  refine (hB2.block (w.heap.size+1) (by omega)).trans ?_
  have:=World.alloc_heap_new (w.alloc (.cells #[.int .i64 (n:Int)] 3)) (.cells #[.func (.func 163) #[] #[.pointer (some ⟨Bl,0,none⟩)]] 141);rwa [World.size_alloc] at this
 have hN:w.heap.size+2≤w2.heap.size:=by have:=hB2.size;simpa using this
 have hBW:Below w.heap.size w w2:=(((Below.refl _ w).alloc (Nat.le_refl _) _).alloc (by simp) _).trans (hB2.mono (by omega))
 have gb4:w2.cell? ⟨w.heap.size,0,none⟩=some (.int .i64 (n:Int)):=by simp [World.cell?,hb4]
 have gb3:(w2.alloc (.cells #[.slice (some ⟨w.heap.size+1+1,0,none⟩) 0 len] 39)).cell? ⟨w.heap.size,0,none⟩=some (.int .i64 (n:Int)):=by
  rw [World.cell?_of_block (w:=w2) (Below.heap_alloc _ _ _ (by show w.heap.size<w2.heap.size;omega))];exact gb4
 have yqz:=Lib.hid yW
 have HB4:=Lib.hid hb4
 have HB5:=Lib.hid hb5
 have HBW:=Lib.hid hBW
 clear yW hgr hb4 hb5 hB2 hBW
 gi_wp2_with (refine ⟨trivial,?_⟩;gi_at_call 188;refine (ycz _ _ _ _ _ _).mono ?_;rintro e w' ⟨rfl,rfl⟩)
 obtain ⟨W0,hW0⟩:∃ W0,((w2.alloc (.cells #[.slice (some ⟨w.heap.size+1+1,0,none⟩) 0 len] 39)).alloc (.cells #[.slice p len c] 39)).alloc (.cells #[.int .i64 (n:Int)] 3)=W0:=⟨_,rfl⟩
 have hs0:W0.heap.size=w2.heap.size+3:=by rw [← hW0];simp
 have hO:W0.heap[w2.heap.size]?=some (.cells #[.slice (some ⟨w.heap.size+1+1,0,none⟩) 0 len] 39 (0,0)):=by
  rw [← hW0];exact ((Below.heap_alloc _ _ _ (by simp;omega)).trans (Below.heap_alloc _ _ _ (by simp))).trans (World.alloc_heap_new w2 _)
 have hI1:W0.heap[w2.heap.size+1]?=some (.cells #[.slice p len c] 39 (0,0)):=by
  rw [← hW0];refine (Below.heap_alloc _ _ _ (by simp)).trans ?_
  have:=World.alloc_heap_new (w2.alloc (.cells #[.slice (some ⟨w.heap.size+1+1,0,none⟩) 0 len] 39)) (.cells #[.slice p len c] 39);rwa [World.size_alloc] at this
 have hI2:W0.heap[w2.heap.size+1+1]?=some (.cells #[.int .i64 (n:Int)] 3 (0,0)):=by
  rw [← hW0];have:=World.alloc_heap_new ((w2.alloc (.cells #[.slice (some ⟨w.heap.size+1+1,0,none⟩) 0 len] 39)).alloc (.cells #[.slice p len c] 39)) (.cells #[.int .i64 (n:Int)] 3);rwa [World.size_alloc,World.size_alloc] at this
 have ydI:Below w2.heap.size w2 W0:=by rw [← hW0];exact (((Below.refl _ w2).alloc (Nat.le_refl _) _).alloc (by simp) _).alloc (by simp;omega) _
 have ykv:Below w.heap.size w W0:=HBW.out.trans (ydI.mono (by omega))
 have hk:∀ {j:Nat} {o:Obj},w2.heap[j]?=some o→W0.heap[j]?=some o:=fun h=>(ydI.block _ (Array.getElem?_eq_some_iff.1 h).1).trans h
 have HI0:ChI 163 w.heap.size w2.heap.size Bl n p len c w (.slice (some ⟨w.heap.size+1+1,0,none⟩) 0 len) [] 0 W0:=by
  refine ⟨vV ⟨yqz.out.1,?_⟩ (fun j cs h=>hk h),hO,(ykv.block _ yhe).trans HBL.out,hk HB4.out,hk HB5.out,hI1,hI2,ykv.mono (Nat.le_of_lt yhe)⟩
  rcases yqz.out.2 with h|⟨g,cap,cur,hv,hg,h⟩
  ·exact .inl h
  ·exact .inr ⟨g,cap,cur,hv,by omega,h⟩
 rw [hW0]
 clear gb4 gb3
 refine wpIn_rangeFunc_ownF rfl (by omega) (gf:=222) (lb:=#[.pointer (some ⟨w2.heap.size+1+1,0,none⟩),.pointer (some ⟨w2.heap.size+1,0,none⟩)]) rfl trivial (enters_of Tryz.func222 (by kernel_rfl) rfl)
  (yaU _ (by omega) (w2.heap.size+1+1) (w2.heap.size+1) Bl n len k c l p HL HK h1 h2 (Nat.le_trans hl (by decide)) hc W0 (by omega) (by omega) (by omega) (by simp [World.cell?,hI2]) (by simp [World.cell?,hI1]) (HBS.out.keep (ykv.mono (Nat.le_of_lt yhe)))) jO.trans
  (fun W lo o o' hlo ho hc hw=>⟨(Below.refl _ W).grown (grownBy_putObj' W lo o') (by have:=(Array.getElem?_eq_some_iff.1 ho).1;omega) (fun k e=>by cases e;omega),World.putObj_heap_other (by omega),World.putObj_heap_other (by omega)⟩) (Below.refl _ _) (fun _=>rfl)
  (fun pre W=>∃ v,ChI 163 w.heap.size w2.heap.size Bl n p len c w v (jl n (stL GM 0 (gP l n pre))) (stE GM 0 (gP l n pre)) W)
  (fun _ _ _=>False)
  (fun s W W' row h hg hr=>by obtain ⟨v,h⟩:=h;exact ⟨v,h.keep hg (fun r e=>⟨by have:=(hr r e).1;omega,(hr r e).2⟩) h.lt⟩)
  (fun _ _ _ _ _ h _ _=>h)
  ⟨_,HI0⟩ ?a1 ?assign ?body ?done ?stop
 case assign =>
  intro lo x W K hK
  gi_wp2
  exact hK
 case body =>
  rintro lo pre x W ⟨v,hI⟩ hlen
  obtain ⟨a,HA⟩:∃ a,Hid (a=stE GM 0 (gP l n pre)):=⟨_,rfl⟩
  obtain ⟨L,HLL⟩:∃ L,Hid (L=jl n (stL GM 0 (gP l n pre))):=⟨_,rfl⟩
  rw [← HA.out,← HLL.out] at hI
  obtain ⟨g,HG⟩:∃ g,Hid (g=gN l n x.1):=⟨_,rfl⟩
  have ha:a<jM:=by rw [HA.out];exact ymu (fun a g _ _=>Nat.mod_lt _ (by decide)) (gP l n pre) 0 (by decide) (yvt l h2 pre)
  have hg:g<jM:=by rw [HG.out];exact ymV l h2 _
  obtain ⟨y,HY⟩:∃ y,Hid (y=(GM a g).1):=⟨_,rfl⟩
  obtain ⟨a2,HA2⟩:∃ a2,Hid (a2=(GM a g).2):=⟨_,rfl⟩
  have hy:y<jM:=by rw [HY.out];exact Nat.mod_lt _ (by decide)
  have hLl:L.length≤100000000:=by
   have h5:pre.length*n≤k*n:=Nat.mul_le_mul_right _ (Nat.le_of_lt hlen)
   have h6:=HKN.out
   rw [HLL.out,yac,ybw,ycb];omega
  have hM:Bl<w2.heap.size:=by omega
  have hD:=hI.drew
  obtain ⟨W1,hW1⟩:∃ W1,W.drew.setCell ⟨Bl,0,none⟩ (.int .u64 (a2:Int))=W1:=⟨_,rfl⟩
  have HC:Hid (Calls Tryz.prog 163 #[.int .u64 (g:Int),.pointer (some ⟨Bl,0,none⟩)] W.drew fun e W'=>e=.returned (.int .u64 (y:Int))∧W1=W'):=Lib.hid (by
   rw [← hW1,HY.out,HA2.out]
   exact (yf0 Bl W.drew a g ha hg (by simp [World.cell?,hD.st]) (by simp [World.frozen?,hD.st])).mono fun e W' h=>⟨h.1,h.2.symm⟩)
  have HC1:Hid (ChI 163 w.heap.size w2.heap.size Bl n p len c w v L a2 W1):=Lib.hid (by rw [← hW1];exact hD.call yhe hM a2)
  have HBB:Hid (Below Bl W W1∧KeepsOthers W W1):=Lib.hid (by
   rw [← hW1];exact ⟨(Below.refl Bl W).drew.setCell (p:=⟨Bl,0,none⟩) (Nat.le_refl _) _,(KeepsOthers.drew W).trans (KeepsOthers.setCell _ _ _)⟩)
  have HN:=Lib.hid (jN Bl v L y n W1 h2 hLl HC1.out.lt HC1.out.own hy)
  have HF:Hid (∀ v5 W3,ChI 163 w.heap.size w2.heap.size Bl n p len c w v5 (L++be n y) a2 W3→KeepsOthers W1 W3→Below Bl W1 W3→KeepsOthers W W3∧jO Bl (w2.heap.size+1+1) (w2.heap.size+1) W W3 ∧
    ∃ v,ChI 163 w.heap.size w2.heap.size Bl n p len c w v (jl n (stL GM 0 (gP l n (pre++[x])))) (stE GM 0 (gP l n (pre++[x]))) W3):=Lib.hid (fun v5 W3 k1 k2 k3=>by
   refine ⟨HBB.out.2.trans k2,⟨HBB.out.1.trans k3,k1.i2.trans hI.i2.symm,k1.i1.trans hI.i1.symm⟩,v5,?_⟩
   rw [yfX,ygA,ygz,ydl,← HA.out,← HLL.out,← HG.out,← HY.out,← HA2.out,jl,jl,List.append_nil]
   exact k1)
  have hc4:W.drew.cell? ⟨w.heap.size,0,none⟩=some (.int .i64 (n:Int)):=by simp [World.cell?,hD.b4]
  have hc5:W.drew.cell? ⟨w.heap.size+1,0,none⟩=some (.func (.func 163) #[] #[.pointer (some ⟨Bl,0,none⟩)]):=by simp [World.cell?,hD.b5]
  have hcO:W.drew.cell? ⟨w2.heap.size,0,none⟩=some v:=by simp [World.cell?,hD.out]
  have hc4':W1.cell? ⟨w.heap.size,0,none⟩=some (.int .i64 (n:Int)):=by simp [World.cell?,HC1.out.b4]
  have hc5':W1.cell? ⟨w.heap.size+1,0,none⟩=some (.func (.func 163) #[] #[.pointer (some ⟨Bl,0,none⟩)]):=by simp [World.cell?,HC1.out.b5]
  have hcO':W1.cell? ⟨w2.heap.size,0,none⟩=some v:=by simp [World.cell?,HC1.out.out]
  have e10:(nb ((l.drop (x.1*n)).take n))=g:=HG.out.symm
  simp only [e10]
  clear hI hD hW1 e10 ha hg hy hLl
  gi_wp2
  refine yaw (S:=fun W'=>W'.cell? ⟨w.heap.size+1,0,none⟩=some (.func (.func 163) #[] #[.pointer (some ⟨Bl,0,none⟩)])∧W'.cell? ⟨w.heap.size,0,none⟩=some (.int .i64 (n:Int))) (by kernel_rfl) (by kernel_rfl) (fun ⟨_,_,h⟩=>h) ⟨hc5,hc4⟩ (fun hHeld=>?_)
  refine wpAnyH_take (i:=1) (v:=.func (.func 163) #[] #[.pointer (some ⟨Bl,0,none⟩)]) rfl (by kernel_rfl) (by kernel_rfl) (by kernel_rfl) (fun _ _ _ h=>h) (Or.inl ⟨by rfl,by intro W' hSw;obtain ⟨e5,e4⟩:=hSw;go_simp⟩) (by assumption) ?_
  simp only [List.getElem_toArray,List.getElem_cons_zero,List.getElem_cons_succ,Act.put,List.setIfInBounds_toArray,List.set_cons_zero,List.set_cons_succ]
  refine wpAnyH_take (i:=2) (v:=.int .u64 (g:Int)) rfl (by kernel_rfl) (by kernel_rfl) (by kernel_rfl) (fun _ _ _ h=>h) (Or.inl ⟨by rfl,by intro W' hSw;obtain ⟨e5,e4⟩:=hSw;go_simp⟩) (by assumption) ?_
  simp only [List.getElem_toArray,List.getElem_cons_zero,List.getElem_cons_succ,Act.put,List.setIfInBounds_toArray,List.set_cons_zero,List.set_cons_succ]
  refine wpAnyH_take (i:=4) (v:=.int .i64 (n:Int)) rfl (by kernel_rfl) (by kernel_rfl) (by kernel_rfl) (fun _ _ _ h=>h) (Or.inl ⟨by rfl,by intro W' hSw;obtain ⟨e5,e4⟩:=hSw;go_simp⟩) (by assumption) ?_
  simp only [List.getElem_toArray,List.getElem_cons_zero,List.getElem_cons_succ,Act.put,List.setIfInBounds_toArray,List.set_cons_zero,List.set_cons_succ]
  refine wpAnyH_ready (rs:=[0,3]) (by kernel_rfl) (by simp) ?_
  refine AllReadyH.cons (i:=0) rfl (fun K hK=>?_) (AllReadyH.cons (i:=3) rfl (fun K hK=>?_) AllReadyH.nil)
  ·go_simp
   refine hK.out _ _ (⟨hc5,hc4⟩) (fun hHeld=>?_)
   clear hK K
   refine wpAnyH_ready (rs:=[3]) (by kernel_rfl) (by simp) ?_
   refine AllReadyH.cons (i:=3) rfl (fun K hK=>?_) AllReadyH.nil
   go_simp
   refine (HC.out).mono ?_
   rintro e W1' ⟨rfl,rfl⟩
   refine hK.out _ _ (⟨hc5',hc4'⟩) (fun hHeld=>?_)
   clear hK K
   refine wpAnyH_ready (rs:=[5]) (by kernel_rfl) (by simp) ?_
   refine AllReadyH.cons (i:=5) rfl (fun K hK=>?_) AllReadyH.nil
   go_simp
   refine (HN.out).mono ?_
   rintro e W2 ⟨v5,rfl,hg5⟩
   obtain ⟨yQ,yaF,ya3,hh4,hh5,hhM,yay⟩:=HC1.out.app hM hg5
   obtain ⟨p5,c5,rfl,-,-⟩:=zE yQ
   obtain ⟨m5,HM5⟩:∃ m5,Hid (m5=(L++be n y).length):=⟨_,rfl⟩
   rw [← HM5.out] at yQ yaF ya3 yay ⊢
   have f4:W2.cell? ⟨w.heap.size,0,none⟩=some (.int .i64 (n:Int)):=by simp [World.cell?,hh4]
   have f5:W2.cell? ⟨w.heap.size+1,0,none⟩=some (.func (.func 163) #[] #[.pointer (some ⟨Bl,0,none⟩)]):=by simp [World.cell?,hh5]
   have fM:W2.cell? ⟨w2.heap.size,0,none⟩=some v:=by simp [World.cell?,hhM]
   have fMz:W2.frozen? ⟨w2.heap.size,0,none⟩=false:=by simp [World.frozen?,hhM]
   refine hK.out _ _ (⟨f5,f4⟩) (fun hHeld=>?_)
   clear hK K
   refine wpAnyH_ready (rs:=[6]) (by kernel_rfl) (by simp) ?_
   refine AllReadyH.cons (i:=6) rfl (fun K hK=>?_) AllReadyH.nil
   go_simp
   refine hK.out _ _ (⟨(World.cell?_of_block (Below.heap_setCell W2 ⟨w2.heap.size,0,none⟩ _ _ (by show w.heap.size+1≠w2.heap.size;omega))).trans f5,(World.cell?_of_block (Below.heap_setCell W2 ⟨w2.heap.size,0,none⟩ _ _ (by show w.heap.size≠w2.heap.size;omega))).trans f4⟩) (fun hHeld=>?_)
   clear hK K
   refine wpAnyH_done (by kernel_rfl) ?_ _
   exact HF.out _ _ yaF ya3 yay
  ·go_simp
   refine (HC.out).mono ?_
   rintro e W1' ⟨rfl,rfl⟩
   refine hK.out _ _ (⟨hc5',hc4'⟩) (fun hHeld=>?_)
   clear hK K
   refine wpAnyH_ready (rs:=[0]) (by kernel_rfl) (by simp) ?_
   refine AllReadyH.cons (i:=0) rfl (fun K hK=>?_) AllReadyH.nil
   go_simp
   refine hK.out _ _ (⟨hc5',hc4'⟩) (fun hHeld=>?_)
   clear hK K
   refine wpAnyH_ready (rs:=[5]) (by kernel_rfl) (by simp) ?_
   refine AllReadyH.cons (i:=5) rfl (fun K hK=>?_) AllReadyH.nil
   go_simp
   refine (HN.out).mono ?_
   rintro e W2 ⟨v5,rfl,hg5⟩
   obtain ⟨yQ,yaF,ya3,hh4,hh5,hhM,yay⟩:=HC1.out.app hM hg5
   obtain ⟨p5,c5,rfl,-,-⟩:=zE yQ
   obtain ⟨m5,HM5⟩:∃ m5,Hid (m5=(L++be n y).length):=⟨_,rfl⟩
   rw [← HM5.out] at yQ yaF ya3 yay ⊢
   have f4:W2.cell? ⟨w.heap.size,0,none⟩=some (.int .i64 (n:Int)):=by simp [World.cell?,hh4]
   have f5:W2.cell? ⟨w.heap.size+1,0,none⟩=some (.func (.func 163) #[] #[.pointer (some ⟨Bl,0,none⟩)]):=by simp [World.cell?,hh5]
   have fM:W2.cell? ⟨w2.heap.size,0,none⟩=some v:=by simp [World.cell?,hhM]
   have fMz:W2.frozen? ⟨w2.heap.size,0,none⟩=false:=by simp [World.frozen?,hhM]
   refine hK.out _ _ (⟨f5,f4⟩) (fun hHeld=>?_)
   clear hK K
   refine wpAnyH_ready (rs:=[6]) (by kernel_rfl) (by simp) ?_
   refine AllReadyH.cons (i:=6) rfl (fun K hK=>?_) AllReadyH.nil
   go_simp
   refine hK.out _ _ (⟨(World.cell?_of_block (Below.heap_setCell W2 ⟨w2.heap.size,0,none⟩ _ _ (by show w.heap.size+1≠w2.heap.size;omega))).trans f5,(World.cell?_of_block (Below.heap_setCell W2 ⟨w2.heap.size,0,none⟩ _ _ (by show w.heap.size≠w2.heap.size;omega))).trans f4⟩) (fun hHeld=>?_)
   clear hK K
   refine wpAnyH_done (by kernel_rfl) ?_ _
   exact HF.out _ _ yaF ya3 yay
 case done =>
  rintro D xs W hD hxs ⟨v,hI⟩ hK
  rw [yiE l n xs hxs] at hI
  obtain ⟨G,HG⟩:∃ G,Hid (G=jl n (stL GM 0 (gl n k l))):=⟨_,rfl⟩
  obtain ⟨a,HA⟩:∃ a,Hid (a=stE GM 0 (gl n k l)):=⟨_,rfl⟩
  rw [← HG.out,← HA.out] at hI
  obtain ⟨t,HT⟩:∃ t,Hid (t=k*n):=⟨_,rfl⟩
  have htl:t≤len:=by rw [HT.out];exact HKN.out
  obtain ⟨rs,HRS⟩:∃ rs,Hid (rs=l.drop t):=⟨_,rfl⟩
  have hGR:Hid (G++rs=R):=Lib.hid (by rw [HG.out,HRS.out,HR.out,HT.out,ymt])
  have hGl:G.length=t:=by rw [HG.out,HT.out,yac,ybw,yaD]
  have hrl:rs.length=len-t:=by rw [HRS.out,List.length_drop,← HL.out]
  have yki:=Lib.hid (yeo p c n t len l W.drew h1 h2 HL (Nat.le_trans hl (by decide)) hc HPC.out (by rw [HT.out,HK.out];rfl) ((HBS.out.keep hI.bel).bs hI.lt))
  rw [← HRS.out] at yki
  have hDI:=hI.drew
  have c4:W.drew.cell? ⟨w.heap.size,0,none⟩=some (.int .i64 (n:Int)):=by simp [World.cell?,hDI.b4]
  have cO:W.drew.cell? ⟨w2.heap.size,0,none⟩=some v:=by simp [World.cell?,hDI.out]
  have yrc:Hid (W.drew.ownsRow Bl 5 1 v G.length (zS G)):=Lib.hid hDI.own
  have HBEL:Hid (Below Bl w W.drew):=Lib.hid hDI.bel
  have hlt:Bl≤W.drew.heap.size:=hDI.lt
  have ydv:Hid (∀ v5 W5,Grew Bl W.drew v (G++rs) W5 v5→W5.cell? ⟨w.heap.size,0,none⟩=some (.int .i64 (n:Int))∧W5.cell? ⟨w2.heap.size,0,none⟩=some v∧W5.heap[D]?=some (.deferred (some []))∧(Below Bl w (W5.putObj D (.deferred none))∧(W5.putObj D (.deferred none)).ownsRow Bl 5 1 v5 R.length (zS R))):=Lib.hid (fun v5 W5 hg=>by
   obtain ⟨-,-,-,q4,-,qO,-⟩:=hDI.app (by omega) hg
   have hD5:W5.heap[D]?=some (.deferred (some [])):=(hg.grown.block D (Array.getElem?_eq_some_iff.1 hK).1 (fun e=>by
    have:=ycc hDI.own D _ e.symm hK
    cases this)).trans hK
   have hb5:Below Bl w W5:=hDI.bel.grown hg.grown hlt (fun k e=>GR hDI.own e)
   have hsz:=hg.grown.size
   rw [hGR.out] at hg
   refine ⟨by simp [World.cell?,q4],by simp [World.cell?,qO],hD5,hb5.trans ((Below.refl Bl W5).grown (grownBy_putObj' W5 D _) (Nat.le_trans hlt hsz) (fun k e=>by cases e;omega)),vV hg.own (fun k cs h=>(World.putObj_heap_other (fun e=>by subst e;rw [hD5] at h;cases h)).trans h)⟩)
  clear hI hDI
  gi_wp2
  refine wpIn_wide.2 ?_
  refine wp_region_noPanic ?_
  refine wp_region_held_drew (S:=fun W'=>W'.cell? ⟨w.heap.size,0,none⟩=some (.int .i64 (n:Int))∧W'.cell? ⟨w2.heap.size,0,none⟩=some v) (by kernel_rfl) ⟨c4,cO⟩ (fun hHeld=>?_)
  refine wpAnyH_take (i:=0) (v:=v) rfl (by kernel_rfl) (by kernel_rfl) (by kernel_rfl) (fun _ _ _ h=>h) (Or.inl ⟨by rfl,by intro W' hSw;obtain ⟨e4,eO⟩:=hSw;go_simp⟩) (by assumption) ?_
  simp only [List.getElem_toArray,List.getElem_cons_zero,Act.put,List.setIfInBounds_toArray,List.set_cons_zero,List.set_cons_succ]
  refine wpAnyH_take (i:=1) (v:=.slice p len c) rfl (by kernel_rfl) (by kernel_rfl) (by kernel_rfl) (fun _ _ _ h=>h) (Or.inl ⟨by rfl,by intro W' hSw;obtain ⟨e4,eO⟩:=hSw;go_simp⟩) (by assumption) ?_
  simp only [List.getElem_toArray,List.getElem_cons_zero,List.getElem_cons_succ,Act.put,List.setIfInBounds_toArray,List.set_cons_zero,List.set_cons_succ]
  refine wpAnyH_take (i:=2) (v:=.int .i64 (n:Int)) rfl (by kernel_rfl) (by kernel_rfl) (by kernel_rfl) (fun _ _ _ h=>h) (Or.inl ⟨by rfl,by intro W' hSw;obtain ⟨e4,eO⟩:=hSw;go_simp⟩) (by assumption) ?_
  simp only [List.getElem_toArray,List.getElem_cons_zero,List.getElem_cons_succ,Act.put,List.setIfInBounds_toArray,List.set_cons_zero,List.set_cons_succ]
  refine wpAnyH_ready (rs:=[3]) (by kernel_rfl) (by simp) ?_
  refine AllReadyH.cons (i:=3) rfl (fun K hK=>?_) AllReadyH.nil
  go_simp
  refine (yki.out).mono ?_
  rintro e W' ⟨rfl,q,d,rfl,hq⟩
  have HQ:=Lib.hid hq
  clear hq
  refine hK.out _ _ (⟨c4,cO⟩) (fun hHeld=>?_)
  clear hK K
  refine wpAnyH_ready (rs:=[4]) (by kernel_rfl) (by simp) ?_
  refine AllReadyH.cons (i:=4) rfl (fun K hK9=>?_) AllReadyH.nil
  rw [if_pos (by rfl)]
  refine uQ (.tmp 30) (.tmp 33) rfl Bl v G.length G rfl rfl yrc.out q (len-t) d rs rfl hrl HQ.out (by omega) hlt ?_
  intro v5 W5 hg5
  obtain ⟨f4,fO,fD,yD⟩:=ydv.out _ _ hg5
  refine hK9.out _ _ (⟨f4,fO⟩) (fun hHeld=>?_)
  clear hK9 K
  simp only [List.getElem_toArray,List.getElem_cons_zero,List.getElem_cons_succ,Act.put,List.setIfInBounds_toArray,List.set_cons_zero,List.set_cons_succ]
  refine wpAnyH_ready (rs:=[5]) (by kernel_rfl) (by simp) ?_
  refine AllReadyH.cons (i:=5) rfl (fun K hK=>?_) AllReadyH.nil
  go_simp
  refine hK.out _ _ (⟨f4,fO⟩) (fun hHeld=>?_)
  clear hK K
  refine wpAnyH_ready (rs:=[6]) (by kernel_rfl) (by simp) ?_
  refine AllReadyH.cons (i:=6) rfl (fun K hK=>?_) AllReadyH.nil
  go_simp
  refine hK.out _ _ (⟨f4,fO⟩) (fun hHeld=>?_)
  clear hK K
  refine wpAnyH_done (by kernel_rfl) ?_ _
  refine NoPanic.normal ?_
  gi_wp2
  refine ⟨by simp,.inl ⟨_,_,rfl,run_takeDeferred fD,?_⟩⟩
  refine ⟨_,?_,yD.1,v5,rfl,yD.2⟩
  simp [results,Tryz.f145,go_sem]
 case stop =>
  rintro D c pre W hD _ h
  exact h.elim
end
end Go.Proofs.YtgepehlpjpccaaaGreatDoor
