/- Contracts. -/
import Derived.Test.YtgepehlpjpccaaaGreatDoorNMG
set_option maxHeartbeats 4000000
set_option maxRecDepth 100000
namespace Go.Proofs.YtgepehlpjpccaaaGreatDoor
section
open Go.RowKit Go.Shelf
open Go.Lib
attribute [local go_sem] Oper.semAt_some
theorem yiR (p:Oa) (c n:Nat) (l:Lb) (w:World) (h1:1≤n) (h2:n≤8) (hl:l.length≤1048576) (hb:Bs w p l) :
  Calls Tryz.prog 110 #[.slice p l.length c,.int .i64 (n:Int)] w (uR (ybw l n) w):=by
 have HA:∀ W,Calls Tryz.prog 147 #[.slice p l.length c,.int .i64 (n:Int)] W (Qp (.int .i64 0) W):=fun W=>yaI p l.length c n W h1 h2 (Nat.le_trans hl (by decide))
 obtain ⟨len,HL⟩:=ey (l.length)
 have Hb:=h_ hb
 rw [← HL.out] at hl HA ⊢
 have HAh:=h_ HA
 clear hb HA
 refine (callsIn_wide (n:=9)).1 ?_
 refine callsIn_of_wp_marks Tryz.func110 rfl trivial ?_ rfl
 simp only [Tryz.ntmps110,List.size_toArray,List.length_cons,List.length_nil,Nat.reduceAdd,Nat.reduceSub,Array.replicate_succ,Array.replicate_zero,List.push_toArray,List.append_toArray,List.nil_append,List.cons_append]
 gi_wp2_with (first|(refine ⟨trivial,?_⟩;gi_at_call 147;refine (callsIn_wide.2 (HAh.out _)).mono ?_;rintro e w' ⟨rfl,rfl⟩)|(gi_at_make;refine ydq _ rfl _ _ rfl _ _ len rfl rfl hl ?_))
 intro w2 uJ hgr
 have hb2:w2.heap[w.heap.size]?=some (.cells #[.slice p len c] 39 (0,0)):=(hgr.block w.heap.size (by simp) (by simp)).trans (World.alloc_heap_new w _)
 have gb:w2.cell? ⟨w.heap.size,0,none⟩=some (.slice p len c):=by simp [World.cell?,hb2]
 have hB2:Be w w2:=((Below.refl _ w).alloc nl _).grown hgr (by simp) (fun k e=>by cases e)
 have hN:w.heap.size+1<w2.heap.size:=by
  have h:=(Array.getElem?_eq_some_iff.1 uJ).1
  simpa using h
 have gb3:(w2.alloc (.cells #[.slice (some ⟨w.heap.size+1,0,none⟩) len len] 39)).cell? ⟨w.heap.size,0,none⟩=some (.slice p len c):=by
  rw [World.cell?_of_block (w:=w2) (Below.heap_alloc _ _ _ (by show w.heap.size<w2.heap.size;omega))];exact gb
 have HR:=h_ uJ
 have vK:=h_ hB2
 have Hb2:=h_ hb2
 clear uJ hb2 hB2 hgr
 gi_wp2_with (refine ⟨trivial,?_⟩;gi_at_call 148;refine (yk0 Fence.wide _ trivial rfl _ _ _).mono ?_;rintro e w' ⟨rfl,rfl⟩)
 obtain ⟨W0,hW0⟩:∃ W0,((w2.alloc (.cells #[.slice (some ⟨w.heap.size+1,0,none⟩) len len] 39)).alloc (.cells #[.int .i64 (len:Int)] 3)).alloc (.cells #[.int .i64 (n:Int)] 3)=W0:=⟨_,rfl⟩
 have hs0:W0.heap.size=w2.heap.size+3:=by rw [← hW0];simp
 have hO:W0.heap[w2.heap.size]?=some (.cells #[.slice (some ⟨w.heap.size+1,0,none⟩) len len] 39 (0,0)):=by
  rw [← hW0];exact ((Below.heap_alloc _ _ _ (by simp;omega)).trans (Below.heap_alloc _ _ _ (by simp))).trans (World.alloc_heap_new w2 _)
 have hBl:W0.heap[w2.heap.size+1]?=some (.cells #[.int .i64 (len:Int)] 3 (0,0)):=by
  rw [← hW0];refine (Below.heap_alloc _ _ _ (by simp)).trans ?_
  have:=World.alloc_heap_new (w2.alloc (.cells #[.slice (some ⟨w.heap.size+1,0,none⟩) len len] 39)) (.cells #[.int .i64 (len:Int)] 3);rwa [World.size_alloc] at this
 have hBn:W0.heap[w2.heap.size+1+1]?=some (.cells #[.int .i64 (n:Int)] 3 (0,0)):=by
  rw [← hW0];have:=World.alloc_heap_new ((w2.alloc (.cells #[.slice (some ⟨w.heap.size+1,0,none⟩) len len] 39)).alloc (.cells #[.int .i64 (len:Int)] 3)) (.cells #[.int .i64 (n:Int)] 3);rwa [World.size_alloc,World.size_alloc] at this
 have ylR:Be w2 W0:=by rw [← hW0];exact (((Below.refl _ w2).alloc nl _).alloc (by simp) _).alloc (by simp;omega) _
 have hS:W0.heap[w.heap.size]?=some (.cells #[.slice p len c] 39 (0,0)):=(ylR.block _ (by omega)).trans Hb2.out
 have hR0:W0.heap[w.heap.size+1]?=some (.cells (zN (List.replicate len 0)).toArray 5 (0,0)):=(ylR.block _ hN).trans HR.out
 have hBW:Be w W0:=vK.out.trans (ylR.mono (by omega))
 rw [hW0]
 clear gb gb3
 refine wpIn_rangeFunc_ownF rfl (by omega) (gf:=189) (lb:=#[.pointer (some ⟨w2.heap.size+1,0,none⟩),.pointer (some ⟨w2.heap.size+1+1,0,none⟩)]) rfl trivial (enters_of Tryz.func189 (by kernel_rfl) rfl)
  (ymR Fence.wide _ trivial rfl (by omega) (w2.heap.size+1) (w2.heap.size+1+1) len n h1 h2 hl W0 (by omega) (by omega) (by simp [World.cell?,hBl]) (by simp [World.cell?,hBn])) ycI.trans
  (fun W lo o o' hlo ho hc hw=>⟨World.putObj_heap_other (by omega),World.putObj_heap_other (by omega)⟩) bR (fun _=>rfl)
  (fun pre W=>W.heap[w.heap.size+1]?=some (.cells (zN (ycu l (fun t=>yap len n t) (fun t=>t) (pre.map (·.1)))).toArray 5 (0,0))∧W.heap[w.heap.size]?=some (.cells #[.slice p len c] 39 (0,0)) ∧
   W.heap[w2.heap.size]?=some (.cells #[.slice (some ⟨w.heap.size+1,0,none⟩) len len] 39 (0,0))∧Be w W)
  (fun _ _ _=>False)
  (OwnFrom.and (ybR (fun _=>rfl)) (OwnFrom.and (ybR (fun _=>rfl)) (OwnFrom.and (ybR (fun _=>rfl)) (ownFrom_below nl (by omega)))))
  (fun _ _ _ _ _ h _ _=>h)
  ⟨(by rw [hR0,HL.out];rfl),hS,hO,hBW⟩
  (fun x=>{ tmps:=#[.slice p len c,.int .i64 (n:Int),.pointer (some ⟨w.heap.size,0,none⟩),undef,.slice none 0 0,.int .i64 0,.int .i64 0,.pointer (some ⟨w2.heap.size,0,none⟩),.int .i64 ((x.1:Nat):Int),.int .i64 ((yap len n x.1:Nat):Int),.slice p len c,.int .i64 (n:Int),.int .i64 0,.int .i64 0,.bool false,undef,.slice p len c,.int .i64 (len:Int),.slice (some ⟨w.heap.size+1,0,none⟩) len len,.slice p len c,.int .i64 (len:Int),.int .i64 (n:Int),.func (.func 189) #[] #[.pointer (some ⟨w2.heap.size+1,0,none⟩),.pointer (some ⟨w2.heap.size+1+1,0,none⟩)],.int .i64 ((x.1:Nat):Int),.int .i64 ((yap len n x.1:Nat):Int),undef,undef,undef,undef,undef,undef,undef,undef],defers:=[] }) ?assign ?body ?done ?stop
 case assign =>
  intro lo x W K hK
  gi_wp2
  exact hK
 case body =>
  rintro lo pre x W ⟨hA,hS,hO,hB⟩ _
  obtain ⟨t,ht⟩:=x
  have hfr:yap len n t<len:=ynB (by omega) ht
  obtain ⟨b1,o1,hp1,hb1,hc1⟩:=ydT (t:=t) (Hb.out.below hB) (by rw [← HL.out];exact ht)
  obtain ⟨y,HY⟩:∃ y:UInt8,Hid (y=l.getD t 0):=⟨_,rfl⟩
  rw [← HY.out] at hc1
  obtain ⟨fr,HFR⟩:=ey (yap len n t)
  have e1:W.cell? ⟨w.heap.size,0,none⟩=some (.slice p len c):=by simp [World.cell?,hS]
  have e2:W.cell? ⟨w2.heap.size,0,none⟩=some (.slice (some ⟨w.heap.size+1,0,none⟩) len len):=by simp [World.cell?,hO]
  obtain ⟨A,HA⟩:∃ A:Lb,Hid (A=ycu l (fun t=>yap len n t) (fun t=>t) (pre.map (·.1))):=⟨_,rfl⟩
  have HAl:Hid (A.length=len):=h_ (by rw [HA.out,ycr,HL.out])
  rw [← HA.out] at hA
  have e3:W.cell? ⟨w.heap.size+1,fr,none⟩=some (.int .u8 (((A.getD fr 0).toNat:Nat):Int)):=by
   simp only [World.cell?,hA]
   have h6:(zN A)[fr]?=some (.int .u8 (((A.getD fr 0).toNat:Nat):Int)):=by
    rw [zN,List.getElem?_map,List.getD_eq_getElem?_getD,List.getElem?_eq_getElem (by rw [HAl.out,HFR.out];exact hfr)];rfl
   simpa using h6
  have e4:W.frozen? ⟨w.heap.size+1,fr,none⟩=false:=by simp [World.frozen?,hA]
  subst hp1
  rw [← HFR.out] at hfr ⊢
  have hF:KeepsOthers W (W.setCell ⟨w.heap.size+1,fr,none⟩ (.int .u8 (y.toNat:Int))).drew∧ycI (w2.heap.size+1) (w2.heap.size+1+1) W (W.setCell ⟨w.heap.size+1,fr,none⟩ (.int .u8 (y.toNat:Int))).drew ∧
    (W.setCell ⟨w.heap.size+1,fr,none⟩ (.int .u8 (y.toNat:Int))).drew.heap[w.heap.size+1]?=some (.cells (zN (ycu l (fun t=>yap len n t) (fun t=>t) ((pre++[(⟨t,ht⟩:Pl len)]).map (·.1)))).toArray 5 (0,0)) ∧
    (W.setCell ⟨w.heap.size+1,fr,none⟩ (.int .u8 (y.toNat:Int))).drew.heap[w.heap.size]?=some (.cells #[.slice (some ⟨b1,o1,none⟩) len c] 39 (0,0)) ∧
    (W.setCell ⟨w.heap.size+1,fr,none⟩ (.int .u8 (y.toNat:Int))).drew.heap[w2.heap.size]?=some (.cells #[.slice (some ⟨w.heap.size+1,0,none⟩) len len] 39 (0,0)) ∧
    Be w (W.setCell ⟨w.heap.size+1,fr,none⟩ (.int .u8 (y.toNat:Int))).drew:=by
   refine ⟨ymS (KeepsOthers.setCell _ _ _),⟨ydh _ (by omega),ydh _ (by omega)⟩,?_,(ydh _ (by omega)).trans hS,(ydh _ (by omega)).trans hO,(hB.setCell (p:=⟨w.heap.size+1,fr,none⟩) (by simp) _).drew⟩
   rw [List.map_append,List.map_cons,List.map_nil,yga,← HA.out,← HY.out,← HFR.out];exact yoV hA y
  gi_wp2
  gi_region
  all_goals (gi_wp2;exact hF)
 case done =>
  rintro D xs W hD hxs ⟨hA,hS,hO,hB⟩ hK
  have e2:W.cell? ⟨w2.heap.size,0,none⟩=some (.slice (some ⟨w.heap.size+1,0,none⟩) len len):=by simp [World.cell?,hO]
  gi_wp2
  refine ⟨by simp,.inl ⟨_,_,rfl,run_takeDeferred hK,?_⟩⟩
  have hB9:Be w (W.putObj D (.deferred none)):=hB.trans (belowK_b (w:=w) nl W D _ _ (by omega) hK rfl rfl)
  have hA9:(W.putObj D (.deferred none)).heap[w.heap.size+1]?=_:=(World.putObj_heap_other (by omega)).trans hA
  rw [hxs,HL.out,yoi l (by omega)] at hA9
  refine ⟨_,?_,hB9,_,rfl,yiL hA9 (by rw [ya3,HL.out]) (by omega) hl⟩
  simp [results,Tryz.f110,go_sem]
 case stop =>
  rintro D c pre W hD _ h
  exact h.elim
end
section
open Go.RowKit Go.Shelf
open Go.Lib
attribute [local go_sem] Oper.semAt_some
theorem yfr (Bl:Nat):ynC 163 Bl yc1:=by
 intro W a g ha hg hc hf
 have ya9:IntKind.u64.wrap ((a:Int)+(g:Int))=(((yc1 a g).1:Nat):Int):=by
  show _=(((a+g)%zR:Nat):Int)
  rw [IntKind.wrap_u64];unfold zR at *;omega
 have h2:(yc1 a g).2=(yc1 a g).1:=rfl
 rw [h2,← ya9]
 clear ya9 ha hg
 go_in
 go_wp2
 go_ret
 exact ⟨rfl,rfl⟩
end
section
open Go.RowKit
open Go.Lib
theorem ym3 (p:Oa) (c n:Nat) (l:Lb) (w:World) (h1:1≤n) (h2:n≤8) (hl:l.length≤1048576) (hc:l.length≤c) (hpc:p=none→c=0) (hb:Bs w p l) :
  Calls Tryz.prog 109 #[.slice p l.length c,.int .i64 (n:Int)] w (uR (yjc l n) w):=by
 have HBW:Hid (Be w (w.alloc (.cells #[.int .u64 0] 86))):=h_ ((Below.refl _ w).alloc nl _)
 have HC:=h_ (yoX 163 yc1 (fun a g _ _=>⟨Nat.mod_lt _ (by decide),Nat.mod_lt _ (by decide)⟩) (fun _ _=>rfl) p c n w.heap.size l (w.alloc (.cells #[.int .u64 0] 86)) h1 h2 hl hc hpc (yfr _) (hb.bsN.keep HBW.out) (World.alloc_heap_new w _))
 obtain ⟨R,HR⟩:=ey (yjc l n)
 have e:chR yc1 n (l.length/n) 0 l=R:=HR.out.symm
 rw [e] at HC
 rw [← HR.out]
 clear e
 obtain ⟨len,HL⟩:=ey (l.length)
 rw [← HL.out] at hl hc HC ⊢
 clear hb hpc
 go_in
 go_wp2_with fail
 refine (HC.out).mono ?_
 rintro e w' ⟨hb1,v,rfl,ho⟩
 obtain ⟨q,d,rfl,-,-⟩:=zA ho
 have HO:=h_ ho
 obtain ⟨m,HM⟩:=ey (R.length)
 rw [← HM.out] at HO ⊢
 have HB:=h_ (HBW.out.trans hb1)
 clear ho hb1
 go_wp2
 go_ret2
 exact ⟨HB.out,_,rfl,by rw [← HM.out];exact HO.out⟩
end
theorem yqw (b:Nat→Nat) (hb:∀ t,b t<2) (q:Nat) (r:Nat):∀ R,r<R→R≤8→bv b q R/2^(7-r)%2=b (8*q+r)
 | 0,h,_=>by omega
 | R+1,h,h8=>by
  obtain ⟨a,ha⟩:=yld b q R (by omega)
  by_cases e:r=R
  ·subst e
   have e2:8-r=(7-r)+1:=by omega
   have hp:0<2^(7-r):=Nat.pow_pos (by decide)
   rw [bv,ha,e2,Nat.pow_succ,Nat.mul_assoc,Nat.mul_comm (b _),Nat.mul_add_div hp,Nat.mul_div_cancel_left _ hp,Nat.mul_add_mod]
   exact Nat.mod_eq_of_lt (hb _)
  ·have hr:r<R:=by omega
   have h1:=yqw b hb q r R hr (by omega)
   have hlt:b (8*q+R)*2^(7-R)<2^(8-R):=by
    have e:8-R=(7-R)+1:=by omega
    have h3:b (8*q+R)*2^(7-R)≤1*2^(7-R):=Nat.mul_le_mul_right _ (by have:=hb (8*q+R);omega)
    have h2:0<2^(7-R):=Nat.pow_pos (by decide)
    rw [e,Nat.pow_succ];omega
   have hp:0<2^(8-R):=Nat.pow_pos (by decide)
   have e3:2^(7-r)=2^(8-R)*2^(R-1-r):=by rw [← Nat.pow_add];congr 1;omega
   have e4:bv b q (R+1)/2^(7-r)=bv b q R/2^(7-r):=by
    rw [bv,ha,e3,← Nat.div_div_eq_div_mul,← Nat.div_div_eq_div_mul,Nat.mul_add_div hp,Nat.div_eq_of_lt hlt,Nat.add_zero,Nat.mul_div_cancel_left _ hp]
   rw [e4];exact h1
theorem yt7 (b:Nat→Nat) (hb:∀ t,b t<2) {T t:Nat} (h:t<T):((pkL b T).getD (t/8) 0).toNat/2^(7-t%8)%2=b t:=by
 rw [yle b (by omega),yiW b hb _ (Nat.min_le_left _ _),yqw b hb (t/8) (t%8) _ (by omega) (Nat.min_le_left _ _)]
 congr 1;omega
theorem yqx:∀ (f x:Nat),x<2^f→x<2^Lib.bitLenAux f x
 | 0,x,h=>h
 | f+1,x,h=>by
  rw [Lib.bitLenAux]
  by_cases h0:x=0
  ·rw [if_pos h0,h0];decide
  ·rw [if_neg h0,Nat.add_comm 1,Nat.pow_succ]
   have:=yqx f (x/2) (by rw [Nat.pow_succ] at h;omega);omega
theorem ywk {x:Nat} (h:x<zR):x<2^bl x:=yqx 64 x (by unfold zR at h;omega)
theorem yo9 (d:Nat) {w j:Nat} (hj:j<w):d/2^(w-1-j)=2*(d/2^(w-j))+d/2^(w-1-j)%2:=by
 have e:w-j=(w-1-j)+1:=by omega
 rw [e,Nat.pow_succ,← Nat.div_div_eq_div_mul];omega
section
open Go.RowKit
open Go.Lib
def rdB (l:Lb) (t:Nat):Nat:=(l.getD (t/8) 0).toNat/2^(7-t%8)%2
theorem yfv (l:Lb) (t:Nat):rdB l t<2:=Nat.mod_lt _ (by decide)
def dfB (b:Nat→Nat) (t0:Nat):Nat→Nat
 | 0=>0
 | j+1=>2*dfB b t0 j%zR+b (t0+j)
theorem yfw {b:Nat→Nat} (hb:∀ t,b t<2) (t0:Nat):∀ j,dfB b t0 j<zR
 | 0=>by rw [dfB];decide
 | j+1=>by
  have h1:=hb (t0+j)
  rw [dfB];unfold zR;omega
def unV (b:Nat→Nat) (wd m i:Nat):Nat:=(m+dfB b (i*wd) wd)%zR
def unG (b:Nat→Nat) (wd m k:Nat):List Nat:=(List.range k).map (unV b wd m)
theorem uB (b:Nat→Nat) (wd m k:Nat):(unG b wd m k).length=k:=by simp [unG]
theorem yfV (b:Nat→Nat) (wd m k:Nat):unG b wd m (k+1)=unG b wd m k++[unV b wd m k]:=by rw [unG,List.range_succ,List.map_append];rfl
theorem ynL {v r:Nat} (hv:v<256):bits .and .u8 ((v:Int)/2^r) 1=((v/2^r%2:Nat):Int):=by
 have h1:(v:Int)/2^r=((v/2^r:Nat):Int):=by rw [Int.natCast_ediv,Int.natCast_pow];rfl
 have h2:=u8_and_nat (v/2^r) 1 (Nat.lt_of_le_of_lt (Nat.div_le_self _ _) hv) (by decide)
 rw [nat_mask1] at h2
 rw [h1,show (1:Int)=((1:Nat):Int) from rfl,h2]
theorem yqy {x bt:Nat} (hb:bt<2):bits .or .u64 (IntKind.u64.wrap ((x:Int)*2)) (bt:Int)=((2*x%zR+bt:Nat):Int):=by
 have h1:IntKind.u64.wrap ((x:Int)*2)=((2*x%zR:Nat):Int):=by rw [IntKind.wrap_u64];unfold zR;omega
 have h3:2*x%zR=2^1*(2*x%zR/2):=by unfold zR;omega
 have h4:2*x%zR ||| bt=2*x%zR+bt:=by
  have:=Nat.two_pow_add_eq_or_of_lt (i:=1) (b:=bt) (by omega) (2*x%zR/2)
  rw [← h3] at this;exact this.symm
 rw [h1,u64_or_nat _ _ (by unfold zR;omega) (by omega),h4]
theorem ybq (p:Oa) (c n k m wd len:Nat) (l:Lb) (w:World) (HL:Hid (len=l.length)) (h1:1≤n) (h2:n≤8) (hl:len≤1048576) (hk:k*n≤1048576) (hwd:wd≤255) (hm:m<zR) (hbits:k*wd≤8*len) (hb:Bs w p l) :
  Calls Tryz.prog 199 #[.slice p len c,.int .i64 (n:Int),.int .i64 (k:Int),.int .u64 (m:Int),.int .i64 (wd:Int)] w (App w.heap.size w (.slice none 0 0) (jl n (unG (rdB l) wd m k))):=by
 obtain ⟨i0,hi,hz0,hz1,hz2⟩:=info_parts uF
 have HB:=h_ hb
 have hkl:k≤1048576:=by
  have h3:k*1≤k*n:=Nat.mul_le_mul_left _ h1
  omega
 have hki:(k:Int)≤1048576:=by omega
 have hn1:1≤(n:Int):=by omega
 have hn8:(n:Int)≤8:=by omega
 have hwi:(wd:Int)≤255:=by omega
 obtain ⟨C,HC⟩:=ey (k*n)
 have GJ:(k:Int)*(n:Int)=(C:Int):=by rw [HC.out];simp
 have hCi:(C:Int)≤1048576:=by rw [HC.out];omega
 have HM:=h_ hm
 have HBI:=h_ hbits
 have HKN:=h_ hk
 have hmi:(m:Int)≤18446744073709551615:=by unfold zR at hm;omega
 obtain ⟨R,HR⟩:=ey (jl n (unG (rdB l) wd m k))
 rw [← HR.out]
 clear hb hm hbits hk
 go_in
 go_wp2_with (at_make;refine wpList_make_own _ rfl _ _ 39 rfl w.heap.size 5 i0 (.int .u8 0) 1 Tryz.underlying39 hi hz0 hz1 _ _ _ C rfl rfl ?b1 ?b2 ?b3 nl ?_)
 case b1=>omega
 case b2=>rw [hz2];omega
 case b3=>unfold maxLen;omega
 intro w1 yP zB
 have HG0:Hid (Grew w.heap.size w (.slice none 0 0) (jl n (unG (rdB l) wd m 0)) w1 (.slice (some ⟨w.heap.size,0,none⟩) 0 C)):=h_ ⟨yP,zB,.inr ⟨_,rfl,Nat.le_refl _⟩⟩
 clear yP zB
 go_wp2
 go_loopw [11,12,19] (fun vr uv iv wr=>∃ (i T:Nat),i≤k∧iv=.int .i64 i∧uv=.int .i64 T∧Hid (T=i*wd)∧Hid (Grew w.heap.size w (.slice none 0 0) (jl n (unG (rdB l) wd m i)) wr vr)) (fun _ _ iv _=>k-(Go.RowKit.intOf iv).toNat)
 case atStart=>exact ⟨0,0,Nat.zero_le _,rfl,rfl,h_ (by rw [Nat.zero_mul]),HG0⟩
 case round =>
  obtain ⟨i,T,hik,rfl,rfl,HT,HG⟩:=hrel
  by_cases yay:i<k
  ·have hilt':(i:Int)<k:=by omega
   have hbw:Hid (Be w wr):=h_ (HG.out.below nl (by intro k hk;cases hk))
   have hPT:T+wd≤8*len:=by
    have h5:(i+1)*wd≤k*wd:=Nat.mul_le_mul_right _ yay
    have h6:=HBI.out
    rw [Nat.succ_mul] at h5
    rw [HT.out];omega
   go_wp2
   go_loop [12,13,22] (fun uv xv jv=>∃ (j x T1:Nat),j≤wd∧jv=.int .i64 j∧uv=.int .i64 T1∧xv=.int .u64 (x:Int)∧Hid (T1=T+j)∧Hid (x=dfB (rdB l) T j)) (fun _ _ jv=>wd-(Go.RowKit.intOf jv).toNat)
   case atStart=>exact ⟨0,0,T,Nat.zero_le _,rfl,rfl,rfl,h_ (Nat.add_zero _).symm,h_ rfl⟩
   case round =>
    obtain ⟨j,x,T1,hj,rfl,rfl,rfl,HT1,HX⟩:=hrel
    by_cases hjw:j<wd
    ·have hjw':(j:Int)<wd:=by omega
     have hT1:T1<8*len:=by rw [HT1.out];omega
     have hT1i:(T1:Int)≤8388608:=by omega
     obtain ⟨q8,HQ8⟩:=ey (T1/8)
     have hq8:(T1:Int)/8=(q8:Int):=by rw [HQ8.out];omega
     have yuA:q8<len:=by rw [HQ8.out];omega
     have hq8i:(q8:Int)<len:=by omega
     obtain ⟨b1,o1,v,rfl,hb1,hc1,hv,hv2⟩:=(HB.out.below hbw.out).at (k:=q8) (by rw [← HL.out];exact yuA)
     obtain ⟨r7,HR7⟩:=ey (7-T1%8)
     have ypn:(r7:Int)≤7:=by rw [HR7.out];omega
     have hr7:7-(T1:Int)%8=(r7:Int):=by rw [HR7.out];omega
     obtain ⟨bt,HBT⟩:=ey (v/2^r7%2)
     have hbt:bt<2:=by rw [HBT.out];exact Nat.mod_lt _ (by decide)
     have yuB:(bt:Int)≤1:=by omega
     have ybJ:bits .and .u8 ((v:Int)/2^r7) 1=(bt:Int):=by rw [ynL (by omega),HBT.out]
     have hxl:x<zR:=by rw [HX.out];exact yfw (yfv l) _ _
     have hxi:(x:Int)≤18446744073709551615:=by unfold zR at hxl;omega
     obtain ⟨x2,HX2⟩:=ey (2*x%zR+bt)
     have hor:bits .or .u64 (IntKind.u64.wrap ((x:Int)*2)) (bt:Int)=(x2:Int):=by rw [yqy hbt,HX2.out]
     have hx2:Hid (x2=dfB (rdB l) T (j+1)):=h_ (by
      rw [dfB,← HX.out,HX2.out,HBT.out,rdB,← HT1.out,← HQ8.out,hv.out,← HR7.out])
     clear hxl hbt
     go_wp2_with fail
     go_round
     case rel=>exact ⟨j+1,x2,T1+1,by omega,by go_num,by go_num,by first|rfl|rw [hor],h_ (by rw [HT1.out];omega),hx2⟩
     case measure=>simp [Go.RowKit.intOf];omega
    ·obtain rfl:j=wd:=by omega
     obtain ⟨z,HZ⟩:=ey ((m+x)%zR)
     have ya9:IntKind.u64.wrap ((m:Int)+(x:Int))=(z:Int):=by rw [IntKind.wrap_u64,HZ.out];unfold zR;omega
     have hzl:z<zR:=by rw [HZ.out];exact Nat.mod_lt _ (by decide)
     obtain ⟨L,GL⟩:=ey (jl n (unG (rdB l) j m i))
     rw [← GL.out] at HG
     have hLl:L.length≤1048576:=by
      have h5:i*n≤k*n:=Nat.mul_le_mul_right _ hik
      have h6:=HKN.out
      rw [GL.out,uE,uB];omega
     have HN:=h_ (jV w.heap.size _ L z n wr h2 (by omega) hbw.out.size HG.out.own hzl)
     have hxl:x<zR:=by rw [HX.out];exact yfw (yfv l) _ _
     have hxi:(x:Int)≤18446744073709551615:=by unfold zR at hxl;omega
     clear hzl hxl
     go_wp2_with fail
     refine (HN.out).mono ?_
     rintro e w2 ⟨v2,rfl,hg2⟩
     have HG2:=h_ (HG.out.trans hg2)
     rw [show L++be n z=jl n (unG (rdB l) j m (i+1)) by rw [yfV,ydg,← GL.out,unV,← HT.out,← HX.out,← HZ.out,jl,jl,List.append_nil]] at HG2
     clear hg2
     go_wp2
     go_roundw
     case rel=>exact ⟨i+1,T1,by omega,by go_num,rfl,h_ (by rw [HT1.out,HT.out,Nat.succ_mul]),HG2⟩
     case measure=>simp [Go.RowKit.intOf];omega
  ·obtain rfl:i=k:=by omega
   rw [← HR.out] at HG
   go_wp2
   go_ret
   exact ⟨_,rfl,HG.out⟩
def yag (L:Lb) (w:World) (e:Ending) (w':World):Prop:=Be w w'∧∃ q d,e=.returned (.tuple #[.slice q L.length d,.bool true])∧Hid (L.length≤d)∧Hid (q=none→d=0)∧Bs w' q L
theorem ynM (b0 off len0 len1 len2 len3 c0 c1 c2 s n n1 k m wd:Nat) (l:Lb) (w:World) (h1:1≤n) (h2:n≤8) (hN1:Hid (n1=n+1)) (e0:Hid (len0=len1+4)) (e1:Hid (len1=len2+n1)) (e2:Hid (len2=len3+s)) (d0:Hid (c0=c1+4)) (d1:Hid (c1=c2+n1)) (hc2:0<c2) (hcs:Hid (s≤c2)) (hc:len0≤c0) (hlm:len2≤1048576) (hl:Hid (l.length=len0)) (hk0:0<k) (hk:k*n≤1048576) (hwd:wd≤255) (hs:Hid (s=(k*wd+7)/8))
  (hk4:Hid (nb (l.take 4)=k)) (hm:Hid (nb ((l.drop 4).take n)=m)) (hwv:Hid (((l.drop 4).getD n 0).toNat=wd)) (hb:Bs w (some ⟨b0,off,none⟩) l) :
  Calls Tryz.prog 164 #[.slice (some ⟨b0,off,none⟩) len0 c0,.int .i64 (n:Int)] w (yag (jl n (unG (rdB ((l.drop 4).drop n1)) wd m k)++((l.drop 4).drop n1).drop s) w):=by
 have HB:=h_ hb
 have hn:=hN1.out
 have hn0:1≤(n:Int):=by omega
 have hn8:(n:Int)≤8:=by omega
 have hn1:(n:Int)+1=(n1:Int):=by omega
 have hn2:2≤(n1:Int):=by omega
 have hn9:(n1:Int)≤9:=by omega
 have hnn:n<n1:=by omega
 have hni:(n:Int)<(n1:Int):=by omega
 have yuy:n≤n1:=by omega
 have hki:0<(k:Int):=by omega
 have ydr:¬ (k:Int)=0:=by omega
 have hkl:k≤1048576:=by
  have h3:k*1≤k*n:=Nat.mul_le_mul_left _ h1
  omega
 have ycn:(k:Int)≤1048576:=by omega
 obtain ⟨D,HD⟩:=ey (1048576/n)
 have hkD:k≤D:=by rw [HD.out,Nat.le_div_iff_mul_le (by omega)];exact hk
 have ypj:¬ (D:Int)<(k:Int):=by omega
 have ypk:decide (D<k)=false:=decide_eq_false (by omega)
 have hDi:(D:Int)≤1048576:=by
  have:=Nat.div_le_self 1048576 n
  rw [HD.out];omega
 have yfd:(1048576:Int)/(n:Int)=(D:Int):=by rw [HD.out,Int.natCast_ediv];rfl
 have hwi:(wd:Int)≤255:=by omega
 obtain ⟨TT,GY⟩:=ey (k*wd)
 have GJ:(k:Int)*(wd:Int)=(TT:Int):=by rw [GY.out];simp
 have hTT:(TT:Int)≤267386880:=by
  have h5:k*wd≤1048576*255:=Nat.mul_le_mul hkl hwd
  rw [GY.out];omega
 have hsz:((TT:Int)+7)/8=(s:Int):=by rw [hs.out,GY.out];omega
 have q0:=e0.out
 have q1:=e1.out
 have qc0:=d0.out
 have qc1:=d1.out
 have hll:l.length=len0:=hl.out
 have hb1:Hid (∀ W,Be w W→Bs W (some ⟨b0,off+4,none⟩) (l.drop 4)):=h_ (fun W hW=>vH (hb.below hW) 4 (by omega) rfl)
 have GG:=h_ (jA (some ⟨b0,off,none⟩) c0 (l.take 4) w (by rw [List.length_take];omega) (by have h:=jK hb 0 4 (by omega) (Nat.add_zero off).symm;rwa [List.drop_zero] at h))
 rw [show (l.take 4).length=4 by rw [List.length_take];omega,hk4.out] at GG
 have HNn:Hid (∀ W,Be w W→Calls Tryz.prog 197 #[.slice (some ⟨b0,off+4,none⟩) n c1] W (Qp (.int .u64 (m:Int)) W)):=h_ (fun W hW=>by
  have h:=jA (some ⟨b0,off+4,none⟩) c1 ((l.drop 4).take n) W (by rw [List.length_take,List.length_drop];omega) (by have h:=jK (hb1.out W hW) 0 n (by rw [List.length_drop];omega) rfl;rwa [List.drop_zero] at h)
  rwa [show ((l.drop 4).take n).length=n by rw [List.length_take,List.length_drop];omega,hm.out] at h)
 have hcw:Hid (∀ W,Be w W→W.cell? ⟨b0,off+4+n,none⟩=some (.int .u8 (wd:Int))):=h_ (fun W hW=>by
  rcases hb1.out W hW with h0|⟨b,o,e,h3,h4⟩
  ·rw [List.length_drop] at h0;omega
  ·injection e with e;injection e with e1 e2;subst e1;subst e2
   have h5:=h4 n (by rw [List.length_drop];omega)
   rwa [hwv.out] at h5)
 have hmi:(m:Int)≤18446744073709551615:=by
  have h5:m<18446744073709551616:=by rw [← hm.out];exact ybu (by rw [List.length_take];omega)
  omega
 have ypl:m<zR:=by unfold zR;omega
 have Q2:=e2.out
 have h2x:=hcs.out
 have i0:4≤(len0:Int):=by omega
 have i0c:4<(c0:Int):=by omega
 have i0d:(len0:Int)≤(c0:Int):=by omega
 have i0l:(len0:Int)≤1048590:=by omega
 have i1:(n1:Int)≤(len1:Int):=by omega
 have i1n:(n:Int)<(len1:Int):=by omega
 have i1c:(n1:Int)<(c1:Int):=by omega
 have i1d:(len1:Int)≤(c1:Int):=by omega
 have i1e:(n:Int)≤(c1:Int):=by omega
 have i2:(s:Int)≤(len2:Int):=by omega
 have i2c:(s:Int)≤(c2:Int):=by omega
 have i2d:(len2:Int)≤(c2:Int):=by omega
 have i0':¬ (len0:Int)<4:=by omega
 have i1':¬ (len1:Int)<(n1:Int):=by omega
 have i2':¬ (len2:Int)<(s:Int):=by omega
 have f0:len0-4=len1:=by omega
 have f0c:c0-4=c1:=by omega
 have f1:len1-n1=len2:=by omega
 have f1c:c1-n1=c2:=by omega
 have f2:len2-s=len3:=by omega
 obtain ⟨l2,HL2⟩:=ey ((l.drop 4).drop n1)
 have hl2:Hid (len2=l2.length):=h_ (by rw [HL2.out,List.length_drop,List.length_drop];omega)
 have hb2:Hid (∀ W,Be w W→Bs W (some ⟨b0,off+4+n1,none⟩) l2):=h_ (fun W hW=>by rw [HL2.out];exact vH (hb1.out W hW) n1 (by rw [List.length_drop];omega) rfl)
 have HW:=h_ (ybq (some ⟨b0,off+4+n1,none⟩) c2 n k m wd len2 l2 w.drew.drew hl2 h1 h2 hlm hk hwd ypl (by have:=hs.out;omega) (hb2.out _ (Below.refl _ w).drew.drew))
 obtain ⟨G,HG⟩:=ey (jl n (unG (rdB l2) wd m k))
 have hGl:G.length≤1048576:=by rw [HG.out,uE,uB];exact hk
 obtain ⟨rs,HRS⟩:=ey (l2.drop s)
 have hrl:rs.length=len3:=by rw [HRS.out,List.length_drop,← hl2.out];omega
 have hb3:Hid (∀ W,Be w W→Bs W (if c2=s then some ⟨b0,off+4+n1,none⟩ else some ⟨b0,off+4+n1+s,none⟩) rs):=h_ (fun W hW=>by
  split
  ·exact .inl (by rw [hrl];omega)
  ·rw [HRS.out];exact vH (hb2.out W hW) s (by rw [← hl2.out];omega) rfl)
 rw [← HG.out] at HW
 rw [← HL2.out,← HG.out,← HRS.out]
 have hBd:Be w w.drew:=(Below.refl _ w).drew
 have yu2:Be w w.drew.drew:=hBd.drew
 have hwk:IntKind.i64.wrap (k:Int)=(k:Int):=by rw [IntKind.wrap_i64];omega
 have hww:IntKind.i64.wrap (wd:Int)=(wd:Int):=by rw [IntKind.wrap_i64];omega
 clear hn hb hll q0 q1 qc0 qc1 Q2 h2x
 go_in
 go_wp2_with fail
 refine (GG.out).mono ?_
 rintro e w' ⟨rfl,rfl⟩
 go_wp2_with fail
 refine wp_region_noPanic ?_
 refine wp_region_held_drew (S:=fun W'=>W'.cell? ⟨b0,off+4+n,none⟩=some (.int .u8 (wd:Int))) (by kernel_rfl) (hcw.out _ hBd) (fun hHeld=>?_)
 refine tk (i:=0) (v:=_) rfl (Or.inl ⟨by rfl,by intro W' hSw;obtain e9:=hSw;go_simp;with_reducible rfl⟩) ?_
 simp only [sl]
 refine tk (i:=1) (v:=_) rfl (Or.inl ⟨by rfl,by intro W' hSw;obtain e9:=hSw;go_simp;with_reducible rfl⟩) ?_
 simp only [sl]
 refine tk (i:=2) (v:=_) rfl (Or.inl ⟨by rfl,by intro W' hSw;obtain e9:=hSw;go_simp;with_reducible rfl⟩) ?_
 simp only [sl]
 refine tk (i:=3) (v:=_) rfl (Or.inl ⟨by rfl,by intro W' hSw;obtain e9:=hSw;go_simp;with_reducible rfl⟩) ?_
 simp only [sl]
 refine tk (i:=4) (v:=_) rfl (Or.inl ⟨by rfl,by intro W' hSw;obtain e9:=hSw;go_simp;with_reducible rfl⟩) ?_
 simp only [sl]
 refine tk (i:=6) (v:=_) rfl (Or.inl ⟨by rfl,by intro W' hSw;obtain e9:=hSw;go_simp;with_reducible rfl⟩) ?_
 simp only [sl]
 refine tk (i:=7) (v:=_) rfl (Or.inl ⟨by rfl,by intro W' hSw;obtain e9:=hSw;go_simp;with_reducible rfl⟩) ?_
 simp only [sl]
 refine tk (i:=8) (v:=_) rfl (Or.inl ⟨by rfl,by intro W' hSw;obtain e9:=hSw;go_simp;with_reducible rfl⟩) ?_
 simp only [sl]
 refine tk (i:=9) (v:=_) rfl (Or.inl ⟨by rfl,by intro W' hSw;obtain e9:=hSw;go_simp;with_reducible rfl⟩) ?_
 simp only [sl]
 refine tk (i:=10) (v:=_) rfl (Or.inl ⟨by rfl,by intro W' hSw;obtain e9:=hSw;go_simp;with_reducible rfl⟩) ?_
 simp only [sl]
 refine oN (i:=5) rfl fun K hK=>?_
 go_simp
 refine (HNn.out _ hBd).mono ?_
 rintro e W' ⟨rfl,rfl⟩
 refine hK.out _ _ (hcw.out _ hBd) (fun hHeld=>?_)
 clear hK K
 refine oN (i:=11) rfl fun K hK=>?_
 go_simp
 refine hK.out _ _ (hcw.out _ hBd) (fun hHeld=>?_)
 clear hK K
 refine oN (i:=12) rfl fun K hK=>?_
 go_simp
 refine hK.out _ _ (hcw.out _ hBd) (fun hHeld=>?_)
 clear hK K
 refine oN (i:=13) rfl fun K hK=>?_
 go_simp
 refine hK.out _ _ (hcw.out _ hBd) (fun hHeld=>?_)
 clear hK K
 refine wpAnyH_done (by kernel_rfl) ?_ _
 refine NoPanic.normal ?_
 clear hHeld
 go_wp2_with fail
 (try rw [hsz])
 refine wp_region_noPanic ?_
 refine wp_region_held_drew (S:=fun _=>True) (by kernel_rfl) trivial (fun hHeld=>?_)
 refine tk (i:=0) (v:=_) rfl (Or.inl ⟨by rfl,by intro W' hSw;obtain _:=hSw;go_simp;with_reducible rfl⟩) ?_
 simp only [sl]
 refine tk (i:=1) (v:=_) rfl (Or.inl ⟨by rfl,by intro W' hSw;obtain _:=hSw;go_simp;with_reducible rfl⟩) ?_
 simp only [sl]
 refine tk (i:=2) (v:=_) rfl (Or.inl ⟨by rfl,by intro W' hSw;obtain _:=hSw;go_simp;with_reducible rfl⟩) ?_
 simp only [sl]
 refine tk (i:=3) (v:=_) rfl (Or.inl ⟨by rfl,by intro W' hSw;obtain _:=hSw;go_simp;with_reducible rfl⟩) ?_
 simp only [sl]
 refine tk (i:=4) (v:=_) rfl (Or.inl ⟨by rfl,by intro W' hSw;obtain _:=hSw;go_simp;with_reducible rfl⟩) ?_
 simp only [sl]
 refine tk (i:=6) (v:=_) rfl (Or.inl ⟨by rfl,by intro W' hSw;obtain _:=hSw;go_simp;with_reducible rfl⟩) ?_
 simp only [sl]
 refine tk (i:=7) (v:=_) rfl (Or.inl ⟨by rfl,by intro W' hSw;obtain _:=hSw;go_simp;with_reducible rfl⟩) ?_
 simp only [sl]
 refine tk (i:=8) (v:=_) rfl (Or.inl ⟨by rfl,by intro W' hSw;obtain _:=hSw;go_simp;with_reducible rfl⟩) ?_
 simp only [sl]
 refine oN (i:=5) rfl fun K hK=>?_
 go_simp
 refine (HW.out).mono ?_
 rintro e W2 ⟨v2,rfl,hg2⟩
 have G2:=h_ hg2
 have hB2:Hid (Be w W2):=h_ (yu2.trans (hg2.below nl (by intro k hk;cases hk)))
 have hb3W:=h_ (hb3.out W2 hB2.out)
 clear hg2
 refine hK.out _ _ (trivial) (fun hHeld=>?_)
 clear hK K
 refine oN (i:=9) rfl fun K hK9=>?_
 rw [if_pos (by rfl)]
 refine ya5 (.tmp 64) (.tmp 67) rfl w.heap.size v2 G.length G rfl rfl G2.out.own _ _ _ rs rfl (by first|exact hrl|(rw [hrl];omega)) hb3W.out (by omega) hB2.out.size ?_
 intro v5 W5 hg5
 obtain ⟨p5,c5,rfl,hs5,hd5⟩:=zA hg5.own
 have hnc:=yaw hg5.own
 have yF:Hid (yag (G++rs) w (.returned (.tuple #[.slice p5 (G++rs).length c5,.bool true])) W5):=h_ ⟨hB2.out.trans (hg5.below hB2.out.size (fun k e=>yal G2.out.own e)),p5,c5,rfl,h_ hd5,h_ hnc,hs5⟩
 obtain ⟨m5,HM5⟩:=ey ((G++rs).length)
 rw [← HM5.out] at yF ⊢
 clear hg5 hs5 hd5 hnc
 refine hK9.out _ _ trivial (fun hHeld=>?_)
 clear hK9 K
 simp only [sl]
 refine oN (i:=10) rfl fun K hK=>?_
 go_simp
 refine hK.out _ _ (trivial) (fun hHeld=>?_)
 clear hK K
 refine oN (i:=11) rfl fun K hK=>?_
 go_simp
 refine hK.out _ _ (trivial) (fun hHeld=>?_)
 clear hK K
 refine wpAnyH_done (by kernel_rfl) ?_ _
 refine NoPanic.normal ?_
 clear hHeld
 go_wp2_with fail
 all_goals (go_ret2;exact yF.out)
theorem ynN (b0 off len0 n n1 k m:Nat) (l:Lb) (w:World) (h1:1≤n) (h2:n≤8) (hN1:Hid (n1=n+1)) (e0:Hid (len0=n1+4)) (hl:Hid (l.length=len0)) (hk0:0<k) (hk:k*n≤1048576)
  (hk4:Hid (nb (l.take 4)=k)) (hm:Hid (nb ((l.drop 4).take n)=m)) (hwv:Hid (((l.drop 4).getD n 0).toNat=0)) (hb:Bs w (some ⟨b0,off,none⟩) l) :
  Calls Tryz.prog 164 #[.slice (some ⟨b0,off,none⟩) len0 len0,.int .i64 (n:Int)] w (yag (jl n (unG (rdB []) 0 m k)++[]) w):=by
 have HB:=h_ hb
 have hn:=hN1.out
 have hn0:1≤(n:Int):=by omega
 have hn8:(n:Int)≤8:=by omega
 have hn1:(n:Int)+1=(n1:Int):=by omega
 have hn2:2≤(n1:Int):=by omega
 have hn9:(n1:Int)≤9:=by omega
 have hnn:n<n1:=by omega
 have hni:(n:Int)<(n1:Int):=by omega
 have yuy:n≤n1:=by omega
 have hki:0<(k:Int):=by omega
 have ydr:¬ (k:Int)=0:=by omega
 have hkl:k≤1048576:=by
  have h3:k*1≤k*n:=Nat.mul_le_mul_left _ h1
  omega
 have ycn:(k:Int)≤1048576:=by omega
 obtain ⟨D,HD⟩:=ey (1048576/n)
 have hkD:k≤D:=by rw [HD.out,Nat.le_div_iff_mul_le (by omega)];exact hk
 have ypj:¬ (D:Int)<(k:Int):=by omega
 have ypk:decide (D<k)=false:=decide_eq_false (by omega)
 have hDi:(D:Int)≤1048576:=by
  have:=Nat.div_le_self 1048576 n
  rw [HD.out];omega
 have yfd:(1048576:Int)/(n:Int)=(D:Int):=by rw [HD.out,Int.natCast_ediv];rfl
 have q0:=e0.out
 have hll:l.length=len0:=hl.out
 have hb1:Hid (∀ W,Be w W→Bs W (some ⟨b0,off+4,none⟩) (l.drop 4)):=h_ (fun W hW=>vH (hb.below hW) 4 (by omega) rfl)
 have GG:=h_ (jA (some ⟨b0,off,none⟩) len0 (l.take 4) w (by rw [List.length_take];omega) (by have h:=jK hb 0 4 (by omega) (Nat.add_zero off).symm;rwa [List.drop_zero] at h))
 rw [show (l.take 4).length=4 by rw [List.length_take];omega,hk4.out] at GG
 have HNn:Hid (∀ W,Be w W→Calls Tryz.prog 197 #[.slice (some ⟨b0,off+4,none⟩) n n1] W (Qp (.int .u64 (m:Int)) W)):=h_ (fun W hW=>by
  have h:=jA (some ⟨b0,off+4,none⟩) n1 ((l.drop 4).take n) W (by rw [List.length_take,List.length_drop];omega) (by have h:=jK (hb1.out W hW) 0 n (by rw [List.length_drop];omega) rfl;rwa [List.drop_zero] at h)
  rwa [show ((l.drop 4).take n).length=n by rw [List.length_take,List.length_drop];omega,hm.out] at h)
 have hcw:Hid (∀ W,Be w W→W.cell? ⟨b0,off+4+n,none⟩=some (.int .u8 0)):=h_ (fun W hW=>by
  rcases hb1.out W hW with h0|⟨b,o,e,h3,h4⟩
  ·rw [List.length_drop] at h0;omega
  ·injection e with e;injection e with e1 e2;subst e1;subst e2
   have h5:=h4 n (by rw [List.length_drop];omega)
   rw [hwv.out] at h5;exact h5)
 have hmi:(m:Int)≤18446744073709551615:=by
  have h5:m<18446744073709551616:=by rw [← hm.out];exact ybu (by rw [List.length_take];omega)
  omega
 have ypl:m<zR:=by unfold zR;omega
 have i0:4≤(len0:Int):=by omega
 have i0c:4<(len0:Int):=by omega
 have i0l:(len0:Int)≤13:=by omega
 have i0':¬ (len0:Int)<4:=by omega
 have f0:len0-4=n1:=by omega
 have HW:=h_ (ybq (some ⟨b0,off+4,none⟩) 0 n k m 0 0 [] w.drew.drew (h_ rfl) h1 h2 (by decide) hk (by decide) ypl (Nat.le_of_eq (Nat.mul_zero _)) (Bs.nil _ _))
 obtain ⟨G,HG⟩:=ey (jl n (unG (rdB []) 0 m k))
 have hGl:G.length≤1048576:=by rw [HG.out,uE,uB];exact hk
 obtain ⟨rs,HRS⟩:∃ rs:Lb,Hid (rs=[]):=⟨[],h_ rfl⟩
 have hrl:rs.length=0:=by rw [HRS.out];rfl
 have hb3:Hid (∀ (W:World) (q:Oa),Bs W q rs):=h_ (fun W q=>.inl hrl)
 rw [← HG.out] at HW
 rw [← HG.out,← HRS.out]
 have hwk:IntKind.i64.wrap (k:Int)=(k:Int):=by rw [IntKind.wrap_i64];omega
 have hBd:Be w w.drew:=(Below.refl _ w).drew
 have yu2:Be w w.drew.drew:=hBd.drew
 clear hn hb hll q0
 go_in
 go_wp2_with fail
 refine (GG.out).mono ?_
 rintro e w' ⟨rfl,rfl⟩
 go_wp2_with fail
 refine wp_region_noPanic ?_
 refine wp_region_held_drew (S:=fun W'=>W'.cell? ⟨b0,off+4+n,none⟩=some (.int .u8 0)) (by kernel_rfl) (hcw.out _ hBd) (fun hHeld=>?_)
 refine tk (i:=0) (v:=_) rfl (Or.inl ⟨by rfl,by intro W' hSw;obtain e9:=hSw;go_simp;with_reducible rfl⟩) ?_
 simp only [sl]
 refine tk (i:=1) (v:=_) rfl (Or.inl ⟨by rfl,by intro W' hSw;obtain e9:=hSw;go_simp;with_reducible rfl⟩) ?_
 simp only [sl]
 refine tk (i:=2) (v:=_) rfl (Or.inl ⟨by rfl,by intro W' hSw;obtain e9:=hSw;go_simp;with_reducible rfl⟩) ?_
 simp only [sl]
 refine tk (i:=3) (v:=_) rfl (Or.inl ⟨by rfl,by intro W' hSw;obtain e9:=hSw;go_simp;with_reducible rfl⟩) ?_
 simp only [sl]
 refine tk (i:=4) (v:=_) rfl (Or.inl ⟨by rfl,by intro W' hSw;obtain e9:=hSw;go_simp;with_reducible rfl⟩) ?_
 simp only [sl]
 refine tk (i:=6) (v:=_) rfl (Or.inl ⟨by rfl,by intro W' hSw;obtain e9:=hSw;go_simp;with_reducible rfl⟩) ?_
 simp only [sl]
 refine tk (i:=7) (v:=_) rfl (Or.inl ⟨by rfl,by intro W' hSw;obtain e9:=hSw;go_simp;with_reducible rfl⟩) ?_
 simp only [sl]
 refine tk (i:=8) (v:=_) rfl (Or.inl ⟨by rfl,by intro W' hSw;obtain e9:=hSw;go_simp;with_reducible rfl⟩) ?_
 simp only [sl]
 refine tk (i:=9) (v:=_) rfl (Or.inl ⟨by rfl,by intro W' hSw;obtain e9:=hSw;go_simp;with_reducible rfl⟩) ?_
 simp only [sl]
 refine tk (i:=10) (v:=_) rfl (Or.inl ⟨by rfl,by intro W' hSw;obtain e9:=hSw;go_simp;with_reducible rfl⟩) ?_
 simp only [sl]
 refine oN (i:=5) rfl fun K hK=>?_
 go_simp
 refine (HNn.out _ hBd).mono ?_
 rintro e W' ⟨rfl,rfl⟩
 refine hK.out _ _ (hcw.out _ hBd) (fun hHeld=>?_)
 clear hK K
 refine oN (i:=11) rfl fun K hK=>?_
 go_simp
 refine hK.out _ _ (hcw.out _ hBd) (fun hHeld=>?_)
 clear hK K
 refine oN (i:=12) rfl fun K hK=>?_
 go_simp
 refine hK.out _ _ (hcw.out _ hBd) (fun hHeld=>?_)
 clear hK K
 refine oN (i:=13) rfl fun K hK=>?_
 go_simp
 refine hK.out _ _ (hcw.out _ hBd) (fun hHeld=>?_)
 clear hK K
 refine wpAnyH_done (by kernel_rfl) ?_ _
 refine NoPanic.normal ?_
 clear hHeld
 go_wp2_with fail
 refine wp_region_noPanic ?_
 refine wp_region_held_drew (S:=fun _=>True) (by kernel_rfl) trivial (fun hHeld=>?_)
 refine tk (i:=0) (v:=_) rfl (Or.inl ⟨by rfl,by intro W' hSw;obtain _:=hSw;go_simp;with_reducible rfl⟩) ?_
 simp only [sl]
 refine tk (i:=1) (v:=_) rfl (Or.inl ⟨by rfl,by intro W' hSw;obtain _:=hSw;go_simp;with_reducible rfl⟩) ?_
 simp only [sl]
 refine tk (i:=2) (v:=_) rfl (Or.inl ⟨by rfl,by intro W' hSw;obtain _:=hSw;go_simp;with_reducible rfl⟩) ?_
 simp only [sl]
 refine tk (i:=3) (v:=_) rfl (Or.inl ⟨by rfl,by intro W' hSw;obtain _:=hSw;go_simp;with_reducible rfl⟩) ?_
 simp only [sl]
 refine tk (i:=4) (v:=_) rfl (Or.inl ⟨by rfl,by intro W' hSw;obtain _:=hSw;go_simp;with_reducible rfl⟩) ?_
 simp only [sl]
 refine tk (i:=6) (v:=_) rfl (Or.inl ⟨by rfl,by intro W' hSw;obtain _:=hSw;go_simp;with_reducible rfl⟩) ?_
 simp only [sl]
 refine tk (i:=7) (v:=_) rfl (Or.inl ⟨by rfl,by intro W' hSw;obtain _:=hSw;go_simp;with_reducible rfl⟩) ?_
 simp only [sl]
 refine tk (i:=8) (v:=_) rfl (Or.inl ⟨by rfl,by intro W' hSw;obtain _:=hSw;go_simp;with_reducible rfl⟩) ?_
 simp only [sl]
 refine oN (i:=5) rfl fun K hK=>?_
 go_simp
 refine (HW.out).mono ?_
 rintro e W2 ⟨v2,rfl,hg2⟩
 have G2:=h_ hg2
 have hB2:Hid (Be w W2):=h_ (yu2.trans (hg2.below nl (by intro k hk;cases hk)))
 clear hg2
 refine hK.out _ _ (trivial) (fun hHeld=>?_)
 clear hK K
 refine oN (i:=9) rfl fun K hK9=>?_
 rw [if_pos (by rfl)]
 refine ya5 (.tmp 64) (.tmp 67) rfl w.heap.size v2 G.length G rfl rfl G2.out.own _ _ _ rs rfl (by first|exact hrl|(rw [hrl];omega)) (hb3.out _ _) (by omega) hB2.out.size ?_
 intro v5 W5 hg5
 obtain ⟨p5,c5,rfl,hs5,hd5⟩:=zA hg5.own
 have hnc:=yaw hg5.own
 have yF:Hid (yag (G++rs) w (.returned (.tuple #[.slice p5 (G++rs).length c5,.bool true])) W5):=h_ ⟨hB2.out.trans (hg5.below hB2.out.size (fun k e=>yal G2.out.own e)),p5,c5,rfl,h_ hd5,h_ hnc,hs5⟩
 obtain ⟨m5,HM5⟩:=ey ((G++rs).length)
 rw [← HM5.out] at yF ⊢
 clear hg5 hs5 hd5 hnc
 refine hK9.out _ _ trivial (fun hHeld=>?_)
 clear hK9 K
 simp only [sl]
 refine oN (i:=10) rfl fun K hK=>?_
 go_simp
 refine hK.out _ _ (trivial) (fun hHeld=>?_)
 clear hK K
 refine oN (i:=11) rfl fun K hK=>?_
 go_simp
 refine hK.out _ _ (trivial) (fun hHeld=>?_)
 clear hK K
 refine wpAnyH_done (by kernel_rfl) ?_ _
 refine NoPanic.normal ?_
 clear hHeld
 go_wp2_with fail
 all_goals (go_ret2;exact yF.out)
theorem yhD (b0 off len c:Nat) (l:Lb) (w:World) (hl:Hid (len=l.length)) (hlm:len≤1048590) (hb:Bs w (some ⟨b0,off,none⟩) l) :
  Calls Tryz.prog 198 #[.slice (some ⟨b0,off,none⟩) len c] w fun e w'=>Be w w'∧∃ q d,e=.returned (.slice q len d)∧Hid (len≤d)∧Hid (q=none→d=0)∧Bs w' q l:=by
 have HB:=h_ hb
 have heq:∀ W:World,(binOp .eql 39 (.slice (some ⟨b0,off,none⟩) len c) (.slice none 0 0)).run Tryz.prog W=.ok (.bool false) W:=fun W=>by kernel_rfl
 have HBa:Hid (Be w (w.alloc (.cells #[] 5))):=h_ ((Below.refl _ w).alloc nl _)
 have yP:Hid ((w.alloc (.cells #[] 5)).ownsRow w.heap.size 5 1 (.slice (some ⟨w.heap.size,0,none⟩) 0 0) ([]:Lb).length (zN [])):=h_ ⟨rfl,.inr ⟨w.heap.size,0,#[],rfl,Nat.le_refl _,World.alloc_heap_new w _,Nat.le_refl _,Nat.zero_le _,rfl,rfl⟩⟩
 have hbl:Hid (0+len≤140737488355328∧w.heap.size≤(w.alloc (.cells #[] 5)).heap.size):=h_ ⟨by omega,by simp⟩
 clear hb
 go_in
 go_wp2_with (at_builtin;refine yQ rfl (.tmp 5) (.tmp 6) rfl w.heap.size _ 0 [] rfl rfl yP.out _ len c l rfl hl.out.symm (HB.out.below HBa.out) hbl.out.1 hbl.out.2 ?_)
 intro v5 w5 hg5
 obtain ⟨p5,c5,rfl,hs5,hd5⟩:=zA hg5.own
 have hnc:=yaw hg5.own
 rw [← hl.out] at hd5 ⊢
 have yF:=h_ (And.intro (HBa.out.trans (hg5.below hbl.out.2 (fun k e=>yal yP.out e))) (And.intro hd5 (And.intro hnc hs5)))
 clear hg5 hs5 hd5 hnc
 go_wp2
 go_ret
 exact ⟨yF.out.1,_,_,rfl,h_ yF.out.2.1,h_ yF.out.2.2.1,yF.out.2.2.2⟩
theorem ykc (b0 off len0 len1 c0:Nat) (z:Int) (l:Lb) (w:World) (e0:Hid (len0=len1+4)) (hc:len0≤c0) (hlm:len0≤1048590) (hl:Hid (l.length=len0)) (hk4:Hid (nb (l.take 4)=0)) (hb:Bs w (some ⟨b0,off,none⟩) l) :
  Calls Tryz.prog 164 #[.slice (some ⟨b0,off,none⟩) len0 c0,.int .i64 z] w (yag (l.drop 4) w):=by
 have HB:=h_ hb
 have q0:=e0.out
 have hll:=hl.out
 have i0:4≤(len0:Int):=by omega
 have i0':¬ (len0:Int)<4:=by omega
 have i0c:4≤(c0:Int):=by omega
 have i0d:(len0:Int)≤(c0:Int):=by omega
 have i0l:(len0:Int)≤1048590:=by omega
 have f0:len0-4=len1:=by omega
 have GG:=h_ (jA (some ⟨b0,off,none⟩) c0 (l.take 4) w (by rw [List.length_take];omega) (by have h:=jK hb 0 4 (by omega) (Nat.add_zero off).symm;rwa [List.drop_zero] at h))
 rw [show (l.take 4).length=4 by rw [List.length_take];omega,hk4.out] at GG
 obtain ⟨l1,HL1⟩:=ey (l.drop 4)
 have hl1:Hid (len1=l1.length):=h_ (by rw [HL1.out,List.length_drop];omega)
 have hb1:Hid (Bs w (some ⟨b0,off+4,none⟩) l1):=h_ (by rw [HL1.out];exact vH hb 4 (by omega) rfl)
 rw [← HL1.out]
 by_cases hc4:c0=4
 ·have z1:len1=0:=by omega
  subst z1
  have hl0:len0=4:=by omega
  subst hl0
  subst hc4
  have HC:=h_ (yhD b0 off 0 0 l1 w hl1 (by decide) (.inl hl1.out.symm))
  have el:l1.length=0:=hl1.out.symm
  clear hb q0 hll f0 hlm hc hb1
  go_in
  go_wp2_with fail
  refine (GG.out).mono ?_
  rintro e w' ⟨rfl,rfl⟩
  go_wp2_with fail
  refine (HC.out).mono ?_
  rintro e w1 ⟨hb9,q,d,rfl,h5,h6,h7⟩
  have yF:Hid (yag l1 w (.returned (.tuple #[.slice q l1.length d,.bool true])) w1):=h_ ⟨hb9,q,d,rfl,by rw [el];exact h5,h6,h7⟩
  rw [el] at yF
  clear hb9 h7
  go_wp2
  go_ret2
  exact yF.out
 ·have i0e:4<(c0:Int):=by omega
  have HC:=h_ (yhD b0 (off+4) len1 (c0-4) l1 w hl1 (by omega) hb1.out)
  have el:l1.length=len1:=hl1.out.symm
  clear hb q0 hll hlm hc hb1
  go_in
  go_wp2_with fail
  refine (GG.out).mono ?_
  rintro e w' ⟨rfl,rfl⟩
  go_wp2_with fail
  refine (HC.out).mono ?_
  rintro e w1 ⟨hb9,q,d,rfl,h5,h6,h7⟩
  have yF:Hid (yag l1 w (.returned (.tuple #[.slice q l1.length d,.bool true])) w1):=h_ ⟨hb9,q,d,rfl,by rw [el];exact h5,h6,h7⟩
  rw [el] at yF
  clear hb9 h7
  go_wp2
  go_ret2
  exact yF.out
end
theorem ykd (n:Nat):∀ (k:Nat) (l:Lb),k*n≤l.length→∀ x ∈ gl n k l,x<256^n
 | 0,_,_,x,h=>by cases h
 | k+1,l,hl,x,h=>by
  rw [Nat.succ_mul] at hl
  rw [gl,List.mem_cons] at h
  rcases h with rfl|h
  ·have h1:=GQ (l.take n)
   rwa [List.length_take,Nat.min_eq_left (by omega)] at h1
  ·exact ykd n k _ (by rw [List.length_drop];omega) x h
theorem ypV (n:Nat):∀ (k:Nat) (l:Lb),k*n≤l.length→jl n (gl n k l)++l.drop (k*n)=l
 | 0,l,_=>by rw [gl,jl,Nat.zero_mul,List.drop_zero,List.nil_append]
 | k+1,l,hl=>by
  rw [Nat.succ_mul] at hl
  have h1:=ypV n k (l.drop n) (by rw [List.length_drop];omega)
  rw [List.drop_drop,Nat.add_comm n] at h1
  rw [gl,jl,yuc n _ (by rw [List.length_take];omega),List.append_assoc,Nat.succ_mul,h1,List.take_append_drop]
theorem yke {b:Nat→Nat} {t0 d w:Nat} (hd:d<2^w) (hd64:d<zR) (h:∀ j,j<w→b (t0+j)=d/2^(w-1-j)%2):∀ j,j≤w→dfB b t0 j=d/2^(w-j)
 | 0,_=>by rw [dfB,Nat.sub_zero,Nat.div_eq_of_lt hd]
 | j+1,hj=>by
  have h1:=yke hd hd64 h j (by omega)
  have h2:=yo9 d (w:=w) (j:=j) (by omega)
  have h3:d/2^(w-1-j)<zR:=Nat.lt_of_le_of_lt (Nat.div_le_self _ _) hd64
  have e:w-(j+1)=w-1-j:=by omega
  rw [dfB,h1,h j (by omega),e,Nat.mod_eq_of_lt (by omega)]
  exact h2.symm
theorem yvr {gs:List Nat} {m w:Nat} {l2:Lb} (hm:∀ g ∈ gs,m≤g) (hg:∀ g ∈ gs,g<zR) (hw:∀ g ∈ gs,g-m<2^w) (hb:∀ t,t<gs.length*w→rdB l2 t=btF gs m w t):unG (rdB l2) w m gs.length=gs:=by
 refine List.ext_getElem (by rw [uB]) fun i h1 h2=>?_
 have yji:gs[i] ∈ gs:=List.getElem_mem h2
 have hgd:gs.getD i 0=gs[i]:=by rw [gD h2];rfl
 have hdl:gs[i]-m<zR:=Nat.lt_of_le_of_lt (Nat.sub_le _ _) (hg _ yji)
 have h3:dfB (rdB l2) (i*w) w=gs[i]-m:=by
  rw [yke (hw _ yji) hdl (fun j hj=>?_) w nl,Nat.sub_self,Nat.pow_zero,Nat.div_one]
  have h5:(i+1)*w≤gs.length*w:=Nat.mul_le_mul_right _ h2
  rw [Nat.succ_mul] at h5
  rw [hb _ (by omega),ylh _ _ hj,hgd]
 have h4:=hm _ yji
 have h6:=hg _ yji
 simp only [unG,List.getElem_map,List.getElem_range,unV,h3]
 rw [show m+(gs[i]-m)=gs[i] by omega]
 exact Nat.mod_eq_of_lt h6
theorem yt8 {gs:List Nat} (hg:∀ g ∈ gs,g<zR):∀ g ∈ gs,g-mnL gs<2^wdL gs:=by
 intro g h
 have h1:=yqs h
 have h2:=ylf hg
 exact Nat.lt_of_le_of_lt (Nat.sub_le_sub_right h1 _) (ywk (Nat.lt_of_le_of_lt (Nat.sub_le _ _) h2))
structure PkParts (l:Lb) (n k:Nat) (P:Lb) (m wd s:Nat) (rs:Lb):Prop where
 len:P.length=rs.length+s+(n+1)+4
 hs:s=(k*wd+7)/8
 cnt:nb (P.take 4)=k
 lst:nb ((P.drop 4).take n)=m
 wid:((P.drop 4).getD n 0).toNat=wd
 wdl:wd≤64
 rsl:rs.length+k*n=l.length
 out:jl n (unG (rdB ((P.drop 4).drop (n+1))) wd m k)++((P.drop 4).drop (n+1)).drop s=l
 grp:unG (rdB ((P.drop 4).drop (n+1))) wd m k=gl n k l
 rst:((P.drop 4).drop (n+1)).drop s=rs
theorem yeX {l:Lb} {n:Nat} (_h1:1≤n) (h2:n≤8) (hl:l.length≤1048576) (hk0:0<l.length/n) :
  PkParts l n (l.length/n) (vJ l n) (mnL (gl n (l.length/n) l)) (wdL (gl n (l.length/n) l)) ((l.length/n*wdL (gl n (l.length/n) l)+7)/8) (l.drop (l.length/n*n)):=by
 obtain ⟨k,HK⟩:∃ k,k=l.length/n:=⟨_,rfl⟩
 rw [← HK] at hk0 ⊢
 have hkn:k*n≤l.length:=by rw [HK];exact Nat.div_mul_le_self _ _
 have hkl:k≤1048576:=by rw [HK];exact Nat.le_trans (Nat.div_le_self _ _) hl
 obtain ⟨gs,HG⟩:∃ gs,gs=gl n k l:=⟨_,rfl⟩
 have hgl:gs.length=k:=by rw [HG,vV]
 have hg64:∀ g ∈ gs,g<zR:=by rw [HG];exact yiV h2 k l
 have hg256:∀ g ∈ gs,g<256^n:=by rw [HG];exact ykd n k l hkn
 have hne:gs≠[]:=fun e=>by rw [← List.length_eq_zero_iff,hgl] at e;omega
 have hm256:mnL gs<256^n:=by
  cases hc:gs with
  | nil=>exact absurd hc hne
  | cons x xs=>rw [← hc];exact Nat.lt_of_le_of_lt (yfu (by rw [hc];exact List.mem_cons_self)) (hg256 x (by rw [hc];exact List.mem_cons_self))
 have hw64:wdL gs≤64:=ylj gs
 have hP:vJ l n=be 4 k++(be n (mnL gs)++([UInt8.ofNat (wdL gs)]++(pkF gs++l.drop (k*n)))):=by
  rw [vJ,← HK,← HG,ycm,pkB,if_neg (by rw [hgl];omega),hgl];simp only [List.append_assoc]
 have hpk:(pkF gs).length=(k*wdL gs+7)/8:=by rw [pkF,vF,hgl]
 rw [← HG]
 have hd4:(vJ l n).drop 4=be n (mnL gs)++([UInt8.ofNat (wdL gs)]++(pkF gs++l.drop (k*n))):=by
  rw [hP];exact ye4 4 k _
 have hd5:((vJ l n).drop 4).drop (n+1)=pkF gs++l.drop (k*n):=by
  have e:((vJ l n).drop 4).drop (n+1)=(((vJ l n).drop 4).drop n).drop 1:=by
   generalize (vJ l n).drop 4=X
   rw [List.drop_drop]
  rw [e,hd4,ye4];rfl
 have hrst:((vJ l n).drop 4 |>.drop (n+1)).drop ((k*wdL gs+7)/8)=l.drop (k*n):=by rw [hd5,← hpk];exact List.drop_left
 have hgrp:unG (rdB (((vJ l n).drop 4).drop (n+1))) (wdL gs) (mnL gs) k=gs:=by
  have hu:=yvr (m:=mnL gs) (w:=wdL gs) (l2:=pkF gs++l.drop (k*n)) (fun g h=>yfu h) hg64 (yt8 hg64) (fun t ht=>by
   rw [rdB,List.getD_eq_getElem?_getD,List.getElem?_append_left (by rw [hpk,← hgl];omega),← List.getD_eq_getElem?_getD]
   exact yt7 _ (ylg gs (mnL gs) (wdL gs)) ht)
  rw [hgl] at hu
  rw [hd5,hu]
 refine ⟨?_,rfl,?_,?_,?_,hw64,by rw [List.length_drop];omega,?_,by rw [hgrp,HG],hrst⟩
 ·rw [hP];simp only [List.length_append,zD,List.length_cons,List.length_nil,hpk];omega
 ·rw [hP,ye3,ylx];exact Nat.mod_eq_of_lt (by omega)
 ·rw [hd4,ye3,ylx];exact Nat.mod_eq_of_lt hm256
 ·rw [hd4,List.getD_eq_getElem?_getD,List.getElem?_append_right (by rw [zD];exact Nat.le_refl _),zD,Nat.sub_self]
  show (UInt8.ofNat (wdL gs)).toNat=_
  rw [UInt8.toNat_ofNat'];exact Nat.mod_eq_of_lt (by omega)
 ·rw [hrst,hgrp,HG]
  exact ypV n k l hkn
section
open Go.RowKit
open Go.Lib
theorem ym4 (p q:Oa) (c d:Nat) (l:Lb) (w:World) (hp:Bs w p l) (hq:Bs w q l) :
  Calls Tryz.prog 60 #[.slice p l.length c,.slice q l.length d] w fun r w'=>r=.returned (.bool true)∧w=w':=by
 have h1:=zP w p c l hp
 have h2:=zP w q d l hq
 clear hp hq
 obtain ⟨s,hs⟩:∃ s:ByteArray,s=⟨l.toArray⟩:=⟨_,rfl⟩
 rw [← hs] at h1 h2
 clear hs
 go_in
 go_wp2
 go_ret
 exact ⟨rfl,rfl⟩
theorem yfa {w:World} {p:Oa} {l:Lb} (h:Bs w p l) (hl:0<l.length):∃ b off,p=some ⟨b,off,none⟩:=by
 obtain ⟨b,off,hp,-⟩:=ydT h hl
 exact ⟨b,off,hp⟩
theorem ym5 (p:Oa) (c n len0:Nat) (l P:Lb) (w:World) (hP:Hid (P=vJ l n)) (h1:1≤n) (h2:n≤8) (hl:l.length≤1048576) (hp0:Hid (P.length=len0)) (hpl:len0≤1048576) (hc:len0≤c) (hb:Bs w p P) :
  Calls Tryz.prog 164 #[.slice p len0 c,.int .i64 (n:Int)] w (yag l w):=by
 by_cases hk:l.length/n=0
 ·have hP2:P=be 4 0++l:=by rw [hP.out,vJ,hk,Nat.zero_mul,List.drop_zero];rfl
  have hl4:P.length=l.length+4:=by rw [hP2,List.length_append,zD,Nat.add_comm]
  obtain ⟨b0,off,rfl⟩:=yfa hb (by omega)
  have h:=ykc b0 off len0 l.length c (n:Int) P w (h_ (by rw [← hp0.out];exact hl4)) hc (by omega) hp0 (h_ (by rw [hP2,ye3];rfl)) hb
  rwa [hP2,show (be 4 0++l).drop 4=l from ye4 4 0 l] at h
 ·have hp:=yeX h1 h2 hl (Nat.pos_of_ne_zero hk)
  rw [← hP.out] at hp
  obtain ⟨k,HK⟩:∃ k,k=l.length/n:=⟨_,rfl⟩
  obtain ⟨m,HM⟩:∃ m,m=mnL (gl n k l):=⟨_,rfl⟩
  obtain ⟨wd,HW⟩:∃ wd,wd=wdL (gl n k l):=⟨_,rfl⟩
  obtain ⟨s,HS⟩:∃ s,s=(k*wd+7)/8:=⟨_,rfl⟩
  obtain ⟨rs,HR⟩:∃ rs,rs=l.drop (k*n):=⟨_,rfl⟩
  rw [← HK,← HM,← HW,← HS,← HR] at hp
  have hlen:=hp.len
  have hkn:k*n≤1048576:=by have:=hp.rsl;omega
  have hk0:0<k:=by rw [HK];exact Nat.pos_of_ne_zero hk
  have hwd:=hp.wdl
  have hpo:=hp0.out
  obtain ⟨b0,off,rfl⟩:=yfa hb (by omega)
  by_cases hc2:c=len0∧s=0∧rs.length=0
  ·obtain ⟨rfl,hs0,hr0⟩:=hc2
   have ypm:wd=0:=by
    rcases Nat.eq_zero_or_pos wd with h|h
    ·exact h
    ·have:1*1≤k*wd:=Nat.mul_le_mul hk0 h
     omega
   have hw:=hp.wid
   rw [ypm] at hw
   have h:=ynN b0 off c n (n+1) k m P w h1 h2 (h_ rfl) (h_ (by omega)) hp0 hk0 hkn (h_ hp.cnt) (h_ hp.lst) (h_ hw) hb
   have ho:=hp.out
   have hn:(P.drop 4).drop (n+1)=[]:=by rw [← List.length_eq_zero_iff,List.length_drop,List.length_drop];omega
   rw [hn,ypm,List.drop_nil] at ho
   rwa [ho] at h
  ·have h:=ynM b0 off len0 (rs.length+s+(n+1)) (rs.length+s) rs.length c (c-4) (c-4-(n+1)) s n (n+1) k m wd P w h1 h2 (h_ rfl) (h_ (by omega)) (h_ rfl) (h_ rfl) (h_ (by omega)) (h_ (by omega)) (by omega) (h_ (by omega)) hc (by omega) hp0 hk0 hkn (by omega) (h_ hp.hs) (h_ hp.cnt) (h_ hp.lst) (h_ hp.wid) hb
   rwa [hp.out] at h
theorem yg8 (p:Oa) (c n len0 len:Nat) (l P:Lb) (w:World) (hP:Hid (P=vJ l n)) (h1:1≤n) (h2:n≤8) (hlen:Hid (len=l.length)) (hl:len≤1048576) (hp0:Hid (P.length=len0)) (hpl:len0≤1048576) (hc:Hid (len0≤c)) (hb:Bs w p P) :
  Calls Tryz.prog 111 #[.slice p len0 c,.int .i64 (n:Int)] w (yez l len w):=by
 have HA:=h_ (yaI p len0 c n w h1 h2 hpl)
 have HU:=h_ (ym5 p c n len0 l P w hP h1 h2 (by rw [← hlen.out];exact hl) hp0 hpl hc.out hb)
 have HB:=h_ hb
 have hn1:1≤(n:Int):=by omega
 have hn8:(n:Int)≤8:=by omega
 clear hb
 go_in
 go_wp2_with fail
 refine (HA.out).mono ?_
 rintro e w' ⟨rfl,rfl⟩
 go_wp2_with fail
 refine (HU.out).mono ?_
 rintro e w1 ⟨hb1,q,d,rfl,hd,hq,hs⟩
 rw [← hlen.out] at hd ⊢
 have yY:=h_ hb1
 have HQ:=hq
 have HS:=h_ hs
 have HPk:=h_ (ykb q d n len l w1 hlen h1 h2 hl hd hq hs)
 clear hb1 hs
 go_wp2_with fail
 refine (HPk.out).mono ?_
 rintro e w2 ⟨hb2,v,rfl,ho⟩
 obtain ⟨q2,d2,rfl,hs2,-⟩:=zA ho
 have vK:=th yY hb2
 have HE:=h_ (ym4 q2 p d2 c P w2 (by rw [hP.out];exact hs2) (HB.out.below vK.out))
 have HS2:=h_ (HS.out.below hb2)
 rw [← hP.out,hp0.out]
 rw [hp0.out] at HE
 clear ho hs2 hb2
 go_wp2_with fail
 refine (HE.out).mono ?_
 rintro e w3 ⟨rfl,rfl⟩
 go_wp2
 go_ret2
 exact ⟨vK.out,_,_,rfl,hd,HQ,HS2.out⟩
theorem ydV:∀ (k:Nat) (out b:Lb),b.length≤k→∀ L,und out b=some L→out.length≤L.length:=by
 intro k
 induction k with
 | zero =>
  intro out b hb L h
  obtain rfl:b=[]:=List.length_eq_zero_iff.1 (by omega)
  rw [ye5] at h
  cases h;exact Nat.le_refl _
 | succ k ih =>
  intro out b hb L h
  cases b with
  | nil=>rw [ye5] at h;cases h;exact Nat.le_refl _
  | cons c r =>
   rw [List.length_cons] at hb
   by_cases hc:c.toNat<128
   ·by_cases hr:r.length<c.toNat+1
    ·rw [ya4 hc hr] at h;cases h
    ·rw [ydc hc (by omega)] at h
     have:=ih _ _ (by rw [List.length_drop];omega) L h
     rw [List.length_append] at this
     omega
   ·by_cases hr:r.length<2
    ·rw [ydd (by omega) hr] at h;cases h
    ·by_cases hd:nb (r.take 2)=0∨out.length<nb (r.take 2)
     ·rw [ye6 (by omega) (by omega) hd] at h;cases h
     ·rw [ydZ (by omega) (by omega) hd] at h
      have:=ih _ _ (by rw [List.length_drop];omega) L h
      rw [ydb] at this
      omega
structure UAw (w wr:World) (L rest o:Lb) (pb:Oa) (n cb:Nat) (ov:Value):Prop where
 len:rest.length=n
 cap:n≤cb
 bytes:Bs w pb rest
 out:Grew w.heap.size w (.slice none 0 0) o wr ov
 eq:und o rest=some L
theorem UAw.below {w wr:World} {l rest o:Lb} {pb:Oa} {n cb:Nat} {ov:Value} (h:UAw w wr l rest o pb n cb ov):Be w wr:=h.out.below nl (by intro k hk;cases hk)
theorem UAw.room {w wr:World} {l rest o:Lb} {pb:Oa} {n cb:Nat} {ov:Value} (h:UAw w wr l rest o pb n cb ov):o.length≤l.length:=ydV _ _ _ nl _ h.eq
theorem UAw.next {w wr w2:World} {l rest o o2:Lb} {b0 off n cb k:Nat} {ov v2:Value} (h:UAw w wr l rest o (some ⟨b0,off,none⟩) n cb ov) (hk:k≤n) (hg:Grew w.heap.size w (.slice none 0 0) o2 w2 v2) (he:und o2 (rest.drop k)=some l) (q:Nat) :
  UAw w (w2.drewN q) l (rest.drop k) o2 (if cb=k then some ⟨b0,off,none⟩ else some ⟨b0,off+k,none⟩) (n-k) (cb-k) v2:=by
 refine ⟨by rw [List.length_drop,h.len],by have:=h.cap;omega,?_,hg.drewN q,he⟩
 split
 ·exact .inl (by rw [List.length_drop,h.len];have:=h.cap;omega)
 ·exact vH h.bytes k (by rw [h.len];exact hk) rfl
theorem yez.below {L:Lb} {len:Nat} {w W w':World} {e:Ending} (h:yez L len W e w') (hb:Be w W):yez L len w e w':=by
 obtain ⟨h1,h2⟩:=h
 exact ⟨tr hb h1,h2⟩
end
end Go.Proofs.YtgepehlpjpccaaaGreatDoor
