/- Contracts. -/
import Derived.Test.YtgepehlpjpccaaaGreatDoorWDK
set_option maxHeartbeats 4000000
set_option maxRecDepth 100000
namespace Go.Proofs.YtgepehlpjpccaaaGreatDoor
section
open Go.RowKit Go.Shelf
open Go.Lib
attribute [local go_sem] Oper.semAt_some
theorem yo8 (p:Oa) (c n:Nat) (l:Lb) (w:World) (h1:1≤n) (h2:n≤8) (hl:l.length≤20000) (hb:Bs w p l) :
  Calls Tryz.prog 99 #[.slice p l.length c,.int .i64 (n:Int)] w (zR (yaj l n) w):=by
 have HA:∀ W,Calls Tryz.prog 147 #[.slice p l.length c,.int .i64 (n:Int)] W (Qp (.int .i64 0) W):=fun W=>ycv p l.length c n W h1 h2 (Nat.le_trans hl (by decide))
 obtain ⟨len,HL⟩:=ey (l.length)
 have Hb:=h_ hb
 rw [← HL.out] at hl HA ⊢
 have HAh:=h_ HA
 clear hb HA
 refine (callsIn_wide (n:=9)).1 ?_
 refine callsIn_of_wp_marks Tryz.func99 rfl trivial ?_ rfl
 simp only [Tryz.ntmps99,List.size_toArray,List.length_cons,List.length_nil,Nat.reduceAdd,Nat.reduceSub,Array.replicate_succ,Array.replicate_zero,List.push_toArray,List.append_toArray,List.nil_append,List.cons_append]
 gi_wp2_with (first|(refine ⟨trivial,?_⟩;gi_at_call 147;refine (callsIn_wide.2 (HAh.out _)).mono ?_;rintro e w' ⟨rfl,rfl⟩)|(gi_at_make;refine ybr _ rfl _ _ rfl _ _ len rfl rfl hl ?_))
 intro w2 vB hgr
 have hb2:w2.heap[w.heap.size]?=some (.cells #[.slice p len c] 39 (0,0)):=(hgr.block w.heap.size (by simp) (by simp)).trans (World.alloc_heap_new w _)
 have gb:w2.cell? ⟨w.heap.size,0,none⟩=some (.slice p len c):=by simp [World.cell?,hb2]
 have hB2:Be w w2:=((Below.refl _ w).alloc nl _).grown hgr (by simp) (fun k e=>by cases e)
 have hN:w.heap.size+1<w2.heap.size:=by
  have h:=(Array.getElem?_eq_some_iff.1 vB).1
  simpa using h
 have gb3:(w2.alloc (.cells #[.slice (some ⟨w.heap.size+1,0,none⟩) len len] 39)).cell? ⟨w.heap.size,0,none⟩=some (.slice p len c):=by
  rw [World.cell?_of_block (w:=w2) (Below.heap_alloc _ _ _ (by show w.heap.size<w2.heap.size;omega))];exact gb
 have HR:=h_ vB
 have jQ:=h_ hB2
 have Hb2:=h_ hb2
 clear vB hb2 hB2 hgr
 gi_wp2_with (refine ⟨trivial,?_⟩;gi_at_call 148;refine (yf8 Fence.wide _ trivial rfl _ _ _).mono ?_;rintro e w' ⟨rfl,rfl⟩)
 obtain ⟨W0,hW0⟩:∃ W0,((w2.alloc (.cells #[.slice (some ⟨w.heap.size+1,0,none⟩) len len] 39)).alloc (.cells #[.int .i64 (len:Int)] 3)).alloc (.cells #[.int .i64 (n:Int)] 3)=W0:=⟨_,rfl⟩
 have hs0:W0.heap.size=w2.heap.size+3:=by rw [← hW0];simp
 have hO:W0.heap[w2.heap.size]?=some (.cells #[.slice (some ⟨w.heap.size+1,0,none⟩) len len] 39 (0,0)):=by
  rw [← hW0];exact ((Below.heap_alloc _ _ _ (by simp;omega)).trans (Below.heap_alloc _ _ _ (by simp))).trans (World.alloc_heap_new w2 _)
 have hBl:W0.heap[w2.heap.size+1]?=some (.cells #[.int .i64 (len:Int)] 3 (0,0)):=by
  rw [← hW0];refine (Below.heap_alloc _ _ _ (by simp)).trans ?_
  have:=World.alloc_heap_new (w2.alloc (.cells #[.slice (some ⟨w.heap.size+1,0,none⟩) len len] 39)) (.cells #[.int .i64 (len:Int)] 3);rwa [World.size_alloc] at this
 have hBn:W0.heap[w2.heap.size+1+1]?=some (.cells #[.int .i64 (n:Int)] 3 (0,0)):=by
  rw [← hW0];have:=World.alloc_heap_new ((w2.alloc (.cells #[.slice (some ⟨w.heap.size+1,0,none⟩) len len] 39)).alloc (.cells #[.int .i64 (len:Int)] 3)) (.cells #[.int .i64 (n:Int)] 3);rwa [World.size_alloc,World.size_alloc] at this
 have ygx:Be w2 W0:=by rw [← hW0];exact (((Below.refl _ w2).alloc nl _).alloc (by simp) _).alloc (by simp;omega) _
 have hS:W0.heap[w.heap.size]?=some (.cells #[.slice p len c] 39 (0,0)):=(ygx.block _ (by omega)).trans Hb2.out
 have hR0:W0.heap[w.heap.size+1]?=some (.cells (zG (List.replicate len 0)).toArray 5 (0,0)):=(ygx.block _ hN).trans HR.out
 have hBW:Be w W0:=jQ.out.trans (ygx.mono (by omega))
 rw [hW0]
 clear gb gb3
 refine wpIn_rangeFunc_ownF rfl (by omega) (gf:=189) (lb:=#[.pointer (some ⟨w2.heap.size+1,0,none⟩),.pointer (some ⟨w2.heap.size+1+1,0,none⟩)]) rfl trivial (enters_of Tryz.func189 (by kernel_rfl) rfl)
  (yhu Fence.wide _ trivial rfl (by omega) (w2.heap.size+1) (w2.heap.size+1+1) len n h1 h2 hl W0 (by omega) (by omega) (by simp [World.cell?,hBl]) (by simp [World.cell?,hBn])) ycG.trans
  (fun W lo o o' hlo ho hc hw=>⟨World.putObj_heap_other (by omega),World.putObj_heap_other (by omega)⟩) bR (fun _=>rfl)
  (fun pre W=>W.heap[w.heap.size+1]?=some (.cells (zG (ybg l (fun t=>t) (fun t=>uX len n t) (pre.map (·.1)))).toArray 5 (0,0))∧W.heap[w.heap.size]?=some (.cells #[.slice p len c] 39 (0,0)) ∧
   W.heap[w2.heap.size]?=some (.cells #[.slice (some ⟨w.heap.size+1,0,none⟩) len len] 39 (0,0))∧Be w W)
  (fun _ _ _=>False)
  (OwnFrom.and (GN (fun _=>rfl)) (OwnFrom.and (GN (fun _=>rfl)) (OwnFrom.and (GN (fun _=>rfl)) (ownFrom_below nl (by omega)))))
  (fun _ _ _ _ _ h _ _=>h)
  ⟨(by rw [hR0,HL.out];rfl),hS,hO,hBW⟩
  (fun x=>{ tmps:=#[.slice p len c,.int .i64 (n:Int),.pointer (some ⟨w.heap.size,0,none⟩),undef,.slice none 0 0,.int .i64 0,.int .i64 0,.pointer (some ⟨w2.heap.size,0,none⟩),.int .i64 ((x.1:Nat):Int),.int .i64 ((uX len n x.1:Nat):Int),.slice p len c,.int .i64 (n:Int),.int .i64 0,.int .i64 0,.bool false,undef,.slice p len c,.int .i64 (len:Int),.slice (some ⟨w.heap.size+1,0,none⟩) len len,.slice p len c,.int .i64 (len:Int),.int .i64 (n:Int),.func (.func 189) #[] #[.pointer (some ⟨w2.heap.size+1,0,none⟩),.pointer (some ⟨w2.heap.size+1+1,0,none⟩)],.int .i64 ((x.1:Nat):Int),.int .i64 ((uX len n x.1:Nat):Int),undef,undef,undef,undef,undef,undef,undef,undef],defers:=[] }) ?assign ?body ?done ?stop
 case assign =>
  intro lo x W K hK
  gi_wp2
  exact hK
 case body =>
  rintro lo pre x W ⟨hA,hS,hO,hB⟩ _
  obtain ⟨t,ht⟩:=x
  have hfr:uX len n t<len:=yjV (by omega) ht
  obtain ⟨b1,o1,hp1,hb1,hc1⟩:=ybl (t:=uX len n t) (Hb.out.below hB) (by rw [← HL.out];exact hfr)
  obtain ⟨y,HY⟩:∃ y:UInt8,Hid (y=l.getD (uX len n t) 0):=⟨_,rfl⟩
  rw [← HY.out] at hc1
  obtain ⟨fr,HFR⟩:=ey (uX len n t)
  have e1:W.cell? ⟨w.heap.size,0,none⟩=some (.slice p len c):=by simp [World.cell?,hS]
  have e2:W.cell? ⟨w2.heap.size,0,none⟩=some (.slice (some ⟨w.heap.size+1,0,none⟩) len len):=by simp [World.cell?,hO]
  obtain ⟨A,HA⟩:∃ A:Lb,Hid (A=ybg l (fun t=>t) (fun t=>uX len n t) (pre.map (·.1))):=⟨_,rfl⟩
  have HAl:Hid (A.length=len):=h_ (by rw [HA.out,yaf,HL.out])
  rw [← HA.out] at hA
  have e3:W.cell? ⟨w.heap.size+1,t,none⟩=some (.int .u8 (((A.getD t 0).toNat:Nat):Int)):=by
   simp only [World.cell?,hA]
   have h6:(zG A)[t]?=some (.int .u8 (((A.getD t 0).toNat:Nat):Int)):=by
    rw [zG,List.getElem?_map,List.getD_eq_getElem?_getD,List.getElem?_eq_getElem (by rw [HAl.out];exact ht)];rfl
   simpa using h6
  have e4:W.frozen? ⟨w.heap.size+1,t,none⟩=false:=by simp [World.frozen?,hA]
  subst hp1
  rw [← HFR.out] at hfr hc1 ⊢
  have hF:KeepsOthers W (W.setCell ⟨w.heap.size+1,t,none⟩ (.int .u8 (y.toNat:Int))).drew∧ycG (w2.heap.size+1) (w2.heap.size+1+1) W (W.setCell ⟨w.heap.size+1,t,none⟩ (.int .u8 (y.toNat:Int))).drew ∧
    (W.setCell ⟨w.heap.size+1,t,none⟩ (.int .u8 (y.toNat:Int))).drew.heap[w.heap.size+1]?=some (.cells (zG (ybg l (fun t=>t) (fun t=>uX len n t) ((pre++[(⟨t,ht⟩:Pl len)]).map (·.1)))).toArray 5 (0,0)) ∧
    (W.setCell ⟨w.heap.size+1,t,none⟩ (.int .u8 (y.toNat:Int))).drew.heap[w.heap.size]?=some (.cells #[.slice (some ⟨b1,o1,none⟩) len c] 39 (0,0)) ∧
    (W.setCell ⟨w.heap.size+1,t,none⟩ (.int .u8 (y.toNat:Int))).drew.heap[w2.heap.size]?=some (.cells #[.slice (some ⟨w.heap.size+1,0,none⟩) len len] 39 (0,0)) ∧
    Be w (W.setCell ⟨w.heap.size+1,t,none⟩ (.int .u8 (y.toNat:Int))).drew:=by
   refine ⟨yhv (KeepsOthers.setCell _ _ _),⟨yay _ (by omega),yay _ (by omega)⟩,?_,(yay _ (by omega)).trans hS,(yay _ (by omega)).trans hO,(hB.setCell (p:=⟨w.heap.size+1,t,none⟩) (by simp) _).drew⟩
   rw [List.map_append,List.map_cons,List.map_nil,yeq,← HA.out,← HY.out];exact yi5 hA y
  gi_wp2
  gi_region
  all_goals (gi_wp2;exact hF)
 case done =>
  rintro D xs W hD hxs ⟨hA,hS,hO,hB⟩ hK
  have e2:W.cell? ⟨w2.heap.size,0,none⟩=some (.slice (some ⟨w.heap.size+1,0,none⟩) len len):=by simp [World.cell?,hO]
  gi_wp2
  refine ⟨by simp,.inl ⟨_,_,rfl,run_takeDeferred hK,?_⟩⟩
  have hB9:Be w (W.putObj D (.deferred none)):=hB.trans (belowK_b (w:=w) nl W D _ _ (by omega) hK rfl rfl)
  have hA9:(W.putObj D (.deferred none)).heap[w.heap.size+1]?=_:=(World.putObj_heap_other (by omega)).trans hA
  rw [hxs,HL.out,yrd l (by omega)] at hA9
  refine ⟨_,?_,hB9,_,rfl,ye2 hA9 (by rw [vN,HL.out]) (by omega) hl⟩
  simp [results,Tryz.f99,go_sem]
 case stop =>
  rintro D c pre W hD _ h
  exact h.elim
end
section
open Go.RowKit
open Go.Lib
def yAr (L:Lb) (len:Nat) (w:World) (e:Ending) (w':World):Prop:=Be w w'∧∃ q d,e=.returned (.tuple #[.slice q len d,.int .i64 0])∧len≤d∧Bs w' q L
theorem zR.bs {L:Lb} {len:Nat} {w w':World} {e:Ending} (h:zR L w e w') (hL:L.length=len):yAr L len w e w':=by
 obtain ⟨h1,v,he,ho⟩:=h
 obtain ⟨q,d,hv,hb,hd⟩:=yS ho
 subst hL
 exact ⟨h1,q,d,by rw [he,hv],hd,hb⟩
def stL (st:Nat→Nat→Nat × Nat):Nat→List Nat→List Nat
 | _,[]=>[]
 | a,g::gs=>(st a g).1::stL st (st a g).2 gs
theorem yes (st:Nat→Nat→Nat × Nat):∀ (gs:List Nat) (a:Nat),(stL st a gs).length=gs.length
 | [],_=>rfl
 | g::gs,a=>by rw [stL,List.length_cons,yes st gs,List.length_cons]
theorem ym9 (st:Nat→Nat→Nat × Nat) (n:Nat):∀ (k a:Nat) (l:Lb),jl n (stL st a (gl n k l))++l.drop (k*n)=chR st n k a l
 | 0,a,l=>by rw [gl,stL,jl,chR,Nat.zero_mul,List.drop_zero,List.nil_append]
 | k+1,a,l=>by
  rw [gl,stL,jl,chR,List.append_assoc,← ym9 st n k _ (l.drop n),List.drop_drop,Nat.succ_mul,Nat.add_comm n]
end
section
open Go.RowKit Go.Shelf
open Go.Lib
attribute [local go_sem] Oper.semAt_some
def BsN (N:Nat) (w:World) (p:Oa) (l:Lb):Prop:=l.length=0∨∃ b off,p=some ⟨b,off,none⟩∧b<N∧∀ j,j<l.length→w.cell? ⟨b,off+j,none⟩=some (.int .u8 (((l.getD j 0).toNat:Nat):Int))
theorem BsN.keep {N:Nat} {w w':World} {p:Oa} {l:Lb} (h:BsN N w p l) (hb:Below N w w'):BsN N w' p l:=by
 rcases h with h0|⟨b,off,hp,hlt,hc⟩
 ·exact .inl h0
 ·exact .inr ⟨b,off,hp,hlt,fun j hj=>(hb.cell (p:=⟨b,off+j,none⟩) hlt).trans (hc j hj)⟩
theorem BsN.bs {N:Nat} {w:World} {p:Oa} {l:Lb} (h:BsN N w p l) (hN:N≤w.heap.size):Bs w p l:=by
 rcases h with h0|⟨b,off,hp,hlt,hc⟩
 ·exact .inl h0
 ·exact .inr ⟨b,off,hp,Nat.lt_of_lt_of_le hlt hN,hc⟩
theorem Bs.bsN {w:World} {p:Oa} {l:Lb} (h:Bs w p l):BsN w.heap.size w p l:=h
def vF (N Bn Bb:Nat) (W W':World):Prop:=Below N W W'∧W'.heap[Bn]?=W.heap[Bn]?∧W'.heap[Bb]?=W.heap[Bb]?
theorem vF.trans {N Bn Bb:Nat} {A B C:World} (h:vF N Bn Bb A B) (k:vF N Bn Bb B C):vF N Bn Bb A C:=⟨h.1.trans k.1,k.2.1.trans h.2.1,k.2.2.trans h.2.2⟩
theorem vF.refl (N Bn Bb:Nat) (A:World):vF N Bn Bb A A:=⟨Below.refl _ _,rfl,rfl⟩
theorem vF.c1 {N Bn Bb:Nat} {A B:World} (h:vF N Bn Bb A B):B.cell? ⟨Bn,0,none⟩=A.cell? ⟨Bn,0,none⟩:=World.cell?_of_block (a:=⟨Bn,0,none⟩) h.2.1
theorem vF.c2 {N Bn Bb:Nat} {A B:World} (h:vF N Bn Bb A B):B.cell? ⟨Bb,0,none⟩=A.cell? ⟨Bb,0,none⟩:=World.cell?_of_block (a:=⟨Bb,0,none⟩) h.2.2
abbrev nbE (l:Lb) (n k:Nat) (x:Pl k):Array Value:=#[.int .u64 ((nb ((l.drop (x.1*n)).take n):Nat):Int)]
theorem ywL (m:Nat) (hm:1≤m) (lr Bn Bb N0 n len k c:Nat) (l:Lb) (p:Oa) (HL:Hid (len=l.length)) (HK:Hid (k=len/n)) (hn1:1≤n) (hn2:n≤8) (hlen:len≤1048576) (hc:len≤c) (J Jx:List (Pl k)→World→Prop)
  (hY:∀ pre x W,J pre W→pre.length<k→YieldAt Fence.wide (m-1) Tryz.prog lr (nbE l n k x) W fun e W' =>
   (e=.returned (.bool true)∧J (pre++[x]) W'∧vF N0 Bn Bb W W')∨(e=.returned (.bool false)∧Jx (pre++[x]) W'))
  (W:World) (hN:N0≤W.heap.size) (hBn:W.cell? ⟨Bn,0,none⟩=some (.int .i64 (n:Int))) (hBb:W.cell? ⟨Bb,0,none⟩=some (.slice p len c)) (hbs:BsN N0 W p l) (h0:J [] W) :
  CallsIn Fence.wide m Tryz.prog 222 #[.func (.yield lr) #[] #[],.pointer (some ⟨Bn,0,none⟩),.pointer (some ⟨Bb,0,none⟩)] W fun e W'=>(∃ v,e=.returned v) ∧
   ((∃ ys,ys.map (·.1)=List.range k∧J ys W')∨(∃ pre,True∧Jx pre W')):=by
 have hni:1≤(n:Int):=by omega
 have hni2:(n:Int)≤8:=by omega
 have hli:(len:Int)≤1048576:=by omega
 have HKN:Hid (k*n≤len∧len<k*n+n):=h_ (by
  rw [HK.out]
  have h3:=Nat.div_add_mod len n
  have h4:=Nat.mod_lt len (show n > 0 by omega)
  rw [Nat.mul_comm] at h3;omega)
 have HBS:=h_ hbs
 clear hbs
 refine callsIn_of_wp Tryz.func222 rfl trivial ?_ rfl
 simp only [Tryz.ntmps222,List.size_toArray,List.length_cons,List.length_nil,Nat.reduceAdd,Nat.reduceSub,Array.replicate_succ,Array.replicate_zero,List.push_toArray,List.append_toArray,List.nil_append,List.cons_append]
 gi_wp2
 have HJ0:=h_ h0
 gi_loopw [4] (fun tv wr=>∃ (t i:Nat) (pre:List (Pl k)),i≤k∧tv=.int .i64 t∧Hid (t=i*n)∧Hid (pre.map (·.1)=List.range i)∧Hid (J pre wr)∧Hid (vF N0 Bn Bb W wr)) (fun tv _=>len-(intOf tv).toNat)
 case atStart=>exact ⟨0,0,[],Nat.zero_le _,rfl,h_ (by rw [Nat.zero_mul]),rfl,HJ0,h_ (vF.refl _ _ _ _)⟩
 case round =>
  obtain ⟨t,i,pre,hik,rfl,HT,HP,HJ,HB⟩:=hrel
  have hcn:=HB.out.c1.trans hBn
  have hcb:=HB.out.c2.trans hBb
  by_cases GP:i<k
  ·have htn:t+n≤len:=by
    have h3:=HKN.out.1
    have h4:(i+1)*n≤k*n:=Nat.mul_le_mul_right _ GP
    rw [Nat.succ_mul] at h4
    rw [HT.out];omega
   have htn':(t:Int)+(n:Int)≤(len:Int):=by omega
   have ynY:=(HBS.out.keep HB.out.1).bs (Nat.le_trans hN HB.out.1.size)
   obtain ⟨b0,off,rfl,-,-⟩:=ybl ynY (t:=0) (by rw [← HL.out];omega)
   have ybn:Hid (Bs wr (some ⟨b0,off+t,none⟩) ((l.drop t).take n)):=h_ (yaB ynY t n (by rw [← HL.out];omega) rfl)
   obtain ⟨s,HS⟩:=ey ((l.drop t).take n)
   rw [← HS.out] at ybn
   have hsl:s.length=n:=by rw [HS.out,List.length_take,List.length_drop,← HL.out];omega
   have HR:=h_ (uN (some ⟨b0,off+t,none⟩) (c-t) s wr (by omega) ybn.out)
   rw [hsl] at HR
   obtain ⟨x,HX⟩:∃ x:Nat,Hid (x=nb s):=⟨_,rfl⟩
   rw [← HX.out] at HR
   obtain ⟨fn,tmps,assign,body,hy,hRo⟩:=hY pre ⟨i,GP⟩ wr HJ.out (by
    have h:=congrArg List.length HP.out
    rw [List.length_map,List.length_range] at h;omega)
   have hy2:(Instr.yield lr #[.int .u64 (x:Int)]).run Tryz.prog wr=.ok (.round lr fn tmps assign body) wr:=by
    rw [HX.out,HS.out,HT.out];exact hy
   clear hy ynY hsl
   gi_wp2_with (refine ⟨trivial,?_⟩;gi_at_call 197;refine (callsIn_wide.2 HR.out).mono ?_;rintro e w' ⟨rfl,rfl⟩)
   refine hRo.mono ?_
   rintro e W3 (⟨rfl,hJ3,hk3⟩|⟨rfl,yh0⟩)
   ·have HB3:=h_ (HB.out.trans hk3)
    have HJ3:=h_ hJ3
    have hcn3:=HB3.out.c1.trans hBn
    clear hJ3 hk3 hy2
    gi_wp2
    go_roundw
    case rel=>exact ⟨t+n,i+1,pre++[⟨i,GP⟩],by omega,by go_num,h_ (by rw [HT.out,Nat.succ_mul]),h_ (by rw [List.map_append,HP.out,List.range_succ];rfl),HJ3,HB3⟩
    case measure=>simp [intOf];omega
   ·gi_wp2
    refine bodyPost_ret (results_none rfl _ _ _) rfl ?_
    exact ⟨⟨_,rfl⟩,.inr ⟨_,trivial,yh0⟩⟩
  ·obtain rfl:i=k:=by omega
   have htn':¬ (t:Int)+(n:Int)≤(len:Int):=by rw [HT.out];have:=HKN.out.2;omega
   have htl:t≤len:=by rw [HT.out];exact HKN.out.1
   have hti:(t:Int)≤1048576:=by omega
   gi_wp2
   go_end0
   exact ⟨⟨_,rfl⟩,.inl ⟨pre,HP.out,HJ.out⟩⟩
theorem ycp (m:Nat) (hm:1≤m) (Bn Bb N0 n len k c:Nat) (l:Lb) (p:Oa) (HL:Hid (len=l.length)) (HK:Hid (k=len/n)) (hn1:1≤n) (hn2:n≤8) (hlen:len≤1048576) (hc:len≤c) (w:World) (hN:N0≤w.heap.size) (hB1:Bn<w.heap.size) (hB2:Bb<w.heap.size)
  (hBn:w.cell? ⟨Bn,0,none⟩=some (.int .i64 (n:Int))) (hBb:w.cell? ⟨Bb,0,none⟩=some (.slice p len c)) (hbs:BsN N0 w p l) :
  SeqStopsK Fence.wide m Tryz.prog 222 #[.pointer (some ⟨Bn,0,none⟩),.pointer (some ⟨Bb,0,none⟩)] (nbE l n k) (vF N0 Bn Bb) (fun ys=>ys.map (·.1)=List.range k) (fun _=>True) k w:=fun lr J Jx W hW _ _ hY h0 =>
 ywL m hm lr Bn Bb N0 n len k c l p HL HK hn1 hn2 hlen hc J Jx hY W (Nat.le_trans hN hW.size) ((hW.cell (p:=⟨Bn,0,none⟩) hB1).trans hBn) ((hW.cell (p:=⟨Bb,0,none⟩) hB2).trans hBb) (hbs.keep (hW.mono hN)) h0
end
section
open Go.RowKit Go.Shelf
open Go.Lib
attribute [local go_sem] Oper.semAt_some
def ydy (o:Oper):Bool:=match o.op with | .defer _=>false|_=>true
theorem yo9 {o:Oper} (h:ydy o=true):∀ c,o.op≠.defer c:=by
 intro c e;unfold ydy at h;rw [e] at h;cases h
theorem ycY {P:Program} {l n:Nat} {o:Oper} (hd:ydy o=true) {a:Act} {w:World} {K:Act→World→Prop} {Q:Exit→Act→World→Prop}
  (h:o.wp P a w K Q):o.wpIn (Fence.wide.inRound l) n P a w K Q:=by
 unfold Oper.wpIn
 refine ⟨fun _ _=>trivial,?_⟩
 rw [Oper.semAt_plain _ _ _ (yo9 hd)]
 unfold Oper.wp at h
 generalize (execOp a.eval o).run P w=r at *
 cases r with
 | ok x w' =>
  cases x
  case enter f args=>exact ⟨fun h0=>Bool.noConfusion h0,CallsIn.inRound l (callsIn_wide.2 h)⟩
  case row r args =>
   refine ⟨fun h0=>Bool.noConfusion h0,fun c cs _=>?_⟩
   obtain ⟨v,w'',h1,h2⟩:=h c cs
   exact ⟨v,w'',h1,stepsIn_wide.2 h2⟩
  all_goals first|exact h|exact h.elim
 | halt x w'=>cases x<;>first|exact h|exact h.elim
theorem yuu {P:Program} {l n:Nat} {ops:Array Oper} (hd:∀ o ∈ ops,ydy o=true) {i:Nat} {K:Act→World→Prop} {Q:Exit→Act→World→Prop} (hQ:¬ LetsOut Q) {a:Act} {w:World}
  (h:wpOp P ops Q i K a w):wpOpIn (Fence.wide.inRound l) n P ops Q i K a w:=by
 unfold wpOp at h
 unfold wpOpIn
 cases ho:ops[i]? with
 | none=>simp only [ho] at h ⊢;exact h
 | some o =>
  simp only [ho] at h ⊢
  split
  ·rename_i hw;simp only [hw,if_true] at h;exact h.elim (ycY (hd o (Array.mem_of_getElem? ho))) (fun h1=>absurd h1.2 hQ)
  ·rename_i hw;simp only [hw] at h;exact ⟨fun _ _=>trivial,h⟩
theorem yi6 {P:Program} {l n:Nat} {md:Region.Mode} {ops:Array Oper} (hd:∀ o ∈ ops,ydy o=true) {Q:Exit→Act→World→Prop} (hQ:¬ LetsOut Q) :
  ∀ (fuel:Nat) (listed:Array Bool) (a:Act) (w:World),wpAny P md ops Q fuel listed a w→wpAnyIn (Fence.wide.inRound l) n P md ops Q fuel listed a w
 | 0,_,_,_,h=>h
 | fuel+1,_,_,_,h=>⟨h.1,fun i hi=>wpOpIn_mono (fun a' w' h'=>yi6 hd hQ fuel _ a' w' h') (yuu hd hQ (h.2 i hi))⟩
theorem yc2 {P:Program} {l n id:Nat} {ops:Array Oper} {S:World→Prop} {Q:Exit→Act→World→Prop} {a:Act} {w:World} (hm:P.follows .mixedOrders=true) (hd:ops.all ydy=true) (hQ:¬ LetsOut Q) (hS:S w.drew)
  (h:S w.drew→wpAnyH P .any ops Q S ops.size (Array.replicate ops.size false) a w.drew):(Code.region id ops true).wpIn (Fence.wide.inRound l) n P Q a w :=
 wpIn_region_any hm (yi6 (fun o ho=>(Array.all_eq_true_iff_forall_mem.1 hd) o ho) hQ _ _ _ _ (wpAny_of_held _ _ _ _ (h hS)))
theorem yet (m:Nat) (p:Oa) (len c:Nat) (n:Int) (w:World) :
  CallsIn Fence.wide m Tryz.prog 188 #[.slice p len c,.int .i64 n] w fun e w'=>e=.returned (.func (.func 222) #[] #[.pointer (some ⟨w.heap.size+1,0,none⟩),.pointer (some ⟨w.heap.size,0,none⟩)])∧w'=(w.alloc (.cells #[.slice p len c] 39)).alloc (.cells #[.int .i64 n] 3):=by
 refine callsIn_of_wp Tryz.func188 rfl trivial ?_ rfl
 simp only [Tryz.ntmps188,List.size_toArray,List.length_cons,List.length_nil,Nat.reduceAdd,Nat.reduceSub,Array.replicate_succ,Array.replicate_zero,List.push_toArray,List.append_toArray,List.nil_append,List.cons_append]
 gi_wp2
 go_ret
 exact ⟨rfl,rfl⟩
def yjW (f Bl:Nat) (st:Nat→Nat→Nat × Nat):Prop:=∀ (W:World) (a g:Nat),a<zT→g<zT→W.cell? ⟨Bl,0,none⟩=some (.int .u64 (a:Int))→W.frozen? ⟨Bl,0,none⟩=false →
 Calls Tryz.prog f #[.int .u64 (g:Int),.pointer (some ⟨Bl,0,none⟩)] W fun e W'=>e=.returned (.int .u64 ((st a g).1:Int))∧W'=W.setCell ⟨Bl,0,none⟩ (.int .u64 ((st a g).2:Int))
theorem yis (Bl:Nat):yjW 146 Bl yb0:=by
 intro W a g ha hg hc hf
 have ybn:IntKind.u64.wrap ((g:Int)-(a:Int))=(((yb0 a g).1:Nat):Int):=by
  show _=(((g+zT-a)%zT:Nat):Int)
  rw [IntKind.wrap_u64];unfold zT at *;omega
 have h2:(yb0 a g).2=g:=rfl
 rw [h2,← ybn]
 clear ybn ha hg
 go_in
 go_wp2
 go_ret
 exact ⟨rfl,rfl⟩
attribute [local go_sem] Oper.semAt_some
def stE (st:Nat→Nat→Nat × Nat):Nat→List Nat→Nat
 | a,[]=>a
 | a,g::gs=>stE st (st a g).2 gs
theorem ylL (st:Nat→Nat→Nat × Nat) (g:Nat):∀ (gs:List Nat) (a:Nat),stE st a (gs++[g])=(st (stE st a gs) g).2
 | [],_=>rfl
 | x::gs,a=>by rw [List.cons_append,stE,ylL st g gs,stE]
theorem ylM (st:Nat→Nat→Nat × Nat) (g:Nat):∀ (gs:List Nat) (a:Nat),stL st a (gs++[g])=stL st a gs++[(st (stE st a gs) g).1]
 | [],_=>rfl
 | x::gs,a=>by rw [List.cons_append,stL,ylM st g gs,stL,stE,List.cons_append]
theorem ysO {st:Nat→Nat→Nat × Nat} (h:∀ a g,a<zT→g<zT→(st a g).2<zT):∀ (gs:List Nat) (a:Nat),a<zT→(∀ x ∈ gs,x<zT)→stE st a gs<zT
 | [],_,ha,_=>ha
 | g::gs,a,ha,hg=>ysO h gs _ (h a g ha (hg g List.mem_cons_self)) (fun x hx=>hg x (List.mem_cons_of_mem _ hx))
def gN (l:Lb) (n i:Nat):Nat:=nb ((l.drop (i*n)).take n)
theorem ysf (l:Lb) {n:Nat} (h:n≤8) (i:Nat):gN l n i<zT:=ygP (by rw [List.length_take];omega)
theorem yha (l:Lb) (n:Nat):∀ k,(List.range k).map (gN l n)=gl n k l
 | 0=>rfl
 | k+1=>by rw [List.range_succ,List.map_append,yha l n k,yjU];rfl
def gP (l:Lb) (n:Nat) {k:Nat} (pre:List (Pl k)):List Nat:=pre.map fun x=>gN l n x.1
theorem yjX (l:Lb) (n:Nat) {k:Nat} (pre:List (Pl k)) (x:Pl k):gP l n (pre++[x])=gP l n pre++[gN l n x.1]:=by rw [gP,List.map_append];rfl
theorem ydK (l:Lb) (n:Nat) {k:Nat} (pre:List (Pl k)):(gP l n pre).length=pre.length:=List.length_map _
theorem yzM (l:Lb) {n:Nat} (h:n≤8) {k:Nat} (pre:List (Pl k)):∀ x ∈ gP l n pre,x<zT:=by
 intro x hx;rw [gP,List.mem_map] at hx;obtain ⟨y,_,rfl⟩:=hx;exact ysf l h _
theorem yna (l:Lb) (n:Nat) {k:Nat} (ys:List (Pl k)) (h:ys.map (·.1)=List.range k):gP l n ys=gl n k l:=by
 rw [← yha,← h,List.map_map];rfl
theorem ybX {W:World} {B k:Nat} {v:Value} {L:Lb} {cs:Array Value} {t:TypeId} {fz:Nat × Nat} (h:W.ownsRow B 5 1 v L.length (zG L)) (hk:W.heap[k]?=some (.cells cs t fz)) (ht:t≠5):some k≠v.ownBlock:=by
 obtain ⟨-,⟨rfl,-⟩|⟨g,cap,cur,rfl,-,hh,-⟩⟩:=h
 ·intro e;cases e
 ·intro e
  have e1:k=g:=Option.some.inj e
  subst e1
  rw [hk] at hh
  cases hh
  exact ht rfl
theorem GJ {W W':World} {B:Nat} {v:Value} {L:Lb} (h:W.ownsRow B 5 1 v L.length (zG L)) (hk:∀ (k:Nat) (cs:Array Value),W.heap[k]?=some (.cells cs 5 (0,0))→W'.heap[k]?=some (.cells cs 5 (0,0))):W'.ownsRow B 5 1 v L.length (zG L):=by
 obtain ⟨h1,h2|⟨g,cap,cur,hv,hg,hh,h3⟩⟩:=h
 ·exact ⟨h1,.inl h2⟩
 ·exact ⟨h1,.inr ⟨g,cap,cur,hv,hg,hk g cur hh,h3⟩⟩
theorem ydL {W:World} {B:Nat} {v:Value} {L:Lb} (h:W.ownsRow B 5 1 v L.length (zG L)):∀ (j:Nat) (o:Obj),v.ownBlock=some j→W.heap[j]?=some o→o.isCells=true:=by
 obtain ⟨-,⟨rfl,-⟩|⟨g,cap,cur,rfl,-,hh,-⟩⟩:=h
 ·intro j o e;cases e
 ·intro j o e ho
  have e1:g=j:=Option.some.inj e
  subst e1
  rw [hh] at ho
  cases ho;rfl
theorem uB {W:World} {g:Nat} {v u:Value} {t:TypeId} (h:W.heap[g]?=some (.cells #[u] t (0,0))):(W.setCell ⟨g,0,none⟩ v).heap[g]?=some (.cells #[v] t (0,0)):=by
 obtain ⟨h1,h2⟩:=Array.getElem?_eq_some_iff.1 h
 unfold World.setCell
 rw [Array.getElem?_eq_getElem (by simpa using h1),Array.getElem_modify]
 simp [h2]
structure ChI (f N M Bl n:Nat) (p:Oa) (len c:Nat) (w:World) (v:Value) (L:Lb) (a:Nat) (W:World):Prop where
 own:W.ownsRow Bl 5 1 v L.length (zG L)
 out:W.heap[M]?=some (.cells #[v] 39 (0,0))
 st:W.heap[Bl]?=some (.cells #[.int .u64 (a:Int)] 86 (0,0))
 b4:W.heap[N]?=some (.cells #[.int .i64 (n:Int)] 3 (0,0))
 b5:W.heap[N+1]?=some (.cells #[.func (.func f) #[] #[.pointer (some ⟨Bl,0,none⟩)]] 141 (0,0))
 i1:W.heap[M+1]?=some (.cells #[.slice p len c] 39 (0,0))
 i2:W.heap[M+1+1]?=some (.cells #[.int .i64 (n:Int)] 3 (0,0))
 bel:Below Bl w W
section
variable {f N M Bl n : Nat} {p : Oa} {len c : Nat} {w W W' : World} {v v' : Value} {L L' : Lb} {a a' : Nat}
theorem ChI.keep (h:ChI f N M Bl n p len c w v L a W) {row:Option Nat} (hg:W.grownBy W' row) (hr:∀ r,row=some r→Bl≤r∧∃ o:Obj,W.heap[r]?=some o∧o.isCells=false) (hB:Bl≤W.heap.size):ChI f N M Bl n p len c w v L a W':=by
 have hk:∀ {k:Nat} {o:Obj},W.heap[k]?=some o→o.isCells=true→W'.heap[k]?=some o:=fun h1 h2=>(grownBy_keeps_cells hg (fun r e=>(hr r e).2) h1 h2).trans h1
 exact ⟨GJ h.own (fun k cs h1=>hk h1 rfl),hk h.out rfl,hk h.st rfl,hk h.b4 rfl,hk h.b5 rfl,hk h.i1 rfl,hk h.i2 rfl,h.bel.grown hg hB (fun k e=>(hr k e).1)⟩
theorem ChI.lt (h:ChI f N M Bl n p len c w v L a W):Bl≤W.heap.size:=Nat.le_of_lt (Array.getElem?_eq_some_iff.1 h.st).1
theorem ChI.drew (h:ChI f N M Bl n p len c w v L a W):ChI f N M Bl n p len c w v L a W.drew:=⟨h.own,h.out,h.st,h.b4,h.b5,h.i1,h.i2,h.bel.drew⟩
theorem ChI.call (h:ChI f N M Bl n p len c w v L a W) (h1:Bl<N) (h2:Bl<M) (a':Nat):ChI f N M Bl n p len c w v L a' (W.setCell ⟨Bl,0,none⟩ (.int .u64 (a':Int))):=by
 have hk:∀ {k:Nat} {o:Obj},k≠Bl→W.heap[k]?=some o→(W.setCell ⟨Bl,0,none⟩ (.int .u64 (a':Int))).heap[k]?=some o:=fun hne h1=>(Below.heap_setCell W ⟨Bl,0,none⟩ _ _ hne).trans h1
 refine ⟨GJ h.own (fun k cs h3=>hk ?_ h3),hk (by omega) h.out,uB h.st,hk (by omega) h.b4,hk (by omega) h.b5,hk (by omega) h.i1,hk (by omega) h.i2,h.bel.setCell (p:=⟨Bl,0,none⟩) nl _⟩
 rintro rfl
 rw [h.st] at h3;cases h3
theorem ChI.app (h:ChI f N M Bl n p len c w v L a W) (hM:Bl<M) (hg:Grew Bl W v L' W' v'):W'.ownsRow Bl 5 1 v' L'.length (zG L')∧ChI f N M Bl n p len c w v' L' a (W'.setCell ⟨M,0,none⟩ v')∧KeepsOthers W (W'.setCell ⟨M,0,none⟩ v')∧W'.heap[N]?=some (.cells #[.int .i64 (n:Int)] 3 (0,0))∧W'.heap[N+1]?=some (.cells #[.func (.func f) #[] #[.pointer (some ⟨Bl,0,none⟩)]] 141 (0,0))∧W'.heap[M]?=some (.cells #[v] 39 (0,0))∧Below Bl W (W'.setCell ⟨M,0,none⟩ v'):=by
 have hk:∀ {k:Nat} {cs:Array Value} {t:TypeId},W.heap[k]?=some (.cells cs t (0,0))→t≠5→W'.heap[k]?=some (.cells cs t (0,0)):=fun h1 h2=>(hg.grown.block _ (Array.getElem?_eq_some_iff.1 h1).1 (ybX h.own h1 h2)).trans h1
 have hs:∀ {k:Nat} {o:Obj},k≠M→W'.heap[k]?=some o→(W'.setCell ⟨M,0,none⟩ v').heap[k]?=some o:=fun hne h1=>(Below.heap_setCell W' ⟨M,0,none⟩ _ _ hne).trans h1
 have hne:∀ {k:Nat} {cs:Array Value} {t:TypeId},W'.heap[k]?=some (.cells cs t (0,0))→t≠39→k≠M:=by
  rintro k cs t h1 h2 rfl
  rw [hk h.out (by decide)] at h1;cases h1;exact h2 rfl
 have hO:=hk h.out (by decide)
 have hKO:KeepsOthers W W':=KeepsOthers.of_grownBy hg.grown (ydL h.own)
 refine ⟨hg.own,⟨GJ hg.own (fun k cs h3=>hs (hne h3 (by decide)) h3),uB hO,?_,?_,?_,?_,?_,?_⟩,hKO.trans (KeepsOthers.setCell _ _ _),hk h.b4 (by decide),hk h.b5 (by decide),hO,((Below.refl Bl W).grown hg.grown h.lt (fun k e=>yaz h.own e)).setCell (p:=⟨M,0,none⟩) (Nat.le_of_lt hM) _⟩
 ·have:=hk h.st (by decide);exact hs (hne this (by decide)) this
 ·have:=hk h.b4 (by decide);exact hs (hne this (by decide)) this
 ·have:=hk h.b5 (by decide);exact hs (hne this (by decide)) this
 ·have:=hk h.i1 (by decide);exact hs (by omega) this
 ·have:=hk h.i2 (by decide);exact hs (by omega) this
 ·have hb1:Below Bl w W':=h.bel.grown hg.grown h.lt (fun k e=>yaz h.own e)
  exact hb1.setCell (p:=⟨M,0,none⟩) (Nat.le_of_lt hM) _
end
end
section
open Go.RowKit Go.Shelf
open Go.Lib
attribute [local go_sem] Oper.semAt_some
def yhb (l:Lb) (k:Nat) (w:World) (e:Ending) (w':World):Prop:=w=w'∧∃ q d,e=.returned (.slice q k d)∧Bs w q l
theorem yuv (p:Oa) (c n:Nat) (w:World) (h1:1≤n) (h2:n≤8) (hpc:p=none→c=0) :
  Calls Tryz.prog 151 #[.slice p 0 c,.int .i64 (n:Int)] w (yhb [] 0 w):=by
 have hn1:1≤(n:Int):=by omega
 have hn8:(n:Int)≤8:=by omega
 have hmod:(0:Int)%(n:Int)=0:=Int.zero_emod _
 cases p with
 | none =>
  obtain rfl:c=0:=hpc rfl
  go_in
  go_wp2
  go_ret
  exact ⟨rfl,_,_,rfl,Bs.nil _ _⟩
 | some ad =>
  obtain ⟨b0,off,sp⟩:=ad
  go_in
  go_wp2
  go_ret
  exact ⟨rfl,_,_,rfl,Bs.nil _ _⟩
theorem yre (b0 off c n t len:Nat) (l:Lb) (w:World) (h1:1≤n) (h2:n≤8) (HL:Hid (len=l.length)) (hl:len≤1048576) (hc:len≤c) (HT:Hid (t=len/n*n)) (hb:Bs w (some ⟨b0,off,none⟩) l) :
  Calls Tryz.prog 151 #[.slice (some ⟨b0,off,none⟩) len c,.int .i64 (n:Int)] w (yhb (l.drop t) (len-t) w):=by
 have hn1:1≤(n:Int):=by omega
 have hn8:(n:Int)≤8:=by omega
 have hlen:(len:Int)≤1048576:=by omega
 have htl:t≤len:=by rw [HT.out];exact Nat.div_mul_le_self _ _
 have yaI:wrap64 ((len:Int)-(len:Int)%(n:Int))=(t:Int):=by
  have h3:=Nat.div_add_mod len n
  rw [Nat.mul_comm,← HT.out] at h3
  have h4:(len:Int)-(len:Int)%(n:Int)=(t:Int):=by omega
  rw [h4]
  unfold wrap64;omega
 have HB:=h_ hb
 clear hb
 by_cases hct:c=t
 ·subst hct
  obtain rfl:len=c:=by omega
  go_in
  go_wp2_with fail
  rw [yaI]
  go_wp2
  go_ret
  exact ⟨rfl,some ⟨b0,off,none⟩,0,by simp,.inl (by rw [HL.out,List.drop_length];rfl)⟩
 ·have hct':t<c:=by omega
  go_in
  go_wp2_with fail
  rw [yaI]
  go_wp2
  go_ret
  exact ⟨rfl,_,_,rfl,GZ HB.out t (by rw [← HL.out];exact htl) rfl⟩
theorem yhc (p:Oa) (c n t len:Nat) (l:Lb) (w:World) (h1:1≤n) (h2:n≤8) (HL:Hid (len=l.length)) (hl:len≤1048576) (hc:len≤c) (hpc:p=none→c=0) (HT:Hid (t=len/n*n)) (hb:Bs w p l) :
  Calls Tryz.prog 151 #[.slice p len c,.int .i64 (n:Int)] w (yhb (l.drop t) (len-t) w):=by
 rcases hb with h0|⟨b,off,rfl,h3,h4⟩
 ·obtain rfl:=List.eq_nil_of_length_eq_zero h0
  obtain rfl:len=0:=HL.out
  obtain rfl:t=0:=by rw [HT.out,Nat.zero_div,Nat.zero_mul]
  exact yuv p c n w h1 h2 hpc
 ·exact yre b off c n t len l w h1 h2 HL hl hc HT (.inr ⟨b,off,rfl,h3,h4⟩)
theorem yey {F:Fence} {n:Nat} (w:World) {ops:Array Oper} {rest:List Oper} {o:Oper} {a:Act} {Q:Exit→Act→World→Prop} (hg:o.guard=none) (l c:Operand) (hop:o.op=Op.makeSlice 39 l c)
  (kl kc:IntKind) (k:Nat) (hl:a.eval l=.int kl 0) (hc:a.eval c=.int kc (k:Int)) (hk:k≤20000)
  (hK:∀ w',w'.ownsRow w.heap.size 5 1 (.slice (some ⟨w.heap.size,0,none⟩) 0 k) ([]:Lb).length (zG [])→w.grownBy w' none→wpListIn F n Tryz.prog ops Q rest (a.put o.dst (.slice (some ⟨w.heap.size,0,none⟩) 0 k)) w') :
  wpListIn F n Tryz.prog ops Q (o::rest) a w:=by
 obtain ⟨i0,hi,hz0,hz1,hz2⟩:=info_parts GE
 refine wpListIn_plain hg fun K hK'=>?_
 have hr:=run_make (P:=Tryz.prog) w 39 5 i0 (.int .u8 0) Tryz.underlying39 hi hz0 kl kc 0 k (by omega) (by omega) (by rw [hz2];omega) (by omega)
 simp only [Int.toNat_natCast] at hr
 rw [hz1,Nat.mul_one] at hr
 unfold Oper.wpIn
 refine ⟨?_,?_⟩
 ·simp [Oper.about,hop]
 ·rw [Oper.semAt_plain F _ _ (by rw [hop];intro c hc';cases hc')]
  simp [execOp,hop,hl,hc,hr,Result.andThen]
  refine hK' _ _ (hK _ ⟨rfl,.inr ⟨w.heap.size,k,_,rfl,Nat.le_refl _,World.alloc_heap_new w _,Nat.zero_le _,by unfold maxLen;omega,?_,rfl⟩⟩ (World.grownBy_alloc w _ none))
  rw [show (Value.int .u8 0).cells=#[Value.int .u8 0] from rfl,yer];simp [zG]
theorem yag {w:World} {o:Oper} {a:Act} {K:Act→World→Prop} {Q:Exit→Act→World→Prop} (s x:Operand)
  (ho:o.op=.call { callee:=.builtin .append,args:=#[s,x],argTypes:=#[39,39] })
  (B:Nat) (v:Value) (n:Nat) (X:Lb) (hs:a.eval s=v) (hn:n=X.length) (yR:w.ownsRow B 5 1 v n (zG X))
  (p:Oa) (m c:Nat) (L:Lb) (hx:a.eval x=.slice p m c) (hm:L.length=m) (hb:Bs w p L) (hlen:n+m≤140737488355328) (hB:B≤w.heap.size)
  (h:∀ v' w',Grew B w v (X++L) w' v'→K (a.put o.dst v') w'):o.wp Tryz.prog a w K Q:=by
 subst hn
 subst hm
 obtain ⟨i0,hi,hz0,hz1,hz2⟩:=info_parts GE
 cases p with
 | none =>
  have h0:L=[]:=by
   rcases hb with h0|⟨b,off,h1,-⟩
   ·exact List.eq_nil_of_length_eq_zero h0
   ·cases h1
  subst h0
  have hr:=ydE w B v X.length c (zG X) o.type yR
  unfold Oper.wp execOp
  simp only [ho,resolve,invoke,builtin,Sem.run_bind,Sem.run_pure,Result.andThen_ok,List.map_toArray,List.map_cons,List.map_nil,hs,hx,List.length_nil,hr]
  exact h v w (by rw [List.append_nil];exact Grew.refl yR)
 | some ad =>
  obtain ⟨v',w',hr,h2,h3,h4,h5⟩:=run_append_own_at (P:=Tryz.prog) w B 39 o.type 5 i0 (.int .u8 0) 1 1 Tryz.underlying39 hi hz0 hz1 hz2 rfl (by decide) v X.length (zG X) yR ad L.length c (zG L) (by rw [ybI,Nat.mul_one]) (hb.news bR _ rfl) (ygf L) (by unfold maxLen;omega) (by omega) hB
  unfold Oper.wp execOp
  simp only [ho,resolve,invoke,builtin,Sem.run_bind,Sem.run_pure,Result.andThen_ok,List.map_toArray,List.map_cons,List.map_nil,hs,hx,hr]
  refine h v' w' ⟨?_,h3,h5.imp id fun h=>⟨_,h,Nat.le_refl _⟩⟩
  rw [List.length_append,zG,List.map_append];exact h2
def yyt (Bl:Nat) (L:Lb) (w:World) (e:Ending) (w':World):Prop:=Below Bl w w'∧∃ v,e=.returned (.tuple #[v,.int .i64 0])∧w'.ownsRow Bl 5 1 v L.length (zG L)
theorem yi7 (F:Nat) (st:Nat→Nat→Nat × Nat) (hE:∀ a g,a<zT→g<zT→(st a g).1<zT∧(st a g).2<zT) (hent:∀ args W,(callFunc F args).run Tryz.prog W=.ok (.enter F args) W) (p:Oa) (c n Bl:Nat) (l:Lb) (w:World) (h1:1≤n) (h2:n≤8) (hl:l.length≤20000) (hc:l.length≤c) (hpc:p=none→c=0) (hch:yjW F Bl st) (hbs:BsN Bl w p l) (hBl:w.heap[Bl]?=some (.cells #[.int .u64 0] 86 (0,0))) :
  Calls Tryz.prog 145 #[.slice p l.length c,.int .i64 (n:Int),.func (.func F) #[] #[.pointer (some ⟨Bl,0,none⟩)]] w (yyt Bl (chR st n (l.length/n) 0 l) w):=by
 have HA:∀ W,Calls Tryz.prog 147 #[.slice p l.length c,.int .i64 (n:Int)] W (Qp (.int .i64 0) W):=fun W=>ycv p l.length c n W h1 h2 (Nat.le_trans hl (by decide))
 have yvp:Bl<w.heap.size:=(Array.getElem?_eq_some_iff.1 hBl).1
 obtain ⟨len,HL⟩:=ey (l.length)
 rw [← HL.out] at hl hc HA ⊢
 obtain ⟨k,HK⟩:=ey (len/n)
 have HKN:Hid (k*n≤len):=h_ (by rw [HK.out];exact Nat.div_mul_le_self _ _)
 rw [← HK.out]
 obtain ⟨R,HR⟩:=ey (chR st n k 0 l)
 rw [← HR.out]
 have HAh:=h_ HA
 have HBS:=h_ hbs
 have HBL:=h_ hBl
 have HPC:=h_ hpc
 clear HA hbs hBl hpc
 refine (callsIn_wide (n:=9)).1 ?_
 refine callsIn_of_wp_marks Tryz.func145 rfl trivial ?_ rfl
 simp only [Tryz.ntmps145,List.size_toArray,List.length_cons,List.length_nil,Nat.reduceAdd,Nat.reduceSub,Array.replicate_succ,Array.replicate_zero,List.push_toArray,List.append_toArray,List.nil_append,List.cons_append]
 gi_wp2_with (first|(refine ⟨trivial,?_⟩;gi_at_call 147;refine (callsIn_wide.2 (HAh.out _)).mono ?_;rintro e w' ⟨rfl,rfl⟩)|(gi_at_make;refine yey _ rfl _ _ rfl _ _ len rfl rfl hl ?_))
 intro w2 yR hgr
 have hB2:Below (w.heap.size+2) ((w.alloc (.cells #[.int .i64 (n:Int)] 3)).alloc (.cells #[.func (.func F) #[] #[.pointer (some ⟨Bl,0,none⟩)]] 141)) w2:=bR.grown hgr (by simp) (fun k e=>by cases e)
 have hb4:w2.heap[w.heap.size]?=some (.cells #[.int .i64 (n:Int)] 3 (0,0)):=by
  refine (hB2.block w.heap.size (by omega)).trans ((Below.heap_alloc _ _ _ (by simp)).trans (World.alloc_heap_new w _))
 have hb5:w2.heap[w.heap.size+1]?=some (.cells #[.func (.func F) #[] #[.pointer (some ⟨Bl,0,none⟩)]] 141 (0,0)):=by
  refine (hB2.block (w.heap.size+1) (by omega)).trans ?_
  have:=World.alloc_heap_new (w.alloc (.cells #[.int .i64 (n:Int)] 3)) (.cells #[.func (.func F) #[] #[.pointer (some ⟨Bl,0,none⟩)]] 141);rwa [World.size_alloc] at this
 have hN:w.heap.size+2≤w2.heap.size:=by have:=hB2.size;simpa using this
 have hBW:Be w w2:=(((Below.refl _ w).alloc nl _).alloc (by simp) _).trans (hB2.mono (by omega))
 have gb4:w2.cell? ⟨w.heap.size,0,none⟩=some (.int .i64 (n:Int)):=by simp [World.cell?,hb4]
 have gb3:(w2.alloc (.cells #[.slice (some ⟨w.heap.size+1+1,0,none⟩) 0 len] 39)).cell? ⟨w.heap.size,0,none⟩=some (.int .i64 (n:Int)):=by
  rw [World.cell?_of_block (w:=w2) (Below.heap_alloc _ _ _ (by show w.heap.size<w2.heap.size;omega))];exact gb4
 have yk2:=h_ yR
 have HB4:=h_ hb4
 have HB5:=h_ hb5
 have HBW:=h_ hBW
 clear yR hgr hb4 hb5 hB2 hBW
 gi_wp2_with (refine ⟨trivial,?_⟩;gi_at_call 188;refine (yet _ _ _ _ _ _).mono ?_;rintro e w' ⟨rfl,rfl⟩)
 obtain ⟨W0,hW0⟩:∃ W0,((w2.alloc (.cells #[.slice (some ⟨w.heap.size+1+1,0,none⟩) 0 len] 39)).alloc (.cells #[.slice p len c] 39)).alloc (.cells #[.int .i64 (n:Int)] 3)=W0:=⟨_,rfl⟩
 have hs0:W0.heap.size=w2.heap.size+3:=by rw [← hW0];simp
 have hO:W0.heap[w2.heap.size]?=some (.cells #[.slice (some ⟨w.heap.size+1+1,0,none⟩) 0 len] 39 (0,0)):=by
  rw [← hW0];exact ((Below.heap_alloc _ _ _ (by simp;omega)).trans (Below.heap_alloc _ _ _ (by simp))).trans (World.alloc_heap_new w2 _)
 have hI1:W0.heap[w2.heap.size+1]?=some (.cells #[.slice p len c] 39 (0,0)):=by
  rw [← hW0];refine (Below.heap_alloc _ _ _ (by simp)).trans ?_
  have:=World.alloc_heap_new (w2.alloc (.cells #[.slice (some ⟨w.heap.size+1+1,0,none⟩) 0 len] 39)) (.cells #[.slice p len c] 39);rwa [World.size_alloc] at this
 have hI2:W0.heap[w2.heap.size+1+1]?=some (.cells #[.int .i64 (n:Int)] 3 (0,0)):=by
  rw [← hW0];have:=World.alloc_heap_new ((w2.alloc (.cells #[.slice (some ⟨w.heap.size+1+1,0,none⟩) 0 len] 39)).alloc (.cells #[.slice p len c] 39)) (.cells #[.int .i64 (n:Int)] 3);rwa [World.size_alloc,World.size_alloc] at this
 have ygx:Be w2 W0:=by rw [← hW0];exact (((Below.refl _ w2).alloc nl _).alloc (by simp) _).alloc (by simp;omega) _
 have yxY:Be w W0:=HBW.out.trans (ygx.mono (by omega))
 have hk:∀ {j:Nat} {o:Obj},w2.heap[j]?=some o→W0.heap[j]?=some o:=fun h=>(ygx.block _ (Array.getElem?_eq_some_iff.1 h).1).trans h
 have HI0:ChI F w.heap.size w2.heap.size Bl n p len c w (.slice (some ⟨w.heap.size+1+1,0,none⟩) 0 len) [] 0 W0:=by
  refine ⟨GJ ⟨yk2.out.1,?_⟩ (fun j cs h=>hk h),hO,(yxY.block _ yvp).trans HBL.out,hk HB4.out,hk HB5.out,hI1,hI2,yxY.mono (Nat.le_of_lt yvp)⟩
  rcases yk2.out.2 with h|⟨g,cap,cur,hv,hg,h⟩
  ·exact .inl h
  ·exact .inr ⟨g,cap,cur,hv,by omega,h⟩
 rw [hW0]
 clear gb4 gb3
 refine wpIn_rangeFunc_ownF rfl (by omega) (gf:=222) (lb:=#[.pointer (some ⟨w2.heap.size+1+1,0,none⟩),.pointer (some ⟨w2.heap.size+1,0,none⟩)]) rfl trivial (enters_of Tryz.func222 (by kernel_rfl) rfl)
  (ycp _ (by omega) (w2.heap.size+1+1) (w2.heap.size+1) Bl n len k c l p HL HK h1 h2 (Nat.le_trans hl (by decide)) hc W0 (by omega) (by omega) (by omega) (by simp [World.cell?,hI2]) (by simp [World.cell?,hI1]) (HBS.out.keep (yxY.mono (Nat.le_of_lt yvp)))) vF.trans
  (fun W lo o o' hlo ho hc hw=>⟨(Below.refl _ W).grown (grownBy_putObj' W lo o') (by have:=(Array.getElem?_eq_some_iff.1 ho).1;omega) (fun k e=>by cases e;omega),World.putObj_heap_other (by omega),World.putObj_heap_other (by omega)⟩) bR (fun _=>rfl)
  (fun pre W=>∃ v,ChI F w.heap.size w2.heap.size Bl n p len c w v (jl n (stL st 0 (gP l n pre))) (stE st 0 (gP l n pre)) W)
  (fun _ _ _=>False)
  (fun s W W' row h hg hr=>by obtain ⟨v,h⟩:=h;exact ⟨v,h.keep hg (fun r e=>⟨by have:=(hr r e).1;omega,(hr r e).2⟩) h.lt⟩)
  (fun _ _ _ _ _ h _ _=>h)
  ⟨_,HI0⟩ ?a1 ?assign ?body ?done ?stop
 case assign =>
  intro lo x W K hK
  gi_wp2
  exact hK
 case body =>
  rintro lo pre x W ⟨v,hI⟩ hlen
  obtain ⟨a,HA⟩:=ey (stE st 0 (gP l n pre))
  obtain ⟨L,HLL⟩:=ey (jl n (stL st 0 (gP l n pre)))
  rw [← HA.out,← HLL.out] at hI
  obtain ⟨g,HG⟩:=ey (gN l n x.1)
  have ha:a<zT:=by rw [HA.out];exact ysO (fun a g h1 h2=>(hE a g h1 h2).2) (gP l n pre) 0 (by decide) (yzM l h2 pre)
  have hg:g<zT:=by rw [HG.out];exact ysf l h2 _
  obtain ⟨y,HY⟩:=ey ((st a g).1)
  obtain ⟨a2,HA2⟩:=ey ((st a g).2)
  have hy:y<zT:=by rw [HY.out];exact (hE a g ha hg).1
  have hLl:L.length≤100000000:=by
   have h5:pre.length*n≤k*n:=Nat.mul_le_mul_right _ (Nat.le_of_lt hlen)
   have h6:=HKN.out
   rw [HLL.out,yax,yes,ydK];omega
  have hM:Bl<w2.heap.size:=by omega
  have hD:=hI.drew
  obtain ⟨W1,hW1⟩:∃ W1,W.drew.setCell ⟨Bl,0,none⟩ (.int .u64 (a2:Int))=W1:=⟨_,rfl⟩
  have HC:Hid (Calls Tryz.prog F #[.int .u64 (g:Int),.pointer (some ⟨Bl,0,none⟩)] W.drew fun e W'=>e=.returned (.int .u64 (y:Int))∧W1=W'):=h_ (by
   rw [← hW1,HY.out,HA2.out]
   exact (hch W.drew a g ha hg (by simp [World.cell?,hD.st]) (by simp [World.frozen?,hD.st])).mono fun e W' h=>⟨h.1,h.2.symm⟩)
  have HC1:Hid (ChI F w.heap.size w2.heap.size Bl n p len c w v L a2 W1):=h_ (by rw [← hW1];exact hD.call yvp hM a2)
  have HBB:Hid (Below Bl W W1∧KeepsOthers W W1):=h_ (by
   rw [← hW1];exact ⟨(Below.refl Bl W).drew.setCell (p:=⟨Bl,0,none⟩) nl _,(KeepsOthers.drew W).trans (KeepsOthers.setCell _ _ _)⟩)
  have HN:=h_ (vM Bl v L y n W1 h2 hLl HC1.out.lt HC1.out.own hy)
  have HF:Hid (∀ v5 W3,ChI F w.heap.size w2.heap.size Bl n p len c w v5 (L++be n y) a2 W3→KeepsOthers W1 W3→Below Bl W1 W3→KeepsOthers W W3∧vF Bl (w2.heap.size+1+1) (w2.heap.size+1) W W3 ∧
    ∃ v,ChI F w.heap.size w2.heap.size Bl n p len c w v (jl n (stL st 0 (gP l n (pre++[x])))) (stE st 0 (gP l n (pre++[x]))) W3):=h_ (fun v5 W3 k1 k2 k3=>by
   refine ⟨HBB.out.2.trans k2,⟨HBB.out.1.trans k3,k1.i2.trans hI.i2.symm,k1.i1.trans hI.i1.symm⟩,v5,?_⟩
   rw [yjX,ylM,ylL,ydJ,← HA.out,← HLL.out,← HG.out,← HY.out,← HA2.out,jl,jl,List.append_nil]
   exact k1)
  have hc4:W.drew.cell? ⟨w.heap.size,0,none⟩=some (.int .i64 (n:Int)):=by simp [World.cell?,hD.b4]
  have hc5:W.drew.cell? ⟨w.heap.size+1,0,none⟩=some (.func (.func F) #[] #[.pointer (some ⟨Bl,0,none⟩)]):=by simp [World.cell?,hD.b5]
  have hcO:W.drew.cell? ⟨w2.heap.size,0,none⟩=some v:=by simp [World.cell?,hD.out]
  have hc4':W1.cell? ⟨w.heap.size,0,none⟩=some (.int .i64 (n:Int)):=by simp [World.cell?,HC1.out.b4]
  have hc5':W1.cell? ⟨w.heap.size+1,0,none⟩=some (.func (.func F) #[] #[.pointer (some ⟨Bl,0,none⟩)]):=by simp [World.cell?,HC1.out.b5]
  have hcO':W1.cell? ⟨w2.heap.size,0,none⟩=some v:=by simp [World.cell?,HC1.out.out]
  have e10:(nb ((l.drop (x.1*n)).take n))=g:=HG.out.symm
  simp only [e10]
  clear hI hD hW1 e10 ha hg hy hLl
  gi_wp2
  refine yc2 (S:=fun W'=>W'.cell? ⟨w.heap.size+1,0,none⟩=some (.func (.func F) #[] #[.pointer (some ⟨Bl,0,none⟩)])∧W'.cell? ⟨w.heap.size,0,none⟩=some (.int .i64 (n:Int))) (by kernel_rfl) (by kernel_rfl) (fun ⟨_,_,h⟩=>h) ⟨hc5,hc4⟩ (fun hHeld=>?_)
  refine tk (i:=1) (v:=.func (.func F) #[] #[.pointer (some ⟨Bl,0,none⟩)]) rfl (Or.inl ⟨by rfl,by intro W' hSw;obtain ⟨e5,e4⟩:=hSw;go_simp⟩) ?_
  simp only [sl]
  refine tk (i:=2) (v:=.int .u64 (g:Int)) rfl (Or.inl ⟨by rfl,by intro W' hSw;obtain ⟨e5,e4⟩:=hSw;go_simp⟩) ?_
  simp only [sl]
  refine tk (i:=4) (v:=.int .i64 (n:Int)) rfl (Or.inl ⟨by rfl,by intro W' hSw;obtain ⟨e5,e4⟩:=hSw;go_simp⟩) ?_
  simp only [sl]
  refine wpAnyH_ready (rs:=[0,3]) (by kernel_rfl) (by simp) ?_
  refine AllReadyH.cons (i:=0) rfl (fun K hK=>?_) (AllReadyH.cons (i:=3) rfl (fun K hK=>?_) AllReadyH.nil)
  ·go_simp
   refine hK.out _ _ (⟨hc5,hc4⟩) (fun hHeld=>?_)
   clear hK K
   refine oN (i:=3) rfl fun K hK=>?_
   go_simp
   refine (HC.out).mono ?_
   rintro e W1' ⟨rfl,rfl⟩
   refine hK.out _ _ (⟨hc5',hc4'⟩) (fun hHeld=>?_)
   clear hK K
   refine oN (i:=5) rfl fun K hK=>?_
   go_simp
   refine (HN.out).mono ?_
   rintro e W2 ⟨v5,rfl,hg5⟩
   obtain ⟨yP,ycK,ydh,hh4,hh5,hhM,yce⟩:=HC1.out.app hM hg5
   obtain ⟨p5,c5,rfl,-,-⟩:=yS yP
   obtain ⟨m5,HM5⟩:=ey ((L++be n y).length)
   rw [← HM5.out] at yP ycK ydh yce ⊢
   have f4:W2.cell? ⟨w.heap.size,0,none⟩=some (.int .i64 (n:Int)):=by simp [World.cell?,hh4]
   have f5:W2.cell? ⟨w.heap.size+1,0,none⟩=some (.func (.func F) #[] #[.pointer (some ⟨Bl,0,none⟩)]):=by simp [World.cell?,hh5]
   have fM:W2.cell? ⟨w2.heap.size,0,none⟩=some v:=by simp [World.cell?,hhM]
   have fMz:W2.frozen? ⟨w2.heap.size,0,none⟩=false:=by simp [World.frozen?,hhM]
   refine hK.out _ _ (⟨f5,f4⟩) (fun hHeld=>?_)
   clear hK K
   refine oN (i:=6) rfl fun K hK=>?_
   go_simp
   refine hK.out _ _ (⟨(World.cell?_of_block (Below.heap_setCell W2 ⟨w2.heap.size,0,none⟩ _ _ (by show w.heap.size+1≠w2.heap.size;omega))).trans f5,(World.cell?_of_block (Below.heap_setCell W2 ⟨w2.heap.size,0,none⟩ _ _ (by show w.heap.size≠w2.heap.size;omega))).trans f4⟩) (fun hHeld=>?_)
   clear hK K
   refine wpAnyH_done (by kernel_rfl) ?_ _
   exact HF.out _ _ ycK ydh yce
  ·go_simp
   refine (HC.out).mono ?_
   rintro e W1' ⟨rfl,rfl⟩
   refine hK.out _ _ (⟨hc5',hc4'⟩) (fun hHeld=>?_)
   clear hK K
   refine oN (i:=0) rfl fun K hK=>?_
   go_simp
   refine hK.out _ _ (⟨hc5',hc4'⟩) (fun hHeld=>?_)
   clear hK K
   refine oN (i:=5) rfl fun K hK=>?_
   go_simp
   refine (HN.out).mono ?_
   rintro e W2 ⟨v5,rfl,hg5⟩
   obtain ⟨yP,ycK,ydh,hh4,hh5,hhM,yce⟩:=HC1.out.app hM hg5
   obtain ⟨p5,c5,rfl,-,-⟩:=yS yP
   obtain ⟨m5,HM5⟩:=ey ((L++be n y).length)
   rw [← HM5.out] at yP ycK ydh yce ⊢
   have f4:W2.cell? ⟨w.heap.size,0,none⟩=some (.int .i64 (n:Int)):=by simp [World.cell?,hh4]
   have f5:W2.cell? ⟨w.heap.size+1,0,none⟩=some (.func (.func F) #[] #[.pointer (some ⟨Bl,0,none⟩)]):=by simp [World.cell?,hh5]
   have fM:W2.cell? ⟨w2.heap.size,0,none⟩=some v:=by simp [World.cell?,hhM]
   have fMz:W2.frozen? ⟨w2.heap.size,0,none⟩=false:=by simp [World.frozen?,hhM]
   refine hK.out _ _ (⟨f5,f4⟩) (fun hHeld=>?_)
   clear hK K
   refine oN (i:=6) rfl fun K hK=>?_
   go_simp
   refine hK.out _ _ (⟨(World.cell?_of_block (Below.heap_setCell W2 ⟨w2.heap.size,0,none⟩ _ _ (by show w.heap.size+1≠w2.heap.size;omega))).trans f5,(World.cell?_of_block (Below.heap_setCell W2 ⟨w2.heap.size,0,none⟩ _ _ (by show w.heap.size≠w2.heap.size;omega))).trans f4⟩) (fun hHeld=>?_)
   clear hK K
   refine wpAnyH_done (by kernel_rfl) ?_ _
   exact HF.out _ _ ycK ydh yce
 case done =>
  rintro D xs W hD hxs ⟨v,hI⟩ hK
  rw [yna l n xs hxs] at hI
  obtain ⟨G,HG⟩:=ey (jl n (stL st 0 (gl n k l)))
  obtain ⟨a,HA⟩:=ey (stE st 0 (gl n k l))
  rw [← HG.out,← HA.out] at hI
  obtain ⟨t,HT⟩:=ey (k*n)
  have htl:t≤len:=by rw [HT.out];exact HKN.out
  obtain ⟨rs,HRS⟩:=ey (l.drop t)
  have hGR:Hid (G++rs=R):=h_ (by rw [HG.out,HRS.out,HR.out,HT.out,ym9])
  have hGl:G.length=t:=by rw [HG.out,HT.out,yax,yes,uL]
  have hrl:rs.length=len-t:=by rw [HRS.out,List.length_drop,← HL.out]
  have hRest:=h_ (yhc p c n t len l W.drew h1 h2 HL (Nat.le_trans hl (by decide)) hc HPC.out (by rw [HT.out,HK.out];rfl) ((HBS.out.keep hI.bel).bs hI.lt))
  rw [← HRS.out] at hRest
  have hDI:=hI.drew
  have c4:W.drew.cell? ⟨w.heap.size,0,none⟩=some (.int .i64 (n:Int)):=by simp [World.cell?,hDI.b4]
  have cO:W.drew.cell? ⟨w2.heap.size,0,none⟩=some v:=by simp [World.cell?,hDI.out]
  have HOWN2:Hid (W.drew.ownsRow Bl 5 1 v G.length (zG G)):=h_ hDI.own
  have HBEL:Hid (Below Bl w W.drew):=h_ hDI.bel
  have hlt:Bl≤W.drew.heap.size:=hDI.lt
  have yeY:Hid (∀ v5 W5,Grew Bl W.drew v (G++rs) W5 v5→W5.cell? ⟨w.heap.size,0,none⟩=some (.int .i64 (n:Int))∧W5.cell? ⟨w2.heap.size,0,none⟩=some v∧W5.heap[D]?=some (.deferred (some []))∧(Below Bl w (W5.putObj D (.deferred none))∧(W5.putObj D (.deferred none)).ownsRow Bl 5 1 v5 R.length (zG R))):=h_ (fun v5 W5 hg=>by
   obtain ⟨-,-,-,q4,-,qO,-⟩:=hDI.app (by omega) hg
   have hD5:W5.heap[D]?=some (.deferred (some [])):=(hg.grown.block D (Array.getElem?_eq_some_iff.1 hK).1 (fun e=>by
    have:=ydL hDI.own D _ e.symm hK
    cases this)).trans hK
   have hb5:Below Bl w W5:=hDI.bel.grown hg.grown hlt (fun k e=>yaz hDI.own e)
   have hsz:=hg.grown.size
   rw [hGR.out] at hg
   refine ⟨by simp [World.cell?,q4],by simp [World.cell?,qO],hD5,hb5.trans ((Below.refl Bl W5).grown (grownBy_putObj' W5 D _) (Nat.le_trans hlt hsz) (fun k e=>by cases e;omega)),GJ hg.own (fun k cs h=>(World.putObj_heap_other (fun e=>by subst e;rw [hD5] at h;cases h)).trans h)⟩)
  clear hI hDI
  gi_wp2
  refine wpIn_wide.2 ?_
  refine wp_region_noPanic ?_
  refine wp_region_held_drew (S:=fun W'=>W'.cell? ⟨w.heap.size,0,none⟩=some (.int .i64 (n:Int))∧W'.cell? ⟨w2.heap.size,0,none⟩=some v) (by kernel_rfl) ⟨c4,cO⟩ (fun hHeld=>?_)
  refine tk (i:=0) (v:=v) rfl (Or.inl ⟨by rfl,by intro W' hSw;obtain ⟨e4,eO⟩:=hSw;go_simp⟩) ?_
  simp only [sl]
  refine tk (i:=1) (v:=.slice p len c) rfl (Or.inl ⟨by rfl,by intro W' hSw;obtain ⟨e4,eO⟩:=hSw;go_simp⟩) ?_
  simp only [sl]
  refine tk (i:=2) (v:=.int .i64 (n:Int)) rfl (Or.inl ⟨by rfl,by intro W' hSw;obtain ⟨e4,eO⟩:=hSw;go_simp⟩) ?_
  simp only [sl]
  refine oN (i:=3) rfl fun K hK=>?_
  go_simp
  refine (hRest.out).mono ?_
  rintro e W' ⟨rfl,q,d,rfl,hq⟩
  have HQ:=h_ hq
  clear hq
  refine hK.out _ _ (⟨c4,cO⟩) (fun hHeld=>?_)
  clear hK K
  refine oN (i:=4) rfl fun K hK9=>?_
  rw [if_pos (by rfl)]
  refine yag (.tmp 30) (.tmp 33) rfl Bl v G.length G rfl rfl HOWN2.out q (len-t) d rs rfl hrl HQ.out (by omega) hlt ?_
  intro v5 W5 hg5
  obtain ⟨f4,fO,fD,yD⟩:=yeY.out _ _ hg5
  refine hK9.out _ _ (⟨f4,fO⟩) (fun hHeld=>?_)
  clear hK9 K
  simp only [sl]
  refine oN (i:=5) rfl fun K hK=>?_
  go_simp
  refine hK.out _ _ (⟨f4,fO⟩) (fun hHeld=>?_)
  clear hK K
  refine oN (i:=6) rfl fun K hK=>?_
  go_simp
  refine hK.out _ _ (⟨f4,fO⟩) (fun hHeld=>?_)
  clear hK K
  refine wpAnyH_done (by kernel_rfl) ?_ _
  refine NoPanic.normal ?_
  gi_wp2
  refine ⟨by simp,.inl ⟨_,_,rfl,run_takeDeferred fD,?_⟩⟩
  refine ⟨_,?_,yD.1,v5,rfl,yD.2⟩
  simp [results,Tryz.f145,go_sem]
 case stop =>
  rintro D c pre W hD _ h
  exact h.elim
end
end Go.Proofs.YtgepehlpjpccaaaGreatDoor
