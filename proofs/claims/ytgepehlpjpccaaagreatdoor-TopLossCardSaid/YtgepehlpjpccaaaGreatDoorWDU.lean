/- Contracts. -/
import Derived.Test.YtgepehlpjpccaaaGreatDoorWDK
namespace Go.Proofs.YtgepehlpjpccaaaGreatDoor
set_option maxHeartbeats 2000000
set_option maxRecDepth 100000
section
open Go.RowKit Go.Shelf
open Go.Lib
attribute [local go_sem] Oper.semAt_some
theorem yoc (p:Option Addr) (c n:Nat) (l:List UInt8) (w:World) (h1:1≤n) (h2:n≤8) (hl:l.length≤20000) (hb:Bs w p l) :
  Calls Tryz.prog 99 #[.slice p l.length c,.int .i64 (n:Int)] w (jY (yaM l n) w):=by
 have HA:∀ W,Calls Tryz.prog 147 #[.slice p l.length c,.int .i64 (n:Int)] W fun e w'=>e=.returned (.int .i64 0)∧W=w':=fun W=>ybr p l.length c n W h1 h2 (Nat.le_trans hl (by decide))
 obtain ⟨len,HL⟩:∃ len,Hid (len=l.length):=⟨_,rfl⟩
 have Hb:=Lib.hid hb
 rw [← HL.out] at hl HA ⊢
 have HAh:=Lib.hid HA
 clear hb HA
 refine (callsIn_wide (n:=9)).1 ?_
 refine callsIn_of_wp_marks Tryz.func99 rfl trivial ?_ rfl
 simp only [Tryz.ntmps99,List.size_toArray,List.length_cons,List.length_nil,Nat.reduceAdd,Nat.reduceSub,Array.replicate_succ,Array.replicate_zero,List.push_toArray,List.append_toArray,List.nil_append,List.cons_append]
 gi_wp2_with (first|(refine ⟨trivial,?_⟩;gi_at_call 147;refine (callsIn_wide.2 (HAh.out _)).mono ?_;rintro e w' ⟨rfl,rfl⟩)|(gi_at_make;refine ybb _ rfl _ _ rfl _ _ len rfl rfl hl ?_))
 intro w2 jG hgr
 have hb2:w2.heap[w.heap.size]?=some (.cells #[.slice p len c] 39 (0,0)):=(hgr.block w.heap.size (by simp) (by simp)).trans (World.alloc_heap_new w _)
 have gb:w2.cell? ⟨w.heap.size,0,none⟩=some (.slice p len c):=by simp [World.cell?,hb2]
 have hB2:Below w.heap.size w w2:=((Below.refl _ w).alloc (Nat.le_refl _) _).grown hgr (by simp) (fun k e=>by cases e)
 have hN:w.heap.size+1<w2.heap.size:=by
  have h:=(Array.getElem?_eq_some_iff.1 jG).1
  simpa using h
 have gb3:(w2.alloc (.cells #[.slice (some ⟨w.heap.size+1,0,none⟩) len len] 39)).cell? ⟨w.heap.size,0,none⟩=some (.slice p len c):=by
  rw [World.cell?_of_block (w:=w2) (Below.heap_alloc _ _ _ (by show w.heap.size<w2.heap.size;omega))];exact gb
 have HR:=Lib.hid jG
 have uV:=Lib.hid hB2
 have Hb2:=Lib.hid hb2
 clear jG hb2 hB2 hgr
 gi_wp2_with (refine ⟨trivial,?_⟩;gi_at_call 148;refine (yfx Fence.wide _ trivial rfl _ _ _).mono ?_;rintro e w' ⟨rfl,rfl⟩)
 obtain ⟨W0,hW0⟩:∃ W0,((w2.alloc (.cells #[.slice (some ⟨w.heap.size+1,0,none⟩) len len] 39)).alloc (.cells #[.int .i64 (len:Int)] 3)).alloc (.cells #[.int .i64 (n:Int)] 3)=W0:=⟨_,rfl⟩
 have hs0:W0.heap.size=w2.heap.size+3:=by rw [← hW0];simp
 have hO:W0.heap[w2.heap.size]?=some (.cells #[.slice (some ⟨w.heap.size+1,0,none⟩) len len] 39 (0,0)):=by
  rw [← hW0];exact ((Below.heap_alloc _ _ _ (by simp;omega)).trans (Below.heap_alloc _ _ _ (by simp))).trans (World.alloc_heap_new w2 _)
 have hBl:W0.heap[w2.heap.size+1]?=some (.cells #[.int .i64 (len:Int)] 3 (0,0)):=by
  rw [← hW0];refine (Below.heap_alloc _ _ _ (by simp)).trans ?_
  have:=World.alloc_heap_new (w2.alloc (.cells #[.slice (some ⟨w.heap.size+1,0,none⟩) len len] 39)) (.cells #[.int .i64 (len:Int)] 3);rwa [World.size_alloc] at this
 have hBn:W0.heap[w2.heap.size+1+1]?=some (.cells #[.int .i64 (n:Int)] 3 (0,0)):=by
  rw [← hW0];have:=World.alloc_heap_new ((w2.alloc (.cells #[.slice (some ⟨w.heap.size+1,0,none⟩) len len] 39)).alloc (.cells #[.int .i64 (len:Int)] 3)) (.cells #[.int .i64 (n:Int)] 3);rwa [World.size_alloc,World.size_alloc] at this
 have ydI:Below w2.heap.size w2 W0:=by rw [← hW0];exact (((Below.refl _ w2).alloc (Nat.le_refl _) _).alloc (by simp) _).alloc (by simp;omega) _
 have hS:W0.heap[w.heap.size]?=some (.cells #[.slice p len c] 39 (0,0)):=(ydI.block _ (by omega)).trans Hb2.out
 have hR0:W0.heap[w.heap.size+1]?=some (.cells (zS (List.replicate len 0)).toArray 5 (0,0)):=(ydI.block _ hN).trans HR.out
 have hBW:Below w.heap.size w W0:=uV.out.trans (ydI.mono (by omega))
 rw [hW0]
 clear gb gb3
 refine wpIn_rangeFunc_ownF rfl (by omega) (gf:=189) (lb:=#[.pointer (some ⟨w2.heap.size+1,0,none⟩),.pointer (some ⟨w2.heap.size+1+1,0,none⟩)]) rfl trivial (enters_of Tryz.func189 (by kernel_rfl) rfl)
  (ygS Fence.wide _ trivial rfl (by omega) (w2.heap.size+1) (w2.heap.size+1+1) len n h1 h2 hl W0 (by omega) (by omega) (by simp [World.cell?,hBl]) (by simp [World.cell?,hBn])) ycg.trans
  (fun W lo o o' hlo ho hc hw=>⟨World.putObj_heap_other (by omega),World.putObj_heap_other (by omega)⟩) (Below.refl _ _) (fun _=>rfl)
  (fun pre W=>W.heap[w.heap.size+1]?=some (.cells (zS (ya0 l (fun t=>t) (fun t=>uH len n t) (pre.map (·.1)))).toArray 5 (0,0))∧W.heap[w.heap.size]?=some (.cells #[.slice p len c] 39 (0,0)) ∧
   W.heap[w2.heap.size]?=some (.cells #[.slice (some ⟨w.heap.size+1,0,none⟩) len len] 39 (0,0))∧Below w.heap.size w W)
  (fun _ _ _=>False)
  (OwnFrom.and (uY (fun _=>rfl)) (OwnFrom.and (uY (fun _=>rfl)) (OwnFrom.and (uY (fun _=>rfl)) (ownFrom_below (Nat.le_refl _) (by omega)))))
  (fun _ _ _ _ _ h _ _=>h)
  ⟨(by rw [hR0,HL.out];rfl),hS,hO,hBW⟩
  (fun x=>{ tmps:=#[.slice p len c,.int .i64 (n:Int),.pointer (some ⟨w.heap.size,0,none⟩),undef,.slice none 0 0,.int .i64 0,.int .i64 0,.pointer (some ⟨w2.heap.size,0,none⟩),.int .i64 ((x.1:Nat):Int),.int .i64 ((uH len n x.1:Nat):Int),.slice p len c,.int .i64 (n:Int),.int .i64 0,.int .i64 0,.bool false,undef,.slice p len c,.int .i64 (len:Int),.slice (some ⟨w.heap.size+1,0,none⟩) len len,.slice p len c,.int .i64 (len:Int),.int .i64 (n:Int),.func (.func 189) #[] #[.pointer (some ⟨w2.heap.size+1,0,none⟩),.pointer (some ⟨w2.heap.size+1+1,0,none⟩)],.int .i64 ((x.1:Nat):Int),.int .i64 ((uH len n x.1:Nat):Int),undef,undef,undef,undef,undef,undef,undef,undef],defers:=[] }) ?assign ?body ?done ?stop
 case assign =>
  intro lo x W K hK
  gi_wp2
  exact hK
 case body =>
  rintro lo pre x W ⟨hA,hS,hO,hB⟩ _
  obtain ⟨t,ht⟩:=x
  have hfr:uH len n t<len:=yjh (by omega) ht
  obtain ⟨b1,o1,hp1,hb1,hc1⟩:=yeb (t:=uH len n t) (Hb.out.below hB) (by rw [← HL.out];exact hfr)
  obtain ⟨y,HY⟩:∃ y:UInt8,Hid (y=l.getD (uH len n t) 0):=⟨_,rfl⟩
  rw [← HY.out] at hc1
  obtain ⟨fr,HFR⟩:∃ fr,Hid (fr=uH len n t):=⟨_,rfl⟩
  have e1:W.cell? ⟨w.heap.size,0,none⟩=some (.slice p len c):=by simp [World.cell?,hS]
  have e2:W.cell? ⟨w2.heap.size,0,none⟩=some (.slice (some ⟨w.heap.size+1,0,none⟩) len len):=by simp [World.cell?,hO]
  obtain ⟨A,HA⟩:∃ A:List UInt8,Hid (A=ya0 l (fun t=>t) (fun t=>uH len n t) (pre.map (·.1))):=⟨_,rfl⟩
  have HAl:Hid (A.length=len):=Lib.hid (by rw [HA.out,GL,HL.out])
  rw [← HA.out] at hA
  have e3:W.cell? ⟨w.heap.size+1,t,none⟩=some (.int .u8 (((A.getD t 0).toNat:Nat):Int)):=by
   simp only [World.cell?,hA]
   have h6:(zS A)[t]?=some (.int .u8 (((A.getD t 0).toNat:Nat):Int)):=by
    rw [zS,List.getElem?_map,List.getD_eq_getElem?_getD,List.getElem?_eq_getElem (by rw [HAl.out];exact ht)];rfl
   simpa using h6
  have e4:W.frozen? ⟨w.heap.size+1,t,none⟩=false:=by simp [World.frozen?,hA]
  subst hp1
  rw [← HFR.out] at hfr hc1 ⊢
  have hF:KeepsOthers W (W.setCell ⟨w.heap.size+1,t,none⟩ (.int .u8 (y.toNat:Int))).drew∧ycg (w2.heap.size+1) (w2.heap.size+1+1) W (W.setCell ⟨w.heap.size+1,t,none⟩ (.int .u8 (y.toNat:Int))).drew ∧
    (W.setCell ⟨w.heap.size+1,t,none⟩ (.int .u8 (y.toNat:Int))).drew.heap[w.heap.size+1]?=some (.cells (zS (ya0 l (fun t=>t) (fun t=>uH len n t) ((pre++[(⟨t,ht⟩:Pl len)]).map (·.1)))).toArray 5 (0,0)) ∧
    (W.setCell ⟨w.heap.size+1,t,none⟩ (.int .u8 (y.toNat:Int))).drew.heap[w.heap.size]?=some (.cells #[.slice (some ⟨b1,o1,none⟩) len c] 39 (0,0)) ∧
    (W.setCell ⟨w.heap.size+1,t,none⟩ (.int .u8 (y.toNat:Int))).drew.heap[w2.heap.size]?=some (.cells #[.slice (some ⟨w.heap.size+1,0,none⟩) len len] 39 (0,0)) ∧
    Below w.heap.size w (W.setCell ⟨w.heap.size+1,t,none⟩ (.int .u8 (y.toNat:Int))).drew:=by
   refine ⟨ygU (KeepsOthers.setCell _ _ _),⟨yad _ (by omega),yad _ (by omega)⟩,?_,(yad _ (by omega)).trans hS,(yad _ (by omega)).trans hO,(hB.setCell (p:=⟨w.heap.size+1,t,none⟩) (by simp) _).drew⟩
   rw [List.map_append,List.map_cons,List.map_nil,yd4,← HA.out,← HY.out];exact yis hA y
  gi_wp2
  gi_region
  all_goals (gi_wp2;exact hF)
 case done =>
  rintro D xs W hD hxs ⟨hA,hS,hO,hB⟩ hK
  have e2:W.cell? ⟨w2.heap.size,0,none⟩=some (.slice (some ⟨w.heap.size+1,0,none⟩) len len):=by simp [World.cell?,hO]
  gi_wp2
  refine ⟨by simp,.inl ⟨_,_,rfl,run_takeDeferred hK,?_⟩⟩
  have hB9:Below w.heap.size w (W.putObj D (.deferred none)):=hB.trans (belowK_b (w:=w) (Nat.le_refl _) W D _ _ (by omega) hK rfl rfl)
  have hA9:(W.putObj D (.deferred none)).heap[w.heap.size+1]?=_:=(World.putObj_heap_other (by omega)).trans hA
  rw [hxs,HL.out,yp0 l (by omega)] at hA9
  refine ⟨_,?_,hB9,_,rfl,yez hA9 (by rw [jX,HL.out]) (by omega) hl⟩
  simp [results,Tryz.f99,go_sem]
 case stop =>
  rintro D c pre W hD _ h
  exact h.elim
end
section
open Go.RowKit
open Go.Lib
def yyn (L:List UInt8) (len:Nat) (w:World) (e:Ending) (w':World):Prop:=Below w.heap.size w w'∧∃ q d,e=.returned (.tuple #[.slice q len d,.int .i64 0])∧len≤d∧Bs w' q L
theorem jY.bs {L:List UInt8} {len:Nat} {w w':World} {e:Ending} (h:jY L w e w') (hL:L.length=len):yyn L len w e w':=by
 obtain ⟨h1,v,he,ho⟩:=h
 obtain ⟨q,d,hv,hb,hd⟩:=zE ho
 subst hL
 exact ⟨h1,q,d,by rw [he,hv],hd,hb⟩
def stL (st:Nat→Nat→Nat × Nat):Nat→List Nat→List Nat
 | _,[]=>[]
 | a,g::gs=>(st a g).1::stL st (st a g).2 gs
theorem ybw (st:Nat→Nat→Nat × Nat):∀ (gs:List Nat) (a:Nat),(stL st a gs).length=gs.length
 | [],_=>rfl
 | g::gs,a=>by rw [stL,List.length_cons,ybw st gs,List.length_cons]
theorem ymt (st:Nat→Nat→Nat × Nat) (n:Nat):∀ (k a:Nat) (l:List UInt8),jl n (stL st a (gl n k l))++l.drop (k*n)=chR st n k a l
 | 0,a,l=>by rw [gl,stL,jl,chR,Nat.zero_mul,List.drop_zero,List.nil_append]
 | k+1,a,l=>by
  rw [gl,stL,jl,chR,List.append_assoc,← ymt st n k _ (l.drop n),List.drop_drop,Nat.succ_mul,Nat.add_comm n]
end
section
open Go.RowKit Go.Shelf
open Go.Lib
attribute [local go_sem] Oper.semAt_some
def BsN (N:Nat) (w:World) (p:Option Addr) (l:List UInt8):Prop:=l.length=0∨∃ b off,p=some ⟨b,off,none⟩∧b<N∧∀ j,j<l.length→w.cell? ⟨b,off+j,none⟩=some (.int .u8 (((l.getD j 0).toNat:Nat):Int))
theorem BsN.keep {N:Nat} {w w':World} {p:Option Addr} {l:List UInt8} (h:BsN N w p l) (hb:Below N w w'):BsN N w' p l:=by
 rcases h with h0|⟨b,off,hp,hlt,hc⟩
 ·exact .inl h0
 ·exact .inr ⟨b,off,hp,hlt,fun j hj=>(hb.cell (p:=⟨b,off+j,none⟩) hlt).trans (hc j hj)⟩
theorem BsN.bs {N:Nat} {w:World} {p:Option Addr} {l:List UInt8} (h:BsN N w p l) (hN:N≤w.heap.size):Bs w p l:=by
 rcases h with h0|⟨b,off,hp,hlt,hc⟩
 ·exact .inl h0
 ·exact .inr ⟨b,off,hp,Nat.lt_of_lt_of_le hlt hN,hc⟩
theorem Bs.bsN {w:World} {p:Option Addr} {l:List UInt8} (h:Bs w p l):BsN w.heap.size w p l:=h
def jO (N Bn Bb:Nat) (W W':World):Prop:=Below N W W'∧W'.heap[Bn]?=W.heap[Bn]?∧W'.heap[Bb]?=W.heap[Bb]?
theorem jO.trans {N Bn Bb:Nat} {A B C:World} (h:jO N Bn Bb A B) (k:jO N Bn Bb B C):jO N Bn Bb A C:=⟨h.1.trans k.1,k.2.1.trans h.2.1,k.2.2.trans h.2.2⟩
theorem jO.refl (N Bn Bb:Nat) (A:World):jO N Bn Bb A A:=⟨Below.refl _ _,rfl,rfl⟩
theorem jO.c1 {N Bn Bb:Nat} {A B:World} (h:jO N Bn Bb A B):B.cell? ⟨Bn,0,none⟩=A.cell? ⟨Bn,0,none⟩:=World.cell?_of_block (a:=⟨Bn,0,none⟩) h.2.1
theorem jO.c2 {N Bn Bb:Nat} {A B:World} (h:jO N Bn Bb A B):B.cell? ⟨Bb,0,none⟩=A.cell? ⟨Bb,0,none⟩:=World.cell?_of_block (a:=⟨Bb,0,none⟩) h.2.2
abbrev nbE (l:List UInt8) (n k:Nat) (x:Pl k):Array Value:=#[.int .u64 ((nb ((l.drop (x.1*n)).take n):Nat):Int)]
theorem yuU (m:Nat) (hm:1≤m) (lr Bn Bb N0 n len k c:Nat) (l:List UInt8) (p:Option Addr) (HL:Hid (len=l.length)) (HK:Hid (k=len/n)) (hn1:1≤n) (hn2:n≤8) (hlen:len≤1048576) (hc:len≤c) (J Jx:List (Pl k)→World→Prop)
  (hY:∀ pre x W,J pre W→pre.length<k→YieldAt Fence.wide (m-1) Tryz.prog lr (nbE l n k x) W fun e W' =>
   (e=.returned (.bool true)∧J (pre++[x]) W'∧jO N0 Bn Bb W W')∨(e=.returned (.bool false)∧Jx (pre++[x]) W'))
  (W:World) (hN:N0≤W.heap.size) (hBn:W.cell? ⟨Bn,0,none⟩=some (.int .i64 (n:Int))) (hBb:W.cell? ⟨Bb,0,none⟩=some (.slice p len c)) (hbs:BsN N0 W p l) (h0:J [] W) :
  CallsIn Fence.wide m Tryz.prog 222 #[.func (.yield lr) #[] #[],.pointer (some ⟨Bn,0,none⟩),.pointer (some ⟨Bb,0,none⟩)] W fun e W'=>(∃ v,e=.returned v) ∧
   ((∃ ys,ys.map (·.1)=List.range k∧J ys W')∨(∃ pre,True∧Jx pre W')):=by
 have hni:1≤(n:Int):=by omega
 have hni2:(n:Int)≤8:=by omega
 have hli:(len:Int)≤1048576:=by omega
 have HKN:Hid (k*n≤len∧len<k*n+n):=Lib.hid (by
  rw [HK.out]
  have h3:=Nat.div_add_mod len n
  have h4:=Nat.mod_lt len (show n > 0 by omega)
  rw [Nat.mul_comm] at h3;omega)
 have HBS:=Lib.hid hbs
 clear hbs
 refine callsIn_of_wp Tryz.func222 rfl trivial ?_ rfl
 simp only [Tryz.ntmps222,List.size_toArray,List.length_cons,List.length_nil,Nat.reduceAdd,Nat.reduceSub,Array.replicate_succ,Array.replicate_zero,List.push_toArray,List.append_toArray,List.nil_append,List.cons_append]
 gi_wp2
 have HJ0:=Lib.hid h0
 gi_loopw [4] (fun tv wr=>∃ (t i:Nat) (pre:List (Pl k)),i≤k∧tv=.int .i64 t∧Hid (t=i*n)∧Hid (pre.map (·.1)=List.range i)∧Hid (J pre wr)∧Hid (jO N0 Bn Bb W wr)) (fun tv _=>len-(intOf tv).toNat)
 case atStart=>exact ⟨0,0,[],Nat.zero_le _,rfl,Lib.hid (by rw [Nat.zero_mul]),rfl,HJ0,Lib.hid (jO.refl _ _ _ _)⟩
 case round =>
  obtain ⟨t,i,pre,hik,rfl,HT,HP,HJ,HB⟩:=hrel
  have hcn:=HB.out.c1.trans hBn
  have hcb:=HB.out.c2.trans hBb
  by_cases ycA:i<k
  ·have htn:t+n≤len:=by
    have h3:=HKN.out.1
    have h4:(i+1)*n≤k*n:=Nat.mul_le_mul_right _ ycA
    rw [Nat.succ_mul] at h4
    rw [HT.out];omega
   have htn':(t:Int)+(n:Int)≤(len:Int):=by omega
   have ywb:=(HBS.out.keep HB.out.1).bs (Nat.le_trans hN HB.out.1.size)
   obtain ⟨b0,off,rfl,-,-⟩:=yeb ywb (t:=0) (by rw [← HL.out];omega)
   have ydx:Hid (Bs wr (some ⟨b0,off+t,none⟩) ((l.drop t).take n)):=Lib.hid (ya8 ywb t n (by rw [← HL.out];omega) rfl)
   obtain ⟨s,HS⟩:∃ s,Hid (s=(l.drop t).take n):=⟨_,rfl⟩
   rw [← HS.out] at ydx
   have hsl:s.length=n:=by rw [HS.out,List.length_take,List.length_drop,← HL.out];omega
   have HR:=Lib.hid (jS (some ⟨b0,off+t,none⟩) (c-t) s wr (by omega) ydx.out)
   rw [hsl] at HR
   obtain ⟨x,HX⟩:∃ x:Nat,Hid (x=nb s):=⟨_,rfl⟩
   rw [← HX.out] at HR
   obtain ⟨fn,tmps,assign,body,hy,hRo⟩:=hY pre ⟨i,ycA⟩ wr HJ.out (by
    have h:=congrArg List.length HP.out
    rw [List.length_map,List.length_range] at h;omega)
   have hy2:(Instr.yield lr #[.int .u64 (x:Int)]).run Tryz.prog wr=.ok (.round lr fn tmps assign body) wr:=by
    rw [HX.out,HS.out,HT.out];exact hy
   clear hy ywb hsl
   gi_wp2_with (refine ⟨trivial,?_⟩;gi_at_call 197;refine (callsIn_wide.2 HR.out).mono ?_;rintro e w' ⟨rfl,rfl⟩)
   refine hRo.mono ?_
   rintro e W3 (⟨rfl,hJ3,hk3⟩|⟨rfl,yhk⟩)
   ·have HB3:=Lib.hid (HB.out.trans hk3)
    have HJ3:=Lib.hid hJ3
    have hcn3:=HB3.out.c1.trans hBn
    clear hJ3 hk3 hy2
    gi_wp2
    go_roundw
    case rel=>exact ⟨t+n,i+1,pre++[⟨i,ycA⟩],by omega,by go_num,Lib.hid (by rw [HT.out,Nat.succ_mul]),Lib.hid (by rw [List.map_append,HP.out,List.range_succ];rfl),HJ3,HB3⟩
    case measure=>simp [intOf];omega
   ·gi_wp2
    refine bodyPost_ret (results_none rfl _ _ _) rfl ?_
    exact ⟨⟨_,rfl⟩,.inr ⟨_,trivial,yhk⟩⟩
  ·obtain rfl:i=k:=by omega
   have htn':¬ (t:Int)+(n:Int)≤(len:Int):=by rw [HT.out];have:=HKN.out.2;omega
   have htl:t≤len:=by rw [HT.out];exact HKN.out.1
   have hti:(t:Int)≤1048576:=by omega
   gi_wp2
   go_end0
   exact ⟨⟨_,rfl⟩,.inl ⟨pre,HP.out,HJ.out⟩⟩
theorem yaU (m:Nat) (hm:1≤m) (Bn Bb N0 n len k c:Nat) (l:List UInt8) (p:Option Addr) (HL:Hid (len=l.length)) (HK:Hid (k=len/n)) (hn1:1≤n) (hn2:n≤8) (hlen:len≤1048576) (hc:len≤c) (w:World) (hN:N0≤w.heap.size) (hB1:Bn<w.heap.size) (hB2:Bb<w.heap.size)
  (hBn:w.cell? ⟨Bn,0,none⟩=some (.int .i64 (n:Int))) (hBb:w.cell? ⟨Bb,0,none⟩=some (.slice p len c)) (hbs:BsN N0 w p l) :
  SeqStopsK Fence.wide m Tryz.prog 222 #[.pointer (some ⟨Bn,0,none⟩),.pointer (some ⟨Bb,0,none⟩)] (nbE l n k) (jO N0 Bn Bb) (fun ys=>ys.map (·.1)=List.range k) (fun _=>True) k w:=fun lr J Jx W hW _ _ hY h0 =>
 yuU m hm lr Bn Bb N0 n len k c l p HL HK hn1 hn2 hlen hc J Jx hY W (Nat.le_trans hN hW.size) ((hW.cell (p:=⟨Bn,0,none⟩) hB1).trans hBn) ((hW.cell (p:=⟨Bb,0,none⟩) hB2).trans hBb) (hbs.keep (hW.mono hN)) h0
end
section
open Go.RowKit Go.Shelf
open Go.Lib
attribute [local go_sem] Oper.semAt_some
def yc5 (o:Oper):Bool:=match o.op with | .defer _=>false|_=>true
theorem yod {o:Oper} (h:yc5 o=true):∀ c,o.op≠.defer c:=by
 intro c e;unfold yc5 at h;rw [e] at h;cases h
theorem ycy {P:Program} {l n:Nat} {o:Oper} (hd:yc5 o=true) {a:Act} {w:World} {K:Act→World→Prop} {Q:Exit→Act→World→Prop}
  (h:o.wp P a w K Q):o.wpIn (Fence.wide.inRound l) n P a w K Q:=by
 unfold Oper.wpIn
 refine ⟨fun _ _=>trivial,?_⟩
 rw [Oper.semAt_plain _ _ _ (yod hd)]
 unfold Oper.wp at h
 generalize (execOp a.eval o).run P w=r at *
 cases r with
 | ok x w' =>
  cases x
  case enter f args=>exact ⟨fun h0=>Bool.noConfusion h0,CallsIn.inRound l (callsIn_wide.2 h)⟩
  case row r args =>
   refine ⟨fun h0=>Bool.noConfusion h0,fun c cs _=>?_⟩
   obtain ⟨v,w'',h1,h2⟩:=h c cs
   exact ⟨v,w'',h1,stepsIn_wide.2 h2⟩
  all_goals first|exact h|exact h.elim
 | halt x w'=>cases x<;>first|exact h|exact h.elim
theorem ysR {P:Program} {l n:Nat} {ops:Array Oper} (hd:∀ o ∈ ops,yc5 o=true) {i:Nat} {K:Act→World→Prop} {Q:Exit→Act→World→Prop} (hQ:¬ LetsOut Q) {a:Act} {w:World}
  (h:wpOp P ops Q i K a w):wpOpIn (Fence.wide.inRound l) n P ops Q i K a w:=by
 unfold wpOp at h
 unfold wpOpIn
 cases ho:ops[i]? with
 | none=>simp only [ho] at h ⊢;exact h
 | some o =>
  simp only [ho] at h ⊢
  split
  ·rename_i hw;simp only [hw,if_true] at h;exact h.elim (ycy (hd o (Array.mem_of_getElem? ho))) (fun h1=>absurd h1.2 hQ)
  ·rename_i hw;simp only [hw] at h;exact ⟨fun _ _=>trivial,h⟩
theorem yit {P:Program} {l n:Nat} {md:Region.Mode} {ops:Array Oper} (hd:∀ o ∈ ops,yc5 o=true) {Q:Exit→Act→World→Prop} (hQ:¬ LetsOut Q) :
  ∀ (fuel:Nat) (listed:Array Bool) (a:Act) (w:World),wpAny P md ops Q fuel listed a w→wpAnyIn (Fence.wide.inRound l) n P md ops Q fuel listed a w
 | 0,_,_,_,h=>h
 | fuel+1,_,_,_,h=>⟨h.1,fun i hi=>wpOpIn_mono (fun a' w' h'=>yit hd hQ fuel _ a' w' h') (ysR hd hQ (h.2 i hi))⟩
theorem yaw {P:Program} {l n id:Nat} {ops:Array Oper} {S:World→Prop} {Q:Exit→Act→World→Prop} {a:Act} {w:World} (hm:P.follows .mixedOrders=true) (hd:ops.all yc5=true) (hQ:¬ LetsOut Q) (hS:S w.drew)
  (h:S w.drew→wpAnyH P .any ops Q S ops.size (Array.replicate ops.size false) a w.drew):(Code.region id ops true).wpIn (Fence.wide.inRound l) n P Q a w :=
 wpIn_region_any hm (yit (fun o ho=>(Array.all_eq_true_iff_forall_mem.1 hd) o ho) hQ _ _ _ _ (wpAny_of_held _ _ _ _ (h hS)))
theorem ycz (m:Nat) (p:Option Addr) (len c:Nat) (n:Int) (w:World) :
  CallsIn Fence.wide m Tryz.prog 188 #[.slice p len c,.int .i64 n] w fun e w'=>e=.returned (.func (.func 222) #[] #[.pointer (some ⟨w.heap.size+1,0,none⟩),.pointer (some ⟨w.heap.size,0,none⟩)])∧w'=(w.alloc (.cells #[.slice p len c] 39)).alloc (.cells #[.int .i64 n] 3):=by
 refine callsIn_of_wp Tryz.func188 rfl trivial ?_ rfl
 simp only [Tryz.ntmps188,List.size_toArray,List.length_cons,List.length_nil,Nat.reduceAdd,Nat.reduceSub,Array.replicate_succ,Array.replicate_zero,List.push_toArray,List.append_toArray,List.nil_append,List.cons_append]
 gi_wp2
 go_ret
 exact ⟨rfl,rfl⟩
def yo5 (f Bl:Nat) (st:Nat→Nat→Nat × Nat):Prop:=∀ (W:World) (a g:Nat),a<jM→g<jM→W.cell? ⟨Bl,0,none⟩=some (.int .u64 (a:Int))→W.frozen? ⟨Bl,0,none⟩=false →
 Calls Tryz.prog f #[.int .u64 (g:Int),.pointer (some ⟨Bl,0,none⟩)] W fun e W'=>e=.returned (.int .u64 ((st a g).1:Int))∧W'=W.setCell ⟨Bl,0,none⟩ (.int .u64 ((st a g).2:Int))
theorem yhK (Bl:Nat):yo5 146 Bl GY:=by
 intro W a g ha hg hc hf
 have ydx:IntKind.u64.wrap ((g:Int)-(a:Int))=(((GY a g).1:Nat):Int):=by
  show _=(((g+jM-a)%jM:Nat):Int)
  rw [IntKind.wrap_u64];unfold jM at *;omega
 have h2:(GY a g).2=g:=rfl
 rw [h2,← ydx]
 clear ydx ha hg
 go_enter Tryz.func146,Tryz.ntmps146
 go_wp2_with fail
 go_ret
 exact ⟨rfl,rfl⟩
attribute [local go_sem] Oper.semAt_some
def stE (st:Nat→Nat→Nat × Nat):Nat→List Nat→Nat
 | a,[]=>a
 | a,g::gs=>stE st (st a g).2 gs
theorem ygz (st:Nat→Nat→Nat × Nat) (g:Nat):∀ (gs:List Nat) (a:Nat),stE st a (gs++[g])=(st (stE st a gs) g).2
 | [],_=>rfl
 | x::gs,a=>by rw [List.cons_append,stE,ygz st g gs,stE]
theorem ygA (st:Nat→Nat→Nat × Nat) (g:Nat):∀ (gs:List Nat) (a:Nat),stL st a (gs++[g])=stL st a gs++[(st (stE st a gs) g).1]
 | [],_=>rfl
 | x::gs,a=>by rw [List.cons_append,stL,ygA st g gs,stL,stE,List.cons_append]
theorem ymu {st:Nat→Nat→Nat × Nat} (h:∀ a g,a<jM→g<jM→(st a g).2<jM):∀ (gs:List Nat) (a:Nat),a<jM→(∀ x ∈ gs,x<jM)→stE st a gs<jM
 | [],_,ha,_=>ha
 | g::gs,a,ha,hg=>ymu h gs _ (h a g ha (hg g List.mem_cons_self)) (fun x hx=>hg x (List.mem_cons_of_mem _ hx))
def gN (l:List UInt8) (n i:Nat):Nat:=nb ((l.drop (i*n)).take n)
theorem ymV (l:List UInt8) {n:Nat} (h:n≤8) (i:Nat):gN l n i<jM:=yge (by rw [List.length_take];omega)
theorem ygB (l:List UInt8) (n:Nat):∀ k,(List.range k).map (gN l n)=gl n k l
 | 0=>rfl
 | k+1=>by rw [List.range_succ,List.map_append,ygB l n k,yo4];rfl
def gP (l:List UInt8) (n:Nat) {k:Nat} (pre:List (Pl k)):List Nat:=pre.map fun x=>gN l n x.1
theorem yfX (l:List UInt8) (n:Nat) {k:Nat} (pre:List (Pl k)) (x:Pl k):gP l n (pre++[x])=gP l n pre++[gN l n x.1]:=by rw [gP,List.map_append];rfl
theorem ycb (l:List UInt8) (n:Nat) {k:Nat} (pre:List (Pl k)):(gP l n pre).length=pre.length:=List.length_map _
theorem yvt (l:List UInt8) {n:Nat} (h:n≤8) {k:Nat} (pre:List (Pl k)):∀ x ∈ gP l n pre,x<jM:=by
 intro x hx;rw [gP,List.mem_map] at hx;obtain ⟨y,_,rfl⟩:=hx;exact ymV l h _
theorem yiE (l:List UInt8) (n:Nat) {k:Nat} (ys:List (Pl k)) (h:ys.map (·.1)=List.range k):gP l n ys=gl n k l:=by
 rw [← ygB,← h,List.map_map];rfl
theorem ybH {W:World} {B k:Nat} {v:Value} {L:List UInt8} {cs:Array Value} {t:TypeId} {fz:Nat × Nat} (h:W.ownsRow B 5 1 v L.length (zS L)) (hk:W.heap[k]?=some (.cells cs t fz)) (ht:t≠5):some k≠v.ownBlock:=by
 obtain ⟨-,⟨rfl,-⟩|⟨g,cap,cur,rfl,-,hh,-⟩⟩:=h
 ·intro e;cases e
 ·intro e
  have e1:k=g:=Option.some.inj e
  subst e1
  rw [hk] at hh
  cases hh
  exact ht rfl
theorem vV {W W':World} {B:Nat} {v:Value} {L:List UInt8} (h:W.ownsRow B 5 1 v L.length (zS L)) (hk:∀ (k:Nat) (cs:Array Value),W.heap[k]?=some (.cells cs 5 (0,0))→W'.heap[k]?=some (.cells cs 5 (0,0))):W'.ownsRow B 5 1 v L.length (zS L):=by
 obtain ⟨h1,h2|⟨g,cap,cur,hv,hg,hh,h3⟩⟩:=h
 ·exact ⟨h1,.inl h2⟩
 ·exact ⟨h1,.inr ⟨g,cap,cur,hv,hg,hk g cur hh,h3⟩⟩
theorem ycc {W:World} {B:Nat} {v:Value} {L:List UInt8} (h:W.ownsRow B 5 1 v L.length (zS L)):∀ (j:Nat) (o:Obj),v.ownBlock=some j→W.heap[j]?=some o→o.isCells=true:=by
 obtain ⟨-,⟨rfl,-⟩|⟨g,cap,cur,rfl,-,hh,-⟩⟩:=h
 ·intro j o e;cases e
 ·intro j o e ho
  have e1:g=j:=Option.some.inj e
  subst e1
  rw [hh] at ho
  cases ho;rfl
theorem vL {W:World} {g:Nat} {v u:Value} {t:TypeId} (h:W.heap[g]?=some (.cells #[u] t (0,0))):(W.setCell ⟨g,0,none⟩ v).heap[g]?=some (.cells #[v] t (0,0)):=by
 obtain ⟨h1,h2⟩:=Array.getElem?_eq_some_iff.1 h
 unfold World.setCell
 rw [Array.getElem?_eq_getElem (by simpa using h1),Array.getElem_modify]
 simp [h2]
structure ChI (f N M Bl n:Nat) (p:Option Addr) (len c:Nat) (w:World) (v:Value) (L:List UInt8) (a:Nat) (W:World):Prop where
 own:W.ownsRow Bl 5 1 v L.length (zS L)
 out:W.heap[M]?=some (.cells #[v] 39 (0,0))
 st:W.heap[Bl]?=some (.cells #[.int .u64 (a:Int)] 86 (0,0))
 b4:W.heap[N]?=some (.cells #[.int .i64 (n:Int)] 3 (0,0))
 b5:W.heap[N+1]?=some (.cells #[.func (.func f) #[] #[.pointer (some ⟨Bl,0,none⟩)]] 141 (0,0))
 i1:W.heap[M+1]?=some (.cells #[.slice p len c] 39 (0,0))
 i2:W.heap[M+1+1]?=some (.cells #[.int .i64 (n:Int)] 3 (0,0))
 bel:Below Bl w W
section
variable {f N M Bl n : Nat} {p : Option Addr} {len c : Nat} {w W W' : World} {v v' : Value} {L L' : List UInt8} {a a' : Nat}
theorem ChI.keep (h:ChI f N M Bl n p len c w v L a W) {row:Option Nat} (hg:W.grownBy W' row) (hr:∀ r,row=some r→Bl≤r∧∃ o:Obj,W.heap[r]?=some o∧o.isCells=false) (hB:Bl≤W.heap.size):ChI f N M Bl n p len c w v L a W':=by
 have hk:∀ {k:Nat} {o:Obj},W.heap[k]?=some o→o.isCells=true→W'.heap[k]?=some o:=fun h1 h2=>(grownBy_keeps_cells hg (fun r e=>(hr r e).2) h1 h2).trans h1
 exact ⟨vV h.own (fun k cs h1=>hk h1 rfl),hk h.out rfl,hk h.st rfl,hk h.b4 rfl,hk h.b5 rfl,hk h.i1 rfl,hk h.i2 rfl,h.bel.grown hg hB (fun k e=>(hr k e).1)⟩
theorem ChI.lt (h:ChI f N M Bl n p len c w v L a W):Bl≤W.heap.size:=Nat.le_of_lt (Array.getElem?_eq_some_iff.1 h.st).1
theorem ChI.drew (h:ChI f N M Bl n p len c w v L a W):ChI f N M Bl n p len c w v L a W.drew:=⟨h.own,h.out,h.st,h.b4,h.b5,h.i1,h.i2,h.bel.drew⟩
theorem ChI.call (h:ChI f N M Bl n p len c w v L a W) (h1:Bl<N) (h2:Bl<M) (a':Nat):ChI f N M Bl n p len c w v L a' (W.setCell ⟨Bl,0,none⟩ (.int .u64 (a':Int))):=by
 have hk:∀ {k:Nat} {o:Obj},k≠Bl→W.heap[k]?=some o→(W.setCell ⟨Bl,0,none⟩ (.int .u64 (a':Int))).heap[k]?=some o:=fun hne h1=>(Below.heap_setCell W ⟨Bl,0,none⟩ _ _ hne).trans h1
 refine ⟨vV h.own (fun k cs h3=>hk ?_ h3),hk (by omega) h.out,vL h.st,hk (by omega) h.b4,hk (by omega) h.b5,hk (by omega) h.i1,hk (by omega) h.i2,h.bel.setCell (p:=⟨Bl,0,none⟩) (Nat.le_refl _) _⟩
 rintro rfl
 rw [h.st] at h3;cases h3
theorem ChI.app (h:ChI f N M Bl n p len c w v L a W) (hM:Bl<M) (hg:Grew Bl W v L' W' v'):W'.ownsRow Bl 5 1 v' L'.length (zS L')∧ChI f N M Bl n p len c w v' L' a (W'.setCell ⟨M,0,none⟩ v')∧KeepsOthers W (W'.setCell ⟨M,0,none⟩ v')∧W'.heap[N]?=some (.cells #[.int .i64 (n:Int)] 3 (0,0))∧W'.heap[N+1]?=some (.cells #[.func (.func f) #[] #[.pointer (some ⟨Bl,0,none⟩)]] 141 (0,0))∧W'.heap[M]?=some (.cells #[v] 39 (0,0))∧Below Bl W (W'.setCell ⟨M,0,none⟩ v'):=by
 have hk:∀ {k:Nat} {cs:Array Value} {t:TypeId},W.heap[k]?=some (.cells cs t (0,0))→t≠5→W'.heap[k]?=some (.cells cs t (0,0)):=fun h1 h2=>(hg.grown.block _ (Array.getElem?_eq_some_iff.1 h1).1 (ybH h.own h1 h2)).trans h1
 have hs:∀ {k:Nat} {o:Obj},k≠M→W'.heap[k]?=some o→(W'.setCell ⟨M,0,none⟩ v').heap[k]?=some o:=fun hne h1=>(Below.heap_setCell W' ⟨M,0,none⟩ _ _ hne).trans h1
 have hne:∀ {k:Nat} {cs:Array Value} {t:TypeId},W'.heap[k]?=some (.cells cs t (0,0))→t≠39→k≠M:=by
  rintro k cs t h1 h2 rfl
  rw [hk h.out (by decide)] at h1;cases h1;exact h2 rfl
 have hO:=hk h.out (by decide)
 have hKO:KeepsOthers W W':=KeepsOthers.of_grownBy hg.grown (ycc h.own)
 refine ⟨hg.own,⟨vV hg.own (fun k cs h3=>hs (hne h3 (by decide)) h3),vL hO,?_,?_,?_,?_,?_,?_⟩,hKO.trans (KeepsOthers.setCell _ _ _),hk h.b4 (by decide),hk h.b5 (by decide),hO,((Below.refl Bl W).grown hg.grown h.lt (fun k e=>GR h.own e)).setCell (p:=⟨M,0,none⟩) (Nat.le_of_lt hM) _⟩
 ·have:=hk h.st (by decide);exact hs (hne this (by decide)) this
 ·have:=hk h.b4 (by decide);exact hs (hne this (by decide)) this
 ·have:=hk h.b5 (by decide);exact hs (hne this (by decide)) this
 ·have:=hk h.i1 (by decide);exact hs (by omega) this
 ·have:=hk h.i2 (by decide);exact hs (by omega) this
 ·have hb1:Below Bl w W':=h.bel.grown hg.grown h.lt (fun k e=>GR h.own e)
  exact hb1.setCell (p:=⟨M,0,none⟩) (Nat.le_of_lt hM) _
end
end
end Go.Proofs.YtgepehlpjpccaaaGreatDoor
