/- Contracts. -/
import Derived.Test.YtgepehlpjpccaaaGreatDoorWDV
set_option maxHeartbeats 4000000
set_option maxRecDepth 100000
namespace Go.Proofs.YtgepehlpjpccaaaGreatDoor
open Go.RowKit
open Go.Lib
theorem yaX {w:World} {B:Nat} {q:Oa} {n d:Nat} {L:Lb} (h:w.ownsRow B 5 1 (.slice q n d) L.length (zG L)):q=none→d=0:=by
 rintro rfl
 obtain ⟨-,⟨h1,-⟩|⟨g,cap,cur,h1,-⟩⟩:=h
 ·cases h1;rfl
 ·cases h1
def ycb (L:Lb) (len:Nat) (w:World) (e:Ending) (w':World):Prop:=Be w w'∧∃ q d,e=.returned (.tuple #[.slice q len d,.int .i64 0])∧Hid (len≤d)∧Hid (q=none→d=0)∧Bs w' q L
theorem zR.bc {L:Lb} {len:Nat} {w w':World} {e:Ending} (h:zR L w e w') (hL:L.length=len):ycb L len w e w':=by
 obtain ⟨h1,v,he,ho⟩:=h
 obtain ⟨q,d,hv,hb,hd⟩:=yS ho
 subst hL
 subst hv
 exact ⟨h1,q,d,he,h_ hd,h_ (yaX ho),hb⟩
theorem yuw (p:Oa) (c n:Nat) (l:Lb) (w:World) (h1:1≤n) (h2:n≤8) (hl:l.length≤20000) (hc:l.length≤c) (hpc:p=none→c=0) (hb:Bs w p l) :
  Calls Tryz.prog 98 #[.slice p l.length c,.int .i64 (n:Int)] w (zR (yeV l n) w):=by
 have HBW:Hid (Be w (w.alloc (.cells #[.int .u64 0] 86))):=h_ ((Below.refl _ w).alloc nl _)
 have HC:=h_ (yi7 146 yb0 (fun a g _ h=>⟨Nat.mod_lt _ (by decide),h⟩) (fun _ _=>rfl) p c n w.heap.size l (w.alloc (.cells #[.int .u64 0] 86)) h1 h2 hl hc hpc (yis _) (hb.bsN.keep HBW.out) (World.alloc_heap_new w _))
 obtain ⟨R,HR⟩:=ey (yeV l n)
 have e:chR yb0 n (l.length/n) 0 l=R:=HR.out.symm
 rw [e] at HC
 rw [← HR.out]
 clear e
 obtain ⟨len,HL⟩:=ey (l.length)
 rw [← HL.out] at hl hc HC ⊢
 clear hb hpc
 go_in
 go_wp2_with fail
 refine (HC.out).mono ?_
 rintro e w' ⟨hb1,v,rfl,ho⟩
 obtain ⟨q,d,rfl,-,-⟩:=yS ho
 have HO:=h_ ho
 obtain ⟨m,HM⟩:=ey (R.length)
 rw [← HM.out] at HO ⊢
 have HB:=h_ (HBW.out.trans hb1)
 clear ho hb1
 go_wp2
 go_ret2
 exact ⟨HB.out,_,rfl,by rw [← HM.out];exact HO.out⟩
end Go.Proofs.YtgepehlpjpccaaaGreatDoor
namespace Go.Proofs.YtgepehlpjpccaaaGreatDoor
def bv (b:Nat→Nat) (q:Nat):Nat→Nat
 | 0=>0
 | r+1=>bv b q r+b (8*q+r)*2^(7-r)
theorem ynb (b:Nat→Nat) (q:Nat):∀ r,r≤8→2^(8-r) ∣ bv b q r
 | 0,_=>⟨0,rfl⟩
 | r+1,h=>by
  have h1:=ynb b q r (by omega)
  have e:8-r=(7-r)+1:=by omega
  rw [e,Nat.pow_succ] at h1
  have h2:2^(7-r) ∣ bv b q r:=Nat.dvd_trans ⟨2,rfl⟩ h1
  have e2:8-(r+1)=7-r:=by omega
  rw [e2,bv]
  exact Nat.dvd_add h2 ⟨_,Nat.mul_comm _ _⟩
theorem ynB (b:Nat→Nat) (hb:∀ t,b t<2) (q:Nat):∀ r,r≤8→bv b q r+2^(8-r)≤256
 | 0,_=>by rw [bv];decide
 | r+1,h=>by
  have h1:=ynB b hb q r (by omega)
  have e:8-r=(7-r)+1:=by omega
  rw [e,Nat.pow_succ] at h1
  have e2:8-(r+1)=7-r:=by omega
  have h3:b (8*q+r)*2^(7-r)≤1*2^(7-r):=Nat.mul_le_mul_right _ (by have:=hb (8*q+r);omega)
  rw [e2,bv];omega
theorem ykJ (b:Nat→Nat) (hb:∀ t,b t<2) (q:Nat) {r:Nat} (h:r≤8):(UInt8.ofNat (bv b q r)).toNat=bv b q r:=by
 rw [UInt8.toNat_ofNat']
 refine Nat.mod_eq_of_lt ?_
 have:=ynB b hb q r h
 have h2:0<2^(8-r):=Nat.pow_pos (by decide)
 show _<256
 omega
theorem yxd (b:Nat→Nat) (hb:∀ t,b t<2) (q:Nat) {r:Nat} (h:r<8):bv b q r ||| b (8*q+r)*2^(7-r)=bv b q (r+1):=by
 obtain ⟨a,ha⟩:=ynb b q r (by omega)
 have hlt:b (8*q+r)*2^(7-r)<2^(8-r):=by
  have e:8-r=(7-r)+1:=by omega
  have h3:b (8*q+r)*2^(7-r)≤1*2^(7-r):=Nat.mul_le_mul_right _ (by have:=hb (8*q+r);omega)
  have h2:0<2^(7-r):=Nat.pow_pos (by decide)
  rw [e,Nat.pow_succ];omega
 rw [bv,ha,Nat.two_pow_add_eq_or_of_lt hlt]
def pkL (b:Nat→Nat) (T:Nat):Lb:=(List.range ((T+7)/8)).map fun q=>UInt8.ofNat (bv b q (min 8 (T-8*q)))
theorem vK (b:Nat→Nat) (T:Nat):(pkL b T).length=(T+7)/8:=by simp [pkL]
theorem ync (b:Nat→Nat) {T q:Nat} (h:q<(T+7)/8):(pkL b T).getD q 0=UInt8.ofNat (bv b q (min 8 (T-8*q))):=by
 rw [List.getD_eq_getElem?_getD,pkL,List.getElem?_map,List.getElem?_range h];rfl
theorem ypV (b:Nat→Nat) {T:Nat} (h:T%8=0):pkL b (T+1)=pkL b T++[UInt8.ofNat (bv b (T/8) 1)]:=by
 have e1:(T+1+7)/8=(T+7)/8+1:=by omega
 have e2:(T+7)/8=T/8:=by omega
 rw [pkL,e1,List.range_succ,List.map_append,List.map_cons,List.map_nil,e2]
 have e3:min 8 (T+1-8*(T/8))=1:=by omega
 rw [e3,pkL,e2]
 congr 1
 refine List.map_congr_left fun q hq=>?_
 rw [List.mem_range] at hq
 have e4:min 8 (T+1-8*q)=min 8 (T-8*q):=by omega
 rw [e4]
theorem ypW (b:Nat→Nat) {T:Nat} (h:T%8≠0):pkL b (T+1)=(pkL b T).set (T/8) (UInt8.ofNat (bv b (T/8) (T%8+1))):=by
 have e1:(T+1+7)/8=(T+7)/8:=by omega
 refine List.ext_getElem? fun q=>?_
 rw [List.getElem?_set,pkL,pkL,e1]
 by_cases hq:q<(T+7)/8
 ·rw [List.getElem?_map,List.getElem?_range hq,Option.map_some]
  by_cases e:T/8=q
  ·rw [if_pos e,if_pos (by rw [List.length_map,List.length_range];omega),← e]
   have e3:min 8 (T+1-8*(T/8))=T%8+1:=by omega
   rw [e3]
  ·rw [if_neg e,List.getElem?_map,List.getElem?_range hq,Option.map_some]
   have e4:min 8 (T+1-8*q)=min 8 (T-8*q):=by omega
   rw [e4]
 ·rw [List.getElem?_eq_none (by rw [List.length_map,List.length_range];omega),if_neg (by omega),List.getElem?_eq_none (by rw [List.length_map,List.length_range];omega)]
abbrev bl (x:Nat):Nat:=Lib.bitLen x
theorem ysP:∀ (f x:Nat),Lib.bitLenAux f x≤f
 | 0,_=>Nat.le_refl _
 | f+1,x=>by
  rw [Lib.bitLenAux]
  split
  ·omega
  ·have:=ysP f (x/2);omega
theorem ynC (x:Nat):bl x≤64:=ysP 64 x
def mnL (gs:List Nat):Nat:=gs.foldl min 18446744073709551615
def mxL (gs:List Nat):Nat:=gs.foldl max 0
theorem yeu:∀ (gs:List Nat) (a:Nat),gs.foldl min a≤a∧∀ g ∈ gs,gs.foldl min a≤g
 | [],_=>⟨Nat.le_refl _,fun _ h=>by cases h⟩
 | x::gs,a=>by
  have h:=yeu gs (min a x)
  refine ⟨Nat.le_trans h.1 (Nat.min_le_left _ _),fun g hg=>?_⟩
  rw [List.mem_cons] at hg
  rcases hg with rfl|hg
  ·exact Nat.le_trans h.1 (Nat.min_le_right _ _)
  ·exact h.2 g hg
theorem yhw:∀ (gs:List Nat) (a:Nat),a≤gs.foldl max a∧∀ g ∈ gs,g≤gs.foldl max a
 | [],_=>⟨Nat.le_refl _,fun _ h=>by cases h⟩
 | x::gs,a=>by
  have h:=yhw gs (max a x)
  refine ⟨Nat.le_trans (Nat.le_max_left _ _) h.1,fun g hg=>?_⟩
  rw [List.mem_cons] at hg
  rcases hg with rfl|hg
  ·exact Nat.le_trans (Nat.le_max_right _ _) h.1
  ·exact h.2 g hg
theorem ygN {gs:List Nat} {g:Nat} (h:g ∈ gs):mnL gs≤g:=(yeu gs _).2 g h
theorem ysQ {gs:List Nat} {g:Nat} (h:g ∈ gs):g≤mxL gs:=(yhw gs _).2 g h
theorem yev {M:Nat}:∀ (gs:List Nat) (a:Nat),a<M→(∀ g ∈ gs,g<M)→gs.foldl max a<M
 | [],_,h,_=>h
 | x::gs,_,h,hg=>yev gs _ (Nat.max_lt.2 ⟨h,hg x List.mem_cons_self⟩) (fun g h1=>hg g (List.mem_cons_of_mem _ h1))
theorem ynd {gs:List Nat} (h:∀ g ∈ gs,g<zT):mxL gs<zT:=yev gs 0 (by decide) h
theorem ysR (gs:List Nat):mnL gs<zT:=Nat.lt_of_le_of_lt (yeu gs _).1 (by decide)
theorem ywM {gs:List Nat} (h:gs≠[]):mnL gs≤mxL gs:=by
 cases gs with
 | nil=>exact absurd rfl h
 | cons x gs=>exact Nat.le_trans (ygN List.mem_cons_self) (ysQ List.mem_cons_self)
def wdL (gs:List Nat):Nat:=bl (mxL gs-mnL gs)
def btF (gs:List Nat) (m w t:Nat):Nat:=(gs.getD (t/w) 0-m)/2^(w-1-t%w)%2
theorem yne (gs:List Nat) (m w t:Nat):btF gs m w t<2:=Nat.mod_lt _ (by decide)
theorem ynf (gs:List Nat) (m:Nat) {w i j:Nat} (hj:j<w):btF gs m w (i*w+j)=(gs.getD i 0-m)/2^(w-1-j)%2:=by
 have h1:(i*w+j)/w=i:=by rw [Nat.mul_comm,Nat.mul_add_div (by omega),Nat.div_eq_of_lt hj,Nat.add_zero]
 have h2:(i*w+j)%w=j:=by rw [Nat.mul_comm,Nat.mul_add_mod,Nat.mod_eq_of_lt hj]
 rw [btF,h1,h2]
def pkF (gs:List Nat):Lb:=pkL (btF gs (mnL gs) (wdL gs)) (gs.length*wdL gs)
def pkB (n:Nat) (gs:List Nat):Lb:=if gs.length=0 then be 4 0 else be 4 gs.length++be n (mnL gs)++[UInt8.ofNat (wdL gs)]++pkF gs
def ydQ (n:Nat) (gs:List Nat) (rest:Lb):Lb:=pkB n gs++rest
end Go.Proofs.YtgepehlpjpccaaaGreatDoor
namespace Go.Proofs
open Go.Proofs.YtgepehlpjpccaaaGreatDoor
open Go.Shelf
def Tryz.lays129_ren:Go.Shelf.Ren:=⟨fun|129=>190|n=>n,fun|3=>3|4=>4|5=>5|9=>9|46=>50|53=>86|n=>n,fun|s=>s⟩
theorem Tryz.lays129:Go.Proofs.Lays.n129 Tryz.prog Tryz.lays129_ren:={
 mixed:=by kernel_rfl
 f129:=Tryz.func190.trans (congrArg some (by kernel_rfl))
 t3:=Tryz.underlying3
 a3:=Tryz.isAgg3
 z3:=Tryz.sizeOf3
 v3:=Tryz.zeroValue3
 t4:=Tryz.underlying4
 a4:=Tryz.isAgg4
 z4:=Tryz.sizeOf4
 v4:=Tryz.zeroValue4
 t5:=Tryz.underlying5
 a5:=Tryz.isAgg5
 z5:=Tryz.sizeOf5
 v5:=Tryz.zeroValue5
 t9:=Tryz.underlying9
 a9:=Tryz.isAgg9
 z9:=Tryz.sizeOf9
 v9:=Tryz.zeroValue9
 t46:=Tryz.underlying50
 a46:=Tryz.isAgg50
 z46:=Tryz.sizeOf50
 v46:=Tryz.zeroValue50
 t53:=Tryz.underlying86
 a53:=Tryz.isAgg86
 z53:=Tryz.sizeOf86
 v53:=Tryz.zeroValue86 }
theorem Tryz.len64_any (x:Nat) (w:World) (h:x<18446744073709551616):Calls Tryz.prog 190 #[.int .u64 (x:Int)] w (Qp (.int .i64 (Lib.bitLen x:Int)) w) :=
 (Any.bits_Len64 Tryz.lays129 (x:Int) w (by omega) (by omega)).mono fun e w' ⟨h1,h2⟩=>⟨by rw [h1,Int.toNat_natCast],h2.symm⟩
end Go.Proofs
namespace Go.Proofs.YtgepehlpjpccaaaGreatDoor
open Go.RowKit Go.Shelf
open Go.Lib
attribute [local go_sem] Oper.semAt_some
structure SpI (N n:Nat) (p:Oa) (len c:Nat) (w:World) (a z:Nat) (W:World):Prop where
 b6:W.heap[N]?=some (.cells #[.int .u64 (a:Int)] 86 (0,0))
 b7:W.heap[N+1]?=some (.cells #[.int .u64 (z:Int)] 86 (0,0))
 i1:W.heap[N+1+1]?=some (.cells #[.slice p len c] 39 (0,0))
 i2:W.heap[N+1+1+1]?=some (.cells #[.int .i64 (n:Int)] 3 (0,0))
 bel:Below N w W
section
variable {N n : Nat} {p : Oa} {len c : Nat} {w W W' : World} {a z : Nat}
theorem SpI.keep (h:SpI N n p len c w a z W) {row:Option Nat} (hg:W.grownBy W' row) (hr:∀ r,row=some r→N≤r∧∃ o:Obj,W.heap[r]?=some o∧o.isCells=false) (hB:N≤W.heap.size):SpI N n p len c w a z W':=by
 have hk:∀ {k:Nat} {o:Obj},W.heap[k]?=some o→o.isCells=true→W'.heap[k]?=some o:=fun h1 h2=>(grownBy_keeps_cells hg (fun r e=>(hr r e).2) h1 h2).trans h1
 exact ⟨hk h.b6 rfl,hk h.b7 rfl,hk h.i1 rfl,hk h.i2 rfl,h.bel.grown hg hB (fun k e=>(hr k e).1)⟩
theorem SpI.lt (h:SpI N n p len c w a z W):N≤W.heap.size:=Nat.le_of_lt (Array.getElem?_eq_some_iff.1 h.b6).1
theorem SpI.put6 (h:SpI N n p len c w a z W) (a':Nat):SpI N n p len c w a' z (W.setCell ⟨N,0,none⟩ (.int .u64 (a':Int))):=by
 have hk:∀ {k:Nat} {o:Obj},k≠N→W.heap[k]?=some o→(W.setCell ⟨N,0,none⟩ (.int .u64 (a':Int))).heap[k]?=some o:=fun hne h1=>(Below.heap_setCell W ⟨N,0,none⟩ _ _ hne).trans h1
 exact ⟨uB h.b6,hk (by omega) h.b7,hk (by omega) h.i1,hk (by omega) h.i2,h.bel.setCell (p:=⟨N,0,none⟩) nl _⟩
theorem SpI.put7 (h:SpI N n p len c w a z W) (z':Nat):SpI N n p len c w a z' (W.setCell ⟨N+1,0,none⟩ (.int .u64 (z':Int))):=by
 have hk:∀ {k:Nat} {o:Obj},k≠N+1→W.heap[k]?=some o→(W.setCell ⟨N+1,0,none⟩ (.int .u64 (z':Int))).heap[k]?=some o:=fun hne h1=>(Below.heap_setCell W ⟨N+1,0,none⟩ _ _ hne).trans h1
 exact ⟨hk (by omega) h.b6,uB h.b7,hk (by omega) h.i1,hk (by omega) h.i2,h.bel.setCell (p:=⟨N+1,0,none⟩) (by simp) _⟩
end
def ylN (gs:List Nat) (w:World) (e:Ending) (w':World):Prop:=Be w w'∧e=.returned (.tuple #[.int .u64 (mnL gs:Int),.int .i64 (wdL gs:Int)])
theorem yux (p:Oa) (c n len k:Nat) (l:Lb) (w:World) (HL:Hid (len=l.length)) (HK:Hid (k=len/n)) (h1:1≤n) (h2:n≤8) (hl:len≤1048576) (hc:len≤c) (hk0:0<k) (hbs:Bs w p l) :
  Calls Tryz.prog 149 #[.slice p len c,.int .i64 (n:Int)] w (ylN (gl n k l) w):=by
 have HBS:Hid (BsN w.heap.size w p l):=h_ hbs.bsN
 obtain ⟨gs,HGS⟩:=ey (gl n k l)
 have HGL:Hid (gs≠[]∧∀ g ∈ gs,g<zT):=h_ (by
  rw [HGS.out]
  exact ⟨fun e=>by rw [← List.length_eq_zero_iff,uL] at e;omega,ykI h2 k l⟩)
 rw [← HGS.out]
 clear hbs
 refine (callsIn_wide (n:=9)).1 ?_
 refine callsIn_of_wp_marks Tryz.func149 rfl trivial ?_ rfl
 simp only [Tryz.ntmps149,List.size_toArray,List.length_cons,List.length_nil,Nat.reduceAdd,Nat.reduceSub,Array.replicate_succ,Array.replicate_zero,List.push_toArray,List.append_toArray,List.nil_append,List.cons_append]
 gi_wp2_with (refine ⟨trivial,?_⟩;gi_at_call 188;refine (yet _ _ _ _ _ _).mono ?_;rintro e w' ⟨rfl,rfl⟩)
 obtain ⟨W0,hW0⟩:∃ W0,((((w.alloc (.cells #[.int .u64 18446744073709551615] 86)).alloc (.cells #[.int .u64 0] 86)).alloc (.cells #[.slice p len c] 39)).alloc (.cells #[.int .i64 (n:Int)] 3))=W0:=⟨_,rfl⟩
 have hs0:W0.heap.size=w.heap.size+4:=by rw [← hW0];simp
 have hI0:SpI w.heap.size n p len c w 18446744073709551615 0 W0:=by
  rw [← hW0]
  refine ⟨?_,?_,?_,?_,((((Below.refl _ w).alloc nl _).alloc (by simp) _).alloc (by simp<;>omega) _).alloc (by simp<;>omega) _⟩
  ·exact (Below.heap_alloc _ _ _ (by simp<;>omega)).trans ((Below.heap_alloc _ _ _ (by simp<;>omega)).trans ((Below.heap_alloc _ _ _ (by simp)).trans (World.alloc_heap_new w _)))
  ·refine (Below.heap_alloc _ _ _ (by simp<;>omega)).trans ((Below.heap_alloc _ _ _ (by simp)).trans ?_)
   have:=World.alloc_heap_new (w.alloc (.cells #[.int .u64 18446744073709551615] 86)) (.cells #[.int .u64 0] 86);rwa [World.size_alloc] at this
  ·refine (Below.heap_alloc _ _ _ (by simp)).trans ?_
   have:=World.alloc_heap_new ((w.alloc (.cells #[.int .u64 18446744073709551615] 86)).alloc (.cells #[.int .u64 0] 86)) (.cells #[.slice p len c] 39);rwa [World.size_alloc,World.size_alloc] at this
  ·have:=World.alloc_heap_new (((w.alloc (.cells #[.int .u64 18446744073709551615] 86)).alloc (.cells #[.int .u64 0] 86)).alloc (.cells #[.slice p len c] 39)) (.cells #[.int .i64 (n:Int)] 3);rwa [World.size_alloc,World.size_alloc,World.size_alloc] at this
 rw [hW0]
 refine wpIn_rangeFunc_ownF rfl (by omega) (gf:=222) (lb:=#[.pointer (some ⟨w.heap.size+1+1+1,0,none⟩),.pointer (some ⟨w.heap.size+1+1,0,none⟩)]) rfl trivial (enters_of Tryz.func222 (by kernel_rfl) rfl)
  (ycp _ (by omega) (w.heap.size+1+1+1) (w.heap.size+1+1) w.heap.size n len k c l p HL HK h1 h2 hl hc W0 (by omega) (by omega) (by omega) (by simp [World.cell?,hI0.i2]) (by simp [World.cell?,hI0.i1]) (HBS.out.keep hI0.bel)) vF.trans
  (fun W lo o o' hlo ho hc hw=>⟨(Below.refl _ W).grown (grownBy_putObj' W lo o') (by have:=(Array.getElem?_eq_some_iff.1 ho).1;omega) (fun k e=>by cases e;omega),World.putObj_heap_other (by omega),World.putObj_heap_other (by omega)⟩) bR (fun _=>rfl)
  (fun pre W=>SpI w.heap.size n p len c w ((gP l n pre).foldl min 18446744073709551615) ((gP l n pre).foldl max 0) W)
  (fun _ _ _=>False)
  (fun s W W' row h hg hr=>h.keep hg (fun r e=>⟨by have:=(hr r e).1;omega,(hr r e).2⟩) h.lt)
  (fun _ _ _ _ _ h _ _=>h)
  hI0 ?a1 ?assign ?body ?done ?stop
 case assign =>
  intro lo x W K hK
  gi_wp2
  exact hK
 case body =>
  intro lo pre x W hI hlen
  obtain ⟨a,HA⟩:=ey ((gP l n pre).foldl min 18446744073709551615)
  obtain ⟨z,HZ⟩:=ey ((gP l n pre).foldl max 0)
  rw [← HA.out,← HZ.out] at hI
  obtain ⟨g,HG⟩:=ey (gN l n x.1)
  obtain ⟨a2,HA2⟩:=ey (min a g)
  obtain ⟨z2,HZ2⟩:=ey (max z g)
  have e10:(nb ((l.drop (x.1*n)).take n))=g:=HG.out.symm
  have yjs:min (a:Int) (g:Int)=(a2:Int):=by rw [HA2.out];omega
  have hmax:max (z:Int) (g:Int)=(z2:Int):=by rw [HZ2.out];omega
  have c6:W.cell? ⟨w.heap.size,0,none⟩=some (.int .u64 (a:Int)):=by simp [World.cell?,hI.b6]
  have f6:W.frozen? ⟨w.heap.size,0,none⟩=false:=by simp [World.frozen?,hI.b6]
  have hI1:=hI.put6 a2
  have hI2:=hI1.put7 z2
  have hF:KeepsOthers W ((W.setCell ⟨w.heap.size,0,none⟩ (.int .u64 (a2:Int))).setCell ⟨w.heap.size+1,0,none⟩ (.int .u64 (z2:Int)))∧vF w.heap.size (w.heap.size+1+1+1) (w.heap.size+1+1) W ((W.setCell ⟨w.heap.size,0,none⟩ (.int .u64 (a2:Int))).setCell ⟨w.heap.size+1,0,none⟩ (.int .u64 (z2:Int))) ∧
    SpI w.heap.size n p len c w ((gP l n (pre++[x])).foldl min 18446744073709551615) ((gP l n (pre++[x])).foldl max 0) ((W.setCell ⟨w.heap.size,0,none⟩ (.int .u64 (a2:Int))).setCell ⟨w.heap.size+1,0,none⟩ (.int .u64 (z2:Int))):=by
   refine ⟨(KeepsOthers.setCell _ _ _).trans (KeepsOthers.setCell _ _ _),⟨((Below.refl _ W).setCell (p:=⟨w.heap.size,0,none⟩) nl _).setCell (p:=⟨w.heap.size+1,0,none⟩) (by simp) _,hI2.i2.trans hI.i2.symm,hI2.i1.trans hI.i1.symm⟩,?_⟩
   rw [yjX,List.foldl_append,List.foldl_append,← HA.out,← HZ.out,← HG.out]
   show SpI _ _ _ _ _ _ (min a g) (max z g) _
   rw [← HA2.out,← HZ2.out]
   exact hI2
  have HFh:=h_ hF
  obtain ⟨W1,hW1⟩:∃ W1,W.setCell ⟨w.heap.size,0,none⟩ (.int .u64 (a2:Int))=W1:=⟨_,rfl⟩
  rw [hW1] at hI1 HFh
  have c7:W1.cell? ⟨w.heap.size+1,0,none⟩=some (.int .u64 (z:Int)):=by simp [World.cell?,hI1.b7]
  have f7:W1.frozen? ⟨w.heap.size+1,0,none⟩=false:=by simp [World.frozen?,hI1.b7]
  simp only [e10]
  clear hF hI hI1 hI2 e10
  gi_wp2
  exact HFh.out
 case done =>
  intro D xs W hD hxs hI hK
  rw [yna l n xs hxs,← HGS.out] at hI
  have hI':SpI w.heap.size n p len c w (mnL gs) (mxL gs) W:=hI
  obtain ⟨a,HA⟩:=ey (mnL gs)
  obtain ⟨z,HZ⟩:=ey (mxL gs)
  obtain ⟨d,HD⟩:=ey (z-a)
  have yD:Hid (∀ W5:World,W5=W.drew→(W5.putObj D (.deferred none)=W5.putObj D (.deferred none)∧ylN gs w (.returned (.tuple #[.int .u64 (a:Int),.int .i64 (Lib.bitLen d:Int)])) (W5.putObj D (.deferred none)))):=h_ (fun W5 h5=>⟨rfl,by
   rw [h5];exact hI'.bel.drew.trans (bR.grown (grownBy_putObj' W.drew D _) hI'.lt (fun k e=>by cases e;omega)),by rw [HA.out,HD.out,HA.out,HZ.out];rfl⟩)
  rw [← HA.out,← HZ.out] at hI'
  have ybn:IntKind.u64.wrap ((z:Int)-(a:Int))=(d:Int):=by
   have q1:=ywM HGL.out.1
   have q2:=ynd HGL.out.2
   rw [← HA.out,← HZ.out] at q1
   rw [← HZ.out] at q2
   rw [IntKind.wrap_u64,HD.out];unfold zT at q2;omega
  have HC:=h_ (Tryz.len64_any d W.drew (by
   have q2:=ynd HGL.out.2
   rw [← HZ.out] at q2
   rw [HD.out];unfold zT at q2;omega))
  have c6:W.drew.cell? ⟨w.heap.size,0,none⟩=some (.int .u64 (a:Int)):=by show W.cell? _=_;simp [World.cell?,hI'.b6]
  have c7:W.drew.cell? ⟨w.heap.size+1,0,none⟩=some (.int .u64 (z:Int)):=by show W.cell? _=_;simp [World.cell?,hI'.b7]
  have hKD:W.drew.heap[D]?=some (.deferred (some [])):=hK
  clear hI hI'
  gi_wp2
  refine wpIn_wide.2 ?_
  refine wp_region_noPanic ?_
  refine wp_region_held_drew (S:=fun W'=>W'.cell? ⟨w.heap.size,0,none⟩=some (.int .u64 (a:Int))∧W'.cell? ⟨w.heap.size+1,0,none⟩=some (.int .u64 (z:Int))) (by kernel_rfl) ⟨c6,c7⟩ (fun hHeld=>?_)
  refine tk (i:=0) (v:=.int .u64 (a:Int)) rfl (Or.inl ⟨by rfl,by intro W' hSw;obtain ⟨e6,e7⟩:=hSw;go_simp⟩) ?_
  simp only [sl]
  refine tk (i:=1) (v:=.int .u64 (z:Int)) rfl (Or.inl ⟨by rfl,by intro W' hSw;obtain ⟨e6,e7⟩:=hSw;go_simp⟩) ?_
  simp only [sl]
  refine tk (i:=2) (v:=.int .u64 (a:Int)) rfl (Or.inl ⟨by rfl,by intro W' hSw;obtain ⟨e6,e7⟩:=hSw;go_simp⟩) ?_
  simp only [sl]
  refine tk (i:=3) (v:=.int .u64 (d:Int)) rfl (Or.inl ⟨by rfl,by intro W' hSw;obtain ⟨e6,e7⟩:=hSw;go_simp⟩) ?_
  simp only [sl]
  refine oN (i:=4) rfl fun K hK=>?_
  go_simp
  refine (HC.out).mono ?_
  rintro e W' ⟨rfl,rfl⟩
  refine hK.out _ _ (⟨c6,c7⟩) (fun hHeld=>?_)
  clear hK K
  refine oN (i:=5) rfl fun K hK=>?_
  go_simp
  refine hK.out _ _ (⟨c6,c7⟩) (fun hHeld=>?_)
  clear hK K
  refine oN (i:=6) rfl fun K hK=>?_
  go_simp
  refine hK.out _ _ (⟨c6,c7⟩) (fun hHeld=>?_)
  clear hK K
  refine wpAnyH_done (by kernel_rfl) ?_ _
  refine NoPanic.normal ?_
  gi_wp2
  refine ⟨by simp,.inl ⟨_,_,rfl,run_takeDeferred hKD,?_⟩⟩
  refine ⟨_,?_,(yD.out _ rfl).2⟩
  simp [results,Tryz.f149,go_sem]
 case stop =>
  rintro D c pre W hD _ h
  exact h.elim
attribute [local go_sem] Oper.semAt_some
theorem yrf {b b':Nat→Nat} {T:Nat} (h:∀ t,t<T→b t=b' t):pkL b T=pkL b' T:=by
 have hv:∀ q r,8*q+r≤T→bv b q r=bv b' q r:=by
  intro q r
  induction r with
  | zero=>intro _;rfl
  | succ r ih=>intro hr;rw [bv,bv,ih (by omega),h (8*q+r) (by omega)]
 unfold pkL
 refine List.map_congr_left fun q hq=>?_
 rw [List.mem_range] at hq
 rw [hv q _ (by omega)]
theorem ypa {gs:List Nat} {g m w t:Nat} (h:t<gs.length*w):btF (gs++[g]) m w t=btF gs m w t:=by
 have hw:0<w:=by
  rcases Nat.eq_zero_or_pos w with h0|h0
  ·rw [h0,Nat.mul_zero] at h;omega
  ·exact h0
 have h1:t/w<gs.length:=(Nat.div_lt_iff_lt_mul hw).2 h
 rw [btF,btF,List.getD_eq_getElem?_getD,List.getD_eq_getElem?_getD,List.getElem?_append_left h1]
structure PkI (N n:Nat) (p:Oa) (len c m wd:Nat) (w:World) (v:Value) (L:Lb) (T:Nat) (W:World):Prop where
 own:W.ownsRow N 5 1 v L.length (zG L)
 b6:W.heap[N]?=some (.cells #[.int .u64 (m:Int)] 86 (0,0))
 b7:W.heap[N+1]?=some (.cells #[.int .i64 (wd:Int)] 3 (0,0))
 out:W.heap[N+1+1]?=some (.cells #[v] 39 (0,0))
 b10:W.heap[N+1+1+1]?=some (.cells #[.int .i64 (T:Int)] 3 (0,0))
 i1:W.heap[N+1+1+1+1]?=some (.cells #[.slice p len c] 39 (0,0))
 i2:W.heap[N+1+1+1+1+1]?=some (.cells #[.int .i64 (n:Int)] 3 (0,0))
 bel:Below N w W
section
variable {N n : Nat} {p : Oa} {len c m wd : Nat} {w W W' : World} {v v' : Value} {L L' : Lb} {T T' : Nat}
theorem PkI.keep (h:PkI N n p len c m wd w v L T W) {row:Option Nat} (hg:W.grownBy W' row) (hr:∀ r,row=some r→N≤r∧∃ o:Obj,W.heap[r]?=some o∧o.isCells=false) (hB:N≤W.heap.size):PkI N n p len c m wd w v L T W':=by
 have hk:∀ {k:Nat} {o:Obj},W.heap[k]?=some o→o.isCells=true→W'.heap[k]?=some o:=fun h1 h2=>(grownBy_keeps_cells hg (fun r e=>(hr r e).2) h1 h2).trans h1
 exact ⟨GJ h.own (fun k cs h1=>hk h1 rfl),hk h.b6 rfl,hk h.b7 rfl,hk h.out rfl,hk h.b10 rfl,hk h.i1 rfl,hk h.i2 rfl,h.bel.grown hg hB (fun k e=>(hr k e).1)⟩
theorem PkI.lt (h:PkI N n p len c m wd w v L T W):N≤W.heap.size:=Nat.le_of_lt (Array.getElem?_eq_some_iff.1 h.b6).1
theorem PkI.drew (h:PkI N n p len c m wd w v L T W):PkI N n p len c m wd w v L T W.drew:=⟨h.own,h.b6,h.b7,h.out,h.b10,h.i1,h.i2,h.bel.drew⟩
theorem PkI.put10 (h:PkI N n p len c m wd w v L T W) (T':Nat):PkI N n p len c m wd w v L T' (W.setCell ⟨N+1+1+1,0,none⟩ (.int .i64 (T':Int))):=by
 have hk:∀ {k:Nat} {o:Obj},k≠N+1+1+1→W.heap[k]?=some o→(W.setCell ⟨N+1+1+1,0,none⟩ (.int .i64 (T':Int))).heap[k]?=some o:=fun hne h1=>(Below.heap_setCell W ⟨N+1+1+1,0,none⟩ _ _ hne).trans h1
 refine ⟨GJ h.own (fun k cs h3=>hk ?_ h3),hk (by omega) h.b6,hk (by omega) h.b7,hk (by omega) h.out,uB h.b10,hk (by omega) h.i1,hk (by omega) h.i2,h.bel.setCell (p:=⟨N+1+1+1,0,none⟩) (by show N≤N+1+1+1;omega) _⟩
 rintro rfl
 rw [h.b10] at h3;cases h3
theorem PkI.app (h:PkI N n p len c m wd w v L T W) (hg:Grew N W v L' W' v'):W'.ownsRow N 5 1 v' L'.length (zG L')∧PkI N n p len c m wd w v' L' T (W'.setCell ⟨N+1+1,0,none⟩ v')∧KeepsOthers W (W'.setCell ⟨N+1+1,0,none⟩ v')∧W'.heap[N+1+1]?=some (.cells #[v] 39 (0,0))∧Below N W (W'.setCell ⟨N+1+1,0,none⟩ v'):=by
 have hk:∀ {k:Nat} {cs:Array Value} {t:TypeId},W.heap[k]?=some (.cells cs t (0,0))→t≠5→W'.heap[k]?=some (.cells cs t (0,0)):=fun h1 h2=>(hg.grown.block _ (Array.getElem?_eq_some_iff.1 h1).1 (ybX h.own h1 h2)).trans h1
 have hs:∀ {k:Nat} {o:Obj},k≠N+1+1→W'.heap[k]?=some o→(W'.setCell ⟨N+1+1,0,none⟩ v').heap[k]?=some o:=fun hne h1=>(Below.heap_setCell W' ⟨N+1+1,0,none⟩ _ _ hne).trans h1
 have hO:=hk h.out (by decide)
 have hne:∀ {k:Nat} {cs:Array Value},W'.heap[k]?=some (.cells cs 5 (0,0))→k≠N+1+1:=by
  rintro k cs h1 rfl
  rw [hO] at h1;cases h1
 have hb1:Below N w W':=h.bel.grown hg.grown h.lt (fun k e=>yaz h.own e)
 refine ⟨hg.own,⟨GJ hg.own (fun k cs h3=>hs (hne h3) h3),hs (by omega) (hk h.b6 (by decide)),hs (by omega) (hk h.b7 (by decide)),uB hO,hs (by omega) (hk h.b10 (by decide)),hs (by omega) (hk h.i1 (by decide)),hs (by omega) (hk h.i2 (by decide)),hb1.setCell (p:=⟨N+1+1,0,none⟩) (by show N≤N+1+1;omega) _⟩,(KeepsOthers.of_grownBy hg.grown (ydL h.own)).trans (KeepsOthers.setCell _ _ _),hO,((Below.refl N W).grown hg.grown h.lt (fun k e=>yaz h.own e)).setCell (p:=⟨N+1+1,0,none⟩) (by show N≤N+1+1;omega) _⟩
theorem PkI.set (h:PkI N n p len c m wd w v L T W) (hl:0<L.length):∃ g cap,v=.slice (some ⟨g,0,none⟩) L.length cap∧L.length≤cap∧(∀ j,j<L.length→W.cell? ⟨g,j,none⟩=some (.int .u8 (((L.getD j 0).toNat:Nat):Int)))∧(∀ j,W.frozen? ⟨g,j,none⟩=false)∧(∀ k,k≤N+1+1+1+1+1→N≤k→k≠g)∧∀ k (y:UInt8),k<L.length→PkI N n p len c m wd w v (L.set k y) T (W.setCell ⟨g,k,none⟩ (.int .u8 (y.toNat:Int)))∧Below N W (W.setCell ⟨g,k,none⟩ (.int .u8 (y.toNat:Int))):=by
 obtain ⟨g,cap,hv,hcap,hg,hgl,hc,hf,yaG⟩:=ybi h.own hl
 have hx:∀ {k:Nat} {cs:Array Value} {t:TypeId},W.heap[k]?=some (.cells cs t (0,0))→t≠5→k≠g:=by
  rintro k cs t h1 h2 rfl
  have:=ybX h.own h1 h2
  rw [hv] at this;exact this rfl
 refine ⟨g,cap,hv,hcap,hc,hf,fun k hk1 hk2=>?_,fun k y hk=>?_⟩
 ·have:k=N∨k=N+1∨k=N+1+1∨k=N+1+1+1∨k=N+1+1+1+1∨k=N+1+1+1+1+1:=by omega
  rcases this with rfl|rfl|rfl|rfl|rfl|rfl
  ·exact hx h.b6 (by decide)
  ·exact hx h.b7 (by decide)
  ·exact hx h.out (by decide)
  ·exact hx h.b10 (by decide)
  ·exact hx h.i1 (by decide)
  ·exact hx h.i2 (by decide)
 ·have hk':∀ {j:Nat} {cs:Array Value} {t:TypeId},W.heap[j]?=some (.cells cs t (0,0))→t≠5→(W.setCell ⟨g,k,none⟩ (.int .u8 (y.toNat:Int))).heap[j]?=some (.cells cs t (0,0)):=fun h1 h2=>(Below.heap_setCell W ⟨g,k,none⟩ _ _ (hx h1 h2)).trans h1
  have ho:=yaG k y hk
  rw [show L.length=(L.set k y).length by rw [List.length_set]] at ho
  exact ⟨⟨ho,hk' h.b6 (by decide),hk' h.b7 (by decide),hk' h.out (by decide),hk' h.b10 (by decide),hk' h.i1 (by decide),hk' h.i2 (by decide),h.bel.setCell (p:=⟨g,k,none⟩) hg _⟩,(Below.refl N W).setCell (p:=⟨g,k,none⟩) hg _⟩
end
end Go.Proofs.YtgepehlpjpccaaaGreatDoor
namespace Go.Proofs.YtgepehlpjpccaaaGreatDoor
open Go.RowKit Go.Shelf
open Go.Lib
attribute [local go_sem] Oper.semAt_some
theorem yrg {w W:World} {v:Value} {L:Lb} (h:W.ownsRow w.heap.size 5 1 v L.length (zG L)) (hb:Be w W):Grew w.heap.size w (.slice none 0 0) L W v:=by
 refine ⟨h,⟨hb.os,hb.tape,hb.output,hb.size,fun k hk _=>hb.block k hk⟩,?_⟩
 cases e:v.ownBlock with
 | none=>exact .inl rfl
 | some j=>exact .inr ⟨j,rfl,yaz h e⟩
theorem ywN {d e:Nat} (hd:d<zT):IntKind.u8.wrap (bits .and .u64 ((d:Int)/2^e) 1)=((d/2^e%2:Nat):Int):=by
 have h0:d/2^e<18446744073709551616:=Nat.lt_of_le_of_lt (Nat.div_le_self _ _) hd
 have h1:(d:Int)/2^e=((d/2^e:Nat):Int):=by rw [Int.natCast_ediv,Int.natCast_pow];rfl
 have h2:=u64_and_nat (d/2^e) 1 h0 (by decide)
 rw [nat_mask1] at h2
 rw [h1,show (1:Int)=((1:Nat):Int) from rfl,h2,IntKind.wrap_u8']
 omega
theorem yng (w:World) (y:UInt8):Bs (w.alloc (.cells #[.int .u8 (y.toNat:Int)] 5)) (some ⟨w.heap.size,0,none⟩) [y]:=by
 refine .inr ⟨w.heap.size,0,rfl,by simp,fun j hj=>?_⟩
 obtain rfl:j=0:=by simp at hj;omega
 have:=World.alloc_heap_new w (.cells #[.int .u8 (y.toNat:Int)] 5)
 simp only [World.cell?,this]
 rfl
theorem ycu {W:World} {o:Obj} {k:Nat} (h:W.heap.size=k):(W.alloc o).heap[k]?=some o:=by subst h;exact World.alloc_heap_new W o
theorem jO {W:World} {o o':Obj} {k:Nat} (h:W.heap[k]?=some o'):(W.alloc o).heap[k]?=some o':=(Below.heap_alloc W o k (Array.getElem?_eq_some_iff.1 h).1).trans h
theorem ypb (p:Oa) (c n len k m wd:Nat) (l:Lb) (w:World) (HL:Hid (len=l.length)) (HK:Hid (k=len/n)) (h1:1≤n) (h2:n≤8) (hl:len≤1048576) (hc:len≤c) (hm:∀ g ∈ gl n k l,m≤g) (hwd:wd≤64) (hbs:Bs w p l) :
  Calls Tryz.prog 150 #[.slice p len c,.int .i64 (n:Int),.int .u64 (m:Int),.int .i64 (wd:Int)] w (App w.heap.size w (.slice none 0 0) (pkL (btF (gl n k l) m wd) (k*wd))):=by
 have HBS:Hid (BsN w.heap.size w p l):=h_ hbs.bsN
 have HM:=h_ hm
 have hkl:k≤len:=by rw [HK.out];exact Nat.div_le_self _ _
 obtain ⟨R,HR⟩:=ey (pkL (btF (gl n k l) m wd) (k*wd))
 rw [← HR.out]
 clear hbs hm
 refine (callsIn_wide (n:=9)).1 ?_
 refine callsIn_of_wp_marks Tryz.func150 rfl trivial ?_ rfl
 simp only [Tryz.ntmps150,List.size_toArray,List.length_cons,List.length_nil,Nat.reduceAdd,Nat.reduceSub,Array.replicate_succ,Array.replicate_zero,List.push_toArray,List.append_toArray,List.nil_append,List.cons_append]
 gi_wp2_with (refine ⟨trivial,?_⟩;gi_at_call 188;refine (yet _ _ _ _ _ _).mono ?_;rintro e w' ⟨rfl,rfl⟩)
 obtain ⟨W0,hW0⟩:∃ W0,((((((w.alloc (.cells #[.int .u64 (m:Int)] 86)).alloc (.cells #[.int .i64 (wd:Int)] 3)).alloc (.cells #[.slice none 0 0] 39)).alloc (.cells #[.int .i64 0] 3)).alloc (.cells #[.slice p len c] 39)).alloc (.cells #[.int .i64 (n:Int)] 3))=W0:=⟨_,rfl⟩
 have hs0:W0.heap.size=w.heap.size+6:=by rw [← hW0];simp
 have hI0:PkI w.heap.size n p len c m wd w (.slice none 0 0) [] 0 W0:=by
  have hb:Be w W0:=by rw [← hW0];exact ((((((Below.refl _ w).alloc nl _).alloc (by simp) _).alloc (by simp<;>omega) _).alloc (by simp<;>omega) _).alloc (by simp<;>omega) _).alloc (by simp<;>omega) _
  rw [← hW0] at hb ⊢
  exact ⟨⟨rfl,.inl ⟨rfl,rfl⟩⟩,(jO (jO (jO (jO (jO (ycu (rfl))))))),(jO (jO (jO (jO (ycu (by simp)))))),(jO (jO (jO (ycu (by simp))))),(jO (jO (ycu (by simp)))),(jO (ycu (by simp))),(ycu (by simp)),hb⟩
 rw [hW0]
 refine wpIn_rangeFunc_ownF rfl (by omega) (gf:=222) (lb:=#[.pointer (some ⟨w.heap.size+1+1+1+1+1,0,none⟩),.pointer (some ⟨w.heap.size+1+1+1+1,0,none⟩)]) rfl trivial (enters_of Tryz.func222 (by kernel_rfl) rfl)
  (ycp _ (by omega) (w.heap.size+1+1+1+1+1) (w.heap.size+1+1+1+1) w.heap.size n len k c l p HL HK h1 h2 hl hc W0 (by omega) (by omega) (by omega) (by simp [World.cell?,hI0.i2]) (by simp [World.cell?,hI0.i1]) (HBS.out.keep hI0.bel)) vF.trans
  (fun W lo o o' hlo ho hc hw=>⟨(Below.refl _ W).grown (grownBy_putObj' W lo o') (by have:=(Array.getElem?_eq_some_iff.1 ho).1;omega) (fun k e=>by cases e;omega),World.putObj_heap_other (by omega),World.putObj_heap_other (by omega)⟩) bR (fun _=>rfl)
  (fun pre W=>∃ v,PkI w.heap.size n p len c m wd w v (pkL (btF (gP l n pre) m wd) (pre.length*wd)) (pre.length*wd) W)
  (fun _ _ _=>False)
  (fun s W W' row h hg hr=>by obtain ⟨v,h⟩:=h;exact ⟨v,h.keep hg (fun r e=>⟨by have:=(hr r e).1;omega,(hr r e).2⟩) h.lt⟩)
  (fun _ _ _ _ _ h _ _=>h)
  ⟨_,by rw [show ([]:List (Pl k)).length=0 from rfl,Nat.zero_mul];exact hI0⟩ ?a1 ?assign ?body ?done ?stop
 case assign =>
  intro lo x W K hK
  gi_wp2
  exact hK
 case body =>
  rintro lo pre x W ⟨v,hI⟩ hlen
  obtain ⟨g,HG⟩:=ey (gN l n x.1)
  have e10:(nb ((l.drop (x.1*n)).take n))=g:=HG.out.symm
  obtain ⟨gs1,HG1⟩:=ey (gP l n pre++[g])
  obtain ⟨T0,HT0⟩:=ey (pre.length*wd)
  obtain ⟨b,HB⟩:=ey (btF gs1 m wd)
  have jQ:Hid (∀ t,b t<2):=h_ (fun t=>by rw [HB.out];exact yne _ _ _ _)
  obtain ⟨d,HD⟩:=ey (g-m)
  have hg:g<zT:=by rw [HG.out];exact ysf l h2 _
  have hgm:m≤g:=HM.out g (by rw [← yha,HG.out];exact List.mem_map_of_mem (List.mem_range.2 x.2))
  have hd:d<zT:=by rw [HD.out];omega
  have ybn:IntKind.u64.wrap ((g:Int)-(m:Int))=(d:Int):=by
   rw [IntKind.wrap_u64,HD.out];unfold zT at hg;omega
  have HBT:Hid (∀ j,j<wd→b (T0+j)=d/2^(wd-1-j)%2):=h_ (fun j hj=>by
   rw [HB.out,HT0.out,ynf _ _ hj,HD.out,HG1.out,List.getD_eq_getElem?_getD,List.getElem?_append_right (by rw [ydK];exact Nat.le_refl _),ydK,Nat.sub_self];rfl)
  have hI1:PkI w.heap.size n p len c m wd w v (pkL b T0) T0 W:=by
   rw [← HT0.out,yrf (b':=b) (fun t ht=>by
    rw [HB.out,HG1.out];exact (ypa (by rw [ydK,← HT0.out];exact ht)).symm)] at hI
   exact hI
  have HI1:=h_ hI1
  have yk3:Hid (∀ v W3,PkI w.heap.size n p len c m wd w v (pkL b (T0+wd)) (T0+wd) W3→KeepsOthers W W3→Below w.heap.size W W3→KeepsOthers W W3∧vF w.heap.size (w.heap.size+1+1+1+1+1) (w.heap.size+1+1+1+1) W W3 ∧
    ∃ v,PkI w.heap.size n p len c m wd w v (pkL (btF (gP l n (pre++[x])) m wd) ((pre++[x]).length*wd)) ((pre++[x]).length*wd) W3):=h_ (fun v W3 k1 k2 k3=>by
   refine ⟨k2,⟨k3,k1.i2.trans HI1.out.i2.symm,k1.i1.trans HI1.out.i1.symm⟩,v,?_⟩
   rw [yjX,← HG.out,← HG1.out,← HB.out,List.length_append,show [x].length=1 from rfl,Nat.succ_mul,← HT0.out]
   exact k1)
  have hT0:T0≤67108864:=by
   have h5:pre.length*wd≤1048576*64:=Nat.mul_le_mul (by omega) hwd
   rw [HT0.out];omega
  have c7:W.cell? ⟨w.heap.size+1,0,none⟩=some (.int .i64 (wd:Int)):=by simp [World.cell?,hI1.b7]
  have hwi:(wd:Int)≤64:=by omega
  have hwp:wrap64 ((wd:Int)-1)=(wd:Int)-1-((0:Nat):Int):=by unfold wrap64;omega
  simp only [e10]
  clear hI hI1 e10
  gi_wp2
  gi_loopw [12] (fun tv wr=>∃ (j:Nat) (v:Value),j≤wd∧tv=.int .i64 ((wd:Int)-1-(j:Int))∧Hid (PkI w.heap.size n p len c m wd w v (pkL b (T0+j)) (T0+j) wr)∧Hid (KeepsOthers W wr∧Below w.heap.size W wr)) (fun tv _=>(Go.RowKit.intOf tv+1).toNat)
  case atStart=>exact ⟨0,v,Nat.zero_le _,by congr 1;omega,h_ (by rw [Nat.add_zero];exact HI1.out),h_ ⟨KeepsOthers.refl _,Below.refl _ _⟩⟩
  case round =>
   clear c7
   obtain ⟨j,v,hj,rfl,HI,HK2⟩:=hrel
   obtain ⟨T,HT⟩:=ey (T0+j)
   rw [← HT.out] at HI
   by_cases hjw:j<wd
   ·obtain ⟨bit,yxZ⟩:∃ bit:Nat,Hid (bit=wd-1-j):=⟨_,rfl⟩
    have ebit:(wd:Int)-1-(j:Int)=(bit:Int):=by rw [yxZ.out];omega
    have hTl:(T:Int)≤67108928:=by rw [HT.out];omega
    have hbit:(bit:Int)≤63:=by omega
    have HbT:Hid (b T=d/2^bit%2):=h_ (by rw [HT.out,yxZ.out];exact HBT.out j hjw)
    rw [ebit]
    have c10:wr.cell? ⟨w.heap.size+1+1+1,0,none⟩=some (.int .i64 (T:Int)):=by simp [World.cell?,HI.out.b10]
    have cO:wr.cell? ⟨w.heap.size+1+1,0,none⟩=some v:=by simp [World.cell?,HI.out.out]
    obtain ⟨L,HLL⟩:=ey (pkL b T)
    rw [← HLL.out] at HI
    have hLl:Hid (L.length=(T+7)/8):=h_ (by rw [HLL.out,vK])
    by_cases h8:T%8=0
    case' pos =>
     have h8':(T:Int)%8=0:=by omega
     have HIa:Hid (PkI w.heap.size n p len c m wd w v L T (wr.alloc (.cells #[.int .u8 (((0:UInt8).toNat:Nat):Int)] 5))):=h_ (HI.out.keep (World.grownBy_alloc wr _ none) (fun r e=>by cases e) HI.out.lt)
     have hko:Hid (KeepsOthers wr (wr.alloc (.cells #[.int .u8 (((0:UInt8).toNat:Nat):Int)] 5))∧Below w.heap.size wr (wr.alloc (.cells #[.int .u8 (((0:UInt8).toNat:Nat):Int)] 5))):=h_ ⟨KeepsOthers.alloc _ _,bR.alloc HI.out.lt _⟩
     have hbs0:=h_ (yng wr 0)
     have hlens:Hid (L.length+1≤140737488355328∧w.heap.size≤(wr.alloc (.cells #[.int .u8 (((0:UInt8).toNat:Nat):Int)] 5)).heap.size):=h_ ⟨by rw [hLl.out];omega,HIa.out.lt⟩
     gi_wp2_with (refine wpListIn_plain (o:=⟨some 28,_,_,_,_,_⟩) rfl fun K hK=>ycY rfl (yag (.tmp 26) (.tmp 27) rfl w.heap.size v L.length L rfl rfl HIa.out.own _ 1 1 [0] rfl rfl hbs0.out hlens.out.1 hlens.out.2 ?_))
     intro v5 W5 hg5
     obtain ⟨yP,ycK,ydh,hO5,yce⟩:=HIa.out.app hg5
     obtain ⟨L1,HL1⟩:∃ L1,Hid (L1=L++[0]):=⟨L++[0],h_ rfl⟩
     rw [← HL1.out] at yP ycK
     obtain ⟨p5,c5,rfl,-,-⟩:=yS yP
     obtain ⟨m5,HM5⟩:=ey (L1.length)
     rw [← HM5.out] at ycK ydh yce ⊢
     have fO:W5.cell? ⟨w.heap.size+1+1,0,none⟩=some v:=by simp [World.cell?,hO5]
     have fOz:W5.frozen? ⟨w.heap.size+1+1,0,none⟩=false:=by simp [World.frozen?,hO5]
     obtain ⟨W6,hW6⟩:∃ W6,W5.setCell ⟨w.heap.size+1+1,0,none⟩ (.slice p5 m5 c5)=W6:=⟨_,rfl⟩
     rw [hW6] at ycK ydh yce
     have HI6:=h_ ycK
     have HK6:Hid (KeepsOthers W W6∧Below w.heap.size W W6):=h_ ⟨(HK2.out.1.trans hko.out.1).trans ydh,(HK2.out.2.trans hko.out.2).trans yce⟩
     have hl1:Hid (L1.length=T/8+1):=h_ (by rw [HL1.out,List.length_append,hLl.out];show (T+7)/8+1=_;omega)
     have hg1:Hid (L1.getD (T/8) 0=UInt8.ofNat (bv b (T/8) (T%8))):=h_ (by
      rw [HL1.out,List.getD_eq_getElem?_getD,List.getElem?_append_right (by rw [hLl.out];omega),hLl.out,show T/8-(T+7)/8=0 by omega,h8];rfl)
     have hs1:Hid (L1.set (T/8) (UInt8.ofNat (bv b (T/8) (T%8+1)))=pkL b (T+1)):=h_ (by
      rw [ypV b h8,HL1.out,HLL.out,h8,List.set_append_right _ _ (by rw [vK];omega),vK,show T/8-(T+7)/8=0 by omega];rfl)
     clear yP ycK ydh hO5 yce hg5
     refine hK _ _ ?_
     gi_wp2
     try rw [hW6]
     clear fO fOz hW6 hK
     clear c10 cO
     obtain ⟨gb,cap,hv6,hcap,zU,uQ,yr6,yaG⟩:=HI6.out.drew.set (by rw [hl1.out];omega)
     injection hv6 with q1 q2 q3
     have q4:=q3.symm
     subst q1
     subst q2
     subst q4
    case' neg =>
     have h8':¬ (T:Int)%8=0:=by omega
     gi_wp2
     obtain ⟨W6,hW6⟩:∃ W6,wr=W6:=⟨_,rfl⟩
     obtain ⟨L1,HL1⟩:=ey (L)
     have HI6:Hid (PkI w.heap.size n p len c m wd w v L1 T W6):=h_ (by rw [← hW6,HL1.out];exact HI.out)
     have HK6:Hid (KeepsOthers W W6∧Below w.heap.size W W6):=h_ (by rw [← hW6];exact HK2.out)
     have hl1:Hid (L1.length=T/8+1):=h_ (by rw [HL1.out,hLl.out];omega)
     have hg1:Hid (L1.getD (T/8) 0=UInt8.ofNat (bv b (T/8) (T%8))):=h_ (by
      rw [HL1.out,HLL.out,ync b (by omega),show min 8 (T-8*(T/8))=T%8 by omega])
     have hs1:Hid (L1.set (T/8) (UInt8.ofNat (bv b (T/8) (T%8+1)))=pkL b (T+1)):=h_ (by
      rw [ypW b h8,HL1.out,HLL.out])
     rw [hW6]
     clear hW6
     clear c10 cO
     obtain ⟨gb,cap,hv6,hcap,zU,uQ,yr6,yaG⟩:=HI6.out.drew.set (by rw [hl1.out];omega)
     subst hv6
    all_goals
     have HSET:=h_ yaG
     obtain ⟨m1,HM1⟩:=ey (L1.length)
     have hm1:T/8<m1:=by rw [HM1.out,hl1.out];omega
     obtain ⟨X,HX⟩:=ey (bv b (T/8) (T%8))
     obtain ⟨Y,HY⟩:∃ Y:UInt8,Hid (Y=UInt8.ofNat (bv b (T/8) (T%8+1))):=⟨_,rfl⟩
     obtain ⟨q,HQ⟩:=ey (T/8)
     have hq:IntKind.i64.wrap ((T:Int)/8)=(q:Int):=by rw [HQ.out,IntKind.wrap_i64];omega
     have hq1:(q:Int)<(m1:Int):=by rw [HQ.out];omega
     rw [← HQ.out] at hm1
     have c33:W6.drew.cell? ⟨gb,q,none⟩=some (.int .u8 (X:Int)):=by
      have h:=zU (T/8) (by rw [hl1.out];omega)
      rw [hg1.out,ykJ b jQ.out _ (by omega),← HX.out,← HQ.out] at h;exact h
     have f33:W6.drew.frozen? ⟨gb,q,none⟩=false:=uQ _
     have hXl:X<256:=by
      have h:=ynB b jQ.out (T/8) (T%8) (by omega)
      have h5:0<2^(8-T%8):=Nat.pow_pos (by decide)
      rw [HX.out];omega
     have d6:W6.drew.cell? ⟨w.heap.size,0,none⟩=some (.int .u64 (m:Int)):=by
      have h:=HI6.out.drew.b6;simp [World.cell?,h]
     have dO:W6.drew.cell? ⟨w.heap.size+1+1,0,none⟩=some (.slice (some ⟨gb,0,none⟩) m1 cap):=by
      have h:=HI6.out.drew.out;rw [← HM1.out] at h;simp [World.cell?,h]
     have d10:W6.drew.cell? ⟨w.heap.size+1+1+1,0,none⟩=some (.int .i64 (T:Int)):=by
      have h:=HI6.out.drew.b10;simp [World.cell?,h]
     have g0:=yr6 w.heap.size (by omega) (by omega)
     have g2:=yr6 (w.heap.size+1+1) (by omega) (by omega)
     have g3:=yr6 (w.heap.size+1+1+1) (by omega) (by omega)
     obtain ⟨bt,HBt⟩:=ey (b T)
     have yxC:bt<2:=by rw [HBt.out];exact jQ.out T
     obtain ⟨r7,HR7⟩:=ey (7-T%8)
     have yu4:r7≤7:=by rw [HR7.out];omega
     have hr7:IntKind.i64.wrap (7-(T:Int).tmod 8)=(r7:Int):=by
      rw [Int.tmod_eq_emod_of_nonneg (by omega),IntKind.wrap_i64,HR7.out];omega
     have hr70:0≤(r7:Int):=by omega
     have yhW:IntKind.u8.wrap (bits .and .u64 ((d:Int)/2^bit) 1)=(bt:Int):=by rw [ywN hd,HBt.out,HbT.out]
     have hpw:bt*2^r7<256:=by
      have h6:2^r7≤2^7:=Nat.pow_le_pow_right (by decide) yu4
      have h7:bt*2^r7≤1*2^r7:=Nat.mul_le_mul_right _ (by omega)
      omega
     have yva:IntKind.u8.wrap ((bt:Int)*2^r7)=((bt*2^r7:Nat):Int):=by
      rw [IntKind.wrap_u8',show (bt:Int)*2^r7=((bt*2^r7:Nat):Int) by rw [Int.natCast_mul,Int.natCast_pow];rfl];omega
     have hor:bits .or .u8 (X:Int) ((bt*2^r7:Nat):Int)=((Y.toNat:Nat):Int):=by
      rw [u8_or_nat X _ hXl hpw,HX.out,HBt.out,HR7.out,HY.out,ykJ b jQ.out _ (by omega),← yxd b jQ.out (T/8) (by omega),show 8*(T/8)+T%8=T by omega]
     obtain ⟨sh,HSH⟩:=ey (bt*2^r7)
     rw [← HSH.out] at yva hor
     obtain ⟨W7,hW7⟩:∃ W7,W6.drew.setCell ⟨gb,q,none⟩ (.int .u8 ((Y.toNat:Nat):Int))=W7:=⟨_,rfl⟩
     have HI7:Hid (PkI w.heap.size n p len c m wd w (.slice (some ⟨gb,0,none⟩) m1 cap) (pkL b (T+1)) T W7):=h_ (by
      have h:=(HSET.out q Y (by rw [← HM1.out];omega)).1
      rw [hW7] at h
      rwa [← hs1.out,← HY.out,← HQ.out,HM1.out])
     have HK7:Hid (KeepsOthers W W7∧Below w.heap.size W W7):=h_ (by
      have h:=(HSET.out q Y (by rw [← HM1.out];omega)).2
      rw [hW7] at h
      exact ⟨HK6.out.1.trans ((KeepsOthers.drew W6).trans (by rw [← hW7];exact KeepsOthers.setCell _ _ _)),HK6.out.2.trans (((Below.refl _ W6).drew).trans h)⟩)
     have k6:W7.cell? ⟨w.heap.size,0,none⟩=some (.int .u64 (m:Int)):=by have h:=HI7.out.b6;simp [World.cell?,h]
     have kO:W7.cell? ⟨w.heap.size+1+1,0,none⟩=some (.slice (some ⟨gb,0,none⟩) m1 cap):=by have h:=HI7.out.out;simp [World.cell?,h]
     have k10:W7.cell? ⟨w.heap.size+1+1+1,0,none⟩=some (.int .i64 (T:Int)):=by have h:=HI7.out.b10;simp [World.cell?,h]
     have k10z:W7.frozen? ⟨w.heap.size+1+1+1,0,none⟩=false:=by have h:=HI7.out.b10;simp [World.frozen?,h]
     have HI8:=h_ (HI7.out.put10 (T+1))
     have HK8:Hid (KeepsOthers W (W7.setCell ⟨w.heap.size+1+1+1,0,none⟩ (.int .i64 ((T+1:Nat):Int)))∧Below w.heap.size W (W7.setCell ⟨w.heap.size+1+1+1,0,none⟩ (.int .i64 ((T+1:Nat):Int)))):=h_ ⟨HK7.out.1.trans (KeepsOthers.setCell _ _ _),HK7.out.2.trans ((Below.refl _ W7).setCell (p:=⟨w.heap.size+1+1+1,0,none⟩) (by show w.heap.size≤w.heap.size+1+1+1;omega) _)⟩
     clear yaG zU uQ yr6 hXl yxC hpw
     refine yc2 (S:=fun W'=>W'.cell? ⟨w.heap.size,0,none⟩=some (.int .u64 (m:Int))∧W'.cell? ⟨w.heap.size+1+1,0,none⟩=some (.slice (some ⟨gb,0,none⟩) m1 cap)∧W'.cell? ⟨w.heap.size+1+1+1,0,none⟩=some (.int .i64 (T:Int))) (by kernel_rfl) (by kernel_rfl) (fun ⟨_,_,h⟩=>h) ⟨d6,dO,d10⟩ (fun hHeld=>?_)
     refine tk (i:=0) (v:=_) rfl (Or.inl ⟨by rfl,by rintro W' ⟨e6,eO,e10⟩;go_simp;with_reducible rfl⟩) ?_
     simp only [sl]
     refine tk (i:=1) (v:=_) rfl (Or.inl ⟨by rfl,by rintro W' ⟨e6,eO,e10⟩;go_simp;with_reducible rfl⟩) ?_
     simp only [sl]
     refine tk (i:=2) (v:=_) rfl (Or.inl ⟨by rfl,by rintro W' ⟨e6,eO,e10⟩;go_simp;with_reducible rfl⟩) ?_
     simp only [sl]
     refine tk (i:=3) (v:=_) rfl (Or.inl ⟨by rfl,by rintro W' ⟨e6,eO,e10⟩;go_simp;with_reducible rfl⟩) ?_
     simp only [sl]
     refine tk (i:=5) (v:=_) rfl (Or.inl ⟨by rfl,by rintro W' ⟨e6,eO,e10⟩;go_simp;with_reducible rfl⟩) ?_
     simp only [sl]
     refine tk (i:=6) (v:=_) rfl (Or.inl ⟨by rfl,by rintro W' ⟨e6,eO,e10⟩;go_simp;with_reducible rfl⟩) ?_
     simp only [sl]
     refine tk (i:=7) (v:=_) rfl (Or.inl ⟨by rfl,by rintro W' ⟨e6,eO,e10⟩;go_simp;with_reducible rfl⟩) ?_
     simp only [sl]
     refine tk (i:=8) (v:=_) rfl (Or.inl ⟨by rfl,by rintro W' ⟨e6,eO,e10⟩;go_simp;with_reducible rfl⟩) ?_
     simp only [sl]
     refine tk (i:=9) (v:=_) rfl (Or.inl ⟨by rfl,by rintro W' ⟨e6,eO,e10⟩;go_simp;with_reducible rfl⟩) ?_
     simp only [sl]
     refine tk (i:=10) (v:=_) rfl (Or.inl ⟨by rfl,by rintro W' ⟨e6,eO,e10⟩;go_simp;with_reducible rfl⟩) ?_
     simp only [sl]
     refine tk (i:=11) (v:=_) rfl (Or.inl ⟨by rfl,by rintro W' ⟨e6,eO,e10⟩;go_simp;with_reducible rfl⟩) ?_
     simp only [sl]
     refine tk (i:=12) (v:=_) rfl (Or.inl ⟨by rfl,by rintro W' ⟨e6,eO,e10⟩;go_simp;with_reducible rfl⟩) ?_
     simp only [sl]
     refine tk (i:=13) (v:=_) rfl (Or.inl ⟨by rfl,by rintro W' ⟨e6,eO,e10⟩;go_simp;with_reducible rfl⟩) ?_
     simp only [sl]
     refine tk (i:=14) (v:=_) rfl (Or.inl ⟨by rfl,by rintro W' ⟨e6,eO,e10⟩;go_simp;with_reducible rfl⟩) ?_
     simp only [sl]
     refine tk (i:=15) (v:=_) rfl (Or.inl ⟨by rfl,by rintro W' ⟨e6,eO,e10⟩;go_simp;with_reducible rfl⟩) ?_
     simp only [sl]
     refine oN (i:=4) rfl fun K hK=>?_
     go_simp
     refine hK.out _ _ (⟨d6,dO,d10⟩) (fun hHeld=>?_)
     clear hK K
     refine oN (i:=16) rfl fun K hK=>?_
     go_simp
     try rw [hor]
     refine hK.out _ _ (⟨d6,dO,d10⟩) (fun hHeld=>?_)
     clear hK K
     refine tk (i:=17) (v:=_) rfl (Or.inl ⟨by rfl,by rintro W' ⟨e6,eO,e10⟩;go_simp;with_reducible rfl⟩) ?_
     simp only [sl]
     refine oN (i:=18) rfl fun K hK=>?_
     go_simp
     try rw [hW7]
     refine hK.out _ _ (⟨k6,kO,k10⟩) (fun hHeld=>?_)
     clear hK K
     refine wpAnyH_done (by kernel_rfl) ?_ _
     clear hHeld d6 dO d10 c33 f33 hW7
     gi_wp2
     go_roundw
     case rel =>
      have e1:((T+1:Nat):Int)=(T:Int)+1:=by omega
      rw [e1] at HI8 HK8
      exact ⟨j+1,_,by omega,by congr 1;rw [yxZ.out];omega,h_ (by rw [show T0+(j+1)=T+1 by rw [HT.out];omega];exact HI8.out),HK8⟩
     case measure=>simp [Go.RowKit.intOf]
   ·obtain rfl:j=wd:=by omega
    have ebit:(j:Int)-1-(j:Int)=-1:=by omega
    rw [ebit]
    gi_wp2
    exact yk3.out _ _ (by rw [← HT.out];exact HI.out) HK2.out.1 HK2.out.2
 case done =>
  rintro D xs W hD hxs ⟨v,hI⟩ hK
  have hxl:xs.length=k:=by have h:=congrArg List.length hxs;rwa [List.length_map,List.length_range] at h
  rw [yna l n xs hxs,hxl,← HR.out] at hI
  have cO:W.cell? ⟨w.heap.size+1+1,0,none⟩=some v:=by simp [World.cell?,hI.out]
  have hD5:=hI.keep (grownBy_putObj' W D (.deferred none)) (fun r e=>by cases e;exact ⟨by omega,_,hK,rfl⟩) hI.lt
  have yD:=yrg hD5.own hD5.bel
  clear hI hD5
  gi_wp2
  refine ⟨by simp,.inl ⟨_,_,rfl,run_takeDeferred hK,?_⟩⟩
  refine ⟨_,?_,v,rfl,yD⟩
  simp [results,Tryz.f150,go_sem]
 case stop =>
  rintro D c pre W hD _ h
  exact h.elim
end Go.Proofs.YtgepehlpjpccaaaGreatDoor
