/- Contracts. -/
import Derived.Test.YtgepehlpjpccaaaGreatDoorWDV
set_option maxHeartbeats 1600000
set_option maxRecDepth 100000
namespace Go.Proofs.YtgepehlpjpccaaaGreatDoor
open Go.RowKit
open Go.Lib
theorem ybe {w:World} {B:Nat} {q:Option Addr} {n d:Nat} {L:List UInt8} (h:w.ownsRow B 5 1 (.slice q n d) L.length (zS L)):q=none→d=0:=by
 rintro rfl
 obtain ⟨-,⟨h1,-⟩|⟨g,cap,cur,h1,-⟩⟩:=h
 ·cases h1;rfl
 ·cases h1
def ybO (L:List UInt8) (len:Nat) (w:World) (e:Ending) (w':World):Prop:=Below w.heap.size w w'∧∃ q d,e=.returned (.tuple #[.slice q len d,.int .i64 0])∧Hid (len≤d)∧Hid (q=none→d=0)∧Bs w' q L
theorem jY.bc {L:List UInt8} {len:Nat} {w w':World} {e:Ending} (h:jY L w e w') (hL:L.length=len):ybO L len w e w':=by
 obtain ⟨h1,v,he,ho⟩:=h
 obtain ⟨q,d,hv,hb,hd⟩:=zE ho
 subst hL
 subst hv
 exact ⟨h1,q,d,he,Lib.hid hd,Lib.hid (ybe ho),hb⟩
theorem ysT (p:Option Addr) (c n:Nat) (l:List UInt8) (w:World) (h1:1≤n) (h2:n≤8) (hl:l.length≤20000) (hc:l.length≤c) (hpc:p=none→c=0) (hb:Bs w p l) :
  Calls Tryz.prog 98 #[.slice p l.length c,.int .i64 (n:Int)] w (jY (yiK l n) w):=by
 have HBW:Hid (Below w.heap.size w (w.alloc (.cells #[.int .u64 0] 86))):=Lib.hid ((Below.refl _ w).alloc (Nat.le_refl _) _)
 have HC:=Lib.hid (yoe p c n w.heap.size l (w.alloc (.cells #[.int .u64 0] 86)) h1 h2 hl hc hpc (hb.bsN.keep HBW.out) (World.alloc_heap_new w _))
 obtain ⟨R,HR⟩:∃ R,Hid (R=yiK l n):=⟨_,rfl⟩
 have e:chR GY n (l.length/n) 0 l=R:=HR.out.symm
 rw [e] at HC
 rw [← HR.out]
 clear e
 obtain ⟨len,HL⟩:∃ len,Hid (len=l.length):=⟨_,rfl⟩
 rw [← HL.out] at hl hc HC ⊢
 clear hb hpc
 go_enter Tryz.func98,Tryz.ntmps98
 go_wp2_with fail
 refine (HC.out).mono ?_
 rintro e w' ⟨hb1,v,rfl,ho⟩
 obtain ⟨q,d,rfl,-,-⟩:=zE ho
 have HO:=Lib.hid ho
 obtain ⟨m,HM⟩:∃ m,Hid (m=R.length):=⟨_,rfl⟩
 rw [← HM.out] at HO ⊢
 have HB:=Lib.hid (HBW.out.trans hb1)
 clear ho hb1
 go_wp2_with fail
 go_ret2
 exact ⟨HB.out,_,rfl,by rw [← HM.out];exact HO.out⟩
end Go.Proofs.YtgepehlpjpccaaaGreatDoor
namespace Go.Proofs.YtgepehlpjpccaaaGreatDoor
def bv (b:Nat→Nat) (q:Nat):Nat→Nat
 | 0=>0
 | r+1=>bv b q r+b (8*q+r)*2^(7-r)
theorem ymv (b:Nat→Nat) (q:Nat):∀ r,r≤8→2^(8-r) ∣ bv b q r
 | 0,_=>⟨0,rfl⟩
 | r+1,h=>by
  have h1:=ymv b q r (by omega)
  have e:8-r=(7-r)+1:=by omega
  rw [e,Nat.pow_succ] at h1
  have h2:2^(7-r) ∣ bv b q r:=Nat.dvd_trans ⟨2,rfl⟩ h1
  have e2:8-(r+1)=7-r:=by omega
  rw [e2,bv]
  exact Nat.dvd_add h2 ⟨_,Nat.mul_comm _ _⟩
theorem ymW (b:Nat→Nat) (hb:∀ t,b t<2) (q:Nat):∀ r,r≤8→bv b q r+2^(8-r)≤256
 | 0,_=>by rw [bv];decide
 | r+1,h=>by
  have h1:=ymW b hb q r (by omega)
  have e:8-r=(7-r)+1:=by omega
  rw [e,Nat.pow_succ] at h1
  have e2:8-(r+1)=7-r:=by omega
  have h3:b (8*q+r)*2^(7-r)≤1*2^(7-r):=Nat.mul_le_mul_right _ (by have:=hb (8*q+r);omega)
  rw [e2,bv];omega
theorem ykd (b:Nat→Nat) (hb:∀ t,b t<2) (q:Nat) {r:Nat} (h:r≤8):(UInt8.ofNat (bv b q r)).toNat=bv b q r:=by
 rw [UInt8.toNat_ofNat']
 refine Nat.mod_eq_of_lt ?_
 have:=ymW b hb q r h
 have h2:0<2^(8-r):=Nat.pow_pos (by decide)
 show _<256
 omega
theorem yvu (b:Nat→Nat) (hb:∀ t,b t<2) (q:Nat) {r:Nat} (h:r<8):bv b q r ||| b (8*q+r)*2^(7-r)=bv b q (r+1):=by
 obtain ⟨a,ha⟩:=ymv b q r (by omega)
 have hlt:b (8*q+r)*2^(7-r)<2^(8-r):=by
  have e:8-r=(7-r)+1:=by omega
  have h3:b (8*q+r)*2^(7-r)≤1*2^(7-r):=Nat.mul_le_mul_right _ (by have:=hb (8*q+r);omega)
  have h2:0<2^(7-r):=Nat.pow_pos (by decide)
  rw [e,Nat.pow_succ];omega
 rw [bv,ha,Nat.two_pow_add_eq_or_of_lt hlt]
def pkL (b:Nat→Nat) (T:Nat):List UInt8:=(List.range ((T+7)/8)).map fun q=>UInt8.ofNat (bv b q (min 8 (T-8*q)))
theorem yaJ (b:Nat→Nat) (T:Nat):(pkL b T).length=(T+7)/8:=by simp [pkL]
theorem yrF (b:Nat→Nat) {T q:Nat} (h:q<(T+7)/8):(pkL b T).getD q 0=UInt8.ofNat (bv b q (min 8 (T-8*q))):=by
 rw [List.getD_eq_getElem?_getD,pkL,List.getElem?_map,List.getElem?_range h];rfl
theorem yuV (b:Nat→Nat) {T:Nat} (h:T%8=0):pkL b (T+1)=pkL b T++[UInt8.ofNat (bv b (T/8) 1)]:=by
 have e1:(T+1+7)/8=(T+7)/8+1:=by omega
 have e2:(T+7)/8=T/8:=by omega
 rw [pkL,e1,List.range_succ,List.map_append,List.map_cons,List.map_nil,e2]
 have e3:min 8 (T+1-8*(T/8))=1:=by omega
 rw [e3,pkL,e2]
 congr 1
 refine List.map_congr_left fun q hq=>?_
 rw [List.mem_range] at hq
 have e4:min 8 (T+1-8*q)=min 8 (T-8*q):=by omega
 rw [e4]
theorem yuW (b:Nat→Nat) {T:Nat} (h:T%8≠0):pkL b (T+1)=(pkL b T).set (T/8) (UInt8.ofNat (bv b (T/8) (T%8+1))):=by
 have e1:(T+1+7)/8=(T+7)/8:=by omega
 refine List.ext_getElem? fun q=>?_
 rw [List.getElem?_set,pkL,pkL,e1]
 by_cases hq:q<(T+7)/8
 ·rw [List.getElem?_map,List.getElem?_range hq,Option.map_some]
  by_cases e:T/8=q
  ·rw [if_pos e,if_pos (by rw [List.length_map,List.length_range];omega),← e]
   have e3:min 8 (T+1-8*(T/8))=T%8+1:=by omega
   rw [e3]
  ·rw [if_neg e,List.getElem?_map,List.getElem?_range hq,Option.map_some]
   have e4:min 8 (T+1-8*q)=min 8 (T-8*q):=by omega
   rw [e4]
 ·rw [List.getElem?_eq_none (by rw [List.length_map,List.length_range];omega),if_neg (by omega),List.getElem?_eq_none (by rw [List.length_map,List.length_range];omega)]
abbrev bl (x:Nat):Nat:=Lib.bitLen x
theorem yrG:∀ (f x:Nat),Lib.bitLenAux f x≤f
 | 0,_=>Nat.le_refl _
 | f+1,x=>by
  rw [Lib.bitLenAux]
  split
  ·omega
  ·have:=yrG f (x/2);omega
theorem yvv (x:Nat):bl x≤64:=yrG 64 x
def mnL (gs:List Nat):Nat:=gs.foldl min 18446744073709551615
def mxL (gs:List Nat):Nat:=gs.foldl max 0
theorem yd5:∀ (gs:List Nat) (a:Nat),gs.foldl min a≤a∧∀ g ∈ gs,gs.foldl min a≤g
 | [],_=>⟨Nat.le_refl _,fun _ h=>by cases h⟩
 | x::gs,a=>by
  have h:=yd5 gs (min a x)
  refine ⟨Nat.le_trans h.1 (Nat.min_le_left _ _),fun g hg=>?_⟩
  rw [List.mem_cons] at hg
  rcases hg with rfl|hg
  ·exact Nat.le_trans h.1 (Nat.min_le_right _ _)
  ·exact h.2 g hg
theorem ygV:∀ (gs:List Nat) (a:Nat),a≤gs.foldl max a∧∀ g ∈ gs,g≤gs.foldl max a
 | [],_=>⟨Nat.le_refl _,fun _ h=>by cases h⟩
 | x::gs,a=>by
  have h:=ygV gs (max a x)
  refine ⟨Nat.le_trans (Nat.le_max_left _ _) h.1,fun g hg=>?_⟩
  rw [List.mem_cons] at hg
  rcases hg with rfl|hg
  ·exact Nat.le_trans (Nat.le_max_right _ _) h.1
  ·exact h.2 g hg
theorem yiF {gs:List Nat} {g:Nat} (h:g ∈ gs):mnL gs≤g:=(yd5 gs _).2 g h
theorem yrH {gs:List Nat} {g:Nat} (h:g ∈ gs):g≤mxL gs:=(ygV gs _).2 g h
theorem yd6 {M:Nat}:∀ (gs:List Nat) (a:Nat),a<M→(∀ g ∈ gs,g<M)→gs.foldl max a<M
 | [],_,h,_=>h
 | x::gs,_,h,hg=>yd6 gs _ (Nat.max_lt.2 ⟨h,hg x List.mem_cons_self⟩) (fun g h1=>hg g (List.mem_cons_of_mem _ h1))
theorem ymw {gs:List Nat} (h:∀ g ∈ gs,g<jM):mxL gs<jM:=yd6 gs 0 (by decide) h
theorem ywB (gs:List Nat):mnL gs<jM:=Nat.lt_of_le_of_lt (yd5 gs _).1 (by decide)
theorem yuX {gs:List Nat} (h:gs≠[]):mnL gs≤mxL gs:=by
 cases gs with
 | nil=>exact absurd rfl h
 | cons x gs=>exact Nat.le_trans (yiF List.mem_cons_self) (yrH List.mem_cons_self)
def wdL (gs:List Nat):Nat:=bl (mxL gs-mnL gs)
def btF (gs:List Nat) (m w t:Nat):Nat:=(gs.getD (t/w) 0-m)/2^(w-1-t%w)%2
theorem yrI (gs:List Nat) (m w t:Nat):btF gs m w t<2:=Nat.mod_lt _ (by decide)
theorem yrJ (gs:List Nat) (m:Nat) {w i j:Nat} (hj:j<w):btF gs m w (i*w+j)=(gs.getD i 0-m)/2^(w-1-j)%2:=by
 have h1:(i*w+j)/w=i:=by rw [Nat.mul_comm,Nat.mul_add_div (by omega),Nat.div_eq_of_lt hj,Nat.add_zero]
 have h2:(i*w+j)%w=j:=by rw [Nat.mul_comm,Nat.mul_add_mod,Nat.mod_eq_of_lt hj]
 rw [btF,h1,h2]
def pkF (gs:List Nat):List UInt8:=pkL (btF gs (mnL gs) (wdL gs)) (gs.length*wdL gs)
def pkB (n:Nat) (gs:List Nat):List UInt8:=if gs.length=0 then be 4 0 else be 4 gs.length++be n (mnL gs)++[UInt8.ofNat (wdL gs)]++pkF gs
def yku (n:Nat) (gs:List Nat) (rest:List UInt8):List UInt8:=pkB n gs++rest
end Go.Proofs.YtgepehlpjpccaaaGreatDoor
namespace Go.Proofs
open Go.Shelf
def Tryz.lays129_ren:Go.Shelf.Ren:=⟨fun|129=>190|n=>n,fun|3=>3|4=>4|5=>5|9=>9|46=>50|53=>86|n=>n,fun|s=>s⟩
theorem Tryz.lays129:Go.Proofs.Lays.n129 Tryz.prog Tryz.lays129_ren:={
 mixed:=by kernel_rfl
 f129:=Tryz.func190.trans (congrArg some (by kernel_rfl))
 t3:=Tryz.underlying3
 a3:=Tryz.isAgg3
 z3:=Tryz.sizeOf3
 v3:=Tryz.zeroValue3
 t4:=Tryz.underlying4
 a4:=Tryz.isAgg4
 z4:=Tryz.sizeOf4
 v4:=Tryz.zeroValue4
 t5:=Tryz.underlying5
 a5:=Tryz.isAgg5
 z5:=Tryz.sizeOf5
 v5:=Tryz.zeroValue5
 t9:=Tryz.underlying9
 a9:=Tryz.isAgg9
 z9:=Tryz.sizeOf9
 v9:=Tryz.zeroValue9
 t46:=Tryz.underlying50
 a46:=Tryz.isAgg50
 z46:=Tryz.sizeOf50
 v46:=Tryz.zeroValue50
 t53:=Tryz.underlying86
 a53:=Tryz.isAgg86
 z53:=Tryz.sizeOf86
 v53:=Tryz.zeroValue86 }
theorem Tryz.len64_any (x:Nat) (w:World) (h:x<18446744073709551616):Calls Tryz.prog 190 #[.int .u64 (x:Int)] w fun e w'=>e=.returned (.int .i64 (Lib.bitLen x:Int))∧w=w' :=
 (Any.bits_Len64 Tryz.lays129 (x:Int) w (by omega) (by omega)).mono fun e w' ⟨h1,h2⟩=>⟨by rw [h1,Int.toNat_natCast],h2.symm⟩
end Go.Proofs
set_option maxHeartbeats 4000000
set_option maxRecDepth 100000
namespace Go.Proofs.YtgepehlpjpccaaaGreatDoor
open Go.RowKit Go.Shelf
open Go.Lib
attribute [local go_sem] Oper.semAt_some
structure SpI (N n:Nat) (p:Option Addr) (len c:Nat) (w:World) (a z:Nat) (W:World):Prop where
 b6:W.heap[N]?=some (.cells #[.int .u64 (a:Int)] 86 (0,0))
 b7:W.heap[N+1]?=some (.cells #[.int .u64 (z:Int)] 86 (0,0))
 i1:W.heap[N+1+1]?=some (.cells #[.slice p len c] 39 (0,0))
 i2:W.heap[N+1+1+1]?=some (.cells #[.int .i64 (n:Int)] 3 (0,0))
 bel:Below N w W
section
variable {N n : Nat} {p : Option Addr} {len c : Nat} {w W W' : World} {a z : Nat}
theorem SpI.keep (h:SpI N n p len c w a z W) {row:Option Nat} (hg:W.grownBy W' row) (hr:∀ r,row=some r→N≤r∧∃ o:Obj,W.heap[r]?=some o∧o.isCells=false) (hB:N≤W.heap.size):SpI N n p len c w a z W':=by
 have hk:∀ {k:Nat} {o:Obj},W.heap[k]?=some o→o.isCells=true→W'.heap[k]?=some o:=fun h1 h2=>(grownBy_keeps_cells hg (fun r e=>(hr r e).2) h1 h2).trans h1
 exact ⟨hk h.b6 rfl,hk h.b7 rfl,hk h.i1 rfl,hk h.i2 rfl,h.bel.grown hg hB (fun k e=>(hr k e).1)⟩
theorem SpI.lt (h:SpI N n p len c w a z W):N≤W.heap.size:=Nat.le_of_lt (Array.getElem?_eq_some_iff.1 h.b6).1
theorem SpI.put6 (h:SpI N n p len c w a z W) (a':Nat):SpI N n p len c w a' z (W.setCell ⟨N,0,none⟩ (.int .u64 (a':Int))):=by
 have hk:∀ {k:Nat} {o:Obj},k≠N→W.heap[k]?=some o→(W.setCell ⟨N,0,none⟩ (.int .u64 (a':Int))).heap[k]?=some o:=fun hne h1=>(Below.heap_setCell W ⟨N,0,none⟩ _ _ hne).trans h1
 exact ⟨vL h.b6,hk (by omega) h.b7,hk (by omega) h.i1,hk (by omega) h.i2,h.bel.setCell (p:=⟨N,0,none⟩) (Nat.le_refl _) _⟩
theorem SpI.put7 (h:SpI N n p len c w a z W) (z':Nat):SpI N n p len c w a z' (W.setCell ⟨N+1,0,none⟩ (.int .u64 (z':Int))):=by
 have hk:∀ {k:Nat} {o:Obj},k≠N+1→W.heap[k]?=some o→(W.setCell ⟨N+1,0,none⟩ (.int .u64 (z':Int))).heap[k]?=some o:=fun hne h1=>(Below.heap_setCell W ⟨N+1,0,none⟩ _ _ hne).trans h1
 exact ⟨hk (by omega) h.b6,vL h.b7,hk (by omega) h.i1,hk (by omega) h.i2,h.bel.setCell (p:=⟨N+1,0,none⟩) (by simp) _⟩
end
def yla (gs:List Nat) (w:World) (e:Ending) (w':World):Prop:=Below w.heap.size w w'∧e=.returned (.tuple #[.int .u64 (mnL gs:Int),.int .i64 (wdL gs:Int)])
theorem ysU (p:Option Addr) (c n len k:Nat) (l:List UInt8) (w:World) (HL:Hid (len=l.length)) (HK:Hid (k=len/n)) (h1:1≤n) (h2:n≤8) (hl:len≤1048576) (hc:len≤c) (hk0:0<k) (hbs:Bs w p l) :
  Calls Tryz.prog 149 #[.slice p len c,.int .i64 (n:Int)] w (yla (gl n k l) w):=by
 have HBS:Hid (BsN w.heap.size w p l):=Lib.hid hbs.bsN
 obtain ⟨gs,HGS⟩:∃ gs,Hid (gs=gl n k l):=⟨_,rfl⟩
 have HGL:Hid (gs≠[]∧∀ g ∈ gs,g<jM):=Lib.hid (by
  rw [HGS.out]
  exact ⟨fun e=>by rw [← List.length_eq_zero_iff,yaD] at e;omega,yq8 h2 k l⟩)
 rw [← HGS.out]
 clear hbs
 refine (callsIn_wide (n:=9)).1 ?_
 refine callsIn_of_wp_marks Tryz.func149 rfl trivial ?_ rfl
 simp only [Tryz.ntmps149,List.size_toArray,List.length_cons,List.length_nil,Nat.reduceAdd,Nat.reduceSub,Array.replicate_succ,Array.replicate_zero,List.push_toArray,List.append_toArray,List.nil_append,List.cons_append]
 gi_wp2_with (refine ⟨trivial,?_⟩;gi_at_call 188;refine (ycz _ _ _ _ _ _).mono ?_;rintro e w' ⟨rfl,rfl⟩)
 obtain ⟨W0,hW0⟩:∃ W0,((((w.alloc (.cells #[.int .u64 18446744073709551615] 86)).alloc (.cells #[.int .u64 0] 86)).alloc (.cells #[.slice p len c] 39)).alloc (.cells #[.int .i64 (n:Int)] 3))=W0:=⟨_,rfl⟩
 have hs0:W0.heap.size=w.heap.size+4:=by rw [← hW0];simp
 have hI0:SpI w.heap.size n p len c w 18446744073709551615 0 W0:=by
  rw [← hW0]
  refine ⟨?_,?_,?_,?_,((((Below.refl _ w).alloc (Nat.le_refl _) _).alloc (by simp) _).alloc (by simp<;>omega) _).alloc (by simp<;>omega) _⟩
  ·exact (Below.heap_alloc _ _ _ (by simp<;>omega)).trans ((Below.heap_alloc _ _ _ (by simp<;>omega)).trans ((Below.heap_alloc _ _ _ (by simp)).trans (World.alloc_heap_new w _)))
  ·refine (Below.heap_alloc _ _ _ (by simp<;>omega)).trans ((Below.heap_alloc _ _ _ (by simp)).trans ?_)
   have:=World.alloc_heap_new (w.alloc (.cells #[.int .u64 18446744073709551615] 86)) (.cells #[.int .u64 0] 86);rwa [World.size_alloc] at this
  ·refine (Below.heap_alloc _ _ _ (by simp)).trans ?_
   have:=World.alloc_heap_new ((w.alloc (.cells #[.int .u64 18446744073709551615] 86)).alloc (.cells #[.int .u64 0] 86)) (.cells #[.slice p len c] 39);rwa [World.size_alloc,World.size_alloc] at this
  ·have:=World.alloc_heap_new (((w.alloc (.cells #[.int .u64 18446744073709551615] 86)).alloc (.cells #[.int .u64 0] 86)).alloc (.cells #[.slice p len c] 39)) (.cells #[.int .i64 (n:Int)] 3);rwa [World.size_alloc,World.size_alloc,World.size_alloc] at this
 rw [hW0]
 refine wpIn_rangeFunc_ownF rfl (by omega) (gf:=222) (lb:=#[.pointer (some ⟨w.heap.size+1+1+1,0,none⟩),.pointer (some ⟨w.heap.size+1+1,0,none⟩)]) rfl trivial (enters_of Tryz.func222 (by kernel_rfl) rfl)
  (yaU _ (by omega) (w.heap.size+1+1+1) (w.heap.size+1+1) w.heap.size n len k c l p HL HK h1 h2 hl hc W0 (by omega) (by omega) (by omega) (by simp [World.cell?,hI0.i2]) (by simp [World.cell?,hI0.i1]) (HBS.out.keep hI0.bel)) jO.trans
  (fun W lo o o' hlo ho hc hw=>⟨(Below.refl _ W).grown (grownBy_putObj' W lo o') (by have:=(Array.getElem?_eq_some_iff.1 ho).1;omega) (fun k e=>by cases e;omega),World.putObj_heap_other (by omega),World.putObj_heap_other (by omega)⟩) (Below.refl _ _) (fun _=>rfl)
  (fun pre W=>SpI w.heap.size n p len c w ((gP l n pre).foldl min 18446744073709551615) ((gP l n pre).foldl max 0) W)
  (fun _ _ _=>False)
  (fun s W W' row h hg hr=>h.keep hg (fun r e=>⟨by have:=(hr r e).1;omega,(hr r e).2⟩) h.lt)
  (fun _ _ _ _ _ h _ _=>h)
  hI0 ?a1 ?assign ?body ?done ?stop
 case assign =>
  intro lo x W K hK
  gi_wp2
  exact hK
 case body =>
  intro lo pre x W hI hlen
  obtain ⟨a,HA⟩:∃ a,Hid (a=(gP l n pre).foldl min 18446744073709551615):=⟨_,rfl⟩
  obtain ⟨z,HZ⟩:∃ z,Hid (z=(gP l n pre).foldl max 0):=⟨_,rfl⟩
  rw [← HA.out,← HZ.out] at hI
  obtain ⟨g,HG⟩:∃ g,Hid (g=gN l n x.1):=⟨_,rfl⟩
  obtain ⟨a2,HA2⟩:∃ a2,Hid (a2=min a g):=⟨_,rfl⟩
  obtain ⟨z2,HZ2⟩:∃ z2,Hid (z2=max z g):=⟨_,rfl⟩
  have e10:(nb ((l.drop (x.1*n)).take n))=g:=HG.out.symm
  have yqC:min (a:Int) (g:Int)=(a2:Int):=by rw [HA2.out];omega
  have hmax:max (z:Int) (g:Int)=(z2:Int):=by rw [HZ2.out];omega
  have c6:W.cell? ⟨w.heap.size,0,none⟩=some (.int .u64 (a:Int)):=by simp [World.cell?,hI.b6]
  have f6:W.frozen? ⟨w.heap.size,0,none⟩=false:=by simp [World.frozen?,hI.b6]
  have hI1:=hI.put6 a2
  have hI2:=hI1.put7 z2
  have hF:KeepsOthers W ((W.setCell ⟨w.heap.size,0,none⟩ (.int .u64 (a2:Int))).setCell ⟨w.heap.size+1,0,none⟩ (.int .u64 (z2:Int)))∧jO w.heap.size (w.heap.size+1+1+1) (w.heap.size+1+1) W ((W.setCell ⟨w.heap.size,0,none⟩ (.int .u64 (a2:Int))).setCell ⟨w.heap.size+1,0,none⟩ (.int .u64 (z2:Int))) ∧
    SpI w.heap.size n p len c w ((gP l n (pre++[x])).foldl min 18446744073709551615) ((gP l n (pre++[x])).foldl max 0) ((W.setCell ⟨w.heap.size,0,none⟩ (.int .u64 (a2:Int))).setCell ⟨w.heap.size+1,0,none⟩ (.int .u64 (z2:Int))):=by
   refine ⟨(KeepsOthers.setCell _ _ _).trans (KeepsOthers.setCell _ _ _),⟨((Below.refl _ W).setCell (p:=⟨w.heap.size,0,none⟩) (Nat.le_refl _) _).setCell (p:=⟨w.heap.size+1,0,none⟩) (by simp) _,hI2.i2.trans hI.i2.symm,hI2.i1.trans hI.i1.symm⟩,?_⟩
   rw [yfX,List.foldl_append,List.foldl_append,← HA.out,← HZ.out,← HG.out]
   show SpI _ _ _ _ _ _ (min a g) (max z g) _
   rw [← HA2.out,← HZ2.out]
   exact hI2
  have HFh:=Lib.hid hF
  obtain ⟨W1,hW1⟩:∃ W1,W.setCell ⟨w.heap.size,0,none⟩ (.int .u64 (a2:Int))=W1:=⟨_,rfl⟩
  rw [hW1] at hI1 HFh
  have c7:W1.cell? ⟨w.heap.size+1,0,none⟩=some (.int .u64 (z:Int)):=by simp [World.cell?,hI1.b7]
  have f7:W1.frozen? ⟨w.heap.size+1,0,none⟩=false:=by simp [World.frozen?,hI1.b7]
  simp only [e10]
  clear hF hI hI1 hI2 e10
  gi_wp2
  exact HFh.out
 case done =>
  intro D xs W hD hxs hI hK
  rw [yiE l n xs hxs,← HGS.out] at hI
  have hI':SpI w.heap.size n p len c w (mnL gs) (mxL gs) W:=hI
  obtain ⟨a,HA⟩:∃ a,Hid (a=mnL gs):=⟨_,rfl⟩
  obtain ⟨z,HZ⟩:∃ z,Hid (z=mxL gs):=⟨_,rfl⟩
  obtain ⟨d,HD⟩:∃ d,Hid (d=z-a):=⟨_,rfl⟩
  have yD:Hid (∀ W5:World,W5=W.drew→(W5.putObj D (.deferred none)=W5.putObj D (.deferred none)∧yla gs w (.returned (.tuple #[.int .u64 (a:Int),.int .i64 (Lib.bitLen d:Int)])) (W5.putObj D (.deferred none)))):=Lib.hid (fun W5 h5=>⟨rfl,by
   rw [h5];exact hI'.bel.drew.trans ((Below.refl _ _).grown (grownBy_putObj' W.drew D _) hI'.lt (fun k e=>by cases e;omega)),by rw [HA.out,HD.out,HA.out,HZ.out];rfl⟩)
  rw [← HA.out,← HZ.out] at hI'
  have ydx:IntKind.u64.wrap ((z:Int)-(a:Int))=(d:Int):=by
   have q1:=yuX HGL.out.1
   have q2:=ymw HGL.out.2
   rw [← HA.out,← HZ.out] at q1
   rw [← HZ.out] at q2
   rw [IntKind.wrap_u64,HD.out];unfold jM at q2;omega
  have HC:=Lib.hid (Tryz.len64_any d W.drew (by
   have q2:=ymw HGL.out.2
   rw [← HZ.out] at q2
   rw [HD.out];unfold jM at q2;omega))
  have c6:W.drew.cell? ⟨w.heap.size,0,none⟩=some (.int .u64 (a:Int)):=by show W.cell? _=_;simp [World.cell?,hI'.b6]
  have c7:W.drew.cell? ⟨w.heap.size+1,0,none⟩=some (.int .u64 (z:Int)):=by show W.cell? _=_;simp [World.cell?,hI'.b7]
  have hKD:W.drew.heap[D]?=some (.deferred (some [])):=hK
  clear hI hI'
  gi_wp2
  refine wpIn_wide.2 ?_
  refine wp_region_noPanic ?_
  refine wp_region_held_drew (S:=fun W'=>W'.cell? ⟨w.heap.size,0,none⟩=some (.int .u64 (a:Int))∧W'.cell? ⟨w.heap.size+1,0,none⟩=some (.int .u64 (z:Int))) (by kernel_rfl) ⟨c6,c7⟩ (fun hHeld=>?_)
  refine wpAnyH_take (i:=0) (v:=.int .u64 (a:Int)) rfl (by kernel_rfl) (by kernel_rfl) (by kernel_rfl) (fun _ _ _ h=>h) (Or.inl ⟨by rfl,by intro W' hSw;obtain ⟨e6,e7⟩:=hSw;go_simp⟩) (by assumption) ?_
  simp only [List.getElem_toArray,List.getElem_cons_zero,Act.put,List.setIfInBounds_toArray,List.set_cons_zero,List.set_cons_succ]
  refine wpAnyH_take (i:=1) (v:=.int .u64 (z:Int)) rfl (by kernel_rfl) (by kernel_rfl) (by kernel_rfl) (fun _ _ _ h=>h) (Or.inl ⟨by rfl,by intro W' hSw;obtain ⟨e6,e7⟩:=hSw;go_simp⟩) (by assumption) ?_
  simp only [List.getElem_toArray,List.getElem_cons_zero,List.getElem_cons_succ,Act.put,List.setIfInBounds_toArray,List.set_cons_zero,List.set_cons_succ]
  refine wpAnyH_take (i:=2) (v:=.int .u64 (a:Int)) rfl (by kernel_rfl) (by kernel_rfl) (by kernel_rfl) (fun _ _ _ h=>h) (Or.inl ⟨by rfl,by intro W' hSw;obtain ⟨e6,e7⟩:=hSw;go_simp⟩) (by assumption) ?_
  simp only [List.getElem_toArray,List.getElem_cons_zero,List.getElem_cons_succ,Act.put,List.setIfInBounds_toArray,List.set_cons_zero,List.set_cons_succ]
  refine wpAnyH_take (i:=3) (v:=.int .u64 (d:Int)) rfl (by kernel_rfl) (by kernel_rfl) (by kernel_rfl) (fun _ _ _ h=>h) (Or.inl ⟨by rfl,by intro W' hSw;obtain ⟨e6,e7⟩:=hSw;go_simp⟩) (by assumption) ?_
  simp only [List.getElem_toArray,List.getElem_cons_zero,List.getElem_cons_succ,Act.put,List.setIfInBounds_toArray,List.set_cons_zero,List.set_cons_succ]
  refine wpAnyH_ready (rs:=[4]) (by kernel_rfl) (by simp) ?_
  refine AllReadyH.cons (i:=4) rfl (fun K hK=>?_) AllReadyH.nil
  go_simp
  refine (HC.out).mono ?_
  rintro e W' ⟨rfl,rfl⟩
  refine hK.out _ _ (⟨c6,c7⟩) (fun hHeld=>?_)
  clear hK K
  refine wpAnyH_ready (rs:=[5]) (by kernel_rfl) (by simp) ?_
  refine AllReadyH.cons (i:=5) rfl (fun K hK=>?_) AllReadyH.nil
  go_simp
  refine hK.out _ _ (⟨c6,c7⟩) (fun hHeld=>?_)
  clear hK K
  refine wpAnyH_ready (rs:=[6]) (by kernel_rfl) (by simp) ?_
  refine AllReadyH.cons (i:=6) rfl (fun K hK=>?_) AllReadyH.nil
  go_simp
  refine hK.out _ _ (⟨c6,c7⟩) (fun hHeld=>?_)
  clear hK K
  refine wpAnyH_done (by kernel_rfl) ?_ _
  refine NoPanic.normal ?_
  gi_wp2
  refine ⟨by simp,.inl ⟨_,_,rfl,run_takeDeferred hKD,?_⟩⟩
  refine ⟨_,?_,(yD.out _ rfl).2⟩
  simp [results,Tryz.f149,go_sem]
 case stop =>
  rintro D c pre W hD _ h
  exact h.elim
attribute [local go_sem] Oper.semAt_some
theorem yp2 {b b':Nat→Nat} {T:Nat} (h:∀ t,t<T→b t=b' t):pkL b T=pkL b' T:=by
 have hv:∀ q r,8*q+r≤T→bv b q r=bv b' q r:=by
  intro q r
  induction r with
  | zero=>intro _;rfl
  | succ r ih=>intro hr;rw [bv,bv,ih (by omega),h (8*q+r) (by omega)]
 unfold pkL
 refine List.map_congr_left fun q hq=>?_
 rw [List.mem_range] at hq
 rw [hv q _ (by omega)]
theorem yof {gs:List Nat} {g m w t:Nat} (h:t<gs.length*w):btF (gs++[g]) m w t=btF gs m w t:=by
 have hw:0<w:=by
  rcases Nat.eq_zero_or_pos w with h0|h0
  ·rw [h0,Nat.mul_zero] at h;omega
  ·exact h0
 have h1:t/w<gs.length:=(Nat.div_lt_iff_lt_mul hw).2 h
 rw [btF,btF,List.getD_eq_getElem?_getD,List.getD_eq_getElem?_getD,List.getElem?_append_left h1]
structure PkI (N n:Nat) (p:Option Addr) (len c m wd:Nat) (w:World) (v:Value) (L:List UInt8) (T:Nat) (W:World):Prop where
 own:W.ownsRow N 5 1 v L.length (zS L)
 b6:W.heap[N]?=some (.cells #[.int .u64 (m:Int)] 86 (0,0))
 b7:W.heap[N+1]?=some (.cells #[.int .i64 (wd:Int)] 3 (0,0))
 out:W.heap[N+1+1]?=some (.cells #[v] 39 (0,0))
 b10:W.heap[N+1+1+1]?=some (.cells #[.int .i64 (T:Int)] 3 (0,0))
 i1:W.heap[N+1+1+1+1]?=some (.cells #[.slice p len c] 39 (0,0))
 i2:W.heap[N+1+1+1+1+1]?=some (.cells #[.int .i64 (n:Int)] 3 (0,0))
 bel:Below N w W
section
variable {N n : Nat} {p : Option Addr} {len c m wd : Nat} {w W W' : World} {v v' : Value} {L L' : List UInt8} {T T' : Nat}
theorem PkI.keep (h:PkI N n p len c m wd w v L T W) {row:Option Nat} (hg:W.grownBy W' row) (hr:∀ r,row=some r→N≤r∧∃ o:Obj,W.heap[r]?=some o∧o.isCells=false) (hB:N≤W.heap.size):PkI N n p len c m wd w v L T W':=by
 have hk:∀ {k:Nat} {o:Obj},W.heap[k]?=some o→o.isCells=true→W'.heap[k]?=some o:=fun h1 h2=>(grownBy_keeps_cells hg (fun r e=>(hr r e).2) h1 h2).trans h1
 exact ⟨vV h.own (fun k cs h1=>hk h1 rfl),hk h.b6 rfl,hk h.b7 rfl,hk h.out rfl,hk h.b10 rfl,hk h.i1 rfl,hk h.i2 rfl,h.bel.grown hg hB (fun k e=>(hr k e).1)⟩
theorem PkI.lt (h:PkI N n p len c m wd w v L T W):N≤W.heap.size:=Nat.le_of_lt (Array.getElem?_eq_some_iff.1 h.b6).1
theorem PkI.drew (h:PkI N n p len c m wd w v L T W):PkI N n p len c m wd w v L T W.drew:=⟨h.own,h.b6,h.b7,h.out,h.b10,h.i1,h.i2,h.bel.drew⟩
theorem PkI.put10 (h:PkI N n p len c m wd w v L T W) (T':Nat):PkI N n p len c m wd w v L T' (W.setCell ⟨N+1+1+1,0,none⟩ (.int .i64 (T':Int))):=by
 have hk:∀ {k:Nat} {o:Obj},k≠N+1+1+1→W.heap[k]?=some o→(W.setCell ⟨N+1+1+1,0,none⟩ (.int .i64 (T':Int))).heap[k]?=some o:=fun hne h1=>(Below.heap_setCell W ⟨N+1+1+1,0,none⟩ _ _ hne).trans h1
 refine ⟨vV h.own (fun k cs h3=>hk ?_ h3),hk (by omega) h.b6,hk (by omega) h.b7,hk (by omega) h.out,vL h.b10,hk (by omega) h.i1,hk (by omega) h.i2,h.bel.setCell (p:=⟨N+1+1+1,0,none⟩) (by show N≤N+1+1+1;omega) _⟩
 rintro rfl
 rw [h.b10] at h3;cases h3
theorem PkI.app (h:PkI N n p len c m wd w v L T W) (hg:Grew N W v L' W' v'):W'.ownsRow N 5 1 v' L'.length (zS L')∧PkI N n p len c m wd w v' L' T (W'.setCell ⟨N+1+1,0,none⟩ v')∧KeepsOthers W (W'.setCell ⟨N+1+1,0,none⟩ v')∧W'.heap[N+1+1]?=some (.cells #[v] 39 (0,0))∧Below N W (W'.setCell ⟨N+1+1,0,none⟩ v'):=by
 have hk:∀ {k:Nat} {cs:Array Value} {t:TypeId},W.heap[k]?=some (.cells cs t (0,0))→t≠5→W'.heap[k]?=some (.cells cs t (0,0)):=fun h1 h2=>(hg.grown.block _ (Array.getElem?_eq_some_iff.1 h1).1 (ybH h.own h1 h2)).trans h1
 have hs:∀ {k:Nat} {o:Obj},k≠N+1+1→W'.heap[k]?=some o→(W'.setCell ⟨N+1+1,0,none⟩ v').heap[k]?=some o:=fun hne h1=>(Below.heap_setCell W' ⟨N+1+1,0,none⟩ _ _ hne).trans h1
 have hO:=hk h.out (by decide)
 have hne:∀ {k:Nat} {cs:Array Value},W'.heap[k]?=some (.cells cs 5 (0,0))→k≠N+1+1:=by
  rintro k cs h1 rfl
  rw [hO] at h1;cases h1
 have hb1:Below N w W':=h.bel.grown hg.grown h.lt (fun k e=>GR h.own e)
 refine ⟨hg.own,⟨vV hg.own (fun k cs h3=>hs (hne h3) h3),hs (by omega) (hk h.b6 (by decide)),hs (by omega) (hk h.b7 (by decide)),vL hO,hs (by omega) (hk h.b10 (by decide)),hs (by omega) (hk h.i1 (by decide)),hs (by omega) (hk h.i2 (by decide)),hb1.setCell (p:=⟨N+1+1,0,none⟩) (by show N≤N+1+1;omega) _⟩,(KeepsOthers.of_grownBy hg.grown (ycc h.own)).trans (KeepsOthers.setCell _ _ _),hO,((Below.refl N W).grown hg.grown h.lt (fun k e=>GR h.own e)).setCell (p:=⟨N+1+1,0,none⟩) (by show N≤N+1+1;omega) _⟩
theorem PkI.set (h:PkI N n p len c m wd w v L T W) (hl:0<L.length):∃ g cap,v=.slice (some ⟨g,0,none⟩) L.length cap∧L.length≤cap∧(∀ j,j<L.length→W.cell? ⟨g,j,none⟩=some (.int .u8 (((L.getD j 0).toNat:Nat):Int)))∧(∀ j,W.frozen? ⟨g,j,none⟩=false)∧(∀ k,k≤N+1+1+1+1+1→N≤k→k≠g)∧∀ k (y:UInt8),k<L.length→PkI N n p len c m wd w v (L.set k y) T (W.setCell ⟨g,k,none⟩ (.int .u8 (y.toNat:Int)))∧Below N W (W.setCell ⟨g,k,none⟩ (.int .u8 (y.toNat:Int))):=by
 obtain ⟨g,cap,hv,hcap,hg,hgl,hc,hf,yfb⟩:=yi7 h.own hl
 have hx:∀ {k:Nat} {cs:Array Value} {t:TypeId},W.heap[k]?=some (.cells cs t (0,0))→t≠5→k≠g:=by
  rintro k cs t h1 h2 rfl
  have:=ybH h.own h1 h2
  rw [hv] at this;exact this rfl
 refine ⟨g,cap,hv,hcap,hc,hf,fun k hk1 hk2=>?_,fun k y hk=>?_⟩
 ·have:k=N∨k=N+1∨k=N+1+1∨k=N+1+1+1∨k=N+1+1+1+1∨k=N+1+1+1+1+1:=by omega
  rcases this with rfl|rfl|rfl|rfl|rfl|rfl
  ·exact hx h.b6 (by decide)
  ·exact hx h.b7 (by decide)
  ·exact hx h.out (by decide)
  ·exact hx h.b10 (by decide)
  ·exact hx h.i1 (by decide)
  ·exact hx h.i2 (by decide)
 ·have hk':∀ {j:Nat} {cs:Array Value} {t:TypeId},W.heap[j]?=some (.cells cs t (0,0))→t≠5→(W.setCell ⟨g,k,none⟩ (.int .u8 (y.toNat:Int))).heap[j]?=some (.cells cs t (0,0)):=fun h1 h2=>(Below.heap_setCell W ⟨g,k,none⟩ _ _ (hx h1 h2)).trans h1
  have ho:=yfb k y hk
  rw [show L.length=(L.set k y).length by rw [List.length_set]] at ho
  exact ⟨⟨ho,hk' h.b6 (by decide),hk' h.b7 (by decide),hk' h.out (by decide),hk' h.b10 (by decide),hk' h.i1 (by decide),hk' h.i2 (by decide),h.bel.setCell (p:=⟨g,k,none⟩) hg _⟩,(Below.refl N W).setCell (p:=⟨g,k,none⟩) hg _⟩
end
end Go.Proofs.YtgepehlpjpccaaaGreatDoor
