/- Fill: what functions leave that answer an array; the program's Fill. -/
import Derived.Test.YtlcpcpmlfegejaaGreatDoorHB
import Derived.Laws.ResultCell
import Derived.Test.YtlcpcpmlfegejaaGreatDoorLC
import Derived.Test.YtlcpcpmlfegejaaGreatDoorRa
import Derived.Test.YtlcpcpmlfegejaaGreatDoorMA
import Derived.Test.YtlcpcpmlfegejaaGreatDoorZRC
namespace Go.Proofs.YtlcpcpmlfegejaaGreatDoor.Arr
open Go.RowKit Go.Shelf
open Go.Lib
attribute [local go_sem] Oper.semAt_some
def ArrPost (w:World) (z:Int) (s1:List Nat) (l1:List (List UInt8)) (e:Ending) (w':World):Prop :=
 Below w.heap.size w w'∧∃ (q1 q2:Option Addr) (n1 d1 m1 d2:Nat),e=.returned (.tuple #[.agg #[.slice q1 n1 d1,.slice q2 m1 d2],.int .i64 z])∧s1.length=n1∧l1.length=m1∧RdN w' q1 s1∧RdS w' q2 l1
theorem arr_no {w w':World} {z:Int} (h:Below w.heap.size w w'):ArrPost w z [] [] (.returned (.tuple #[.agg #[.slice none 0 0,.slice none 0 0],.int .i64 z])) w' :=
 ⟨h,none,none,0,0,0,0,rfl,rfl,rfl,⟨fun z hz=>(by cases hz),.inl rfl⟩,.inl rfl⟩
end Go.Proofs.YtlcpcpmlfegejaaGreatDoor.Arr
namespace Go.Proofs.YtlcpcpmlfegejaaGreatDoor.Arr
open Go.RowKit Go.Shelf
open Go.Lib
attribute [local go_sem] Oper.semAt_some
def strs (l:List (List UInt8)):List Value:=l.map (fun x=>Value.string ⟨List.toArray x⟩)
end Go.Proofs.YtlcpcpmlfegejaaGreatDoor.Arr
namespace Go.Proofs.YtlcpcpmlfegejaaGreatDoor.Arr
open Go.RowKit Go.Shelf
open Go.Lib
attribute [local go_sem] Oper.semAt_some
theorem fn_nil (w:World):(binOp BinOp.eql 55 .nilFunc .nilFunc).run Tryz.prog w=.ok (.bool true) w:=by kernel_rfl
theorem fn_some (f:Fn) (first caps:Array Value) (w:World):(binOp BinOp.eql 55 (.func f first caps) .nilFunc).run Tryz.prog w=.ok (.bool false) w:=by kernel_rfl
theorem isV_cases {x:List UInt8} (h:isV x=true):x=[]∨∃ q,num x=some q:=by
 by_cases hx:x=[]
 ·exact .inl hx
 ·rw [isV_num x (by simpa using hx),Option.isSome_iff_exists] at h
  exact .inr h
theorem read_val (x:List UInt8) (W:World) (hv:isV x=true):Calls Tryz.prog 26 #[.string ⟨x.toArray⟩] W (NumPost (num x) W):=by
 rcases isV_cases hv with rfl|⟨q,hq⟩
 ·have e:readL []=none:=by decide
  refine (read_any ⟨[].toArray⟩ W (by decide)).mono fun e' w' h=>?_
  rw [num_nil]
  unfold ReadPost at h
  rw [show (⟨[].toArray⟩:ByteArray).data.toList=[] from rfl,e] at h
  exact ⟨h.1,_,_,_,_,_,_,_,h.2,fun r h'=>by cases h'⟩
 ·rw [hq]
  have hq0:=hq
  unfold num at hq0
  rw [Option.map_eq_some_iff] at hq0
  obtain ⟨⟨s,n,d⟩,h1,rfl⟩:=hq0
  obtain ⟨h2,h3,h4⟩:=readQ_lt h1
  unfold readQ at h1
  split at h1
  ·cases h1
  ·rename_i hl
   split at h1
   ·rename_i s0 n0 d0 hr
    split at h1
    ·cases h1
     refine (read_any ⟨x.toArray⟩ W (by simp [ByteArray.size];omega)).mono fun e' w' h=>?_
     unfold ReadPost at h
     rw [show (⟨x.toArray⟩:ByteArray).data.toList=x from rfl,hr] at h
     obtain ⟨hb,z,rfl,hz⟩:=h
     have hz2:=hz
     obtain ⟨u,v,rfl,hu,hv2,-⟩:=hz2
     obtain ⟨p,m,c,rfl⟩:=hu.slice
     obtain ⟨p2,m2,c2,rfl⟩:=hv2.slice
     exact ⟨hb,_,_,_,_,_,_,_,rfl,fun r h'=>by cases h';exact ⟨_,_,_,hz,rfl,h4,h2,h3⟩⟩
    ·cases h1
   ·cases h1
theorem NumsIn.sl {W:World} {base:Nat} {v:Value} {xs:List C7} {qs:List Rat} (h:NumsIn W base v xs qs) (hm:qs.length≤1000):∃ p c,v=.slice p qs.length c∧SlQ W p qs.length c qs:=by
 by_cases hv:v=.slice none 0 0
 ·obtain ⟨⟨-,hr⟩,-⟩:=h.row
  rcases hr with hr|⟨g,cap,cur,rfl,-⟩
  ·have h0:qs.length=0:=hr.2
   rw [h0]
   exact ⟨none,0,hv,h0,by omega,by omega,.inl h0,.inl ⟨rfl,rfl⟩⟩
  ·simp at hv
 ·obtain ⟨g,c,rfl,hle,hrd⟩:=h.rd hv
  exact ⟨_,c,rfl,rfl,hm,hle,hrd,.inr ⟨g,0,rfl⟩⟩
theorem all_getD {l:List (List UInt8)} (h:l.all isV=true) (j:Nat) (hj:j<l.length):isV (l.getD j [])=true:=by
 rw [List.all_eq_true] at h
 rw [List.getD_eq_getElem?_getD,List.getElem?_eq_getElem hj]
 exact h _ (List.getElem_mem hj)
end Go.Proofs.YtlcpcpmlfegejaaGreatDoor.Arr
namespace Go.Proofs.YtlcpcpmlfegejaaGreatDoor.Arr
open Go.RowKit
open Go.Lib
theorem plc_set:∀ (s ix:List Nat) (a v acc:Nat),ix.length=s.length→a<s.length→plc s (ix.set a v) acc=plc s (ix.set a 0) acc+v*prod (s.drop (a+1))
 | [],_,_,_,_,_,h=>absurd h (by simp)
 | _::_,[],_,_,_,h,_=>absurd h (by simp)
 | x::s,i::ix,0,v,acc,h,_=>by
  have hl:ix.length=s.length:=by simpa using h
  simp only [List.set_cons_zero,plc,Nat.add_zero,Nat.zero_add,List.drop_succ_cons,List.drop_zero]
  rw [plc_add s ix (acc*x+v) hl,plc_add s ix (acc*x) hl,Nat.add_mul]
  omega
 | x::s,i::ix,a+1,v,acc,h,ha=>by
  have hl:ix.length=s.length:=by simpa using h
  simp only [List.set_cons_succ,plc,List.drop_succ_cons]
  exact plc_set s ix a v (acc*x+i) hl (by simpa using ha)
theorem isix_set {s ix:List Nat} {a v k:Nat} (h:IsIx (s.set a k) ix) (ha:a<s.length) (hv:v<s.getD a 0):IsIx s (ix.set a v):=by
 obtain ⟨h1,h2⟩:=h
 rw [List.length_set] at h1
 refine ⟨by rw [List.length_set,h1],fun j hj=>?_⟩
 by_cases hja:j=a
 ·subst hja
  rw [List.getD_eq_getElem?_getD,List.getElem?_set_self (by omega)]
  exact hv
 ·have:=h2 j (by rw [List.length_set];exact hj)
  rw [List.getD_eq_getElem?_getD,List.getElem?_set_ne (fun e=>hja e.symm),← List.getD_eq_getElem?_getD]
  rwa [List.getD_eq_getElem?_getD (l:=s.set a k),List.getElem?_set_ne (fun e=>hja e.symm),← List.getD_eq_getElem?_getD] at this
theorem plc_in {s ix:List Nat} {a v k:Nat} (h:IsIx (s.set a k) ix) (ha:a<s.length) (hv:v<s.getD a 0):plc s (ix.set a v) 0<prod s:=by
 have:=(plc_lt s _ 0 (isix_set h ha hv)).1
 rwa [Nat.zero_add,Nat.one_mul] at this
def alL (s:List Nat) (l:List (List UInt8)) (a:Nat) (ix ps:List Nat):List (List UInt8):=ps.map fun v=>l.getD (plc s (ix.set a v) 0) []
theorem alL_snoc (s:List Nat) (l:List (List UInt8)) (a:Nat) (ix ps:List Nat) (v:Nat):alL s l a ix (ps++[v])=alL s l a ix ps++[l.getD (plc s (ix.set a v) 0) []]:=by simp [alL]
theorem numsL_snoc (l:List (List UInt8)) (x:List UInt8):numsL (l++[x])=numsL l++(num x).toList:=by
 rw [numsL_append]
 have h:numsL [x]=(num x).toList:=by unfold numsL;cases h:num x<;>simp [h]
 rw [h]
theorem prod_set1:∀ (s:List Nat) (a:Nat),a<s.length→prod (s.set a 1)=prod (s.eraseIdx a)
 | [],_,h=>absurd h (by simp)
 | x::s,0,_=>by rw [List.set_cons_zero,prod_cons,Nat.one_mul];rfl
 | x::s,a+1,h=>by rw [List.set_cons_succ,prod_cons,prod_set1 s a (by simpa using h),List.eraseIdx_cons_succ,prod_cons]
theorem ixOf_set1:∀ (s:List Nat) (a i:Nat),a<s.length→i<prod (s.eraseIdx a)→ixOf (s.set a 1) i=(ixOf (s.eraseIdx a) i).take a++0::(ixOf (s.eraseIdx a) i).drop a
 | [],_,_,h,_=>absurd h (by simp)
 | x::s,0,i,_,hi=>by
  have hi:i<prod s:=hi
  show (i/prod s)::ixOf s (i%prod s)=[]++0::ixOf s i
  rw [Nat.div_eq_of_lt hi,Nat.mod_eq_of_lt hi];rfl
 | x::s,a+1,i,h,hi=>by
  rw [List.eraseIdx_cons_succ,prod_cons] at hi
  have ha:a<s.length:=by simpa using h
  have hp:0<prod (s.eraseIdx a):=by
   rcases Nat.eq_zero_or_pos (prod (s.eraseIdx a)) with h0|h0
   ·rw [h0,Nat.mul_zero] at hi;omega
   ·exact h0
  have ih:=ixOf_set1 s a (i%prod (s.eraseIdx a)) ha (Nat.mod_lt _ hp)
  show (i/prod (s.set a 1))::ixOf (s.set a 1) (i%prod (s.set a 1))=_
  rw [prod_set1 s a ha,ih]
  rfl
end Go.Proofs.YtlcpcpmlfegejaaGreatDoor.Arr
namespace Go.Proofs.YtlcpcpmlfegejaaGreatDoor.Arr
open Go.RowKit Go.Shelf
open Go.Lib
theorem run_append_p (w:World) (ty:TypeId) (V m cap g:Nat) (x:C7) (hrow:SRow w V cap) (hm:m<cap) (hg:∀ c,c<3→w.cell? ⟨g,c,none⟩=(encC x)[c]?):∃ w',(Builtin.append_ #[58,58] ty #[.slice (some ⟨V,0,none⟩) m cap,.slice (some ⟨g,0,none⟩) 1 1]).run Tryz.prog w=.ok (.slice (some ⟨V,0,none⟩) (m+1) cap) w'∧SRow w' V cap∧AtC w' V m x∧w.grownBy w' (some V)∧KeepsOthers w w'∧∀ j y,j≠m→AtC w V j y→AtC w' V j y:=by
 obtain ⟨i0,hi,-,hz1,-⟩:=info_parts6 info66
 have hrow2:=hrow
 obtain ⟨cur,hV,hs,hN⟩:=hrow
 have hsl:cur.toList.length=cap*3:=by rw [Array.length_toList];exact hs
 obtain ⟨hl,hin,hout⟩:=row_put (x:=x) hsl hm
 have hr:=run_append_room (P:=Tryz.prog) w 58 ty 62 i0 Tryz.underlying58 hi V m cap cur hV ⟨g,0,none⟩ 1 1 (encC x) (by rw [hz1];rfl) (fun j u hj=>by
  have hj3:j<3:=by have:=(List.getElem?_eq_some_iff.1 hj).1;rwa [encC_len] at this
  rw [Addr.add_mid,Nat.zero_add,hg j hj3,hj]) (encC_one x) (by omega) (by rw [hz1,encC_len];omega)
 rw [hz1,encC_len] at hr
 have hh:=setRow_heap w V cur (cur.toList.take (m*3)++encC x++cur.toList.drop (m*3+3)).toArray 62 (0,0) hV
 have hsr:SRow (w.setRow V (cur.toList.take (m*3)++encC x++cur.toList.drop (m*3+3)).toArray) V cap:=by
  refine ⟨_,hh,by rw [List.size_toArray];exact hl,fun u hu=>?_⟩
  simp only [List.mem_append] at hu
  rcases hu with (hu|hu)|hu
  ·exact hN u (List.mem_of_mem_take hu)
  ·exact encC_noU x u hu
  ·exact hN u (List.mem_of_mem_drop hu)
 refine ⟨_,hr,hsr,AtC.of hsr fun c hc=>?_,⟨rfl,rfl,rfl,by simp,fun k _ hk=>setRow_other w V k _ (fun e=>hk (by simp [e]))⟩,?_,fun j y hj hy=>AtC.of hsr fun c hc=>?_⟩
 ·rw [ceh hh,List.getElem?_toArray];exact hin c hc
 ·exact KeepsOthers.of_grownBy (row:=some V) ⟨rfl,rfl,rfl,by simp,fun k _ hk=>setRow_other w V k _ (fun e=>hk (by simp [e]))⟩ (fun j o hj ho=>by cases hj;rw [hV] at ho;cases ho;rfl)
 ·rw [ceh hh,List.getElem?_toArray,hout _ (by omega),Array.getElem?_toList,← ceh hV]
  exact (hy c hc).1
theorem srow_other {W W':World} {V cap:Nat} {row:Option Nat} (h:SRow W V cap) (hg:W.grownBy W' row) (hr:row≠some V):SRow W' V cap:=by
 obtain ⟨cur,hV,h2⟩:=h
 exact ⟨cur,(hg.block V (Array.getElem?_eq_some_iff.1 hV).1 (fun e=>hr e.symm)).trans hV,h2⟩
theorem atc_other {W W':World} {V cap i:Nat} {x:C7} {row:Option Nat} (h:AtC W V i x) (hs:SRow W V cap) (hg:W.grownBy W' row) (hr:row≠some V):AtC W' V i x:=by
 have hs':=srow_other hs hg hr
 obtain ⟨cur,hV,-⟩:=hs
 refine AtC.of hs' fun c hc=>?_
 rw [← (h c hc).1]
 exact World.cell?_of_block (a:=⟨V,i*3+c,none⟩) (hg.block V (Array.getElem?_eq_some_iff.1 hV).1 (fun e=>hr e.symm))
structure PresI (w1 W:World) (V cap:Nat) (qs:List Rat):Prop where
 row:SRow W V cap
 le:qs.length≤cap
 nums:∃ xs:Nat→C7,∀ j,j<qs.length→AtC W V j (xs j)∧RatIs w1 (valC (xs j)) (qs.getD j 0) 20
theorem PresI.nil {w1 W:World} {V cap:Nat} (h:SRow W V cap):PresI w1 W V cap []:=⟨h,Nat.zero_le _,fun _=>nilC,fun j hj=>by simp at hj⟩
theorem PresI.next {w1 W W':World} {V cap:Nat} {qs:List Rat} {row:Option Nat} (h:PresI w1 W V cap qs) (hg:W.grownBy W' row) (hr:row≠some V):PresI w1 W' V cap qs:=by
 obtain ⟨xs,hx⟩:=h.nums
 exact ⟨srow_other h.row hg hr,h.le,xs,fun j hj=>⟨atc_other (hx j hj).1 h.row hg hr,(hx j hj).2⟩⟩
theorem PresI.more {w1 W W':World} {V cap:Nat} {qs:List Rat} {q:Rat} {x:C7} (h:PresI w1 W V cap qs) (hm:qs.length<cap) (hr:SRow W' V cap) (ha:AtC W' V qs.length x) (hq:RatIs w1 (valC x) q 20) (ho:∀ j y,j≠qs.length→AtC W V j y→AtC W' V j y):PresI w1 W' V cap (qs++[q]):=by
 obtain ⟨xs,hx⟩:=h.nums
 refine ⟨hr,by rw [List.length_append];simp;omega,fun j=>if j=qs.length then x else xs j,fun j hj=>?_⟩
 rw [List.length_append] at hj
 simp only [List.length_cons,List.length_nil] at hj
 by_cases hjk:j=qs.length
 ·subst hjk
  dsimp only
  rw [if_pos rfl,List.getD_eq_getElem?_getD,List.getElem?_append_right (by omega),Nat.sub_self]
  exact ⟨ha,hq⟩
 ·dsimp only
  rw [if_neg hjk,List.getD_eq_getElem?_getD,List.getElem?_append_left (by omega),← List.getD_eq_getElem?_getD]
  have:=hx j (by omega)
  exact ⟨ho _ _ hjk this.1,this.2⟩
theorem PresI.sl {w1 W:World} {V cap:Nat} {qs:List Rat} (h:PresI w1 W V cap qs) (hb:Below w1.heap.size w1 W) (hc:qs.length≤1000):SlQ W (some ⟨V,0,none⟩) qs.length cap qs:=by
 obtain ⟨xs,hx⟩:=h.nums
 refine ⟨rfl,hc,h.le,.inr ⟨V,0,rfl,h.row.lt,fun j hj=>⟨valC (xs j),?_,(hx j hj).2.below hb⟩⟩,.inr ⟨V,0,rfl⟩⟩
 have ha:=(hx j hj).1
 revert ha
 obtain ⟨s,p,n',c,r,m',d⟩:=xs j
 intro ha
 refine ⟨s,p,n',c,r,m',d,rfl,?_,?_,?_⟩
 ·rw [Nat.zero_add];exact (ha 0 (by omega)).1
 ·rw [Nat.zero_add];exact (ha 1 (by omega)).1
 ·rw [Nat.zero_add];exact (ha 2 (by omega)).1
theorem make_nums (k n:Nat) (hk:k≤n) (hn:n≤5000):∃ cs:Array Value,cs.size=n*3∧(∀ u ∈ cs.toList,NoU u)∧∀ W,(Instr.makeSlice 58 (.int .i64 (k:Int)) (.int .i64 (n:Int))).run Tryz.prog W=.ok (.slice (some ⟨W.heap.size,0,none⟩) k n) (W.alloc (.cells cs 62)):=by
 obtain ⟨i0,hi,hz0,hz1,hz2⟩:=info_parts6 info66
 refine ⟨madeCells (Value.agg #[.bool false,.slice none 0 0,.slice none 0 0]).cells (n*3),size_madeCells _ _,fun u hu=>zero_noU66 u (mem_madeCells (by decide) (Array.mem_toList_iff.1 hu)),fun W=>?_⟩
 have h:=run_make (P:=Tryz.prog) W 58 62 i0 (.agg #[.bool false,.slice none 0 0,.slice none 0 0]) Tryz.underlying58 hi hz0 .i64 .i64 (k:Int) (n:Int) (by omega) (by omega) (by rw [hz2];omega) (by omega)
 rw [hz1] at h
 simpa using h
structure ExI (W:World) (E N i:Nat) (l:List (List UInt8)):Prop where
 row:SRow W E N
 nums:∀ j,j<i→∀ q,num (l.getD j [])=some q→∃ x,AtC W E j x∧RatIs W (valC x) q 20
theorem ExI.below {W W':World} {E N i:Nat} {l:List (List UInt8)} (h:ExI W E N i l) (hb:Below W.heap.size W W'):ExI W' E N i l :=
 ⟨h.row.below hb,fun j hj q hq=>by obtain ⟨x,h1,h2⟩:=h.nums j hj q hq;exact ⟨x,h1.below h.row hb,h2.below hb⟩⟩
theorem ExI.put {W W':World} {E N i:Nat} {l:List (List UInt8)} {x:C7} (h:ExI W E N i l) (hr:SRow W' E N) (ha:AtC W' E i x) (hg:W.grownBy W' (some E)) (ho:∀ j y,j≠i→AtC W E j y→AtC W' E j y) (hq:∀ q,num (l.getD i [])=some q→RatIs W (valC x) q 20):ExI W' E N (i+1) l:=by
 refine ⟨hr,fun j hj q hjq=>?_⟩
 by_cases hji:j=i
 ·subst hji
  exact ⟨x,ha,rat_row h.row hg (hq q hjq)⟩
 ·obtain ⟨y,h1,h2⟩:=h.nums j (by omega) q hjq
  exact ⟨y,ho j y hji h1,rat_row h.row hg h2⟩
end Go.Proofs.YtlcpcpmlfegejaaGreatDoor.Arr
set_option maxHeartbeats 1000000
set_option maxRecDepth 100000
namespace Go.Proofs.YtlcpcpmlfegejaaGreatDoor.Arr
open Go.RowKit Go.Shelf
open Go.Lib
attribute [local go_sem] Oper.semAt_some
theorem place_some (p q:Option Addr) (c d n:Nat) (s l:List Nat) (w:World) (hn:n≤4) (hs:Hid (s.length=n)) (hl:Hid (l.length=n)) (hp:RdN w p s) (hq:RdN w q l) :
  Calls Tryz.prog 82 #[.slice p n c,.slice q n d] w fun e w'=>w=w'∧∃ z,e=.returned (.int .i64 z):=by
 have HP:=Lib.hid hp
 have HQ:=Lib.hid hq
 have hni:(n:Int)≤4:=by omega
 clear hp hq
 go_enter Tryz.func82,Tryz.ntmps82
 go_wp2_with fail
 go_loop [5,10] (fun pv iv=>∃ (i:Nat) (z:Int),i≤n∧iv=.int .i64 i∧pv=.int .i64 z) (fun _ iv=>n-(Go.RowKit.intOf iv).toNat)
 case atStart=>exact ⟨0,0,Nat.zero_le _,rfl,rfl⟩
 case round =>
  obtain ⟨i,z,hin,rfl,rfl⟩:=hrel
  have ii:(i:Int)≤(n:Int):=by omega
  by_cases hlt:i<n
  ·have ilt:(i:Int)<(n:Int):=by omega
   obtain ⟨b1,o1,x,rfl,-,hc1,HX⟩:=HP.out.at (k:=i) (by rw [hs.out];exact hlt)
   obtain ⟨b2,o2,y,rfl,-,hc2,HY⟩:=HQ.out.at (k:=i) (by rw [hl.out];exact hlt)
   go_wp2_with fail
   go_round
   case rel=>exact ⟨i+1,_,by omega,by go_num,rfl⟩
   case measure=>simp [Go.RowKit.intOf];omega
  ·obtain rfl:i=n:=by omega
   have ilt:¬ (i:Int)<(i:Int):=by omega
   go_wp2_with fail
   go_ret
   exact ⟨rfl,_,rfl⟩
def ItOk (V:Nat) (g:FuncId) (lb:Array Value) (xs:List Nat) (W0:World):Prop :=
 (∀ args w,(callFunc g args).run Tryz.prog w=.ok (.enter g args) w) ∧
 ∃ At:World→Prop,At W0∧(∀ A B row,At A→A.grownBy B row→(∀ r,row=some r→r=V∨r=V+1∨W0.heap.size≤r)→At B) ∧
  (∀ (A:World) (l:Nat) (o o':Obj),A.heap[l]?=some o→o.isCells=false→At A→At (A.putObj l o')) ∧
  ∀ n,1≤n→SeqC Fence.wide n Tryz.prog g lb (fun x:Nat=>#[.int .i64 (x:Int)]) (fun _ W=>At W) (fun pre x=>pre++[x] <+: xs) (fun ys=>ys=xs) W0
def PartOk (w1:World) (V:Nat) (pf:FuncId) (pcap:Array Value) (ps:Nat→List Nat) (k:Nat):Prop :=
 (∀ args w,(callFunc pf args).run Tryz.prog w=.ok (.enter pf args) w) ∧
 ∀ i W,i<k→Below w1.heap.size w1 W→V+2≤W.heap.size→Calls Tryz.prog pf (#[.int .i64 (i:Int)]++pcap) W fun e W'=>Below W.heap.size W W'∧∃ g lb,e=.returned (.func (.func g) #[] lb)∧ItOk V g lb (ps i) W'
structure OkA (w1:World) (V cap:Nat) (W:World):Prop where
 below:Below w1.heap.size w1 W
 row:SRow W V cap
 box:∃ j,j≤cap∧W.heap[V+1]?=some (.cells #[.slice (some ⟨V,0,none⟩) j cap] 58 (0,0))
theorem OkA.next {w1:World} {V cap:Nat} {A B:World} {r:Option Nat} (h:OkA w1 V cap A) (hg:A.grownBy B r) (h1:w1.heap.size≤V) (hr:∀ k,r=some k→V+2≤k):OkA w1 V cap B:=by
 obtain ⟨j,hj,hb⟩:=h.box
 exact ⟨h.below.grown hg h.below.size (fun k e=>by have:=hr k e;omega),srow_other h.row hg (fun e=>by have:=hr V e;omega),j,hj,(hg.block (V+1) (Array.getElem?_eq_some_iff.1 hb).1 (fun e=>by have:=hr _ e.symm;omega)).trans hb⟩
structure AlI (w1 Ws:World) (V cap SB:Nat) (z:Int) (qs:List Rat) (W:World):Prop where
 below:Below w1.heap.size w1 W
 pres:PresI w1 W V cap qs
 pb:W.heap[V+1]?=some (.cells #[.slice (some ⟨V,0,none⟩) qs.length cap] 58 (0,0))
 sb:W.heap[SB]?=some (.cells #[.int .i64 z] 3 (0,0))
 old:GR (fun r=>r=V∨r=V+1) Ws W
 keeps:KeepsOthers Ws W
theorem AlI.next {w1 Ws:World} {V cap SB:Nat} {z:Int} {qs:List Rat} {A B:World} {r:Option Nat} (h:AlI w1 Ws V cap SB z qs A) (hg:A.grownBy B r) (hV:w1.heap.size≤V) (hr:∀ k,r=some k→V+2≤k∧Ws.heap.size≤k∧k≠SB):AlI w1 Ws V cap SB z qs B:=by
 refine ⟨h.below.grown hg h.below.size (fun k e=>by have:=hr k e;omega),h.pres.next hg (fun e=>by have:=hr V e;omega),(hg.block (V+1) (Array.getElem?_eq_some_iff.1 h.pb).1 (fun e=>by have:=hr _ e.symm;omega)).trans h.pb,(hg.block SB (Array.getElem?_eq_some_iff.1 h.sb).1 (fun e=>(hr _ e.symm).2.2 rfl)).trans h.sb,h.old.new hg (fun k e=>(hr k e).2.1),⟨Nat.le_trans h.keeps.size hg.size,fun k o hk ho=>?_⟩⟩
 have h2:=h.keeps.same k o hk ho
 exact (hg.block k (Array.getElem?_eq_some_iff.1 h2).1 (fun e=>by have:=(hr _ e.symm).2.1;have:=(Array.getElem?_eq_some_iff.1 hk).1;omega)).trans h2
theorem rdn_set {w:World} {b off a v:Nat} {l:List Nat} (h:RdN w (some ⟨b,off,none⟩) l) (ha:a<l.length) (hv:v≤1000000):RdN (w.setCell ⟨b,off+a,none⟩ (.int .i64 (v:Int))) (some ⟨b,off,none⟩) (l.set a v):=by
 have hb:b<w.heap.size:=by obtain ⟨b',off',x,e,h2,-⟩:=h.at ha;cases e;exact h2
 refine ⟨fun y hy=>?_,.inr ⟨b,off,rfl,by simpa using hb,fun j hj=>?_⟩⟩
 ·obtain ⟨x,hx,rfl⟩:=List.mem_map.1 hy
  rcases List.mem_or_eq_of_mem_set hx with hx|rfl
  ·exact h.wf _ (List.mem_map_of_mem hx)
  ·exact ⟨by show (-9223372036854775808:Int)≤((_:Nat):Int);omega,by show ((_:Nat):Int)≤9223372036854775807;omega⟩
 ·rw [List.length_map,List.length_set] at hj
  obtain ⟨b',off',x,e,h2,h3,HX⟩:=h.at hj
  cases e
  have e1:((l.set a v).map Int.ofNat).getD j 0=(((l.set a v).getD j 0:Nat):Int):=by
   rw [List.getD_eq_getElem?_getD,List.getElem?_map,List.getD_eq_getElem?_getD,List.getElem?_eq_getElem (by rw [List.length_set];exact hj)];rfl
  rw [e1]
  by_cases hja:j=a
  ·subst hja
   have e2:(l.set j v).getD j 0=v:=by rw [List.getD_eq_getElem?_getD,List.getElem?_set_self hj];rfl
   rw [e2]
   exact World.cell?_setCell_same _ _ _ h3
  ·have e2:(l.set a v).getD j 0=x:=by rw [List.getD_eq_getElem?_getD,List.getElem?_set_ne (fun e=>hja e.symm),← List.getD_eq_getElem?_getD,HX.out]
   rw [e2,World.cell?_setCell_other _ _ _ _ (by intro h;simp only [Addr.mk.injEq] at h;omega)]
   exact h3
end Go.Proofs.YtlcpcpmlfegejaaGreatDoor.Arr
namespace Go.Proofs.YtlcpcpmlfegejaaGreatDoor.Arr
open Go.RowKit Go.Shelf
open Go.Lib
attribute [local go_sem] Oper.semAt_some
theorem rdn_ix {W:World} {g:Nat} {r:List Nat} (h:W.heap[g]?=some (.cells (ixC r) 3 (0,0))) (hb:∀ x ∈ r,x≤1024):RdN W (some ⟨g,0,none⟩) r:=by
 refine ⟨fun z hz=>?_,.inr ⟨g,0,rfl,(Array.getElem?_eq_some_iff.1 h).1,fun j hj=>?_⟩⟩
 ·obtain ⟨x,hx,rfl⟩:=List.mem_map.1 hz
  have:=hb x hx
  exact ⟨by show (-9223372036854775808:Int)≤((x:Nat):Int);omega,by show ((x:Nat):Int)≤9223372036854775807;omega⟩
 ·rw [List.length_map] at hj
  rw [Nat.zero_add,ceh h,← Array.getElem?_toList,ixC_list,List.getElem?_map,List.getElem?_eq_getElem hj,List.getD_eq_getElem?_getD,List.getElem?_map,List.getElem?_eq_getElem hj]
  rfl
theorem slice_zero (V j cap:Nat) (W:World):(Instr.sliceAt 58 (.slice (some ⟨V,0,none⟩) j cap) none (some (.int .i64 0)) none).run Tryz.prog W=.ok (.slice (some ⟨V,0,none⟩) 0 cap) W:=by
 rw [run_sliceAt_slice W 58 _ _ _ _ elem58,run_slice_h W 58 _ _ _ elem58 .i64 0 (by omega) (by omega),size58]
 by_cases hc:cap=0
 ·simp [Result.andThen,sliced,hc]
 ·simp [Result.andThen,sliced,hc,Addr.add]
theorem setCell_below {w1 W:World} {b k:Nat} {v:Value} (h:Below w1.heap.size w1 W) (hb:w1.heap.size≤b):Below w1.heap.size w1 (W.setCell ⟨b,k,none⟩ v):=h.setCell (p:=⟨b,k,none⟩) hb _
theorem start_any (p:Option Addr) (c d n a k fb:Nat) (s ix:List Nat) (w:World) (hn:n≤4) (hs:Hid (s.length=n)) (ha:a<n) (hix:IsIx (s.set a k) ix) (h4:prod s≤4096) (hp:RdN w p s) (hq:RdN w (some ⟨fb,0,none⟩) (ix.set a 0)) :
  Calls Tryz.prog 82 #[.slice p n c,.slice (some ⟨fb,0,none⟩) n d] w fun e w'=>w=w'∧∃ z,e=.returned (.int .i64 z)∧(0<s.getD a 0→z=((plc s (ix.set a 0) 0:Nat):Int)):=by
 have hl:Hid ((ix.set a 0).length=n):=Lib.hid (by rw [List.length_set,hix.1,List.length_set,hs.out])
 by_cases h0:0<s.getD a 0
 ·exact (place_any p _ c d n s (ix.set a 0) w hn hs hl (isix_set hix (by rw [hs.out];exact ha) h0) h4 hp hq).mono fun e w' h=>⟨h.1,_,h.2,fun _=>rfl⟩
 ·exact (place_some p _ c d n s (ix.set a 0) w hn hs hl hp hq).mono fun e w' ⟨h,z,he⟩=>⟨h,z,he,fun h1=>absurd h1 h0⟩
end Go.Proofs.YtlcpcpmlfegejaaGreatDoor.Arr
