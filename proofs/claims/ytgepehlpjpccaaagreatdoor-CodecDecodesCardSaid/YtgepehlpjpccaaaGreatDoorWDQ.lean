/- Contracts. -/
import Derived.Test.YtgepehlpjpccaaaGreatDoorYD
import Derived.RangeFuncNested
import Derived.RangeFuncBound
import Derived.Shelf.RegionOpen
import Derived.OwnWalkIn
import Derived.LoopNIn
import Derived.LoopIn
set_option maxHeartbeats 2000000
set_option maxRecDepth 100000
namespace Go.Proofs.YtgepehlpjpccaaaGreatDoor
section
open Go.RowKit
open Go.Lib
theorem add_lit (b off j:Nat):(⟨b,off,none⟩:Addr).add j=⟨b,off+j,none⟩:=by
 cases j<;>simp [Addr.add]
theorem zP (w:World) (p:Oa) (c:Nat) (l:Lb) (h:Bs w p l):(convert 39 9 (.slice p l.length c)).run Tryz.prog w=.ok (.string ⟨l.toArray⟩) w:=by
 rcases h with h0|⟨b,off,rfl,hb,hc⟩
 ·obtain rfl:=List.eq_nil_of_length_eq_zero h0
  cases p with
  | some a=>exact run_convert_bytes_back w 39 9 5 a c [] Tryz.underlying39 Tryz.underlying5 Tryz.underlying9 (fun j hj=>by simp at hj)
  | none =>
   show (convert 39 9 (.slice none 0 c)).run Tryz.prog w=_
   rw [run_convert_bytes_string w 39 9 5 none 0 c Tryz.underlying39 Tryz.underlying5 Tryz.underlying9]
   simp [Conv.bytesToString]
   try rfl
 ·refine run_convert_bytes_back w 39 9 5 ⟨b,off,none⟩ c l Tryz.underlying39 Tryz.underlying5 Tryz.underlying9 (fun j hj=>?_)
  rw [add_lit,hc j hj,List.getD_eq_getElem?_getD,List.getElem?_eq_getElem hj];rfl
theorem ycC (p q:Oa) (c d m:Nat) (l:Lb) (w:World) (hm:Hid (l.length=m)) (hp:Bs w p l) (hq:Bs w q l) :
  Calls Tryz.prog 60 #[.slice p m c,.slice q m d] w fun r w'=>r=.returned (.bool true)∧w=w':=by
 have h1:=zP w p c l hp
 have h2:=zP w q d l hq
 obtain ⟨X,HX⟩:∃ X:ByteArray,Hid (⟨l.toArray⟩=X):=⟨_,rfl⟩
 rw [hm.out,HX.out] at h1 h2
 clear hp hq
 go_in
 go_wp2
 go_ret
 exact ⟨rfl,rfl⟩
theorem yrS (p q:Oa) (c d n:Nat) (xs:List Lb) (w:World) (hx:Hid (xs.length=n)) (hn:n≤4096) (hp:Ss w p xs) (hq:Ss w q xs) :
  Calls Tryz.prog 20 #[.slice p n c,.slice q n d] w fun e w'=>Be w w'∧e=.returned (.bool true):=by
 have HP:=h_ hp
 have HQ:=h_ hq
 have hni:(n:Int)≤4096:=by omega
 have hnn:((n:Int) != (n:Int))=false:=by simp
 clear hp hq
 go_in
 go_wp2
 go_loopw [5] (fun iv wr=>∃ i r:Nat,i≤n∧iv=.int .i64 i∧wr=w.drewN r) (fun iv _=>n-(intOf iv).toNat)
 case atStart=>exact ⟨0,0,Nat.zero_le _,rfl,rfl⟩
 case round =>
  obtain ⟨i,r,hi,rfl,rfl⟩:=hrel
  have ii:(i:Int)≤(n:Int):=by omega
  by_cases hlt:i<n
  ·have ilt:(i:Int)<(n:Int):=by omega
   obtain ⟨b1,o1,x,e1,-,hc1,hx1⟩:=HP.out.at (k:=i) (by rw [hx.out];exact hlt)
   obtain ⟨b2,o2,y,e2,-,hc2,hx2⟩:=HQ.out.at (k:=i) (by rw [hx.out];exact hlt)
   subst e1 e2
   obtain rfl:x=y:=hx1.out.symm.trans hx2.out
   obtain ⟨X,HX⟩:∃ X:ByteArray,Hid (⟨x.toArray⟩=X):=⟨_,rfl⟩
   rw [HX.out] at hc1 hc2
   go_wp2_with fail
   go_quiet (fail)
   go_wp2
   go_roundw
   case rel=>exact ⟨i+1,_,by omega,by go_num,rfl⟩
   case measure=>simp [intOf];omega
  ·obtain rfl:i=n:=by omega
   have ilt:¬ (i:Int)<(i:Int):=by omega
   go_wp2
   go_ret
   exact ⟨⟨rfl,rfl,rfl,Nat.le_refl _,fun _ _=>rfl⟩,rfl⟩
theorem yfO (W:World) (g k:Nat) (v:Value) (cs:Array Value) (t:TypeId) (h:W.heap[g]?=some (.cells cs t (0,0))):(W.setCell ⟨g,k,none⟩ v).heap[g]?=some (.cells (cs.setIfInBounds k v) t (0,0)):=by
 obtain ⟨h1,h2⟩:=Array.getElem?_eq_some_iff.1 h
 unfold World.setCell
 rw [Array.getElem?_eq_getElem (by simpa using h1),Array.getElem_modify]
 simp [h2]
def ybn (W:World) (V n i:Nat) (xs:List Lb):Prop:=∃ cs:Array Value,W.heap[V]?=some (.cells cs 9 (0,0))∧cs.size=n∧∀ j,j<n→cs[j]?=some (.string (if j<i then ⟨(xs.getD j []).toArray⟩ else ⟨#[]⟩))
theorem ybn.put {W:World} {V n i:Nat} {xs:List Lb} (h:ybn W V n i xs) (hi:i<n):ybn (W.setCell ⟨V,i,none⟩ (.string ⟨(xs.getD i []).toArray⟩)) V n (i+1) xs:=by
 obtain ⟨cs,h1,h2,h3⟩:=h
 refine ⟨_,yfO W V i _ _ _ h1,by simp [h2],fun j hj=>?_⟩
 rw [Array.getElem?_setIfInBounds]
 by_cases e:i=j
 ·subst e
  rw [if_pos rfl,if_pos (by rw [h2];exact hi),if_pos (Nat.lt_succ_self _)]
 ·rw [if_neg e,h3 j hj]
  congr 2
  by_cases h4:j<i
  ·rw [if_pos h4,if_pos (by omega)]
  ·rw [if_neg h4,if_neg (by omega)]
theorem ybn.skip {W:World} {V n i:Nat} {xs:List Lb} (h:ybn W V n i xs) (e:xs.getD i []=[]):ybn W V n (i+1) xs:=by
 obtain ⟨cs,h1,h2,h3⟩:=h
 refine ⟨cs,h1,h2,fun j hj=>?_⟩
 rw [h3 j hj]
 congr 2
 by_cases h4:j<i
 ·rw [if_pos h4,if_pos (by omega)]
 ·rw [if_neg h4]
  by_cases h5:j=i
  ·subst h5;rw [if_pos (Nat.lt_succ_self _),e]
  ·rw [if_neg (by omega)]
theorem ybn.keep {W W':World} {V n i:Nat} {xs:List Lb} (h:ybn W V n i xs) (e:W'.heap[V]?=W.heap[V]?):ybn W' V n i xs:=by
 obtain ⟨cs,h1,h2⟩:=h
 exact ⟨cs,e.trans h1,h2⟩
theorem ybn.reads {W:World} {V n:Nat} {xs:List Lb} (h:ybn W V n n xs) (hx:xs.length=n):Ss W (some ⟨V,0,none⟩) xs:=by
 obtain ⟨cs,h1,h2,h3⟩:=h
 refine .inr ⟨V,0,rfl,(Array.getElem?_eq_some_iff.1 h1).1,fun j hj=>?_⟩
 have h4:=h3 j (by omega)
 rw [if_pos (by omega)] at h4
 rw [Nat.zero_add]
 simp [World.cell?,h1,h4]
theorem ybn.old {W:World} {V n i:Nat} {xs:List Lb} (h:ybn W V n i xs) (hi:i<n):W.cell? ⟨V,i,none⟩=some (.string ⟨#[]⟩)∧W.frozen? ⟨V,i,none⟩=false:=by
 obtain ⟨cs,h1,h2,h3⟩:=h
 have h4:=h3 i hi
 rw [if_neg (by omega)] at h4
 exact ⟨by simp [World.cell?,h1,h4],by simp [World.frozen?,h1]⟩
theorem yqp:(Tryz.prog.info? 9).map (fun i=>(i.zero,i.size,i.bytes))=some (some (.string ⟨#[]⟩),1,16):=by kernel_rfl
theorem yhx (n:Nat) (hn:n≤10000):∃ Z:Array Value,(Z.size=n∧∀ j,j<n→Z[j]?=some (.string ⟨#[]⟩))∧∀ W,(Instr.makeSlice 30 (.int .i64 (n:Int)) (.int .i64 (n:Int))).run Tryz.prog W=.ok (.slice (some ⟨W.heap.size,0,none⟩) n n) (W.alloc (.cells Z 9)):=by
 obtain ⟨i0,hi,hz0,hz1,hz2⟩:=info_parts yqp
 refine ⟨madeCells (Value.cells (.string ⟨#[]⟩)) (n*1),⟨by rw [size_madeCells,Nat.mul_one],fun j hj=>by simp [madeCells,Value.cells,Nat.mod_one,hj]⟩,fun W=>?_⟩
 have h:=run_make (P:=Tryz.prog) W 30 9 i0 (.string ⟨#[]⟩) Tryz.underlying30 hi hz0 .i64 .i64 (n:Int) (n:Int) (by omega) (by omega) (by rw [hz2];omega) (by omega)
 rw [hz1,Int.toNat_natCast] at h
 exact h
structure RnI (w:World) (V n i:Nat) (ys:List Lb) (W:World):Prop where
 below:Be w W
 hV:w.heap.size≤V
 vals:ybn W V n i ys
theorem RnI.lt {w W:World} {V n i:Nat} {ys:List Lb} (h:RnI w V n i ys W):V<W.heap.size:=by
 obtain ⟨cs,h1,-⟩:=h.vals
 exact (Array.getElem?_eq_some_iff.1 h1).1
theorem RnI.call {w W W':World} {V n i:Nat} {ys:List Lb} (h:RnI w V n i ys W) (hb:Be W W'):RnI w V n i ys W' :=
 ⟨tr h.below hb,h.hV,h.vals.keep (hb.block V h.lt)⟩
theorem RnI.put {w W:World} {V n i:Nat} {ys:List Lb} (h:RnI w V n i ys W) (hi:i<n):RnI w V n (i+1) ys (W.setCell ⟨V,i,none⟩ (.string ⟨(ys.getD i []).toArray⟩)) :=
 ⟨h.below.setCell (p:=⟨V,i,none⟩) h.hV _,h.hV,h.vals.put hi⟩
theorem RnI.cell {w W:World} {V n i j:Nat} {ys:List Lb} (h:RnI w V n i ys W) (hj:j<i) (hi:i≤n):W.cell? ⟨V,j,none⟩=some (.string ⟨(ys.getD j []).toArray⟩):=by
 obtain ⟨cs,h1,h2,h3⟩:=h.vals
 have h4:=h3 j (by omega)
 rw [if_pos hj] at h4
 simp [World.cell?,h1,h4]
end
abbrev zR:Nat:=18446744073709551616
def chR (st:Nat→Nat→Nat × Nat) (n:Nat):Nat→Nat→Lb→Lb
 | 0,_,l=>l
 | k+1,a,l=>be n (st a (nb (l.take n))).1++chR st n k (st a (nb (l.take n))).2 (l.drop n)
theorem yf9 (st:Nat→Nat→Nat × Nat) (n:Nat):∀ (k a:Nat) (l:Lb),k*n≤l.length→(chR st n k a l).length=l.length
 | 0,_,_,_=>rfl
 | k+1,a,l,h=>by
  rw [Nat.succ_mul] at h
  rw [chR,List.length_append,zD,yf9 st n k _ _ (by rw [List.length_drop];omega),List.length_drop];omega
section
open Go.RowKit
open Go.Lib
theorem yc8 (w:World) (B:Nat) (v:Value) (n c:Nat) (xs:List Value) (ty:TypeId) (yP:w.ownsRow B 5 1 v n xs):(Builtin.append_ #[39,39] ty #[v,.slice none 0 c]).run Tryz.prog w=.ok v w:=by
 obtain ⟨i0,hi,hz0,hz1,hz2⟩:=info_parts uF
 obtain ⟨-,⟨rfl,rfl⟩|⟨g,cap,cur,rfl,-,-,hnc,-⟩⟩:=yP
 ·simp [Builtin.append_,run_underlying Tryz.underlying39,sizeOf,typeInfo,hi,Builtin.lenOf,Builtin.firstCells]
 ·simp [Builtin.append_,run_underlying Tryz.underlying39,sizeOf,typeInfo,hi,Builtin.lenOf,Builtin.firstCells,hnc,storeCells]
theorem yQ {w:World} {ops:Array Oper} {rest:List Oper} {o:Oper} {a:Act} {Q:Exit→Act→World→Prop} (hgd:o.guard=none) (s x:Operand)
  (ho:o.op=.call { callee:=.builtin .append,args:=#[s,x],argTypes:=#[39,39] })
  (B:Nat) (v:Value) (n:Nat) (X:Lb) (hs:a.eval s=v) (hn:n=X.length) (yP:w.ownsRow B 5 1 v n (zN X))
  (p:Oa) (m c:Nat) (L:Lb) (hx:a.eval x=.slice p m c) (hm:L.length=m) (hb:Bs w p L) (hlen:n+m≤140737488355328) (hB:B≤w.heap.size)
  (h:∀ v' w',Grew B w v (X++L) w' v'→wpList Tryz.prog ops Q rest (a.put o.dst v') w'):wpList Tryz.prog ops Q (o::rest) a w:=by
 subst hn
 subst hm
 obtain ⟨i0,hi,hz0,hz1,hz2⟩:=info_parts uF
 cases p with
 | none =>
  have h0:L=[]:=by
   rcases hb with h0|⟨b,off,h1,-⟩
   ·exact List.eq_nil_of_length_eq_zero h0
   ·cases h1
  subst h0
  refine wpList_plain hgd fun K hK=>?_
  have hr:=yc8 w B v X.length c (zN X) o.type yP
  unfold Oper.wp execOp
  simp only [ho,resolve,invoke,builtin,Sem.run_bind,Sem.run_pure,Result.andThen_ok,List.map_toArray,List.map_cons,List.map_nil,hs,hx,List.length_nil,hr]
  exact hK _ _ (h v w (by rw [List.append_nil];exact Grew.refl yP))
 | some ad =>
  refine wpList_append_own_at _ hgd s x 39 ho B 5 i0 (.int .u8 0) 1 1 Tryz.underlying39 hi hz0 hz1 hz2 rfl (by decide) _ _ _ hs yP ad L.length c (zN L) hx (by rw [yaA,Nat.mul_one]) (hb.news bR _ rfl) (ydQ L) (by unfold maxLen;omega) (by omega) hB ?_
  intro v' w' h1 h2 _ h4
  refine h v' w' ⟨?_,h2,h4.imp id fun h=>⟨_,h,Nat.le_refl _⟩⟩
  rw [List.length_append,zN,List.map_append];exact h1
theorem Grew.drewN {B:Nat} {w w':World} {v v':Value} {l:Lb} (h:Grew B w v l w' v') (n:Nat):Grew B w v l (w'.drewN n) v' :=
 ⟨h.own,⟨h.grown.os,h.grown.tape,h.grown.output,h.grown.size,h.grown.block⟩,h.lies⟩
theorem yaJ {B:Nat} {a w:World} (h:Below B a w) (n:Nat):Below B a (w.drewN n):=h.trans ⟨rfl,rfl,rfl,Nat.le_refl _,fun _ _=>rfl⟩
def gl (n:Nat):Nat→Lb→List Nat
 | 0,_=>[]
 | k+1,l=>nb (l.take n)::gl n k (l.drop n)
theorem vV (n:Nat):∀ (k:Nat) (l:Lb),(gl n k l).length=k
 | 0,_=>rfl
 | k+1,l=>by rw [gl,List.length_cons,vV n k]
theorem yif (n:Nat):∀ (k:Nat) (l:Lb),gl n (k+1) l=gl n k l++[nb ((l.drop (k*n)).take n)]
 | 0,l=>by rw [gl,gl,gl,Nat.zero_mul,List.drop_zero,List.nil_append]
 | k+1,l=>by rw [gl,yif n k (l.drop n),gl,List.cons_append,List.drop_drop,Nat.succ_mul,Nat.add_comm n]
theorem yiV {n:Nat} (hn:n≤8):∀ (k:Nat) (l:Lb),∀ x ∈ gl n k l,x<zR
 | 0,_,x,h=>by cases h
 | k+1,l,x,h=>by
  rw [gl,List.mem_cons] at h
  rcases h with rfl|h
  ·exact ybu (by rw [List.length_take];omega)
  ·exact yiV hn k _ x h
def jl (n:Nat):List Nat→Lb
 | []=>[]
 | x::xs=>be n x++jl n xs
theorem ydg (n:Nat) (ys:List Nat):∀ xs,jl n (xs++ys)=jl n xs++jl n ys
 | []=>rfl
 | x::xs=>by rw [List.cons_append,jl,jl,ydg n ys xs,List.append_assoc]
theorem uE (n:Nat):∀ xs,(jl n xs).length=xs.length*n
 | []=>by rw [jl,List.length_nil,List.length_nil,Nat.zero_mul]
 | x::xs=>by rw [jl,List.length_append,zD,uE n xs,List.length_cons,Nat.succ_mul,Nat.add_comm]
theorem ydT {w:World} {p:Oa} {l:Lb} (h:Bs w p l) {t:Nat} (ht:t<l.length):∃ b off:Nat,p=some ⟨b,off,none⟩∧b<w.heap.size∧w.cell? ⟨b,off+t,none⟩=some (.int .u8 (((l.getD t 0).toNat:Nat):Int)):=by
 rcases h with h0|⟨b,off,h1,h2,h3⟩
 ·omega
 ·exact ⟨b,off,h1,h2,h3 t ht⟩
end
section
open Go.RowKit Go.Shelf
open Go.Lib
attribute [local go_sem] Oper.semAt_some
theorem yk0 (F:Fence) (n:Nat) (h39:F.fn 148) (hro:F.round=none) (a b:Int) (w:World) :
  CallsIn F n Tryz.prog 148 #[.int .i64 a,.int .i64 b] w fun e w'=>e=.returned (.func (.func 189) #[] #[.pointer (some ⟨w.heap.size,0,none⟩),.pointer (some ⟨w.heap.size+1,0,none⟩)])∧w'=(w.alloc (.cells #[.int .i64 a] 3)).alloc (.cells #[.int .i64 b] 3):=by
 refine callsIn_of_wp Tryz.func148 rfl h39 ?_ hro
 simp only [Tryz.ntmps148,List.size_toArray,List.length_cons,List.length_nil,Nat.reduceAdd,Nat.reduceSub,Array.replicate_succ,Array.replicate_zero,List.push_toArray,List.append_toArray,List.nil_append,List.cons_append]
 gi_wp2
 go_ret
 exact ⟨rfl,rfl⟩
end
def yap (len n t:Nat):Nat:=if t<len/n*n then t%(len/n)*n+t/(len/n) else t
theorem ynB {len n t:Nat} (_hn:0<n) (h:t<len):yap len n t<len:=by
 unfold yap
 split
 ·rename_i h1
  have hk:0<len/n:=Nat.pos_of_ne_zero fun h0=>by rw [h0] at h1;omega
  have h2:t/(len/n)<n:=(Nat.div_lt_iff_lt_mul hk).2 (by rw [Nat.mul_comm];exact h1)
  exact Nat.lt_of_lt_of_le (yaW (Nat.mod_lt _ hk) h2) (Nat.div_mul_le_self _ _)
 ·exact h
theorem ya7 {len n i j:Nat} (hi:i<len/n) (hj:j<n):yap len n (j*(len/n)+i)=i*n+j:=by
 have hk:0<len/n:=by omega
 unfold yap
 rw [if_pos (by rw [Nat.mul_comm (len/n)];exact yaW hj hi),Nat.mul_comm j,Nat.mul_add_mod,Nat.mod_eq_of_lt hi,Nat.mul_add_div hk,Nat.div_eq_of_lt hi,Nat.add_zero]
theorem ya8 {len n t:Nat} (h:len/n*n≤t):yap len n t=t:=by unfold yap;rw [if_neg (by omega)]
theorem yoU (l:Lb) {n t:Nat} (hn:0<n) (ht:t<l.length):(yc3 l n).getD t 0=l.getD (yap l.length n t) 0:=by
 by_cases h:t<l.length/n*n
 ·have hk:0<l.length/n:=Nat.pos_of_ne_zero fun h0=>by rw [h0] at h;omega
  have _:=ht
  have _:=hn
  obtain ⟨j,i,hj,hi,rfl⟩:=yaC (k:=n) (n:=l.length/n) (by rw [Nat.mul_comm];exact h) hk
  rw [yhw l hi hj,ya7 hi hj]
 ·rw [yf8 _ (by omega),ya8 (by omega)]
def ycu (l:Lb) (f g:Nat→Nat) (ts:List Nat):Lb:=ts.foldl (fun X t=>X.set (f t) (l.getD (g t) 0)) (List.replicate l.length 0)
theorem yga (l:Lb) (f g:Nat→Nat) (ts:List Nat) (t:Nat):ycu l f g (ts++[t])=(ycu l f g ts).set (f t) (l.getD (g t) 0):=by
 unfold ycu;rw [List.foldl_append];rfl
theorem yrT (l:Lb) (f g:Nat→Nat) (ts:List Nat):∀ X:Lb,(ts.foldl (fun X t=>X.set (f t) (l.getD (g t) 0)) X).length=X.length:=by
 induction ts with
 | nil=>intro X;rfl
 | cons t ts ih=>intro X;rw [List.foldl_cons,ih,List.length_set]
theorem ycr (l:Lb) (f g:Nat→Nat) (ts:List Nat):(ycu l f g ts).length=l.length:=by
 unfold ycu;rw [yrT,List.length_replicate]
theorem yhy (l:Lb) (f g:Nat→Nat) (hf:∀ s t,s<l.length→t<l.length→f s=f t→s=t) (hb:∀ t,t<l.length→f t<l.length):∀ m,m≤l.length→∀ t,t<m→(ycu l f g (List.range m)).getD (f t) 0=l.getD (g t) 0
 | m+1,hm,t,ht=>by
  rw [List.range_succ,yga,List.getD_eq_getElem?_getD,List.getElem?_set]
  by_cases h:f m=f t
  ·have e:m=t:=hf m t (by omega) (by omega) h
   rw [if_pos h,if_pos (by rw [ycr];exact hb m (by omega)),e];rfl
  ·rw [if_neg h,← List.getD_eq_getElem?_getD]
   exact yhy l f g hf hb m (by omega) t (by
    rcases Nat.lt_or_ge t m with h1|h1
    ·exact h1
    ·exact absurd (by rw [show t=m by omega]) h)
section
open Go.RowKit Go.Shelf
open Go.Lib
attribute [local go_sem] Oper.semAt_some
abbrev Pl (len:Nat):={ t:Nat // t<len }
abbrev plE (len n:Nat) (x:Pl len):Array Value:=#[.int .i64 ((x.1:Nat):Int),.int .i64 ((yap len n x.1:Nat):Int)]
def ycI (Bs Bn:Nat) (W W':World):Prop:=W'.heap[Bs]?=W.heap[Bs]?∧W'.heap[Bn]?=W.heap[Bn]?
theorem ycI.trans {Bs Bn:Nat} {A B C:World} (h:ycI Bs Bn A B) (k:ycI Bs Bn B C):ycI Bs Bn A C:=⟨k.1.trans h.1,k.2.trans h.2⟩
theorem ycI.c1 {Bs Bn:Nat} {A B:World} (h:ycI Bs Bn A B):B.cell? ⟨Bs,0,none⟩=A.cell? ⟨Bs,0,none⟩:=World.cell?_of_block (a:=⟨Bs,0,none⟩) h.1
theorem ycI.c2 {Bs Bn:Nat} {A B:World} (h:ycI Bs Bn A B):B.cell? ⟨Bn,0,none⟩=A.cell? ⟨Bn,0,none⟩:=World.cell?_of_block (a:=⟨Bn,0,none⟩) h.2
theorem ytT (F:Fence) (m:Nat) (h64:F.fn 189) (hro:F.round=none) (hm:1≤m) (lr Bs Bn len n:Nat) (hn1:1≤n) (hn2:n≤8) (hlen:len≤1048576) (J Jx:List (Pl len)→World→Prop)
  (hJd:∀ pre W q,J pre W→J pre (W.drewN q))
  (hY:∀ pre x W,J pre W→pre.length<len→YieldAt F (m-1) Tryz.prog lr (plE len n x) W fun e W' =>
   (e=.returned (.bool true)∧J (pre++[x]) W'∧ycI Bs Bn W W')∨(e=.returned (.bool false)∧Jx (pre++[x]) W'))
  (W:World) (hBs:W.cell? ⟨Bs,0,none⟩=some (.int .i64 (len:Int))) (hBn:W.cell? ⟨Bn,0,none⟩=some (.int .i64 (n:Int))) (h0:J [] W) :
  CallsIn F m Tryz.prog 189 #[.func (.yield lr) #[] #[],.pointer (some ⟨Bs,0,none⟩),.pointer (some ⟨Bn,0,none⟩)] W fun e W'=>(∃ v,e=.returned v) ∧
   ((∃ ys,ys.map (·.1)=List.range len∧J ys W')∨(∃ pre,True∧Jx pre W')):=by
 have hni:1≤(n:Int):=by omega
 have hni2:(n:Int)≤8:=by omega
 have hli:(len:Int)≤1048576:=by omega
 obtain ⟨k,HK⟩:=ey (len/n)
 obtain ⟨E,HE⟩:=ey (k*n)
 have HEl:Hid (E≤len):=h_ (by rw [HE.out,HK.out];exact Nat.div_mul_le_self _ _)
 have ydt:wrap64 ((len:Int)-(len:Int)%(n:Int))=(E:Int):=by
  have h1:=Nat.div_add_mod len n
  rw [← HK.out,Nat.mul_comm,← HE.out] at h1
  have h2:(len:Int)-(len:Int)%(n:Int)=(E:Int):=by omega
  rw [h2]
  have:=HEl.out
  unfold wrap64;omega
 have hEi:(E:Int)≤1048576:=by have:=HEl.out;omega
 refine callsIn_of_wp Tryz.func189 rfl h64 ?_ hro
 simp only [Tryz.ntmps189,List.size_toArray,List.length_cons,List.length_nil,Nat.reduceAdd,Nat.reduceSub,Array.replicate_succ,Array.replicate_zero,List.push_toArray,List.append_toArray,List.nil_append,List.cons_append]
 gi_wp2
 refine wpIn_region_quiet_lit hro (by kernel_rfl) (by kernel_rfl) ?_
 repeat (gi_big_quiet_step (fail))
 refine wpQuietIn_nil ?_
 intro _ hw'
 obtain ⟨nq,hw''⟩:=hw'
 subst hw''
 gi_wp2
 rw [ydt]
 clear ydt
 have hJ0:=h_ (hJd _ _ nq h0)
 gi_loopw [4,14] (fun tv fv wr=>∃ (t j:Nat) (pre:List (Pl len)),j≤n∧tv=.int .i64 t∧fv=.int .i64 j∧Hid (t=j*k)∧Hid (pre.map (·.1)=List.range t)∧Hid (J pre wr)∧Hid (ycI Bs Bn W wr)) (fun _ fv _=>n-(intOf fv).toNat)
 case atStart=>exact ⟨0,0,[],Nat.zero_le _,rfl,rfl,h_ (by simp),rfl,hJ0,h_ ⟨rfl,rfl⟩⟩
 case round =>
  obtain ⟨t,j,pre,hj,rfl,rfl,HT,HP,HJ,HB⟩:=hrel
  by_cases hjn:j<n
  ·have hcn:=HB.out.c2.trans hBn
   gi_wp2
   clear hcn
   gi_loopw [4,7] (fun tv gv wr=>∃ (t fr i:Nat) (pre:List (Pl len)),i≤k∧tv=.int .i64 t∧gv=.int .i64 fr∧Hid (t=j*k+i)∧Hid (fr=i*n+j)∧Hid (pre.map (·.1)=List.range t)∧Hid (J pre wr)∧Hid (ycI Bs Bn W wr)) (fun tv _ _=>(j+1)*k-(intOf tv).toNat)
   case atStart=>exact ⟨t,j,0,pre,Nat.zero_le _,rfl,rfl,h_ (by rw [HT.out];rfl),h_ (by rw [Nat.zero_mul,Nat.zero_add]),HP,HJ,HB⟩
   case round =>
    obtain ⟨t,fr,i,pre,hik,rfl,rfl,HT,HFR,HP,HJ,HB⟩:=hrel
    have hcn:=HB.out.c2.trans hBn
    by_cases hi:i<k
    ·have q1:fr<E:=by rw [HFR.out,HE.out];exact yaW hi hjn
     have htE:t<E:=by rw [HT.out,HE.out,Nat.mul_comm k];exact yaW hjn hi
     have htl:t<len:=Nat.lt_of_lt_of_le htE HEl.out
     have hti:(t:Int)≤1048576:=by omega
     have hfi:(fr:Int)≤1048576:=by omega
     obtain ⟨fn,tmps,assign,body,hy,hR⟩:=hY pre ⟨t,htl⟩ wr HJ.out (by
      have h:=congrArg List.length HP.out
      rw [List.length_map,List.length_range] at h;omega)
     have hmm:t+1≤(j+1)*k:=by rw [HT.out,Nat.succ_mul];omega
     have yuY:yap len n t=fr:=by rw [HT.out,HFR.out,HK.out];exact ya7 (by rw [← HK.out];exact hi) hjn
     have hy2:(Instr.yield lr #[.int .i64 (t:Int),.int .i64 (fr:Int)]).run Tryz.prog wr=.ok (.round lr fn tmps assign body) wr:=by
      rw [← yuY];exact hy
     clear hy
     gi_wp2
     refine hR.mono ?_
     rintro e W3 (⟨rfl,hJ3,hk3⟩|⟨rfl,ypH⟩)
     ·have HB3:=h_ (HB.out.trans hk3)
      have hcn3:=HB3.out.c2.trans hBn
      have HJ3:=h_ hJ3
      clear hJ3 hk3 hy2
      gi_wp2
      go_roundw
      case rel=>exact ⟨t+1,fr+n,i+1,pre++[⟨t,htl⟩],by omega,by go_num,by go_num,h_ (by rw [HT.out];omega),h_ (by rw [HFR.out,Nat.succ_mul];omega),h_ (by rw [List.map_append,HP.out,List.range_succ];rfl),HJ3,HB3⟩
      case measure=>simp [intOf];omega
     ·gi_wp2
      refine bodyPost_ret (results_none rfl _ _ _) rfl ?_
      exact ⟨⟨_,rfl⟩,.inr ⟨_,trivial,ypH⟩⟩
    ·obtain rfl:i=k:=by omega
     have q1:¬ fr<E:=by rw [HFR.out,HE.out];omega
     gi_wp2
     go_roundw
     case rel=>exact ⟨t,j+1,pre,by omega,rfl,by go_num,h_ (by rw [HT.out,Nat.succ_mul]),HP,HJ,HB⟩
     case measure=>simp [intOf];omega
  ·obtain rfl:j=n:=by omega
   gi_wp2
   gi_loopw [4] (fun tv wr=>∃ (t:Nat) (pre:List (Pl len)),t≤len∧tv=.int .i64 t∧Hid (E≤t)∧Hid (pre.map (·.1)=List.range t)∧Hid (J pre wr)∧Hid (ycI Bs Bn W wr)) (fun tv _=>len-(intOf tv).toNat)
   case atStart=>exact ⟨t,pre,by rw [HT.out];have:=HEl.out;rw [HE.out,Nat.mul_comm] at this;exact this,rfl,h_ (by rw [HT.out,HE.out,Nat.mul_comm];exact Nat.le_refl _),HP,HJ,HB⟩
   case round =>
    obtain ⟨t,pre,htl',rfl,HTE,HP,HJ,HB⟩:=hrel
    have hcs:=HB.out.c1.trans hBs
    by_cases htl:t<len
    ·have hti:(t:Int)≤1048576:=by omega
     obtain ⟨fn,tmps,assign,body,hy,hR⟩:=hY pre ⟨t,htl⟩ wr HJ.out (by
      have h:=congrArg List.length HP.out
      rw [List.length_map,List.length_range] at h;omega)
     have yuY:yap len j t=t:=ya8 (by rw [← HK.out,← HE.out];exact HTE.out)
     have hy2:(Instr.yield lr #[.int .i64 (t:Int),.int .i64 (t:Int)]).run Tryz.prog wr=.ok (.round lr fn tmps assign body) wr:=by
      have:=hy
      unfold plE at this
      rw [yuY] at this;exact this
     clear hy
     gi_wp2
     refine hR.mono ?_
     rintro e W3 (⟨rfl,hJ3,hk3⟩|⟨rfl,ypH⟩)
     ·have HB3:=h_ (HB.out.trans hk3)
      have HJ3:=h_ hJ3
      clear hJ3 hk3 hy2
      gi_wp2
      go_roundw
      case rel=>exact ⟨t+1,pre++[⟨t,htl⟩],by omega,by go_num,h_ (by have:=HTE.out;omega),h_ (by rw [List.map_append,HP.out,List.range_succ];rfl),HJ3,HB3⟩
      case measure=>simp [intOf];omega
     ·gi_wp2
      refine bodyPost_ret (results_none rfl _ _ _) rfl ?_
      exact ⟨⟨_,rfl⟩,.inr ⟨_,trivial,ypH⟩⟩
    ·obtain rfl:t=len:=by omega
     gi_wp2
     go_end0
     exact ⟨⟨_,rfl⟩,.inl ⟨pre,HP.out,HJ.out⟩⟩
theorem ymR (F:Fence) (m:Nat) (h64:F.fn 189) (hro:F.round=none) (hm:1≤m) (Bs Bn len n:Nat) (hn1:1≤n) (hn2:n≤8) (hlen:len≤1048576) (w:World) (hB1:Bs<w.heap.size) (hB2:Bn<w.heap.size)
  (hBs:w.cell? ⟨Bs,0,none⟩=some (.int .i64 (len:Int))) (hBn:w.cell? ⟨Bn,0,none⟩=some (.int .i64 (n:Int))) :
  SeqStopsK F m Tryz.prog 189 #[.pointer (some ⟨Bs,0,none⟩),.pointer (some ⟨Bn,0,none⟩)] (plE len n) (ycI Bs Bn) (fun ys=>ys.map (·.1)=List.range len) (fun _=>True) len w:=fun l J Jx W hW hJ _ hY h0 =>
 ytT F m h64 hro hm l Bs Bn len n hn1 hn2 hlen J Jx (fun pre W' q hj=>hJ pre W' (W'.drewN q) none hj ⟨rfl,rfl,rfl,Nat.le_refl _,fun _ _ _=>rfl⟩ (fun r e=>by cases e)) hY W
  ((hW.cell (p:=⟨Bs,0,none⟩) hB1).trans hBs) ((hW.cell (p:=⟨Bn,0,none⟩) hB2).trans hBn) h0
theorem ydL (n:Nat):madeCells #[Value.int .u8 0] n=(zN (List.replicate n 0)).toArray:=by
 apply Array.ext
 ·simp [madeCells,zN]
 ·intro i h1 h2
  simp [madeCells,zN,Nat.mod_one]
theorem ydq {F:Fence} {n:Nat} (w:World) {ops:Array Oper} {rest:List Oper} {o:Oper} {a:Act} {Q:Exit→Act→World→Prop} (hg:o.guard=none) (l c:Operand) (hop:o.op=Op.makeSlice 39 l c)
  (kl kc:IntKind) (k:Nat) (hl:a.eval l=.int kl (k:Int)) (hc:a.eval c=.int kc (k:Int)) (hk:k≤1048576)
  (hK:∀ w',w'.heap[w.heap.size]?=some (.cells (zN (List.replicate k 0)).toArray 5 (0,0))→w.grownBy w' none→wpListIn F n Tryz.prog ops Q rest (a.put o.dst (.slice (some ⟨w.heap.size,0,none⟩) k k)) w') :
  wpListIn F n Tryz.prog ops Q (o::rest) a w:=by
 obtain ⟨i0,hi,hz0,hz1,hz2⟩:=info_parts uF
 refine wpListIn_plain hg fun K hK'=>?_
 have hr:=run_make (P:=Tryz.prog) w 39 5 i0 (.int .u8 0) Tryz.underlying39 hi hz0 kl kc k k (by omega) (Int.le_refl _) (by rw [hz2];omega) (by omega)
 simp only [Int.toNat_natCast] at hr
 rw [hz1,Nat.mul_one] at hr
 unfold Oper.wpIn
 refine ⟨?_,?_⟩
 ·simp [Oper.about,hop]
 ·rw [Oper.semAt_plain F _ _ (by rw [hop];intro c hc';cases hc')]
  simp [execOp,hop,hl,hc,hr,Result.andThen]
  exact hK' _ _ (hK _ (by rw [← ydL];exact World.alloc_heap_new w _) (World.grownBy_alloc w _ none))
theorem ybR {β:Type} {B i:Nat} {o:β→Obj} (hc:∀ s,(o s).isCells=true):OwnFrom B (fun (s:β) W=>W.heap[i]?=some (o s)) :=
 fun s _ _ _ hs hg hr=>(grownBy_keeps_cells hg (fun r e=>(hr r e).2) hs (hc s)).trans hs
theorem yoV {W:World} {g t:Nat} {A:Lb} (h:W.heap[g]?=some (.cells (zN A).toArray 5 (0,0))) (y:UInt8):(W.setCell ⟨g,t,none⟩ (.int .u8 (y.toNat:Int))).drew.heap[g]?=some (.cells (zN (A.set t y)).toArray 5 (0,0)):=by
 show (W.setCell ⟨g,t,none⟩ (.int .u8 (y.toNat:Int))).heap[g]?=_
 obtain ⟨h1,h2⟩:=Array.getElem?_eq_some_iff.1 h
 unfold World.setCell
 rw [Array.getElem?_eq_getElem (by simpa using h1),Array.getElem_modify]
 simp [h2,zN,List.map_set]
theorem ydh {W:World} {g k t:Nat} (v:Value) (hne:k≠g):(W.setCell ⟨g,t,none⟩ v).drew.heap[k]?=W.heap[k]?:=Below.heap_setCell W ⟨g,t,none⟩ v k hne
theorem ymS {W W':World} (h:KeepsOthers W W'):KeepsOthers W W'.drew:=⟨h.size,h.same⟩
theorem yiL {w:World} {B g len:Nat} {L:Lb} (h:w.heap[g]?=some (.cells (zN L).toArray 5 (0,0))) (hL:L.length=len) (hB:B≤g) (hlen:len≤1048576):w.ownsRow B 5 1 (.slice (some ⟨g,0,none⟩) len len) L.length (zN L):=by
 subst hL
 refine ⟨by simp [zN],.inr ⟨g,L.length,(zN L).toArray,rfl,hB,h,Nat.le_refl _,by unfold maxLen;omega,by simp [zN],?_⟩⟩
 rw [Nat.mul_one,List.take_of_length_le (by simp [zN])]
end
section
open Go.RowKit
open Go.Lib
def ywX (L:Lb) (len:Nat) (w:World) (e:Ending) (w':World):Prop:=Be w w'∧∃ q d,e=.returned (.tuple #[.slice q len d,.int .i64 0])∧len≤d∧Bs w' q L
theorem uR.bs {L:Lb} {len:Nat} {w w':World} {e:Ending} (h:uR L w e w') (hL:L.length=len):ywX L len w e w':=by
 obtain ⟨h1,v,he,ho⟩:=h
 obtain ⟨q,d,hv,hb,hd⟩:=zA ho
 subst hL
 exact ⟨h1,q,d,by rw [he,hv],hd,hb⟩
def stL (st:Nat→Nat→Nat × Nat):Nat→List Nat→List Nat
 | _,[]=>[]
 | a,g::gs=>(st a g).1::stL st (st a g).2 gs
theorem ydM (st:Nat→Nat→Nat × Nat):∀ (gs:List Nat) (a:Nat),(stL st a gs).length=gs.length
 | [],_=>rfl
 | g::gs,a=>by rw [stL,List.length_cons,ydM st gs,List.length_cons]
theorem ylb (st:Nat→Nat→Nat × Nat) (n:Nat):∀ (k a:Nat) (l:Lb),jl n (stL st a (gl n k l))++l.drop (k*n)=chR st n k a l
 | 0,a,l=>by rw [gl,stL,jl,chR,Nat.zero_mul,List.drop_zero,List.nil_append]
 | k+1,a,l=>by
  rw [gl,stL,jl,chR,List.append_assoc,← ylb st n k _ (l.drop n),List.drop_drop,Nat.succ_mul,Nat.add_comm n]
end
end Go.Proofs.YtgepehlpjpccaaaGreatDoor
