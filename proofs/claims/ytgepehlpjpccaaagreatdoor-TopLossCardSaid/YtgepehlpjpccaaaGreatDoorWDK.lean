/- Contracts. -/
import Derived.Test.YtgepehlpjpccaaaGreatDoorYD
import Derived.RangeFuncNested
import Derived.RangeFuncBound
import Derived.Shelf.RegionOpen
import Derived.OwnWalkIn
import Derived.LoopNIn
import Derived.LoopIn
namespace Go.Proofs.YtgepehlpjpccaaaGreatDoor
set_option maxHeartbeats 2000000
set_option maxRecDepth 100000
section
open Go.RowKit
open Go.Lib
def uU (l:List Sg):Bool:=decide (0<l.length)&&decide ((l.getD 0 (0,0,[])).1=1)
def vJ (l:List Sg):List UInt8:=(l.getD 0 (0,0,[])).2.2
def yfH (k:Int) (l:List Sg):List UInt8 × Int:=if vG k l=false then ([],40) else if uU l=false then ([48],0) else (ymZ (vJ l) [50],0)
def ygx (t:List UInt8 × Int) (w:World) (e:Ending) (w':World):Prop:=e=.returned (.tuple #[.string ⟨t.1.toArray⟩,.int .i64 t.2])∧Below w.heap.size w w'
theorem ybv (p:Option Addr) (c n:Nat) (l:List Sg) (w:World) (hx:Hid (l.length=n)) (hs:RdG w p l) :
  Calls Tryz.prog 35 #[.slice p n c] w fun e w'=>e=.returned (.bool (uU l))∧w=w':=by
 have HS:=Lib.hid hs
 clear hs
 by_cases h0:n=0
 ·have hr:uU l=false:=by unfold uU;rw [hx.out,h0];rfl
  rw [hr]
  subst h0
  clear hr
  go_enter Tryz.func35,Tryz.ntmps35
  go_wp2_with fail
  go_ret
  exact ⟨rfl,rfl⟩
 have hn0:(0:Int)<(n:Int):=by omega
 have hne:((n:Int)==0)=false:=by rw [beq_eq_false_iff_ne];omega
 obtain ⟨b1,o1,x,y,z,e1,hb1,hc1,hc2,hc3,hx1⟩:=HS.out.at (k:=0) (by rw [hx.out];omega)
 subst e1
 rw [Nat.zero_mul,Nat.add_zero] at hc1 hc2 hc3
 have hr:uU l=decide (x=1):=by unfold uU;rw [hx1.out,decide_eq_true (by rw [hx.out];omega),Bool.true_and]
 have hst:vJ l=z:=by unfold vJ;rw [hx1.out]
 obtain ⟨Z,HZ⟩:∃ Z:ByteArray,Hid (⟨z.toArray⟩=Z):=⟨_,rfl⟩
 rw [HZ.out] at hc3
 by_cases h1:x=1
 ·subst h1
  have HR:Hid (uU l=true):=Lib.hid (by rw [hr];rfl)
  have HST:=Lib.hid hst
  rw [HR.out]
  try rw [HST.out,HZ.out]
  clear hr hst h0
  go_enter Tryz.func35,Tryz.ntmps35
  go_wp2_with fail
  go_ret
  exact ⟨rfl,rfl⟩
 ·have hxb:(x==1)=false:=by rw [beq_eq_false_iff_ne];exact h1
  have HR:Hid (uU l=false):=Lib.hid (by rw [hr];exact decide_eq_false h1)
  rw [HR.out]
  clear hr hst h1 h0
  go_enter Tryz.func35,Tryz.ntmps35
  go_wp2_with fail
  go_ret
  exact ⟨rfl,rfl⟩
theorem yk9 (k:Int) (p:Option Addr) (c n:Nat) (l:List Sg) (w:World) (htab:Tab w) (hx:Hid (l.length=n)) (hs:RdG w p l) :
  Calls Tryz.prog 11 #[.int .i64 k,.slice p n c] w (ygx (yfH k l) w):=by
 have yiS:=Lib.hid htab
 have HS:=Lib.hid hs
 have HV:=Lib.hid (yaa k p c n l w htab hx hs)
 obtain ⟨bv,HBV⟩:∃ b,Hid (vG k l=b):=⟨_,rfl⟩
 obtain ⟨br,HBR⟩:∃ b,Hid (uU l=b):=⟨_,rfl⟩
 obtain ⟨⟨T,z⟩,HT⟩:∃ t,Hid (yfH k l=t):=⟨_,rfl⟩
 have hT:=HT.out
 unfold yfH at hT
 rw [HBV.out,HBR.out] at hT
 rw [HBV.out] at HV
 rw [HT.out]
 clear htab hs
 cases bv with
 | false =>
  rw [if_pos rfl] at hT
  cases hT
  go_enter Tryz.func11,Tryz.ntmps11
  go_wp2_with fail
  refine (HV.out).mono ?_
  rintro e w1 ⟨rfl,hb1⟩
  have HB:=Lib.hid hb1
  clear hb1
  go_wp2_with fail
  go_ret2
  exact ⟨rfl,HB.out⟩
 | true =>
  rw [if_neg (by decide)] at hT
  have HRA:Hid (∀ W,Below w.heap.size w W→Calls Tryz.prog 35 #[.slice p n c] W fun e w'=>e=.returned (.bool br)∧W=w'):=Lib.hid (fun W hW=>by
   have h:=ybv p c n l W hx (HS.out.below hW)
   rwa [HBR.out] at h)
  cases br with
  | false =>
   rw [if_pos rfl] at hT
   cases hT
   go_enter Tryz.func11,Tryz.ntmps11
   go_wp2_with fail
   refine (HV.out).mono ?_
   rintro e w1 ⟨rfl,hb1⟩
   have HB:=Lib.hid hb1
   clear hb1
   go_wp2_with fail
   refine (HRA.out _ HB.out).mono ?_
   rintro e w' ⟨rfl,rfl⟩
   go_wp2_with fail
   go_ret2
   exact ⟨rfl,HB.out⟩
  | true =>
   rw [if_neg (by decide)] at hT
   have h0:0<l.length:=by
    have h:=HBR.out
    unfold uU at h
    rw [Bool.and_eq_true,decide_eq_true_eq] at h
    exact h.1
   have hn0:(0:Int)<(n:Int):=by rw [hx.out] at h0;omega
   obtain ⟨b1,o1,x,y,s,e1,hb1,hc1,hc2,hc3,hx1⟩:=HS.out.at (k:=0) h0
   subst e1
   rw [Nat.zero_mul,Nat.add_zero] at hc3
   have hst:vJ l=s:=by unfold vJ;rw [hx1.out]
   rw [hst] at hT
   obtain ⟨Z,HZ⟩:∃ Z:ByteArray,Hid (⟨s.toArray⟩=Z):=⟨_,rfl⟩
   rw [HZ.out] at hc3
   have HD:Hid (∀ W,Below w.heap.size w W→Calls Tryz.prog 36 #[.string Z,.string ⟨#[50]⟩] W (yaz T W)):=Lib.hid (fun W hW=>by
    have h:=yxJ Z ⟨#[50]⟩ W (yiS.out.below hW)
    have e:ymZ Z.data.toList [50]=T:=by rw [← HZ.out];exact congrArg Prod.fst hT
    rw [← e];exact h)
   have hz:z=0:=(congrArg Prod.snd hT).symm
   subst hz
   have HC:=Lib.hid hc3
   have HBL:=Lib.hid hb1
   clear hT hst hc1 hc2 hc3 hb1 h0
   go_enter Tryz.func11,Tryz.ntmps11
   go_wp2_with fail
   refine (HV.out).mono ?_
   rintro e w1 ⟨rfl,hb1⟩
   have HB:=Lib.hid hb1
   have hc3:=(hb1.cell (p:=⟨b1,o1+2,none⟩) HBL.out).trans HC.out
   clear hb1
   go_wp2_with fail
   refine (HRA.out _ HB.out).mono ?_
   rintro e w' ⟨rfl,rfl⟩
   go_wp2_with fail
   refine (HD.out _ HB.out).mono ?_
   rintro e w2 ⟨rfl,hb2⟩
   have uV:=Lib.hid (HB.out.trans (hb2.mono HB.out.size))
   clear hb2
   go_wp2_with fail
   go_ret2
   exact ⟨rfl,uV.out⟩
end
abbrev jM:Nat:=18446744073709551616
def GY (a g:Nat):Nat × Nat:=((g+jM-a)%jM,g)
def chR (st:Nat→Nat→Nat × Nat) (n:Nat):Nat→Nat→List UInt8→List UInt8
 | 0,_,l=>l
 | k+1,a,l=>be n (st a (nb (l.take n))).1++chR st n k (st a (nb (l.take n))).2 (l.drop n)
theorem ygR (st:Nat→Nat→Nat × Nat) (n:Nat):∀ (k a:Nat) (l:List UInt8),k*n≤l.length→(chR st n k a l).length=l.length
 | 0,_,_,_=>rfl
 | k+1,a,l,h=>by
  rw [Nat.succ_mul] at h
  rw [chR,List.length_append,jI,ygR st n k _ _ (by rw [List.length_drop];omega),List.length_drop];omega
def yiK (l:List UInt8) (n:Nat):List UInt8:=chR GY n (l.length/n) 0 l
theorem yfw (l:List UInt8) {n:Nat}:(yiK l n).length=l.length:=ygR _ _ _ _ _ (Nat.div_mul_le_self _ _)
section
open Go.RowKit
open Go.Lib
theorem ydg (w:World) (B:Nat) (v:Value) (n c:Nat) (xs:List Value) (ty:TypeId) (yW:w.ownsRow B 5 1 v n xs):(Builtin.append_ #[39,39] ty #[v,.slice none 0 c]).run Tryz.prog w=.ok v w:=by
 obtain ⟨i0,hi,hz0,hz1,hz2⟩:=info_parts ya6
 obtain ⟨-,⟨rfl,rfl⟩|⟨g,cap,cur,rfl,-,-,hnc,-⟩⟩:=yW
 ·simp [Builtin.append_,run_underlying Tryz.underlying39,sizeOf,typeInfo,hi,Builtin.lenOf,Builtin.firstCells]
 ·simp [Builtin.append_,run_underlying Tryz.underlying39,sizeOf,typeInfo,hi,Builtin.lenOf,Builtin.firstCells,hnc,storeCells]
theorem zY {w:World} {ops:Array Oper} {rest:List Oper} {o:Oper} {a:Act} {Q:Exit→Act→World→Prop} (hgd:o.guard=none) (s x:Operand)
  (ho:o.op=.call { callee:=.builtin .append,args:=#[s,x],argTypes:=#[39,39] })
  (B:Nat) (v:Value) (n:Nat) (X:List UInt8) (hs:a.eval s=v) (hn:n=X.length) (yW:w.ownsRow B 5 1 v n (zS X))
  (p:Option Addr) (m c:Nat) (L:List UInt8) (hx:a.eval x=.slice p m c) (hm:L.length=m) (hb:Bs w p L) (hlen:n+m≤140737488355328) (hB:B≤w.heap.size)
  (h:∀ v' w',Grew B w v (X++L) w' v'→wpList Tryz.prog ops Q rest (a.put o.dst v') w'):wpList Tryz.prog ops Q (o::rest) a w:=by
 subst hn
 subst hm
 obtain ⟨i0,hi,hz0,hz1,hz2⟩:=info_parts ya6
 cases p with
 | none =>
  have h0:L=[]:=by
   rcases hb with h0|⟨b,off,h1,-⟩
   ·exact List.eq_nil_of_length_eq_zero h0
   ·cases h1
  subst h0
  refine wpList_plain hgd fun K hK=>?_
  have hr:=ydg w B v X.length c (zS X) o.type yW
  unfold Oper.wp execOp
  simp only [ho,resolve,invoke,builtin,Sem.run_bind,Sem.run_pure,Result.andThen_ok,List.map_toArray,List.map_cons,List.map_nil,hs,hx,List.length_nil,hr]
  exact hK _ _ (h v w (by rw [List.append_nil];exact Grew.refl yW))
 | some ad =>
  refine wpList_append_own_at _ hgd s x 39 ho B 5 i0 (.int .u8 0) 1 1 Tryz.underlying39 hi hz0 hz1 hz2 rfl (by decide) _ _ _ hs yW ad L.length c (zS L) hx (by rw [ycu,Nat.mul_one]) (hb.news (Below.refl _ _) _ rfl) (yi6 L) (by unfold maxLen;omega) (by omega) hB ?_
  intro v' w' h1 h2 _ h4
  refine h v' w' ⟨?_,h2,h4.imp id fun h=>⟨_,h,Nat.le_refl _⟩⟩
  rw [List.length_append,zS,List.map_append];exact h1
theorem Grew.drewN {B:Nat} {w w':World} {v v':Value} {l:List UInt8} (h:Grew B w v l w' v') (n:Nat):Grew B w v l (w'.drewN n) v' :=
 ⟨h.own,⟨h.grown.os,h.grown.tape,h.grown.output,h.grown.size,h.grown.block⟩,h.lies⟩
theorem ygy {B:Nat} {a w:World} (h:Below B a w) (n:Nat):Below B a (w.drewN n):=h.trans ⟨rfl,rfl,rfl,Nat.le_refl _,fun _ _=>rfl⟩
def gl (n:Nat):Nat→List UInt8→List Nat
 | 0,_=>[]
 | k+1,l=>nb (l.take n)::gl n k (l.drop n)
theorem yaD (n:Nat):∀ (k:Nat) (l:List UInt8),(gl n k l).length=k
 | 0,_=>rfl
 | k+1,l=>by rw [gl,List.length_cons,yaD n k]
theorem yo4 (n:Nat):∀ (k:Nat) (l:List UInt8),gl n (k+1) l=gl n k l++[nb ((l.drop (k*n)).take n)]
 | 0,l=>by rw [gl,gl,gl,Nat.zero_mul,List.drop_zero,List.nil_append]
 | k+1,l=>by rw [gl,yo4 n k (l.drop n),gl,List.cons_append,List.drop_drop,Nat.succ_mul,Nat.add_comm n]
theorem yq8 {n:Nat} (hn:n≤8):∀ (k:Nat) (l:List UInt8),∀ x ∈ gl n k l,x<jM
 | 0,_,x,h=>by cases h
 | k+1,l,x,h=>by
  rw [gl,List.mem_cons] at h
  rcases h with rfl|h
  ·exact yge (by rw [List.length_take];omega)
  ·exact yq8 hn k _ x h
def jl (n:Nat):List Nat→List UInt8
 | []=>[]
 | x::xs=>be n x++jl n xs
theorem ydl (n:Nat) (ys:List Nat):∀ xs,jl n (xs++ys)=jl n xs++jl n ys
 | []=>rfl
 | x::xs=>by rw [List.cons_append,jl,jl,ydl n ys xs,List.append_assoc]
theorem yac (n:Nat):∀ xs,(jl n xs).length=xs.length*n
 | []=>by rw [jl,List.length_nil,List.length_nil,Nat.zero_mul]
 | x::xs=>by rw [jl,List.length_append,jI,yac n xs,List.length_cons,Nat.succ_mul,Nat.add_comm]
theorem yeb {w:World} {p:Option Addr} {l:List UInt8} (h:Bs w p l) {t:Nat} (ht:t<l.length):∃ b off:Nat,p=some ⟨b,off,none⟩∧b<w.heap.size∧w.cell? ⟨b,off+t,none⟩=some (.int .u8 (((l.getD t 0).toNat:Nat):Int)):=by
 rcases h with h0|⟨b,off,h1,h2,h3⟩
 ·omega
 ·exact ⟨b,off,h1,h2,h3 t ht⟩
end
section
open Go.RowKit Go.Shelf
open Go.Lib
attribute [local go_sem] Oper.semAt_some
theorem yfx (F:Fence) (n:Nat) (h39:F.fn 148) (hro:F.round=none) (a b:Int) (w:World) :
  CallsIn F n Tryz.prog 148 #[.int .i64 a,.int .i64 b] w fun e w'=>e=.returned (.func (.func 189) #[] #[.pointer (some ⟨w.heap.size,0,none⟩),.pointer (some ⟨w.heap.size+1,0,none⟩)])∧w'=(w.alloc (.cells #[.int .i64 a] 3)).alloc (.cells #[.int .i64 b] 3):=by
 refine callsIn_of_wp Tryz.func148 rfl h39 ?_ hro
 simp only [Tryz.ntmps148,List.size_toArray,List.length_cons,List.length_nil,Nat.reduceAdd,Nat.reduceSub,Array.replicate_succ,Array.replicate_zero,List.push_toArray,List.append_toArray,List.nil_append,List.cons_append]
 gi_wp2
 go_ret
 exact ⟨rfl,rfl⟩
end
def uH (len n t:Nat):Nat:=if t<len/n*n then t%(len/n)*n+t/(len/n) else t
theorem yjh {len n t:Nat} (_hn:0<n) (h:t<len):uH len n t<len:=by
 unfold uH
 split
 ·rename_i h1
  have hk:0<len/n:=Nat.pos_of_ne_zero fun h0=>by rw [h0] at h1;omega
  have h2:t/(len/n)<n:=(Nat.div_lt_iff_lt_mul hk).2 (by rw [Nat.mul_comm];exact h1)
  exact Nat.lt_of_lt_of_le (ybG (Nat.mod_lt _ hk) h2) (Nat.div_mul_le_self _ _)
 ·exact h
theorem ybc {len n i j:Nat} (hi:i<len/n) (hj:j<n):uH len n (j*(len/n)+i)=i*n+j:=by
 have hk:0<len/n:=by omega
 unfold uH
 rw [if_pos (by rw [Nat.mul_comm (len/n)];exact ybG hj hi),Nat.mul_comm j,Nat.mul_add_mod,Nat.mod_eq_of_lt hi,Nat.mul_add_div hk,Nat.div_eq_of_lt hi,Nat.add_zero]
theorem ybd {len n t:Nat} (h:len/n*n≤t):uH len n t=t:=by unfold uH;rw [if_neg (by omega)]
theorem yir (l:List UInt8) {n t:Nat} (hn:0<n) (ht:t<l.length):(yaM l n).getD t 0=l.getD (uH l.length n t) 0:=by
 by_cases h:t<l.length/n*n
 ·have hk:0<l.length/n:=Nat.pos_of_ne_zero fun h0=>by rw [h0] at h;omega
  have _:=ht
  have _:=hn
  obtain ⟨j,i,hj,hi,rfl⟩:=yaI (k:=n) (n:=l.length/n) (by rw [Nat.mul_comm];exact h) hk
  rw [yiq l hi hj,ybc hi hj]
 ·rw [ygQ _ (by omega),ybd (by omega)]
def ya0 (l:List UInt8) (f g:Nat→Nat) (ts:List Nat):List UInt8:=ts.foldl (fun X t=>X.set (f t) (l.getD (g t) 0)) (List.replicate l.length 0)
theorem yd4 (l:List UInt8) (f g:Nat→Nat) (ts:List Nat) (t:Nat):ya0 l f g (ts++[t])=(ya0 l f g ts).set (f t) (l.getD (g t) 0):=by
 unfold ya0;rw [List.foldl_append];rfl
theorem ysQ (l:List UInt8) (f g:Nat→Nat) (ts:List Nat):∀ X:List UInt8,(ts.foldl (fun X t=>X.set (f t) (l.getD (g t) 0)) X).length=X.length:=by
 induction ts with
 | nil=>intro X;rfl
 | cons t ts ih=>intro X;rw [List.foldl_cons,ih,List.length_set]
theorem GL (l:List UInt8) (f g:Nat→Nat) (ts:List Nat):(ya0 l f g ts).length=l.length:=by
 unfold ya0;rw [ysQ,List.length_replicate]
theorem yeU (l:List UInt8) (f g:Nat→Nat) (hf:∀ s t,s<l.length→t<l.length→f s=f t→s=t) (hb:∀ t,t<l.length→f t<l.length):∀ m,m≤l.length→∀ t,t<m→(ya0 l f g (List.range m)).getD (f t) 0=l.getD (g t) 0
 | m+1,hm,t,ht=>by
  rw [List.range_succ,yd4,List.getD_eq_getElem?_getD,List.getElem?_set]
  by_cases h:f m=f t
  ·have e:m=t:=hf m t (by omega) (by omega) h
   rw [if_pos h,if_pos (by rw [GL];exact hb m (by omega)),e];rfl
  ·rw [if_neg h,← List.getD_eq_getElem?_getD]
   exact yeU l f g hf hb m (by omega) t (by
    rcases Nat.lt_or_ge t m with h1|h1
    ·exact h1
    ·exact absurd (by rw [show t=m by omega]) h)
theorem yp0 (l:List UInt8) {n:Nat} (hn:0<n):ya0 l (fun t=>t) (fun t=>uH l.length n t) (List.range l.length)=yaM l n:=by
 refine ygw (by rw [GL,jX]) fun t ht=>?_
 rw [GL] at ht
 have:=yeU l (fun t=>t) (fun t=>uH l.length n t) (fun s t _ _ h=>h) (fun t h=>h) l.length (Nat.le_refl _) t ht
 rw [this,yir l hn ht]
section
open Go.RowKit Go.Shelf
open Go.Lib
attribute [local go_sem] Oper.semAt_some
abbrev Pl (len:Nat):={ t:Nat // t<len }
abbrev plE (len n:Nat) (x:Pl len):Array Value:=#[.int .i64 ((x.1:Nat):Int),.int .i64 ((uH len n x.1:Nat):Int)]
def ycg (Bs Bn:Nat) (W W':World):Prop:=W'.heap[Bs]?=W.heap[Bs]?∧W'.heap[Bn]?=W.heap[Bn]?
theorem ycg.trans {Bs Bn:Nat} {A B C:World} (h:ycg Bs Bn A B) (k:ycg Bs Bn B C):ycg Bs Bn A C:=⟨k.1.trans h.1,k.2.trans h.2⟩
theorem ycg.c1 {Bs Bn:Nat} {A B:World} (h:ycg Bs Bn A B):B.cell? ⟨Bs,0,none⟩=A.cell? ⟨Bs,0,none⟩:=World.cell?_of_block (a:=⟨Bs,0,none⟩) h.1
theorem ycg.c2 {Bs Bn:Nat} {A B:World} (h:ycg Bs Bn A B):B.cell? ⟨Bn,0,none⟩=A.cell? ⟨Bn,0,none⟩:=World.cell?_of_block (a:=⟨Bn,0,none⟩) h.2
theorem yuT (F:Fence) (m:Nat) (h64:F.fn 189) (hro:F.round=none) (hm:1≤m) (lr Bs Bn len n:Nat) (hn1:1≤n) (hn2:n≤8) (hlen:len≤20000) (J Jx:List (Pl len)→World→Prop)
  (hJd:∀ pre W q,J pre W→J pre (W.drewN q))
  (hY:∀ pre x W,J pre W→pre.length<len→YieldAt F (m-1) Tryz.prog lr (plE len n x) W fun e W' =>
   (e=.returned (.bool true)∧J (pre++[x]) W'∧ycg Bs Bn W W')∨(e=.returned (.bool false)∧Jx (pre++[x]) W'))
  (W:World) (hBs:W.cell? ⟨Bs,0,none⟩=some (.int .i64 (len:Int))) (hBn:W.cell? ⟨Bn,0,none⟩=some (.int .i64 (n:Int))) (h0:J [] W) :
  CallsIn F m Tryz.prog 189 #[.func (.yield lr) #[] #[],.pointer (some ⟨Bs,0,none⟩),.pointer (some ⟨Bn,0,none⟩)] W fun e W'=>(∃ v,e=.returned v) ∧
   ((∃ ys,ys.map (·.1)=List.range len∧J ys W')∨(∃ pre,True∧Jx pre W')):=by
 have hni:1≤(n:Int):=by omega
 have hni2:(n:Int)≤8:=by omega
 have hli:(len:Int)≤20000:=by omega
 obtain ⟨k,HK⟩:∃ k,Hid (k=len/n):=⟨_,rfl⟩
 obtain ⟨E,HE⟩:∃ E,Hid (E=k*n):=⟨_,rfl⟩
 have HEl:Hid (E≤len):=Lib.hid (by rw [HE.out,HK.out];exact Nat.div_mul_le_self _ _)
 have yai:wrap64 ((len:Int)-(len:Int)%(n:Int))=(E:Int):=by
  have h1:=Nat.div_add_mod len n
  rw [← HK.out,Nat.mul_comm,← HE.out] at h1
  have h2:(len:Int)-(len:Int)%(n:Int)=(E:Int):=by omega
  rw [h2]
  have:=HEl.out
  unfold wrap64;omega
 have hEi:(E:Int)≤20000:=by have:=HEl.out;omega
 refine callsIn_of_wp Tryz.func189 rfl h64 ?_ hro
 simp only [Tryz.ntmps189,List.size_toArray,List.length_cons,List.length_nil,Nat.reduceAdd,Nat.reduceSub,Array.replicate_succ,Array.replicate_zero,List.push_toArray,List.append_toArray,List.nil_append,List.cons_append]
 gi_wp2
 refine wpIn_region_quiet_lit hro (by kernel_rfl) (by kernel_rfl) ?_
 repeat (gi_big_quiet_step (fail))
 refine wpQuietIn_nil ?_
 intro _ hw'
 obtain ⟨nq,hw''⟩:=hw'
 subst hw''
 gi_wp2
 rw [yai]
 clear yai
 have hJ0:=Lib.hid (hJd _ _ nq h0)
 gi_loopw [4,14] (fun tv fv wr=>∃ (t j:Nat) (pre:List (Pl len)),j≤n∧tv=.int .i64 t∧fv=.int .i64 j∧Hid (t=j*k)∧Hid (pre.map (·.1)=List.range t)∧Hid (J pre wr)∧Hid (ycg Bs Bn W wr)) (fun _ fv _=>n-(intOf fv).toNat)
 case atStart=>exact ⟨0,0,[],Nat.zero_le _,rfl,rfl,Lib.hid (by simp),rfl,hJ0,Lib.hid ⟨rfl,rfl⟩⟩
 case round =>
  obtain ⟨t,j,pre,hj,rfl,rfl,HT,HP,HJ,HB⟩:=hrel
  by_cases hjn:j<n
  ·have hcn:=HB.out.c2.trans hBn
   gi_wp2
   clear hcn
   gi_loopw [4,7] (fun tv gv wr=>∃ (t fr i:Nat) (pre:List (Pl len)),i≤k∧tv=.int .i64 t∧gv=.int .i64 fr∧Hid (t=j*k+i)∧Hid (fr=i*n+j)∧Hid (pre.map (·.1)=List.range t)∧Hid (J pre wr)∧Hid (ycg Bs Bn W wr)) (fun tv _ _=>(j+1)*k-(intOf tv).toNat)
   case atStart=>exact ⟨t,j,0,pre,Nat.zero_le _,rfl,rfl,Lib.hid (by rw [HT.out];rfl),Lib.hid (by rw [Nat.zero_mul,Nat.zero_add]),HP,HJ,HB⟩
   case round =>
    obtain ⟨t,fr,i,pre,hik,rfl,rfl,HT,HFR,HP,HJ,HB⟩:=hrel
    have hcn:=HB.out.c2.trans hBn
    by_cases hi:i<k
    ·have q1:fr<E:=by rw [HFR.out,HE.out];exact ybG hi hjn
     have htE:t<E:=by rw [HT.out,HE.out,Nat.mul_comm k];exact ybG hjn hi
     have htl:t<len:=Nat.lt_of_lt_of_le htE HEl.out
     have hti:(t:Int)≤20000:=by omega
     have hfi:(fr:Int)≤20000:=by omega
     obtain ⟨fn,tmps,assign,body,hy,hR⟩:=hY pre ⟨t,htl⟩ wr HJ.out (by
      have h:=congrArg List.length HP.out
      rw [List.length_map,List.length_range] at h;omega)
     have hmm:t+1≤(j+1)*k:=by rw [HT.out,Nat.succ_mul];omega
     have ywa:uH len n t=fr:=by rw [HT.out,HFR.out,HK.out];exact ybc (by rw [← HK.out];exact hi) hjn
     have hy2:(Instr.yield lr #[.int .i64 (t:Int),.int .i64 (fr:Int)]).run Tryz.prog wr=.ok (.round lr fn tmps assign body) wr:=by
      rw [← ywa];exact hy
     clear hy
     gi_wp2
     refine hR.mono ?_
     rintro e W3 (⟨rfl,hJ3,hk3⟩|⟨rfl,yhk⟩)
     ·have HB3:=Lib.hid (HB.out.trans hk3)
      have hcn3:=HB3.out.c2.trans hBn
      have HJ3:=Lib.hid hJ3
      clear hJ3 hk3 hy2
      gi_wp2
      go_roundw
      case rel=>exact ⟨t+1,fr+n,i+1,pre++[⟨t,htl⟩],by omega,by go_num,by go_num,Lib.hid (by rw [HT.out];omega),Lib.hid (by rw [HFR.out,Nat.succ_mul];omega),Lib.hid (by rw [List.map_append,HP.out,List.range_succ];rfl),HJ3,HB3⟩
      case measure=>simp [intOf];omega
     ·gi_wp2
      refine bodyPost_ret (results_none rfl _ _ _) rfl ?_
      exact ⟨⟨_,rfl⟩,.inr ⟨_,trivial,yhk⟩⟩
    ·obtain rfl:i=k:=by omega
     have q1:¬ fr<E:=by rw [HFR.out,HE.out];omega
     gi_wp2
     go_roundw
     case rel=>exact ⟨t,j+1,pre,by omega,rfl,by go_num,Lib.hid (by rw [HT.out,Nat.succ_mul]),HP,HJ,HB⟩
     case measure=>simp [intOf];omega
  ·obtain rfl:j=n:=by omega
   gi_wp2
   gi_loopw [4] (fun tv wr=>∃ (t:Nat) (pre:List (Pl len)),t≤len∧tv=.int .i64 t∧Hid (E≤t)∧Hid (pre.map (·.1)=List.range t)∧Hid (J pre wr)∧Hid (ycg Bs Bn W wr)) (fun tv _=>len-(intOf tv).toNat)
   case atStart=>exact ⟨t,pre,by rw [HT.out];have:=HEl.out;rw [HE.out,Nat.mul_comm] at this;exact this,rfl,Lib.hid (by rw [HT.out,HE.out,Nat.mul_comm];exact Nat.le_refl _),HP,HJ,HB⟩
   case round =>
    obtain ⟨t,pre,htl',rfl,HTE,HP,HJ,HB⟩:=hrel
    have hcs:=HB.out.c1.trans hBs
    by_cases htl:t<len
    ·have hti:(t:Int)≤20000:=by omega
     obtain ⟨fn,tmps,assign,body,hy,hR⟩:=hY pre ⟨t,htl⟩ wr HJ.out (by
      have h:=congrArg List.length HP.out
      rw [List.length_map,List.length_range] at h;omega)
     have ywa:uH len j t=t:=ybd (by rw [← HK.out,← HE.out];exact HTE.out)
     have hy2:(Instr.yield lr #[.int .i64 (t:Int),.int .i64 (t:Int)]).run Tryz.prog wr=.ok (.round lr fn tmps assign body) wr:=by
      have:=hy
      unfold plE at this
      rw [ywa] at this;exact this
     clear hy
     gi_wp2
     refine hR.mono ?_
     rintro e W3 (⟨rfl,hJ3,hk3⟩|⟨rfl,yhk⟩)
     ·have HB3:=Lib.hid (HB.out.trans hk3)
      have HJ3:=Lib.hid hJ3
      clear hJ3 hk3 hy2
      gi_wp2
      go_roundw
      case rel=>exact ⟨t+1,pre++[⟨t,htl⟩],by omega,by go_num,Lib.hid (by have:=HTE.out;omega),Lib.hid (by rw [List.map_append,HP.out,List.range_succ];rfl),HJ3,HB3⟩
      case measure=>simp [intOf];omega
     ·gi_wp2
      refine bodyPost_ret (results_none rfl _ _ _) rfl ?_
      exact ⟨⟨_,rfl⟩,.inr ⟨_,trivial,yhk⟩⟩
    ·obtain rfl:t=len:=by omega
     gi_wp2
     go_end0
     exact ⟨⟨_,rfl⟩,.inl ⟨pre,HP.out,HJ.out⟩⟩
theorem ygS (F:Fence) (m:Nat) (h64:F.fn 189) (hro:F.round=none) (hm:1≤m) (Bs Bn len n:Nat) (hn1:1≤n) (hn2:n≤8) (hlen:len≤20000) (w:World) (hB1:Bs<w.heap.size) (hB2:Bn<w.heap.size)
  (hBs:w.cell? ⟨Bs,0,none⟩=some (.int .i64 (len:Int))) (hBn:w.cell? ⟨Bn,0,none⟩=some (.int .i64 (n:Int))) :
  SeqStopsK F m Tryz.prog 189 #[.pointer (some ⟨Bs,0,none⟩),.pointer (some ⟨Bn,0,none⟩)] (plE len n) (ycg Bs Bn) (fun ys=>ys.map (·.1)=List.range len) (fun _=>True) len w:=fun l J Jx W hW hJ _ hY h0 =>
 yuT F m h64 hro hm l Bs Bn len n hn1 hn2 hlen J Jx (fun pre W' q hj=>hJ pre W' (W'.drewN q) none hj ⟨rfl,rfl,rfl,Nat.le_refl _,fun _ _ _=>rfl⟩ (fun r e=>by cases e)) hY W
  ((hW.cell (p:=⟨Bs,0,none⟩) hB1).trans hBs) ((hW.cell (p:=⟨Bn,0,none⟩) hB2).trans hBn) h0
theorem ygT (n:Nat):madeCells #[Value.int .u8 0] n=(zS (List.replicate n 0)).toArray:=by
 apply Array.ext
 ·simp [madeCells,zS]
 ·intro i h1 h2
  simp [madeCells,zS,Nat.mod_one]
theorem ybb {F:Fence} {n:Nat} (w:World) {ops:Array Oper} {rest:List Oper} {o:Oper} {a:Act} {Q:Exit→Act→World→Prop} (hg:o.guard=none) (l c:Operand) (hop:o.op=Op.makeSlice 39 l c)
  (kl kc:IntKind) (k:Nat) (hl:a.eval l=.int kl (k:Int)) (hc:a.eval c=.int kc (k:Int)) (hk:k≤20000)
  (hK:∀ w',w'.heap[w.heap.size]?=some (.cells (zS (List.replicate k 0)).toArray 5 (0,0))→w.grownBy w' none→wpListIn F n Tryz.prog ops Q rest (a.put o.dst (.slice (some ⟨w.heap.size,0,none⟩) k k)) w') :
  wpListIn F n Tryz.prog ops Q (o::rest) a w:=by
 obtain ⟨i0,hi,hz0,hz1,hz2⟩:=info_parts ya6
 refine wpListIn_plain hg fun K hK'=>?_
 have hr:=run_make (P:=Tryz.prog) w 39 5 i0 (.int .u8 0) Tryz.underlying39 hi hz0 kl kc k k (by omega) (Int.le_refl _) (by rw [hz2];omega) (by omega)
 simp only [Int.toNat_natCast] at hr
 rw [hz1,Nat.mul_one] at hr
 unfold Oper.wpIn
 refine ⟨?_,?_⟩
 ·simp [Oper.about,hop]
 ·rw [Oper.semAt_plain F _ _ (by rw [hop];intro c hc';cases hc')]
  simp [execOp,hop,hl,hc,hr,Result.andThen]
  exact hK' _ _ (hK _ (by rw [← ygT];exact World.alloc_heap_new w _) (World.grownBy_alloc w _ none))
theorem uY {β:Type} {B i:Nat} {o:β→Obj} (hc:∀ s,(o s).isCells=true):OwnFrom B (fun (s:β) W=>W.heap[i]?=some (o s)) :=
 fun s _ _ _ hs hg hr=>(grownBy_keeps_cells hg (fun r e=>(hr r e).2) hs (hc s)).trans hs
theorem yis {W:World} {g t:Nat} {A:List UInt8} (h:W.heap[g]?=some (.cells (zS A).toArray 5 (0,0))) (y:UInt8):(W.setCell ⟨g,t,none⟩ (.int .u8 (y.toNat:Int))).drew.heap[g]?=some (.cells (zS (A.set t y)).toArray 5 (0,0)):=by
 show (W.setCell ⟨g,t,none⟩ (.int .u8 (y.toNat:Int))).heap[g]?=_
 obtain ⟨h1,h2⟩:=Array.getElem?_eq_some_iff.1 h
 unfold World.setCell
 rw [Array.getElem?_eq_getElem (by simpa using h1),Array.getElem_modify]
 simp [h2,zS,List.map_set]
theorem yad {W:World} {g k t:Nat} (v:Value) (hne:k≠g):(W.setCell ⟨g,t,none⟩ v).drew.heap[k]?=W.heap[k]?:=Below.heap_setCell W ⟨g,t,none⟩ v k hne
theorem ygU {W W':World} (h:KeepsOthers W W'):KeepsOthers W W'.drew:=⟨h.size,h.same⟩
theorem yez {w:World} {B g len:Nat} {L:List UInt8} (h:w.heap[g]?=some (.cells (zS L).toArray 5 (0,0))) (hL:L.length=len) (hB:B≤g) (hlen:len≤20000):w.ownsRow B 5 1 (.slice (some ⟨g,0,none⟩) len len) L.length (zS L):=by
 subst hL
 refine ⟨by simp [zS],.inr ⟨g,L.length,(zS L).toArray,rfl,hB,h,Nat.le_refl _,by unfold maxLen;omega,by simp [zS],?_⟩⟩
 rw [Nat.mul_one,List.take_of_length_le (by simp [zS])]
end
end Go.Proofs.YtgepehlpjpccaaaGreatDoor
