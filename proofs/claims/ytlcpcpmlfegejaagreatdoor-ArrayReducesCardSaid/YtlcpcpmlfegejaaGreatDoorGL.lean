/- The program's build: an array out of a function on indexes. -/
import Derived.Test.YtlcpcpmlfegejaaGreatDoorGI
import Derived.BigRegionIn
import Derived.Maps.AppendAt
namespace Go.Proofs.YtlcpcpmlfegejaaGreatDoor.Arr
open Go.RowKit Go.Shelf
open Go.Lib
attribute [local go_sem] Oper.semAt_some
def noDefer (o:Oper):Bool:=match o.op with | .defer _=>false|_=>true
theorem noDefer_ne {o:Oper} (h:noDefer o=true):∀ c,o.op≠.defer c:=by
 intro c e;unfold noDefer at h;rw [e] at h;cases h
theorem oper_round {P:Program} {l n:Nat} {o:Oper} (hd:noDefer o=true) {a:Act} {w:World} {K:Act→World→Prop} {Q:Exit→Act→World→Prop}
  (h:o.wp P a w K Q):o.wpIn (Fence.wide.inRound l) n P a w K Q:=by
 unfold Oper.wpIn
 refine ⟨fun _ _=>trivial,?_⟩
 rw [Oper.semAt_plain _ _ _ (noDefer_ne hd)]
 unfold Oper.wp at h
 generalize (execOp a.eval o).run P w=r at *
 cases r with
 | ok x w' =>
  cases x
  case enter f args=>exact ⟨fun h0=>Bool.noConfusion h0,CallsIn.inRound l (callsIn_wide.2 h)⟩
  case row r args =>
   refine ⟨fun h0=>Bool.noConfusion h0,fun c cs _=>?_⟩
   obtain ⟨v,w'',h1,h2⟩:=h c cs
   exact ⟨v,w'',h1,stepsIn_wide.2 h2⟩
  all_goals first|exact h|exact h.elim
 | halt x w'=>cases x<;>first|exact h|exact h.elim
theorem op_round {P:Program} {l n:Nat} {ops:Array Oper} (hd:∀ o ∈ ops,noDefer o=true) {i:Nat} {K:Act→World→Prop} {Q:Exit→Act→World→Prop} (hQ:¬ LetsOut Q) {a:Act} {w:World}
  (h:wpOp P ops Q i K a w):wpOpIn (Fence.wide.inRound l) n P ops Q i K a w:=by
 unfold wpOp at h
 unfold wpOpIn
 cases ho:ops[i]? with
 | none=>simp only [ho] at h ⊢;exact h
 | some o =>
  simp only [ho] at h ⊢
  split
  ·rename_i hw;simp only [hw,if_true] at h;exact h.elim (oper_round (hd o (Array.mem_of_getElem? ho))) (fun h1=>absurd h1.2 hQ)
  ·rename_i hw;simp only [hw] at h;exact ⟨fun _ _=>trivial,h⟩
theorem any_round {P:Program} {l n:Nat} {md:Region.Mode} {ops:Array Oper} (hd:∀ o ∈ ops,noDefer o=true) {Q:Exit→Act→World→Prop} (hQ:¬ LetsOut Q) :
  ∀ (fuel:Nat) (listed:Array Bool) (a:Act) (w:World),wpAny P md ops Q fuel listed a w→wpAnyIn (Fence.wide.inRound l) n P md ops Q fuel listed a w
 | 0,_,_,_,h=>h
 | fuel+1,_,_,_,h=>⟨h.1,fun i hi=>wpOpIn_mono (fun a' w' h'=>any_round hd hQ fuel _ a' w' h') (op_round hd hQ (h.2 i hi))⟩
theorem region_round {P:Program} {l n id:Nat} {ops:Array Oper} {S:World→Prop} {Q:Exit→Act→World→Prop} {a:Act} {w:World} (hm:P.follows .mixedOrders=true) (hd:ops.all noDefer=true) (hQ:¬ LetsOut Q) (hS:S w.drew)
  (h:S w.drew→wpAnyH P .any ops Q S ops.size (Array.replicate ops.size false) a w.drew):(Code.region id ops true).wpIn (Fence.wide.inRound l) n P Q a w :=
 wpIn_region_any hm (any_round (fun o ho=>(Array.all_eq_true_iff_forall_mem.1 hd) o ho) hQ _ _ _ _ (wpAny_of_held _ _ _ _ (h hS)))
def RdS (w:World) (p:Option Addr) (l:List (List UInt8)):Prop:=l.length=0∨∃ b off,p=some ⟨b,off,none⟩∧b<w.heap.size∧∀ j,j<l.length→w.cell? ⟨b,off+j,none⟩=some (.string ⟨(l.getD j []).toArray⟩)
theorem RdS.below {w w':World} {p:Option Addr} {l:List (List UInt8)} (h:RdS w p l) (hb:Below w.heap.size w w'):RdS w' p l:=by
 rcases h with h0|⟨b,off,hp,hlt,hc⟩
 ·exact .inl h0
 ·exact .inr ⟨b,off,hp,Nat.lt_of_lt_of_le hlt hb.size,fun j hj=>(hb.cell (p:=⟨b,off+j,none⟩) hlt).trans (hc j hj)⟩
theorem RdS.at {w:World} {p:Option Addr} {l:List (List UInt8)} (h:RdS w p l) {k:Nat} (hk:k<l.length):∃ b off x,p=some ⟨b,off,none⟩∧b<w.heap.size∧w.cell? ⟨b,off+k,none⟩=some (.string ⟨List.toArray x⟩)∧Hid (x=l.getD k []):=by
 rcases h with h0|⟨b,off,h1,h2,h3⟩
 ·omega
 ·exact ⟨b,off,_,h1,h2,h3 k hk,Lib.hid rfl⟩
theorem info9:(Tryz.prog.info? 9).map (fun i=>(i.zero,i.size,i.bytes))=some (some (.string ⟨#[]⟩),1,16):=by kernel_rfl
def strC (l:List (List UInt8)):Array Value:=(l.map (fun x=>Value.string ⟨List.toArray x⟩)).toArray
theorem make_strs (n:Nat) (hn:n≤5000) (W:World):(Instr.makeSlice 22 (.int .i64 (n:Int)) (.int .i64 (n:Int))).run Tryz.prog W=.ok (.slice (some ⟨W.heap.size,0,none⟩) n n) (W.alloc (.cells (strC (List.replicate n [])) 9)):=by
 obtain ⟨i0,hi,hz0,hz1,hz2⟩:=info_parts info9
 have h:=run_make (P:=Tryz.prog) W 22 9 i0 (.string ⟨#[]⟩) Tryz.underlying22 hi hz0 .i64 .i64 (n:Int) (n:Int) (by omega) (by omega) (by rw [hz2];omega) (by omega)
 have e:madeCells (Value.cells (.string ⟨#[]⟩)) (n*1)=strC (List.replicate n []):=by
  have e1:Value.cells (.string ⟨#[]⟩)=#[Value.string ⟨#[]⟩]:=rfl
  rw [e1,Nat.mul_one]
  unfold madeCells strC
  apply Array.ext
  ·simp
  ·intro i h1 h2
   simp [Nat.mod_one]
 rw [hz1,Int.toNat_natCast,e] at h
 exact h
structure BI (w:World) (N:Nat) (fv:Value) (val:Nat→List UInt8) (row:Option Nat) (Ok:World→Prop) (pre:List (Nat × Nat)) (W:World):Prop where
 old:w.grownBy W row
 bv:W.heap[w.heap.size]?=some (.cells #[fv] 89 (0,0))
 br:W.heap[w.heap.size+1]?=some (.cells #[.slice none 0 0,.slice none 0 0] 31 (0,0))
 vals:∃ l:List (List UInt8),l.length=N∧W.heap[w.heap.size+1+1]?=some (.cells (strC l) 9 (0,0))∧∀ y ∈ pre,y.1<N→l.getD y.1 []=val y.1
 bx:W.heap[w.heap.size+1+1+1]?=some (.cells #[.slice (some ⟨w.heap.size+1+1,0,none⟩) N N] 22 (0,0))
 ok:Ok W
end Go.Proofs.YtlcpcpmlfegejaaGreatDoor.Arr
set_option maxHeartbeats 1600000
set_option maxRecDepth 100000
namespace Go.Proofs.YtlcpcpmlfegejaaGreatDoor.Arr
open Go.RowKit Go.Shelf
open Go.Lib
attribute [local go_sem] Oper.semAt_some
theorem ixC_list (l:List Nat):(ixC l).toList=l.map (fun x=>Value.int .i64 ((x:Nat):Int)):=rfl
theorem own_ge' {w:World} {B n k e size:Nat} {v:Value} {xs:List Value} (h:w.ownsRow B e size v n xs) (hk:v.ownBlock=some k):B≤k:=by
 obtain ⟨-,⟨rfl,-⟩|⟨g,cap,cur,rfl,hg,-⟩⟩:=h
 ·cases hk
 ·cases hk;exact hg
def ClonePost (n:Nat) (s:List Nat) (w:World) (e:Ending) (w':World):Prop:=Below w.heap.size w w'∧∃ q d,e=.returned (.slice q n d)∧RdN w' q s∧n≤d∧(q=none→d=0)∧∀ b off,q=some ⟨b,off,none⟩→w.heap.size≤b
theorem rdn_own {w:World} {B n:Nat} {v:Value} {s:List Nat} (hs:s.length=n) (hb:∀ x ∈ s,x≤1024) (h:w.ownsRow B 3 1 v n (s.map (fun x=>Value.int .i64 ((x:Nat):Int)))):∃ q d,v=.slice q n d∧RdN w q s∧n≤d∧(q=none→d=0)∧∀ b off,q=some ⟨b,off,none⟩→B≤b:=by
 have hwf:∀ z ∈ s.map Int.ofNat,-9223372036854775808≤z∧z≤9223372036854775807:=fun z hz=>by
  obtain ⟨x,hx,rfl⟩:=List.mem_map.1 hz
  have:=hb x hx
  exact ⟨by have:=Int.natCast_nonneg x;show _≤((x:Nat):Int);omega,by show ((x:Nat):Int)≤_;omega⟩
 have ho:=h
 obtain ⟨h1,⟨rfl,h3⟩|⟨g,cap,cur,rfl,hg,hh,hn,hm,hz,hc⟩⟩:=h
 ·exact ⟨none,0,by rw [h3],⟨hwf,.inl (by rw [List.length_map,hs];exact h3)⟩,by omega,fun _=>rfl,fun b off e=>by cases e⟩
 ·refine ⟨_,cap,rfl,⟨hwf,.inr ⟨g,0,rfl,(Array.getElem?_eq_some_iff.1 hh).1,fun j hj=>?_⟩⟩,hn,(fun e=>by cases e),fun b off e=>by cases e;exact hg⟩
  rw [List.length_map] at hj
  have:=ho.cellAt j (by omega)
  rw [Nat.zero_add,this,List.getElem?_map,List.getElem?_eq_getElem hj,List.getD_eq_getElem?_getD,List.getElem?_map,List.getElem?_eq_getElem hj]
  rfl
theorem gb_of_below {w w':World} (h:Below w.heap.size w w') (r:Option Nat):w.grownBy w' r:=⟨h.os,h.tape,h.output,h.size,fun k hk _=>h.block k hk⟩
theorem nothing_behind (w:World) (B:Nat) (v:Value) (n c:Nat) (xs:List Value) (ty:TypeId) (hown:w.ownsRow B 3 1 v n xs):(Builtin.append_ #[29,29] ty #[v,.slice none 0 c]).run Tryz.prog w=.ok v w:=by
 obtain ⟨i0,hi,hz0,hz1,hz2⟩:=info_parts info3
 obtain ⟨-,⟨rfl,rfl⟩|⟨g,cap,cur,rfl,-,-,hnc,-⟩⟩:=hown
 ·simp [Builtin.append_,run_underlying Tryz.underlying29,sizeOf,typeInfo,hi,Builtin.lenOf,Builtin.firstCells]
 ·simp [Builtin.append_,run_underlying Tryz.underlying29,sizeOf,typeInfo,hi,Builtin.lenOf,Builtin.firstCells,hnc,storeCells]
theorem wpList_append_ns {w:World} {ops:Array Oper} {rest:List Oper} {o:Oper} {a:Act} {Q:Exit→Act→World→Prop} (hgd:o.guard=none) (s x:Operand)
  (ho:o.op=.call { callee:=.builtin .append,args:=#[s,x],argTypes:=#[29,29] })
  (B:Nat) (v:Value) (X:List Nat) (hs:a.eval s=v) (hown:w.ownsRow B 3 1 v X.length (X.map (fun x=>Value.int .i64 ((x:Nat):Int))))
  (p:Option Addr) (m c:Nat) (L:List Nat) (hx:a.eval x=.slice p m c) (hm:L.length=m) (hb:RdN w p L) (hlen:X.length+m≤100000) (hB:B≤w.heap.size)
  (h:∀ v' w',w'.ownsRow B 3 1 v' (X.length+m) ((X++L).map (fun x=>Value.int .i64 ((x:Nat):Int)))→w.grownBy w' v.ownBlock→(∀ k,v'.ownBlock=some k→B≤k)→wpList Tryz.prog ops Q rest (a.put o.dst v') w'):wpList Tryz.prog ops Q (o::rest) a w:=by
 subst hm
 obtain ⟨i0,hi,hz0,hz1,hz2⟩:=info_parts info3
 cases p with
 | none =>
  have h0:L=[]:=by
   rcases hb.cell with h0|⟨b,off,h1,-⟩
   ·exact List.eq_nil_of_length_eq_zero (by simpa using h0)
   ·cases h1
  subst h0
  refine wpList_plain hgd fun K hK=>?_
  have hr:=nothing_behind w B v X.length c _ o.type hown
  unfold Oper.wp execOp
  simp only [ho,resolve,invoke,builtin,Sem.run_bind,Sem.run_pure,Result.andThen_ok,List.map_toArray,List.map_cons,List.map_nil,hs,hx,List.length_nil,hr]
  exact hK _ _ (h v w (by rw [List.append_nil];exact hown) (gb_of_below (Below.refl _ _) _) (fun k e=>own_ge' hown e))
 | some ad =>
  obtain ⟨b0,off,sp⟩:=ad
  by_cases h0:L=[]
  ·subst h0
   refine wpList_append_own_at _ hgd s x 29 ho B 3 i0 (.int .i64 0) 1 8 Tryz.underlying29 hi hz0 hz1 hz2 rfl (by decide) _ _ _ hs hown ⟨b0,off,sp⟩ ([]:List Nat).length c [] hx rfl (fun j u hj=>by simp at hj) (fun u hu=>by cases hu) (by unfold maxLen;simp at hlen ⊢;omega) (by omega) hB ?_
   intro v' w' h1 h2 _ h4
   refine h v' w' ?_ h2 (fun k e=>own_ge' h1 e)
   rw [List.append_nil];simpa using h1
  ·have hsp:sp=none:=by
    rcases hb.cell with h1|⟨b,o2,h1,-⟩
    ·exact absurd (List.eq_nil_of_length_eq_zero (by simpa using h1)) h0
    ·cases h1;rfl
   subst hsp
   refine wpList_append_own_at _ hgd s x 29 ho B 3 i0 (.int .i64 0) 1 8 Tryz.underlying29 hi hz0 hz1 hz2 rfl (by decide) _ _ _ hs hown ⟨b0,off,none⟩ L.length c (L.map (fun x=>Value.int .i64 ((x:Nat):Int))) hx (by rw [List.length_map,Nat.mul_one]) ?_ ?_ (by unfold maxLen;omega) (by omega) hB ?_
   ·intro j u hj
    have hjl:j<L.length:=by
     have:=(List.getElem?_eq_some_iff.1 hj).1
     rwa [List.length_map] at this
    obtain ⟨b1,o1,x,e1,-,hc,hx⟩:=hb.at hjl
    cases e1
    rw [List.getElem?_map,List.getElem?_eq_getElem hjl] at hj
    obtain rfl:Value.int .i64 ((L[j]:Nat):Int)=u:=by simpa using hj
    have ex:x=L[j]:=by rw [hx.out,List.getD_eq_getElem?_getD,List.getElem?_eq_getElem hjl];rfl
    rw [← ex]
    have ea:(⟨b0,off,none⟩:Addr).add j=⟨b0,off+j,none⟩:=by
     unfold Addr.add;split<;>simp_all
    rw [ea];exact hc
   ·intro u hu
    obtain ⟨x,_,rfl⟩:=List.mem_map.1 hu
    rfl
   ·intro v' w' h1 h2 _ h4
    refine h v' w' ?_ h2 (fun k e=>own_ge' h1 e)
    rw [List.map_append];exact h1
theorem clone_some (a:Addr) (n c:Nat) (s:List Nat) (w:World) (hs:Hid (s.length=n)) (hn:n≤4) (hb:Hid (∀ x ∈ s,x≤1024)) (h:RdN w (some a) s) :
  Calls Tryz.prog 78 #[.slice (some a) n c] w (ClonePost n s w):=by
 have H:=Lib.hid h
 have heq:∀ W:World,(binOp .eql 29 (.slice (some a) n c) (.slice none 0 0)).run Tryz.prog W=.ok (.bool false) W:=fun W=>by kernel_rfl
 have HBa:Hid (Below w.heap.size w (w.alloc (.cells #[] 3))):=Lib.hid ((Below.refl _ w).alloc (Nat.le_refl _) _)
 have hown:Hid ((w.alloc (.cells #[] 3)).ownsRow w.heap.size 3 1 (.slice (some ⟨w.heap.size,0,none⟩) 0 0) 0 (([]:List Nat).map (fun x=>Value.int .i64 ((x:Nat):Int)))):=Lib.hid ⟨rfl,.inr ⟨w.heap.size,0,#[],rfl,Nat.le_refl _,World.alloc_heap_new w _,Nat.le_refl _,Nat.zero_le _,rfl,rfl⟩⟩
 have hsz:Hid (w.heap.size≤(w.alloc (.cells #[] 3)).heap.size):=Lib.hid (by simp)
 clear h
 go_enter Tryz.func78,Tryz.ntmps78
 go_wp2_with (at_builtin;refine wpList_append_ns rfl (.tmp 5) (.tmp 6) rfl w.heap.size _ [] rfl hown.out (some a) n c s rfl hs.out (H.out.below HBa.out) (by simp;omega) hsz.out ?_)
 intro v5 w5 hown5 hg5 _
 obtain ⟨q,d,rfl,hq1,hq2,hq3,hq4⟩:=rdn_own (s:=s) (n:=n) hs.out hb.out (by simpa using hown5)
 have hfin:Hid (ClonePost n s w (.returned (.slice q n d)) w5):=Lib.hid ⟨HBa.out.trans ((Below.refl _ _).grown hg5 hsz.out (fun k e=>own_ge' hown.out e)),q,d,rfl,hq1,hq2,hq3,hq4⟩
 clear hown5 hg5 hq1 hq2 hq3 hq4
 go_wp2_with fail
 go_ret
 exact hfin.out
theorem clone_nil (c:Nat) (w:World):Calls Tryz.prog 78 #[.slice none 0 c] w (ClonePost 0 [] w):=by
 have heq:∀ W:World,(binOp .eql 29 (.slice none 0 c) (.slice none 0 0)).run Tryz.prog W=.ok (.bool true) W:=fun W=>by kernel_rfl
 go_enter Tryz.func78,Tryz.ntmps78
 go_wp2_with fail
 go_ret
 exact ⟨Below.refl _ _,none,0,rfl,⟨(fun z hz=>by cases hz),.inl rfl⟩,Nat.le_refl _,(fun _=>rfl),(fun b off e=>by cases e)⟩
theorem clone_any (p:Option Addr) (n c:Nat) (s:List Nat) (w:World) (hs:Hid (s.length=n)) (hn:n≤4) (hb:Hid (∀ x ∈ s,x≤1024)) (h:RdN w p s):Calls Tryz.prog 78 #[.slice p n c] w (ClonePost n s w):=by
 cases p with
 | none =>
  have h0:s=[]:=by
   rcases h.cell with h0|⟨b,off,h1,_⟩
   ·exact List.eq_nil_of_length_eq_zero (by simpa using h0)
   ·cases h1
  subst h0
  obtain rfl:n=0:=by rw [← hs.out];rfl
  exact clone_nil c w
 | some a=>exact clone_some a n c s w hs hn hb h
end Go.Proofs.YtlcpcpmlfegejaaGreatDoor.Arr
set_option maxHeartbeats 4000000
set_option maxRecDepth 100000
namespace Go.Proofs.YtlcpcpmlfegejaaGreatDoor.Arr
open Go.RowKit Go.Shelf
open Go.Lib
attribute [local go_sem] Oper.semAt_some
def BuildPost (w:World) (n N:Nat) (s:List Nat) (val:Nat→List UInt8) (row:Option Nat) (Ok:World→Prop) (e:Ending) (w':World):Prop :=
 w.grownBy w' row∧Ok w'∧∃ q d V,e=.returned (.agg #[.slice q n d,.slice (some ⟨V,0,none⟩) N N])∧RdN w' q s∧n≤d∧(q=none→d=0)∧(∀ b off,q=some ⟨b,off,none⟩→w.heap.size≤b)∧RdS w' (some ⟨V,0,none⟩) ((List.range N).map val)∧w.heap.size≤V
theorem strC_at {l:List (List UInt8)} {k:Nat} (hk:k<l.length):(strC l)[k]?=some (.string ⟨List.toArray (l.getD k [])⟩):=by
 simp [strC,List.getD_eq_getElem?_getD,hk]
theorem strC_set (l:List (List UInt8)) (k:Nat) (x:List UInt8):(strC l).setIfInBounds k (.string ⟨List.toArray x⟩)=strC (l.set k x):=by
 unfold strC
 rw [List.setIfInBounds_toArray,List.map_set]
theorem rds_of {W:World} {V N:Nat} {val:Nat→List UInt8} {l:List (List UInt8)} (hl:l.length=N) (hh:W.heap[V]?=some (.cells (strC l) 9 (0,0))) (h:∀ i,i<N→l.getD i []=val i):RdS W (some ⟨V,0,none⟩) ((List.range N).map val):=by
 refine .inr ⟨V,0,rfl,(Array.getElem?_eq_some_iff.1 hh).1,fun j hj=>?_⟩
 rw [List.length_map,List.length_range] at hj
 have h1:=strC_at (l:=l) (k:=j) (by omega)
 rw [Nat.zero_add]
 have e:((List.range N).map val).getD j []=val j:=by
  rw [List.getD_eq_getElem?_getD,List.getElem?_map,List.getElem?_range hj];rfl
 rw [e,← h j hj]
 simp [World.cell?,hh,h1]
theorem gb_trans_new {a b c:World} {row:Option Nat} {k:Nat} (h:a.grownBy b row) (g:b.grownBy c (some k)) (hk:a.heap.size≤k):a.grownBy c row :=
 ⟨g.os.trans h.os,g.tape.trans h.tape,g.output.trans h.output,Nat.le_trans h.size g.size,fun i hi hne=>(g.block i (Nat.lt_of_lt_of_le hi h.size) (by intro e;cases e;omega)).trans (h.block i hi hne)⟩
def Clo (w:World) (kf:Nat) (cap:Array Value) (n N:Nat) (s:List Nat) (val:Nat→List UInt8) (row:Option Nat) (Ok:World→Prop):Prop :=
 ∀ i g W,i<N→Ok W→W.heap[g]?=some (.cells (ixC (ixOf s i)) 3 (0,0))→w.heap.size≤g→Calls Tryz.prog kf (#[.slice (some ⟨g,0,none⟩) n n]++cap) W fun e W'=>e=.returned (.string ⟨List.toArray (val i)⟩)∧W.grownBy W' row∧KeepsOthers W W'∧Ok W'
theorem cell_is_cells {W:World} {b k:Nat} {v:Value} {o:Obj} (h:W.cell? ⟨b,k,none⟩=some v) (ho:W.heap[b]?=some o):o.isCells=true:=by
 unfold World.cell? at h
 simp only [ho] at h
 cases o<;>first|rfl|(simp at h)
theorem RdN.keep {W W':World} {p:Option Addr} {s:List Nat} (h:RdN W p s) (hs:W.heap.size≤W'.heap.size) (hk:∀ b off,p=some ⟨b,off,none⟩→0<s.length→W'.heap[b]?=W.heap[b]?):RdN W' p s:=by
 refine ⟨h.wf,?_⟩
 rcases h.cell with h0|⟨b,off,h1,h2,h3⟩
 ·exact .inl h0
 ·by_cases hs0:0<s.length
  ·exact .inr ⟨b,off,h1,Nat.lt_of_lt_of_le h2 hs,fun j hj=>(World.cell?_of_block (a:=⟨b,off+j,none⟩) (hk b off h1 hs0)).trans (h3 j hj)⟩
  ·exact .inl (by rw [List.length_map];omega)
theorem IxAt.put {s:List Nat} {p:Option Addr} {n c Bb B:Nat} {x:Nat × Nat} {A:World} {l:Nat} {o o':Obj} (ho:A.heap[l]?=some o) (hc:o.isCells=false) (h:IxAt s p n c Bb B x A):IxAt s p n c Bb B x (A.putObj l o'):=by
 have hk:∀ {k:Nat} {cs:Array Value} {t:TypeId},A.heap[k]?=some (.cells cs t (0,0))→(A.putObj l o').heap[k]?=some (.cells cs t (0,0)):=fun {k cs t} hk=>by
  rw [World.putObj_heap_other (by intro e;subst e;rw [ho] at hk;cases hk;simp [Obj.isCells] at hc)];exact hk
 refine ⟨hk h.row,hk h.box,h.shape.keep (by simp [World.putObj]) (fun b off e h0=>World.putObj_heap_other ?_),h.new,h.lt⟩
 intro e2
 subst e2
 obtain ⟨b',off',x',e',-,hcell,-⟩:=h.shape.at h0
 rw [e] at e';cases e'
 rw [cell_is_cells hcell ho] at hc
 cases hc
section
variable {w A A' : World} {N : Nat} {fv : Value} {val : Nat → List UInt8} {row : Option Nat} {Ok : World → Prop} {pre : List (Nat × Nat)}
theorem BI.above (h:BI w N fv val row Ok pre A) (hOk:∀ A B r,Ok A→A.grownBy B r→(∀ k,r=some k→w.heap.size≤k)→Ok B) {r:Option Nat} (hg:A.grownBy A' r) (hr:∀ k,r=some k→w.heap.size+5≤k):BI w N fv val row Ok pre A':=by
 have hk:∀ {k:Nat} {o:Obj},k<w.heap.size+5→A.heap[k]?=some o→A'.heap[k]?=some o:=fun {k o} h1 h2 =>
  (hg.block k (Array.getElem?_eq_some_iff.1 h2).1 (by intro e;have:=hr k e.symm;omega)).trans h2
 obtain ⟨l,h1,h2,h3⟩:=h.vals
 refine ⟨⟨hg.os.trans h.old.os,hg.tape.trans h.old.tape,hg.output.trans h.old.output,Nat.le_trans h.old.size hg.size,fun i hi hne=>?_⟩,hk (by omega) h.bv,hk (by omega) h.br,⟨l,h1,hk (by omega) h2,h3⟩,hk (by omega) h.bx,hOk A A' r h.ok hg (fun k e=>by have:=hr k e;omega)⟩
 exact (hg.block i (Nat.lt_of_lt_of_le hi h.old.size) (by intro e;have:=hr i e.symm;omega)).trans (h.old.block i hi hne)
end
theorem build_any (p:Option Addr) (c n N kf:Nat) (cap:Array Value) (s:List Nat) (val:Nat→List UInt8) (row:Option Nat) (Ok:World→Prop) (w:World)
  (hn:n≤4) (hs:Hid (s.length=n)) (hsb:Hid (∀ x ∈ s,x≤1024)) (HN:Hid (N=prod s)) (h4:N≤4096) (hp:RdN w p s)
  (hrow:∀ r,row=some r→r<w.heap.size) (hprow:∀ b off,p=some ⟨b,off,none⟩→0<n→row≠some b)
  (hent:∀ args W,(callFunc kf args).run Tryz.prog W=.ok (.enter kf args) W)
  (hOk0:Ok w) (hOk:∀ A B r,Ok A→A.grownBy B r→(∀ k,r=some k→w.heap.size≤k)→Ok B) (hval:Clo w kf cap n N s val row Ok) :
  Calls Tryz.prog 53 #[.slice p n c,.func (.func kf) #[] cap] w (BuildPost w n N s val row Ok):=by
 have HP:=Lib.hid hp
 have HV:=Lib.hid hval
 have HOK:=Lib.hid hOk
 have HROW:=Lib.hid hrow
 have HPROW:=Lib.hid hprow
 have iN:(N:Int)≤4096:=by omega
 have hni:(n:Int)≤4:=by omega
 have hmk:=fun W=>make_strs N (by omega) W
 have HPR:Hid (∀ W,RdN W p s→Calls Tryz.prog 80 #[.slice p n c] W fun e w'=>W=w'∧e=.returned (.int .i64 ((N:Nat):Int))):=Lib.hid (fun W h=>by
  have:=product_any p c s W (by rw [hs.out];exact hn) hsb.out h
  rwa [hs.out,← HN.out] at this)
 obtain ⟨W0,HW0⟩:∃ W0,Hid ((w.alloc (.cells #[.func (.func kf) #[] cap] 89)).alloc (.cells #[.slice none 0 0,.slice none 0 0] 31)=W0):=⟨_,Lib.hid rfl⟩
 have HB0:Hid (Below w.heap.size w W0):=Lib.hid (by rw [← HW0.out];exact ((Below.refl _ w).alloc (Nat.le_refl _) _).alloc (by simp) _)
 clear hp hval hOk hrow hprow
 refine (callsIn_wide (n:=9)).1 ?_
 refine callsIn_of_wp_marks Tryz.func53 rfl trivial ?_ rfl
 simp only [Tryz.ntmps53,List.size_toArray,List.length_cons,List.length_nil,Nat.reduceAdd,Nat.reduceSub,Array.replicate_succ,Array.replicate_zero,List.push_toArray,List.append_toArray,List.nil_append,List.cons_append]
 gi_wp2_with (first|(refine ⟨trivial,?_⟩;gi_at_call 80;refine (callsIn_wide.2 (HPR.out _ (by rw [HW0.out];exact HP.out.below HB0.out))).mono ?_;rintro e w' ⟨rfl,rfl⟩)|(refine ⟨trivial,?_⟩;gi_at_call 90;refine (indexes_in _ _ _ _ _).mono ?_;rintro e w' ⟨rfl,rfl⟩))
 obtain ⟨W3,hW3⟩:∃ W3,(((((w.alloc (.cells #[.func (.func kf) #[] cap] 89)).alloc (.cells #[.slice none 0 0,.slice none 0 0] 31)).alloc (.cells (strC (List.replicate N [])) 9)).alloc (.cells #[.slice (some ⟨w.heap.size+1+1,0,none⟩) N N] 22)).alloc (.cells #[.slice p n c] 29))=W3:=⟨_,rfl⟩
 have HBW3:Hid (Below w.heap.size w W3):=Lib.hid (by rw [← hW3];exact (((((Below.refl _ w).alloc (Nat.le_refl _) _).alloc (by simp) _).alloc (by simp;omega) _).alloc (by simp;omega) _).alloc (by simp;omega) _)
 have hsz3:W3.heap.size=w.heap.size+5:=by rw [← hW3];simp
 have HBI3:Hid (BI w N (.func (.func kf) #[] cap) val row Ok [] W3):=Lib.hid (by
  refine ⟨gb_of_below HBW3.out row,?_,?_,⟨List.replicate N [],by simp,?_,by intro y hy;cases hy⟩,?_,HOK.out w W3 none hOk0 (gb_of_below HBW3.out none) (fun k e=>by cases e)⟩
  all_goals (rw [← hW3];simp only [World.alloc,Array.getElem?_push,Array.size_push])
  all_goals (repeat' (first|rw [if_pos (by omega)] | rw [if_neg (by omega)] | rfl)))
 have hbox3:W3.heap[w.heap.size+1+1+1+1]?=some (.cells #[.slice p n c] 29 (0,0)):=by
  rw [← hW3];simp only [World.alloc,Array.getElem?_push,Array.size_push]
  repeat' (first|rw [if_pos (by omega)] | rw [if_neg (by omega)] | rfl)
 rw [hW3]
 refine wpIn_rangeFunc_cells rfl (by omega) (gf:=123) (lb:=#[.pointer (some ⟨w.heap.size+1+1+1+1,0,none⟩)]) rfl trivial (enters_of Tryz.func123 (by kernel_rfl) rfl)
  (indexes_seq _ (by omega) (w.heap.size+1+1+1+1) (w.heap.size+5) n c p s hn hs hsb (by rw [← HN.out];exact h4) W3 (by omega) hbox3 (HP.out.below HBW3.out))
  (fun x A l o o' ho hc hat=>hat.put ho hc) (Below.refl _ _) (fun _=>rfl)
  (fun pre W=>BI w N (.func (.func kf) #[] cap) val row Ok pre W)
  (fun pre A B r h hg hr=>h.above HOK.out hg (fun k e=>by have:=hr k e;omega))
  HBI3.out ?a1 ?assign ?body ?done
 case assign =>
  intro lo x W K hK
  gi_wp2
  exact hK
 case body =>
  rintro lo pre ⟨i,g⟩ W hBI hAt -
  have hiN:i<N:=by rw [HN.out];exact hAt.lt
  have iiN:(i:Int)<(N:Int):=by omega
  have hgn:=hAt.new
  obtain ⟨l,hl1,hl2,hl3⟩:=hBI.vals
  obtain ⟨x,HX⟩:∃ x,Hid (x=l.getD i []):=⟨_,rfl⟩
  have HBI:=Lib.hid hBI
  have HAT:=Lib.hid hAt
  have HL:=Lib.hid (And.intro hl1 (And.intro hl2 hl3))
  have bxd:W.drew.cell? ⟨w.heap.size+1+1+1,0,none⟩=some (.slice (some ⟨w.heap.size+1+1,0,none⟩) N N):=by
   show W.cell? ⟨w.heap.size+1+1+1,0,none⟩=_
   simp [World.cell?,hBI.bx]
  have bvd:W.drew.cell? ⟨w.heap.size,0,none⟩=some (.func (.func kf) #[] cap):=by
   show W.cell? ⟨w.heap.size,0,none⟩=_
   simp [World.cell?,hBI.bv]
  have HCL:Hid (Calls Tryz.prog kf (#[.slice (some ⟨g,0,none⟩) n n]++cap) W.drew fun e W'=>e=.returned (.string ⟨List.toArray (val i)⟩)∧W.drew.grownBy W' row∧KeepsOthers W.drew W'∧Ok W'):=Lib.hid
   (HV.out i g W.drew hiN (HOK.out W W.drew none hBI.ok ⟨rfl,rfl,rfl,Nat.le_refl _,fun _ _ _=>rfl⟩ (fun k e=>by cases e)) hAt.row (by omega))
  clear hl1 hl2 hl3 hBI hAt
  gi_wp2
  refine region_round (S:=fun W'=>W'.cell? ⟨w.heap.size+1+1+1,0,none⟩=some (.slice (some ⟨w.heap.size+1+1,0,none⟩) N N)∧W'.cell? ⟨w.heap.size,0,none⟩=some (.func (.func kf) #[] cap)) (by kernel_rfl) (by kernel_rfl) (fun ⟨_,_,h⟩=>h) ⟨bxd,bvd⟩ (fun hHeld=>?_)
  refine wpAnyH_take (i:=0) (v:=?v1) rfl (by kernel_rfl) (by kernel_rfl) (by kernel_rfl) (fun _ _ _ h=>h) (Or.inl ⟨by rfl,?hy1⟩) (by assumption) ?rest1
  case hy1 =>
   intro W' hSw
   obtain ⟨e0,e1⟩:=hSw
   go_simp
   with_reducible rfl
  simp only [List.getElem_toArray,List.getElem_cons_zero,Act.put,List.setIfInBounds_toArray,List.set_cons_zero,List.set_cons_succ]
  refine wpAnyH_take (i:=1) (v:=?v2) rfl (by kernel_rfl) (by kernel_rfl) (by kernel_rfl) (fun _ _ _ h=>h) (Or.inl ⟨by rfl,?hy2⟩) (by assumption) ?rest2
  case hy2 =>
   intro W' hSw
   obtain ⟨e0,e1⟩:=hSw
   go_simp
   with_reducible rfl
  simp only [List.getElem_toArray,List.getElem_cons_zero,List.getElem_cons_succ,Act.put,List.setIfInBounds_toArray,List.set_cons_zero,List.set_cons_succ]
  refine wpAnyH_take (i:=2) (v:=?v3) rfl (by kernel_rfl) (by kernel_rfl) (by kernel_rfl) (fun _ _ _ h=>h) (Or.inl ⟨by rfl,?hy3⟩) (by assumption) ?rest3
  case hy3 =>
   intro W' hSw
   obtain ⟨e0,e1⟩:=hSw
   go_simp
   with_reducible rfl
  simp only [List.getElem_toArray,List.getElem_cons_zero,List.getElem_cons_succ,Act.put,List.setIfInBounds_toArray,List.set_cons_zero,List.set_cons_succ]
  refine wpAnyH_take (i:=3) (v:=?v4) rfl (by kernel_rfl) (by kernel_rfl) (by kernel_rfl) (fun _ _ _ h=>h) (Or.inl ⟨by rfl,?hy4⟩) (by assumption) ?rest4
  case hy4 =>
   intro W' hSw
   obtain ⟨e0,e1⟩:=hSw
   go_simp
   with_reducible rfl
  simp only [List.getElem_toArray,List.getElem_cons_zero,List.getElem_cons_succ,Act.put,List.setIfInBounds_toArray,List.set_cons_zero,List.set_cons_succ]
  refine wpAnyH_ready (rs:=[4]) (by kernel_rfl) (by simp) ?_
  refine AllReadyH.cons (i:=4) rfl (fun K hK=>?_) AllReadyH.nil
  go_simp
  refine (HCL.out).mono ?_
  rintro e W4 ⟨rfl,hg4,hk4,hok4⟩
  have hrne:∀ k,w.heap.size≤k→row≠some k:=fun k hk e=>by have:=HROW.out k e;omega
  have blk4:∀ {k:Nat} {o:Obj},w.heap.size≤k→W.heap[k]?=some o→W4.heap[k]?=some o:=fun {k o} h1 h2=>(hg4.block k (Array.getElem?_eq_some_iff.1 h2).1 (fun e=>hrne k h1 e.symm)).trans h2
  have bx4:W4.heap[w.heap.size+1+1+1]?=some (.cells #[.slice (some ⟨w.heap.size+1+1,0,none⟩) N N] 22 (0,0)):=blk4 (by omega) HBI.out.bx
  have bv4:W4.heap[w.heap.size]?=some (.cells #[.func (.func kf) #[] cap] 89 (0,0)):=blk4 (by omega) HBI.out.bv
  have br4:W4.heap[w.heap.size+1]?=some (.cells #[.slice none 0 0,.slice none 0 0] 31 (0,0)):=blk4 (by omega) HBI.out.br
  have vb4:W4.heap[w.heap.size+1+1]?=some (.cells (strC l) 9 (0,0)):=blk4 (by omega) HL.out.2.1
  have HS4:Hid (W4.cell? ⟨w.heap.size+1+1+1,0,none⟩=some (.slice (some ⟨w.heap.size+1+1,0,none⟩) N N)∧W4.cell? ⟨w.heap.size,0,none⟩=some (.func (.func kf) #[] cap)):=Lib.hid ⟨by simp [World.cell?,bx4],by simp [World.cell?,bv4]⟩
  have hcv:W4.cell? ⟨w.heap.size+1+1,i,none⟩=some (.string ⟨List.toArray (l.getD i [])⟩):=by
   have:=strC_at (l:=l) (k:=i) (by rw [HL.out.1];exact hiN)
   simp [World.cell?,vb4,this]
  have hcf:W4.frozen? ⟨w.heap.size+1+1,i,none⟩=false:=by simp [World.frozen?,vb4]
  obtain ⟨W5,hW5⟩:∃ W5,W4.setCell ⟨w.heap.size+1+1,i,none⟩ (.string ⟨List.toArray (val i)⟩)=W5:=⟨_,rfl⟩
  have hg5:W4.grownBy W5 (some (w.heap.size+1+1)):=by rw [← hW5];exact gb_set _ _ _ _
  have blk5:∀ {k:Nat} {o:Obj},k≠w.heap.size+1+1→W4.heap[k]?=some o→W5.heap[k]?=some o:=fun {k o} h1 h2=>(hg5.block k (Array.getElem?_eq_some_iff.1 h2).1 (by intro e;injection e with e;exact h1 e)).trans h2
  have vb5:W5.heap[w.heap.size+1+1]?=some (.cells (strC (l.set i (val i))) 9 (0,0)):=by
   rw [← hW5,← strC_set];exact heap_set W4 _ i _ _ _ vb4
  have HS5:Hid (W5.cell? ⟨w.heap.size+1+1+1,0,none⟩=some (.slice (some ⟨w.heap.size+1+1,0,none⟩) N N)∧W5.cell? ⟨w.heap.size,0,none⟩=some (.func (.func kf) #[] cap)):=Lib.hid ⟨by simp [World.cell?,blk5 (by omega) bx4],by simp [World.cell?,blk5 (by omega) bv4]⟩
  have HFIN:Hid (KeepsOthers W W5∧IxAt s p n c (w.heap.size+1+1+1+1) (w.heap.size+5) (i,g) W5∧BI w N (.func (.func kf) #[] cap) val row Ok (pre++[(i,g)]) W5):=Lib.hid (by
   refine ⟨(KeepsOthers.drew W).trans (hk4.trans (by rw [← hW5];exact KeepsOthers.setCell _ _ _)),⟨blk5 (by omega) (blk4 (by omega) HAT.out.row),blk5 (by omega) (blk4 (by omega) HAT.out.box),HAT.out.shape.keep (Nat.le_trans hg4.size hg5.size) (fun b off e h0=>?_),HAT.out.new,HAT.out.lt⟩,?_⟩
   ·have hbw:b<w.heap.size:=by
     rcases HP.out.cell with h|⟨b',off',e',h1,-⟩
     ·rw [List.length_map] at h;omega
     ·rw [e] at e';cases e';exact h1
    have hbW:b<W.heap.size:=Nat.lt_of_lt_of_le hbw HBI.out.old.size
    rw [hg5.block b (Nat.lt_of_lt_of_le hbW hg4.size) (by intro e2;injection e2 with e2;omega)]
    exact hg4.block b hbW (fun e2=>HPROW.out b off e (by rw [← hs.out];exact h0) e2.symm)
   ·have h45:w.grownBy W4 row:=(HBI.out.old.trans (⟨rfl,rfl,rfl,Nat.le_refl _,fun _ _ _=>rfl⟩:W.grownBy W.drew row)).trans hg4
    refine ⟨gb_trans_new h45 hg5 (by omega),blk5 (by omega) bv4,blk5 (by omega) br4,⟨l.set i (val i),by rw [List.length_set];exact HL.out.1,vb5,fun y hy hyN=>?_⟩,blk5 (by omega) bx4,HOK.out W4 W5 _ hok4 hg5 (fun k e=>by cases e;omega)⟩
    rcases List.mem_append.1 hy with hy|hy
    ·by_cases e:y.1=i
     ·rw [e,List.getD_eq_getElem?_getD,List.getElem?_set_self (by rw [HL.out.1];exact hiN)];rfl
     ·rw [List.getD_eq_getElem?_getD,List.getElem?_set_ne (fun h=>e h.symm),← List.getD_eq_getElem?_getD]
      exact HL.out.2.2 y hy hyN
    ·obtain rfl:=List.mem_singleton.1 hy
     rw [List.getD_eq_getElem?_getD,List.getElem?_set_self (by rw [HL.out.1];exact hiN)];rfl)
  clear hg4 hk4 hok4 hrne bx4 bv4 br4 vb4 hg5 vb5 blk4 blk5
  refine hK.out _ _ HS4.out (fun hHeld2=>?_)
  clear hK K hHeld
  refine wpAnyH_take (i:=5) (v:=?v5) rfl (by kernel_rfl) (by kernel_rfl) (by kernel_rfl) (fun _ _ _ h=>h) (Or.inl ⟨by rfl,?hy5⟩) (by assumption) ?rest5
  case hy5 =>
   intro W' hSw
   obtain ⟨e0,e1⟩:=hSw
   go_simp
   with_reducible rfl
  simp only [List.getElem_toArray,List.getElem_cons_zero,List.getElem_cons_succ,Act.put,List.setIfInBounds_toArray,List.set_cons_zero,List.set_cons_succ]
  refine wpAnyH_ready (rs:=[6]) (by kernel_rfl) (by simp) ?_
  refine AllReadyH.cons (i:=6) rfl (fun K hK=>?_) AllReadyH.nil
  go_simp
  try rw [hW5]
  refine hK.out _ _ HS5.out (fun hHeld3=>?_)
  clear hK K
  refine wpAnyH_done (by kernel_rfl) ?_ _
  gi_wp2
  exact HFIN.out
 case done =>
  rintro D9 xs W hD hS hBI hK
  obtain ⟨l,hl1,hl2,hl3⟩:=hBI.vals
  have HBI:=Lib.hid hBI
  have hW0:w.heap.size+5≤W.heap.size:=by
   have:=(Array.getElem?_eq_some_iff.1 hK).1;omega
  have hall:∀ i,i<N→l.getD i []=val i:=fun i hi=>by
   have hm:i ∈ xs.map (·.1):=by rw [hS,List.mem_range,← HN.out];exact hi
   obtain ⟨y,hy,rfl⟩:=List.mem_map.1 hm
   exact hl3 y hy hi
  have HL:=Lib.hid (And.intro hl1 (And.intro hl2 hall))
  have hpW:RdN W p s:=HP.out.keep hBI.old.size (fun b off e h0=>by
   have hbw:b<w.heap.size:=by
    rcases HP.out.cell with h|⟨b',off',e',h1,-⟩
    ·rw [List.length_map] at h;omega
    ·rw [e] at e';cases e';exact h1
   exact hBI.old.block b hbw (fun e2=>HPROW.out b off e (by rw [← hs.out];exact h0) e2.symm))
  have HCL:Hid (Calls Tryz.prog 78 #[.slice p n c] W.drew (ClonePost n s W.drew)):=Lib.hid (clone_any p n c s W.drew hs hn hsb (hpW.below ⟨rfl,rfl,rfl,Nat.le_refl _,fun _ _=>rfl⟩))
  have bxd:W.drew.cell? ⟨w.heap.size+1+1+1,0,none⟩=some (.slice (some ⟨w.heap.size+1+1,0,none⟩) N N):=by
   show W.cell? ⟨w.heap.size+1+1+1,0,none⟩=_
   simp [World.cell?,hBI.bx]
  have HK:=Lib.hid hK
  clear hl1 hl2 hl3 hBI hall hpW hK
  gi_wp2
  refine wpIn_wide.2 ?_
  refine wp_region_noPanic ?_
  refine wp_region_held_drew (S:=fun W'=>W'.cell? ⟨w.heap.size+1+1+1,0,none⟩=some (.slice (some ⟨w.heap.size+1+1,0,none⟩) N N)) (by kernel_rfl) bxd (fun hHeld=>?_)
  refine wpAnyH_take (i:=0) (v:=?v6) rfl (by kernel_rfl) (by kernel_rfl) (by kernel_rfl) (fun _ _ _ h=>h) (Or.inl ⟨by rfl,?hy6⟩) (by assumption) ?rest6
  case hy6 =>
   intro W' hSw
   obtain e0:=hSw
   go_simp
   with_reducible rfl
  simp only [List.getElem_toArray,List.getElem_cons_zero,Act.put,List.setIfInBounds_toArray,List.set_cons_zero,List.set_cons_succ]
  refine wpAnyH_take (i:=2) (v:=?v7) rfl (by kernel_rfl) (by kernel_rfl) (by kernel_rfl) (fun _ _ _ h=>h) (Or.inl ⟨by rfl,?hy7⟩) (by assumption) ?rest7
  case hy7 =>
   intro W' hSw
   obtain e0:=hSw
   go_simp
   with_reducible rfl
  simp only [List.getElem_toArray,List.getElem_cons_zero,List.getElem_cons_succ,Act.put,List.setIfInBounds_toArray,List.set_cons_zero,List.set_cons_succ]
  refine wpAnyH_ready (rs:=[1]) (by kernel_rfl) (by simp) ?_
  refine AllReadyH.cons (i:=1) rfl (fun K hK=>?_) AllReadyH.nil
  go_simp
  refine (HCL.out).mono ?_
  rintro e W2 ⟨hb2,q,d,rfl,hq1,hq2,hq3,hq4⟩
  have hWs:W.drew.heap.size=W.heap.size:=rfl
  have hW2s:W.heap.size≤W2.heap.size:=hb2.size
  have blk2:∀ {k:Nat} {o:Obj},W.heap[k]?=some o→W2.heap[k]?=some o:=fun {k o} h2=>(hb2.block k (Array.getElem?_eq_some_iff.1 h2).1).trans h2
  have bx2:W2.cell? ⟨w.heap.size+1+1+1,0,none⟩=some (.slice (some ⟨w.heap.size+1+1,0,none⟩) N N):=by
   have:=blk2 HBI.out.bx
   simp [World.cell?,this]
  have br2:=blk2 HBI.out.br
  have r0:W2.cell? ⟨w.heap.size+1,0,none⟩=some (.slice none 0 0):=by simp [World.cell?,br2]
  have r1:W2.cell? ⟨w.heap.size+1,1,none⟩=some (.slice none 0 0):=by simp [World.cell?,br2]
  have z0:W2.frozen? ⟨w.heap.size+1,0,none⟩=false:=by simp [World.frozen?,br2]
  have z1:W2.frozen? ⟨w.heap.size+1,1,none⟩=false:=by simp [World.frozen?,br2]
  have hE1:=heap_set W2 (w.heap.size+1) 0 (.slice q n d) _ _ br2
  have hE2:=heap_set _ (w.heap.size+1) 1 (.slice (some ⟨w.heap.size+1+1,0,none⟩) N N) _ _ hE1
  obtain ⟨W5,hW5⟩:∃ W5,(W2.setCell ⟨w.heap.size+1,0,none⟩ (.slice q n d)).setCell ⟨w.heap.size+1,1,none⟩ (.slice (some ⟨w.heap.size+1+1,0,none⟩) N N)=W5:=⟨_,rfl⟩
  rw [hW5] at hE2
  have hg25:W2.grownBy W5 (some (w.heap.size+1)):=by rw [← hW5];exact (gb_set _ _ _ _).trans (gb_set _ _ _ _)
  have blk5:∀ {k:Nat} {o:Obj},k≠w.heap.size+1→W2.heap[k]?=some o→W5.heap[k]?=some o:=fun {k o} h1 h2=>(hg25.block k (Array.getElem?_eq_some_iff.1 h2).1 (by intro e;injection e with e;exact h1 e)).trans h2
  have hD1:D9≠w.heap.size+1:=by omega
  have HK5:Hid (W5.heap[D9]?=some (.deferred (some []))):=Lib.hid (blk5 hD1 (blk2 HK.out))
  have bx5:W5.cell? ⟨w.heap.size+1+1+1,0,none⟩=some (.slice (some ⟨w.heap.size+1+1,0,none⟩) N N):=by
   have:=blk5 (by omega) (blk2 HBI.out.bx)
   simp [World.cell?,this]
  have hput:∀ {k:Nat},k≠D9→(W5.putObj D9 (.deferred none)).heap[k]?=W5.heap[k]?:=fun {k} h=>World.putObj_heap_other h
  have k0:(W5.putObj D9 (.deferred none)).cell? ⟨w.heap.size+1,0,none⟩=some (.slice q n d):=by
   have:=(hput (k:=w.heap.size+1) (by omega)).trans hE2
   simp [World.cell?,this]
  have k1:(W5.putObj D9 (.deferred none)).cell? ⟨w.heap.size+1,1,none⟩=some (.slice (some ⟨w.heap.size+1+1,0,none⟩) N N):=by
   have:=(hput (k:=w.heap.size+1) (by omega)).trans hE2
   simp [World.cell?,this]
  have hgD:W5.grownBy (W5.putObj D9 (.deferred none)) (some D9):=grownBy_putObj' W5 D9 (.deferred none)
  have HFIN:Hid (BuildPost w n N s val row Ok (.returned (.agg #[.slice q n d,.slice (some ⟨w.heap.size+1+1,0,none⟩) N N])) (W5.putObj D9 (.deferred none))):=Lib.hid (by
   have h02:w.grownBy W2 row:=(HBI.out.old.trans (⟨rfl,rfl,rfl,Nat.le_refl _,fun _ _ _=>rfl⟩:W.grownBy W.drew row)).trans (gb_of_below hb2 row)
   have o1:=HOK.out W W.drew none HBI.out.ok ⟨rfl,rfl,rfl,Nat.le_refl _,fun _ _ _=>rfl⟩ (fun k e=>by cases e)
   have o2:=HOK.out W.drew W2 none o1 (gb_of_below hb2 none) (fun k e=>by cases e)
   have o3:=HOK.out W2 W5 _ o2 hg25 (fun k e=>by cases e;omega)
   have o4:=HOK.out W5 _ _ o3 hgD (fun k e=>by cases e;omega)
   refine ⟨gb_trans_new (gb_trans_new h02 hg25 (by omega)) hgD (by omega),o4,q,d,_,rfl,?_,hq2,hq3,fun b off e=>Nat.le_trans (by omega) (hq4 b off e),?_,by omega⟩
   ·refine hq1.keep (Nat.le_trans hg25.size hgD.size) (fun b off e h0=>?_)
    have hb:=hq4 b off e
    have hbl:b<W2.heap.size:=by
     rcases hq1.cell with h|⟨b',off',e',h1,-⟩
     ·rw [List.length_map] at h;omega
     ·rw [e] at e';cases e';exact h1
    have hDW:=(Array.getElem?_eq_some_iff.1 HK.out).1
    rw [hput (by omega),hg25.block b hbl (by intro e2;injection e2 with e2;omega)]
   ·exact rds_of HL.out.1 ((hput (by omega)).trans (blk5 (by omega) (blk2 HL.out.2.1))) HL.out.2.2)
  clear hb2 hq1 hq4 blk2 br2 hE1 hE2 hg25 blk5 hput hgD
  refine hK.out _ _ bx2 (fun hHeld2=>?_)
  clear hK K hHeld
  refine wpAnyH_take (i:=3) (v:=?v8) rfl (by kernel_rfl) (by kernel_rfl) (by kernel_rfl) (fun _ _ _ h=>h) (Or.inl ⟨by rfl,?hy8⟩) (by assumption) ?rest8
  case hy8 =>
   intro W' hSw
   obtain e0:=hSw
   go_simp
   with_reducible rfl
  simp only [List.getElem_toArray,List.getElem_cons_zero,List.getElem_cons_succ,Act.put,List.setIfInBounds_toArray,List.set_cons_zero,List.set_cons_succ]
  refine wpAnyH_ready (rs:=[4]) (by kernel_rfl) (by simp) ?_
  refine AllReadyH.cons (i:=4) rfl (fun K hK=>?_) AllReadyH.nil
  go_simp
  try rw [hW5]
  refine hK.out _ _ bx5 (fun hHeld3=>?_)
  clear hK K
  refine wpAnyH_done (by kernel_rfl) ?_ _
  refine NoPanic.normal ?_
  clear hHeld2 hHeld3 bx2 r0 r1 z0 z1 bx5
  gi_wp2
  refine ⟨by simp,.inl ⟨_,_,rfl,run_takeDeferred HK5.out,?_⟩⟩
  refine ⟨.agg #[.slice q n d,.slice (some ⟨w.heap.size+1+1,0,none⟩) N N],?_,HFIN.out⟩
  simp [results,Tryz.f53,go_sem,k0,k1]
end Go.Proofs.YtlcpcpmlfegejaaGreatDoor.Arr
