/- A range over a function whose iterator writes into memory of its own between the rounds. -/
import Derived.RangeFuncFrom
import Derived.RangeFuncCalls
import Derived.Test.YtlcpcpmlfegejaaGreatDoorGE
import Derived.TacticsInMore
import Derived.LoopNIn
import Derived.LoopIn
import Derived.OwnWalkIn
namespace Go.Proofs.YtlcpcpmlfegejaaGreatDoor.Arr
open Go.RowKit
variable {F : Fence} {n : Nat} {P : Program}
def SeqC {α:Type} (F:Fence) (n:Nat) (P:Program) (g:Nat) (lb:Array Value) (encs:α→Array Value) (At:α→World→Prop) (Pr:List α→α→Prop) (S:List α→Prop) (w:World):Prop :=
 ∀ (l:Nat) (J:List α→World→Prop) (W:World),Below w.heap.size w W→w.heap.size+2≤W.heap.size →
  (∀ s A B row,J s A→A.grownBy B row→(∀ r,row=some r→r=W.heap.size)→J s B) →
  (∀ pre x W1,J pre W1→At x W1→Pr pre x→YieldAt F (n-1) P l (encs x) W1 fun e W'=>e=.returned (.bool true)∧J (pre++[x]) W'∧At x W') →
  J [] W →
  CallsIn F n P g (#[.func (.yield l) #[] #[]]++lb) W fun e W'=>(∃ v,e=.returned v)∧∃ xs,S xs∧J xs W'
def postC {α:Type} (At:α→World→Prop) (I:List α→World→Prop) (x:α) (xs:List α) (W:World):Exit→Act→World→Prop
 | .normal,_,W'=>KeepsOthers W W'∧At x W'∧I xs W'
 | _,_,_=>False
theorem wpIn_rangeFunc_cells {α:Type} {g:Operand} {ps:Array Tmp} {assign body:Code} {Q:Exit→Act→World→Prop} {a:Act} {w:World}
  (hro:F.round=none) (h1:1≤n) {gf:Nat} {lb:Array Value} (hg:a.eval g=.func (.func gf) #[] lb) (hFg:F.fn gf) (eg:∀ args w,(callFunc gf args).run P w=.ok (.enter gf args) w)
  {encs:α→Array Value} {At:α→World→Prop} {Pr:List α→α→Prop} {S:List α→Prop} {w0:World} (hseq:SeqC F (n-1) P gf lb encs At Pr S w0)
  (hAt:∀ x (A:World) (l:Nat) (o o':Obj),A.heap[l]?=some o→o.isCells=false→At x A→At x (A.putObj l o')) (hb0:Below w0.heap.size w0 w) (hps:∀ x,(encs x).size=ps.size)
  (I:List α→World→Prop) (hI:∀ s A B row,I s A→A.grownBy B row→(∀ r,row=some r→w.heap.size≤r∧r≤w.heap.size+2)→I s B) (h0:I [] w) (a₁:α→Act)
  (hassign:∀ (l:Nat) (x:α) (W:World) (K:Act→World→Prop),K (a₁ x) W →
   assign.wpIn (F.inRound l) (n-1-1) P (Exit.then K (fun _ _ _=>False)) { tmps:=(ps.zip (encs x)).foldl (fun t (p,v)=>t.setIfInBounds p v) a.tmps,defers:=[] } W)
  (hbody:∀ (l:Nat) (pre:List α) (x:α) (W:World),I pre W→At x W→Pr pre x→body.wpIn (F.inRound l) (n-1-1) P (postC At I x (pre++[x]) W) (a₁ x) W)
  (hdone:∀ (D:Nat) (xs:List α) (W:World),w.heap.size≤D→S xs→I xs W→W.heap[D]?=some (.deferred (some []))→Q .normal { a with defers:={ target:=.collected D,args:=#[] }::a.defers } W) :
  (Code.rangeFunc g ps assign body).wpIn F n P Q a w:=by
 refine wpIn_rangeFunc ?_
 intro fn hfn
 rw [hro]
 obtain ⟨rec,hrec⟩:∃ rec:LoopState→Option Code→Loop,rec=fun st pe=>{ state:=st,pending:=pe,fn,tmps:=a.tmps,params:=ps,assign,body,defers:=w.heap.size }:=⟨_,rfl⟩
 obtain ⟨W1,hW1⟩:∃ W1,(w.alloc (.deferred (some []))).alloc (.loop (rec .ready none))=W1:=⟨_,rfl⟩
 have hL1:W1.heap[w.heap.size+1]?=some (.loop (rec .ready none)):=by
  rw [← hW1];have:=World.alloc_heap_new (w.alloc (.deferred (some []))) (.loop (rec .ready none));rwa [World.size_alloc] at this
 have hK1:W1.heap[w.heap.size]?=some (.deferred (some [])):=by
  rw [← hW1];exact (Below.heap_alloc _ _ _ (by simp)).trans (World.alloc_heap_new w _)
 have hS1:W1.heap.size=w.heap.size+2:=by rw [← hW1];simp
 have hIput:∀ {s:List α} {W:World} {l:Nat} {o:Obj} (o':Obj),I s W→w.heap.size≤l∧l≤w.heap.size+2→I s (W.putObj l o'):=fun {s W l _} o' h hl=>hI s W _ (some l) h (grownBy_putObj' W l o') (fun r e=>by cases e;exact hl)
 have hI1:I [] W1:=by
  rw [← hW1]
  exact hI _ _ _ none (hI _ _ _ none h0 (World.grownBy_alloc _ _ none) (fun r e=>by cases e)) (World.grownBy_alloc _ _ none) (fun r e=>by cases e)
 have hb1:Below w0.heap.size w0 W1:=by
  rw [← hW1];exact hb0.trans ((((Below.refl _ w).alloc (Nat.le_refl _) _).alloc (by simp) _).mono hb0.size)
 refine ⟨w.heap.size+1,[{ target:=.collected w.heap.size,args:=#[] }],W1,{ target:=.fn (.func gf) lb,args:=#[.func (.yield (w.heap.size+1)) #[] #[]] },W1,gf,
  #[.func (.yield (w.heap.size+1)) #[] #[]]++lb,W1,?_,?_,?_,?_,fun _=>h1,?_⟩
 ·rw [← hW1,hrec];exact run_enterLoop_outer _ _ _ _ _
 ·simp only [resolve,hg]
  simp [go_sem]
 ·intro f' hf';simp [Target.leads] at hf';subst hf';exact hFg
 ·simp [invoke,go_sem,eg]
 ·refine (hseq (w.heap.size+1)
   (fun pre W=>I pre W∧W.heap[w.heap.size+1]?=some (.loop (rec .ready none))∧W.heap[w.heap.size]?=some (.deferred (some [])))
   W1 hb1 (by have:=hb0.size;omega)
   (fun s A B row hs hg' hr=>by
    have hk:∀ {k:Nat} {o:Obj},k<w.heap.size+2→A.heap[k]?=some o→B.heap[k]?=some o:=fun {k o} hk hA =>
     (hg'.block k (Array.getElem?_eq_some_iff.1 hA).1 (fun e=>by have:=hr k e.symm;omega)).trans hA
    exact ⟨hI s A B row hs.1 hg' (fun r e=>by have:=hr r e;omega),hk (by omega) hs.2.1,hk (by omega) hs.2.2⟩)
   ?_ ⟨hI1,hL1,hK1⟩).mono ?_
  ·rintro pre x W ⟨hi,hl,hk⟩ hat hpr
   have hlt:w.heap.size+1<W.heap.size:=(Array.getElem?_eq_some_iff.1 hl).1
   have hy:=run_yield (P:=P) (args:=encs x) hl (by rw [hrec];exact hps x)
   rw [hrec] at hy
   refine ⟨fn,_,assign,body,hy,roundIn_of_wpIn hfn (hassign _ x W _ ⟨_,run_beginRound hl (by rw [hrec]),?_⟩)⟩
   have hl2:(W.putObj (w.heap.size+1) (.loop { rec .ready none with state:=.busy })).heap[w.heap.size+1]?=some (.loop { rec .ready none with state:=.busy }):=World.putObj_heap_same hlt
   have hk2:(W.putObj (w.heap.size+1) (.loop { rec .ready none with state:=.busy })).heap[w.heap.size]?=some (.deferred (some [])):=(World.putObj_heap_other (by omega)).trans hk
   refine wpIn_mono (hbody _ pre x _ (hIput (o:=.loop (rec .ready none)) _ hi (by omega)) (hAt x W _ _ _ hl rfl hat) hpr) ?_
   rintro e a3 W3 hp
   cases e with
   | normal =>
    obtain ⟨hk3,hat3,hi3⟩:=hp
    have hl3:=hk3.same _ _ hl2 rfl
    have hr:=run_endRound (P:=P) none hl3
    rw [hrec] at hr hl3
    refine ⟨_,_,hr,rfl,⟨hIput (o:=.loop (rec .ready none)) _ hi3 (by omega),?_,?_⟩,hAt x W3 _ _ _ hl3 rfl hat3⟩
    ·rw [hrec];exact World.putObj_heap_same (Array.getElem?_eq_some_iff.1 hl3).1
    ·exact (World.putObj_heap_other (by omega)).trans (hk3.same _ _ hk2 rfl)
   | ret=>exact hp.elim
   | exit id=>exact hp.elim
   | goto t=>exact hp.elim
   | panic ch=>exact hp.elim
   | outgrown=>exact hp.elim
  ·rintro e W2 ⟨⟨v,rfl⟩,xs,hS,hi,hl,hk⟩
   exact ⟨none,_,by have:=run_endLoop (P:=P) hl (by rw [hrec];simp);rw [hrec] at this;exact this,hdone _ xs _ (Nat.le_refl _) hS (hIput (o:=.loop (rec .ready none)) _ hi (by omega)) ((World.putObj_heap_other (by omega)).trans hk)⟩
end Go.Proofs.YtlcpcpmlfegejaaGreatDoor.Arr
namespace Go.Proofs.YtlcpcpmlfegejaaGreatDoor.Arr
open Go.RowKit
open Go.Lib
theorem plc_add:∀ (s l:List Nat) (a:Nat),l.length=s.length→plc s l a=a*prod s+plc s l 0
 | [],l,a,h=>by
  obtain rfl:l=[]:=List.eq_nil_of_length_eq_zero h
  simp [plc,prod]
 | s::ss,[],a,h=>absurd h (by simp)
 | s::ss,i::is,a,h=>by
  have hl:is.length=ss.length:=by simpa using h
  rw [plc,plc,plc_add ss is (a*s+i) hl,plc_add ss is (0*s+i) hl,prod_cons,Nat.zero_mul,Nat.zero_add,Nat.add_mul,Nat.mul_assoc,Nat.add_assoc]
def ixOf:List Nat→Nat→List Nat
 | [],_=>[]
 | _::ss,i=>(i/prod ss)::ixOf ss (i%prod ss)
theorem IsIx.tail {s i:Nat} {ss is:List Nat} (h:IsIx (s::ss) (i::is)):i<s∧IsIx ss is :=
 ⟨h.2 0 (by simp),by have:=h.1;simpa using this,fun k hk=>by have:=h.2 (k+1) (by simp;omega);simpa using this⟩
theorem IsIx.cons {s i:Nat} {ss is:List Nat} (h1:i<s) (h2:IsIx ss is):IsIx (s::ss) (i::is) :=
 ⟨by simp [h2.1],fun k hk=>by
  cases k with
  | zero=>simpa using h1
  | succ k=>have:=h2.2 k (by simpa using hk);simpa using this⟩
theorem ixOf_plc:∀ (s l:List Nat),IsIx s l→ixOf s (plc s l 0)=l
 | [],l,h=>by
  obtain rfl:l=[]:=List.eq_nil_of_length_eq_zero h.1
  rfl
 | s::ss,[],h=>absurd h.1 (by simp)
 | s::ss,i::is,h=>by
  obtain ⟨h1,h2⟩:=h.tail
  have hlt:=(plc_lt ss is 0 h2).1
  rw [Nat.zero_add,Nat.one_mul] at hlt
  have e:plc (s::ss) (i::is) 0=i*prod ss+plc ss is 0:=by
   rw [plc,plc_add ss is (0*s+i) h2.1,Nat.zero_mul,Nat.zero_add]
  rw [e,ixOf,Nat.mul_comm i,Nat.mul_add_div (by omega),Nat.div_eq_of_lt hlt,Nat.add_zero,Nat.mul_add_mod,Nat.mod_eq_of_lt hlt,ixOf_plc ss is h2]
theorem ixOf_is:∀ (s:List Nat) (i:Nat),i<prod s→IsIx s (ixOf s i)∧plc s (ixOf s i) 0=i
 | [],i,h=>by
  have:i=0:=by simp [prod] at h;exact h
  subst this
  exact ⟨⟨rfl,fun k hk=>absurd hk (by simp)⟩,rfl⟩
 | s::ss,i,h=>by
  rw [prod_cons] at h
  have hp:0<prod ss:=by
   rcases Nat.eq_zero_or_pos (prod ss) with h0|h0
   ·rw [h0,Nat.mul_zero] at h;omega
   ·exact h0
  obtain ⟨h1,h2⟩:=ixOf_is ss (i%prod ss) (Nat.mod_lt _ hp)
  refine ⟨IsIx.cons ?_ h1,?_⟩
  ·exact Nat.div_lt_of_lt_mul (by rw [Nat.mul_comm];exact h)
  ·rw [ixOf,plc,plc_add ss _ _ h1.1,h2,Nat.zero_mul,Nat.zero_add,Nat.mul_comm]
   exact Nat.div_add_mod _ _
def zeros (l:List Nat):List Nat:=l.map (fun _=>0)
def incr:List Nat→List Nat→Option (List Nat)
 | s::ss,i::is=>match incr ss is with
  | some r=>some (i::r)
  | none=>if i+1<s then some ((i+1)::zeros ss) else none
 | _,_=>none
theorem zeros_is:∀ (s l:List Nat),IsIx s l→IsIx s (zeros s)∧plc s (zeros s) 0=0
 | [],l,_=>⟨⟨rfl,fun k hk=>absurd hk (by simp)⟩,rfl⟩
 | s::ss,[],h=>absurd h.1 (by simp)
 | s::ss,i::is,h=>by
  obtain ⟨h1,h2⟩:=h.tail
  obtain ⟨h3,h4⟩:=zeros_is ss is h2
  exact ⟨IsIx.cons (show 0<s by omega) h3,by show plc ss (zeros ss) (0*s+0)=0;rw [Nat.zero_mul];exact h4⟩
theorem incr_is:∀ (s l:List Nat),IsIx s l→(∀ r,incr s l=some r→IsIx s r∧plc s r 0=plc s l 0+1)∧(incr s l=none→plc s l 0+1=prod s)
 | [],l,h=>by
  obtain rfl:l=[]:=List.eq_nil_of_length_eq_zero h.1
  exact ⟨fun r hr=>by simp [incr] at hr,fun _=>rfl⟩
 | s::ss,[],h=>absurd h.1 (by simp)
 | s::ss,i::is,h=>by
  obtain ⟨h1,h2⟩:=h.tail
  obtain ⟨h3,h4⟩:=incr_is ss is h2
  obtain ⟨h5,h6⟩:=zeros_is ss is h2
  have e:∀ j js,js.length=ss.length→plc (s::ss) (j::js) 0=j*prod ss+plc ss js 0:=fun j js hl=>by
   rw [plc,plc_add ss js (0*s+j) hl,Nat.zero_mul,Nat.zero_add]
  cases hr:incr ss is with
  | some r =>
   obtain ⟨h7,h8⟩:=h3 r hr
   refine ⟨fun r' hr'=>?_,fun hn=>by simp [incr,hr] at hn⟩
   obtain rfl:i::r=r':=by simpa [incr,hr] using hr'
   exact ⟨IsIx.cons h1 h7,by rw [e _ _ h7.1,e _ _ h2.1,h8];omega⟩
  | none =>
   have h9:=h4 hr
   by_cases hi:i+1<s
   ·refine ⟨fun r' hr'=>?_,fun hn=>by simp [incr,hr,hi] at hn⟩
    obtain rfl:(i+1)::zeros ss=r':=by simpa [incr,hr,hi] using hr'
    exact ⟨IsIx.cons hi h5,by rw [e _ _ h5.1,e _ _ h2.1,h6,Nat.add_mul];omega⟩
   ·refine ⟨fun r' hr'=>by simp [incr,hr,hi] at hr',fun _=>?_⟩
    obtain rfl:i+1=s:=by omega
    rw [e _ _ h2.1,prod_cons,Nat.add_mul];omega
theorem incr_drop:∀ (k:Nat) (s l r:List Nat),l.length=s.length→incr (s.drop k) (l.drop k)=some r→incr s l=some (l.take k++r)
 | 0,_,_,_,_,h=>h
 | k+1,[],l,r,_,h=>by simp [incr] at h
 | k+1,s::ss,[],r,hl,_=>absurd hl (by simp)
 | k+1,s::ss,i::is,r,hl,h=>by
  have:=incr_drop k ss is r (by simpa using hl) (by simpa using h)
  simp [incr,this]
theorem incr_at {s l:List Nat} {k:Nat} (hk:k<s.length) (hl:l.length=s.length) (h:incr (s.drop (k+1)) (l.drop (k+1))=none) :
  incr (s.drop k) (l.drop k)=if l.getD k 0+1<s.getD k 0 then some ((l.getD k 0+1)::zeros (s.drop (k+1))) else none:=by
 have hk2:k<l.length:=by omega
 rw [List.drop_eq_getElem_cons hk,List.drop_eq_getElem_cons hk2,incr,h]
 simp [List.getD_eq_getElem?_getD,hk,hk2]
def ixC (l:List Nat):Array Value:=(l.map (fun x=>Value.int .i64 ((x:Nat):Int))).toArray
theorem set_mid {α:Type}:∀ (A:List α) (x v:α) (B:List α),(A++x::B).set A.length v=A++v::B
 | [],_,_,_=>rfl
 | a::A,x,v,B=>by simp [set_mid A x v B]
theorem ixC_set (A:List Nat) (x v:Nat) (B:List Nat) {k:Nat} (hk:A.length=k):(ixC (A++x::B)).setIfInBounds k (.int .i64 ((v:Nat):Int))=ixC (A++v::B):=by
 subst hk
 unfold ixC
 rw [List.setIfInBounds_toArray,List.map_append,List.map_cons,List.map_append,List.map_cons]
 have:=set_mid (A.map (fun x=>Value.int .i64 ((x:Nat):Int))) (.int .i64 ((x:Nat):Int)) (.int .i64 ((v:Nat):Int)) (B.map (fun x=>Value.int .i64 ((x:Nat):Int)))
 rw [List.length_map] at this
 rw [this]
theorem ixC_at {l:List Nat} {k:Nat} (hk:k<l.length):(ixC l)[k]?=some (.int .i64 ((l.getD k 0:Nat):Int)):=by
 simp [ixC,List.getD_eq_getElem?_getD,hk]
theorem heap_set (W:World) (g k:Nat) (v:Value) (cs:Array Value) (t:TypeId) (h:W.heap[g]?=some (.cells cs t (0,0))):(W.setCell ⟨g,k,none⟩ v).heap[g]?=some (.cells (cs.setIfInBounds k v) t (0,0)):=by
 obtain ⟨h1,h2⟩:=Array.getElem?_eq_some_iff.1 h
 unfold World.setCell
 rw [Array.getElem?_eq_getElem (by simpa using h1),Array.getElem_modify]
 simp [h2]
end Go.Proofs.YtlcpcpmlfegejaaGreatDoor.Arr
set_option maxHeartbeats 2000000
set_option maxRecDepth 100000
namespace Go.Proofs.YtlcpcpmlfegejaaGreatDoor.Arr
open Go.RowKit
open Go.Lib
theorem cell_row {W:World} {g k:Nat} {l:List Nat} (h:W.heap[g]?=some (.cells (ixC l) 3 (0,0))) (hk:k<l.length):W.cell? ⟨g,k,none⟩=some (.int .i64 ((l.getD k 0:Nat):Int)):=by
 have:=ixC_at hk
 simp [World.cell?,h,this]
theorem free_row {W:World} {g k:Nat} {l:List Nat} (h:W.heap[g]?=some (.cells (ixC l) 3 (0,0))):W.frozen? ⟨g,k,none⟩=false:=by simp [World.frozen?,h]
theorem getD_mid {A:List Nat} {x:Nat} {B:List Nat} {k:Nat} (hk:A.length=k):(A++x::B).getD k 0=x:=by
 rw [List.getD_eq_getElem?_getD,List.getElem?_append_right (by omega),hk,Nat.sub_self]
 rfl
def zn (n:Nat):List Nat:=List.replicate n 0
theorem zeros_drop (s:List Nat) {n k:Nat} (hs:s.length=n):zeros (s.drop k)=zn (n-k):=by
 unfold zeros zn
 rw [List.map_const',List.length_drop,hs]
theorem take_succ' {l:List Nat} {k:Nat} (h:k<l.length):l.take (k+1)=l.take k++[l.getD k 0]:=by
 rw [List.take_succ_eq_append_getElem h,List.getD_eq_getElem?_getD,List.getElem?_eq_getElem h];rfl
def StepPost (g:Nat) (s l:List Nat) (w:World) (e:Ending) (w':World):Prop:=(∃ v,e=.returned v)∧∃ r,r.length=s.length∧(∀ l',incr s l=some l'→r=l')∧w'.heap[g]?=some (.cells (ixC r) 3 (0,0))∧w.grownBy w' (some g)
theorem gb_set (W:World) (g k:Nat) (v:Value):W.grownBy (W.setCell ⟨g,k,none⟩ v) (some g):=⟨rfl,rfl,rfl,by simp,fun i _ hi=>Below.heap_setCell _ _ _ _ (fun e=>hi (by rw [e]))⟩
theorem gb_drew (W:World) (g:Nat) (k:Nat):W.grownBy (W.drewN k) (some g):=⟨rfl,rfl,rfl,Nat.le_refl _,fun _ _ _=>rfl⟩
theorem step_any (p:Option Addr) (c d n g:Nat) (s l:List Nat) (w:World) (hn:n≤4) (hs:Hid (s.length=n)) (hl:Hid (l.length=n)) (hsb:Hid (∀ x ∈ s,x≤1024)) (hll:Hid (IsIx s l)) (hp:RdN w p s) (hpg:∀ b off,p=some ⟨b,off,none⟩→0<n→b≠g) (hg:w.heap[g]?=some (.cells (ixC l) 3 (0,0))) :
  Calls Tryz.prog 124 #[.slice p n c,.slice (some ⟨g,0,none⟩) n d] w (StepPost g s l w):=by
 have HP:=Lib.hid hp
 have HG:=Lib.hid hg
 have HPG:=Lib.hid hpg
 have hni:(n:Int)≤4:=by omega
 clear hp hg hpg
 go_enter Tryz.func124,Tryz.ntmps124
 go_wp2_with fail
 go_loopw [4] (fun kv wr=>∃ (j:Nat) (t:Int),j≤n∧kv=.int .i64 t∧t=(j:Int)-1∧Hid (incr (s.drop j) (l.drop j)=none)∧Hid (wr.heap[g]?=some (.cells (ixC (l.take j++zn (n-j))) 3 (0,0)))∧Hid (w.grownBy wr (some g))) (fun kv _=>(intOf kv+1).toNat)
 case atStart=>exact ⟨n,_,Nat.le_refl _,rfl,rfl,Lib.hid (by rw [List.drop_of_length_le (by rw [hs.out];omega)];simp [incr]),Lib.hid (by rw [Nat.sub_self,List.take_of_length_le (by rw [hl.out];omega)];simpa [zn] using HG.out),Lib.hid ⟨rfl,rfl,rfl,Nat.le_refl _,fun _ _ _=>rfl⟩⟩
 case round =>
  obtain ⟨j,t,hj,rfl,ht,HIN,HR,HB⟩:=hrel
  cases j with
  | zero =>
   obtain rfl:t=-1:=by omega
   have hfin:Hid (StepPost g s l w (.returned (.tuple #[])) wr):=Lib.hid ⟨⟨_,rfl⟩,zn n,by rw [hs.out];simp [zn],(fun l' h=>by
    have:=HIN.out
    rw [List.drop_zero,List.drop_zero] at this
    rw [this] at h
    cases h),by simpa using HR.out,HB.out⟩
   clear ht
   go_wp2_with fail
   go_end0
   exact hfin.out
  | succ k =>
   obtain rfl:t=(k:Int):=by omega
   clear ht
   have hkn:(k:Int)<(n:Int):=by omega
   obtain ⟨b1,o1,x,rfl,hb1,hc1,HX⟩:=HP.out.at (k:=k) (by rw [hs.out];omega)
   have hne:=HPG.out b1 o1 rfl (by omega)
   obtain ⟨y,HY⟩:∃ y,Hid (y=l.getD k 0):=⟨_,rfl⟩
   have hxy:y<x:=by rw [HY.out,HX.out];exact hll.out.2 k (by rw [hs.out];omega)
   have hx1024:x≤1024:=by
    rw [HX.out,List.getD_eq_getElem?_getD,List.getElem?_eq_getElem (by rw [hs.out];omega)]
    exact hsb.out _ (List.getElem_mem _)
   have ixi:(x:Int)≤1024:=by omega
   have iyi:(y:Int)≤1024:=by omega
   obtain ⟨y1,HY1⟩:∃ y1,Hid (y1=y+1):=⟨_,rfl⟩
   have hy1:(y:Int)+1=(y1:Int):=by rw [HY1.out];omega
   have hkl:k<l.length:=by rw [hl.out];omega
   have htk:(l.take k).length=k:=by rw [List.length_take];omega
   have HR0:Hid (wr.heap[g]?=some (.cells (ixC (l.take k++y::zn (n-(k+1)))) 3 (0,0))):=Lib.hid (by
    have h:=HR.out
    rw [take_succ' hkl,← HY.out,List.append_assoc] at h
    exact h)
   have hcg:wr.cell? ⟨g,k,none⟩=some (.int .i64 (y:Int)):=by
    have h:=cell_row HR0.out (k:=k) (by simp;omega)
    rw [getD_mid htk] at h
    exact h
   have hfg:wr.frozen? ⟨g,k,none⟩=false:=free_row HR0.out
   obtain ⟨W1,HW1⟩:∃ W1,Hid (wr.setCell ⟨g,k,none⟩ (.int .i64 (y1:Int))=W1):=⟨_,Lib.hid rfl⟩
   have HR1:Hid (W1.heap[g]?=some (.cells (ixC (l.take k++y1::zn (n-(k+1)))) 3 (0,0))):=Lib.hid (by
    rw [← HW1.out,← ixC_set (l.take k) y y1 (zn (n-(k+1))) htk]
    exact heap_set wr g k _ _ _ HR0.out)
   have HB1:Hid (w.grownBy W1 (some g)):=Lib.hid (HB.out.trans (by rw [← HW1.out];exact gb_set _ _ _ _))
   have d1:W1.cell? ⟨g,k,none⟩=some (.int .i64 (y1:Int)):=by
    have h:=cell_row HR1.out (k:=k) (by simp;omega)
    rw [getD_mid htk] at h
    exact h
   have d2:W1.cell? ⟨b1,o1+k,none⟩=some (.int .i64 (x:Int)):=by
    have hh:=HB1.out.block b1 hb1 (by intro e;cases e;exact hne rfl)
    rw [World.cell?_of_block (a:=⟨b1,o1+k,none⟩) hh];exact hc1
   have HAT:=Lib.hid (incr_at (s:=s) (l:=l) (k:=k) (by rw [hs.out];omega) (by rw [hl.out,hs.out]) HIN.out)
   go_wp2_with fail
   rw [HW1.out]
   by_cases hlt:y1<x
   ·have ilt:(y1:Int)<(x:Int):=by omega
    have dlt:decide (y1<x)=true:=decide_eq_true hlt
    have hfin:Hid (∀ q,StepPost g s l w (.returned (.tuple #[])) (W1.drewN q)):=Lib.hid (fun q=>⟨⟨_,rfl⟩,l.take k++y1::zn (n-(k+1)),by rw [List.length_append,htk,List.length_cons,hs.out];simp [zn];omega,fun l' h=>by
     have e:=HAT.out
     rw [← HY.out,← HX.out,if_pos (by rw [← HY1.out];exact hlt),zeros_drop s hs.out,← HY1.out] at e
     have:=incr_drop k s l _ (by rw [hl.out,hs.out]) e
     rw [this] at h
     exact Option.some.inj h,HR1.out,HB1.out.trans (gb_drew W1 g q)⟩)
    go_quiet (fail)
    go_wp2_with fail
    go_end0
    exact hfin.out _
   ·have ilt:¬ (y1:Int)<(x:Int):=by omega
    have dlt:decide (y1<x)=false:=decide_eq_false hlt
    have hf1:W1.frozen? ⟨g,k,none⟩=false:=free_row HR1.out
    have HIN2:Hid (incr (s.drop k) (l.drop k)=none):=Lib.hid (by rw [HAT.out,if_neg (by rw [← HY.out,← HX.out,← HY1.out];exact hlt)])
    have HEND:Hid (∀ q,((W1.drewN q).setCell ⟨g,k,none⟩ (.int .i64 0)).heap[g]?=some (.cells (ixC (l.take k++zn (n-k))) 3 (0,0))∧w.grownBy ((W1.drewN q).setCell ⟨g,k,none⟩ (.int .i64 0)) (some g)):=Lib.hid (fun q=>by
     constructor
     ·have h:=heap_set (W1.drewN q) g k (.int .i64 ((0:Nat):Int)) _ _ HR1.out
      rw [ixC_set (l.take k) y1 0 (zn (n-(k+1))) htk] at h
      rw [show zn (n-k)=0::zn (n-(k+1)) by rw [show n-k=(n-(k+1))+1 by omega];rfl]
      exact h
     ·exact (HB1.out.trans (gb_drew W1 g q)).trans (gb_set _ _ _ _))
    go_quiet (fail)
    go_wp2_with fail
    go_roundw
    case rel=>exact ⟨k,_,by omega,rfl,by omega,HIN2,Lib.hid (HEND.out _).1,Lib.hid (HEND.out _).2⟩
    case measure=>simp [intOf]
end Go.Proofs.YtlcpcpmlfegejaaGreatDoor.Arr
set_option maxHeartbeats 2000000
set_option maxRecDepth 100000
namespace Go.Proofs.YtlcpcpmlfegejaaGreatDoor.Arr
open Go.RowKit
open Go.Lib
attribute [local go_sem] Oper.semAt_some
theorem info3:(Tryz.prog.info? 3).map (fun i=>(i.zero,i.size,i.bytes))=some (some (.int .i64 0),1,8):=by kernel_rfl
theorem make_ints (n:Nat) (hn:n≤1000) (W:World):(Instr.makeSlice 29 (.int .i64 (n:Int)) (.int .i64 (n:Int))).run Tryz.prog W=.ok (.slice (some ⟨W.heap.size,0,none⟩) n n) (W.alloc (.cells (ixC (zn n)) 3)):=by
 obtain ⟨i0,hi,hz0,hz1,hz2⟩:=info_parts info3
 have h:=run_make (P:=Tryz.prog) W 29 3 i0 (.int .i64 0) Tryz.underlying29 hi hz0 .i64 .i64 (n:Int) (n:Int) (by omega) (by omega) (by rw [hz2];omega) (by omega)
 have e:madeCells (Value.cells (.int .i64 0)) (n*1)=ixC (zn n):=by
  have e1:Value.cells (.int .i64 0)=#[Value.int .i64 0]:=rfl
  rw [e1,Nat.mul_one]
  unfold madeCells ixC zn
  apply Array.ext
  ·simp
  ·intro i h1 h2
   simp [Nat.mod_one]
 rw [hz1,Int.toNat_natCast,e] at h
 exact h
theorem ixOf_zero:∀ s:List Nat,ixOf s 0=zn s.length
 | []=>rfl
 | s::ss=>by rw [ixOf,Nat.zero_div,Nat.zero_mod,ixOf_zero ss];rfl
theorem ixOf_next {s:List Nat} {i:Nat} (h:i+1<prod s):incr s (ixOf s i)=some (ixOf s (i+1)):=by
 obtain ⟨h1,h2⟩:=ixOf_is s i (by omega)
 obtain ⟨h3,h4⟩:=incr_is s (ixOf s i) h1
 cases hr:incr s (ixOf s i) with
 | none=>have:=h4 hr;omega
 | some r =>
  obtain ⟨h5,h6⟩:=h3 r hr
  rw [← ixOf_plc s r h5,h6,h2]
theorem ixOf_len:∀ (s:List Nat) (i:Nat),(ixOf s i).length=s.length
 | [],_=>rfl
 | _::ss,i=>by rw [ixOf,List.length_cons,ixOf_len ss,List.length_cons]
theorem indexes_in (m:Nat) (p:Option Addr) (n c:Nat) (w:World) :
  CallsIn Fence.wide m Tryz.prog 90 #[.slice p n c] w fun e w'=>e=.returned (.func (.func 123) #[] #[.pointer (some ⟨w.heap.size,0,none⟩)])∧w'=w.alloc (.cells #[.slice p n c] 29):=by
 refine callsIn_of_wp Tryz.func90 rfl trivial ?_ rfl
 simp only [Tryz.ntmps90,List.size_toArray,List.length_cons,List.length_nil,Nat.reduceAdd,Nat.reduceSub,Array.replicate_succ,Array.replicate_zero,List.push_toArray,List.append_toArray,List.nil_append,List.cons_append]
 gi_wp2
 go_ret
 exact ⟨rfl,rfl⟩
theorem RdN.gb {W W':World} {p:Option Addr} {s:List Nat} {g:Nat} (h:RdN W p s) (hg:W.grownBy W' (some g)) (hne:∀ b off,p=some ⟨b,off,none⟩→0<s.length→b≠g):RdN W' p s:=by
 refine ⟨h.wf,?_⟩
 rcases h.cell with h0|⟨b,off,h1,h2,h3⟩
 ·exact .inl h0
 ·by_cases hs:0<s.length
  ·have hb:=hg.block b h2 (by intro e;injection e with e;exact hne b off h1 hs e)
   exact .inr ⟨b,off,h1,Nat.lt_of_lt_of_le h2 hg.size,fun j hj=>(World.cell?_of_block (a:=⟨b,off+j,none⟩) hb).trans (h3 j hj)⟩
  ·exact .inl (by rw [List.length_map];omega)
abbrev inE (n:Nat) (x:Nat × Nat):Array Value:=#[.int .i64 ((x.1:Nat):Int),.slice (some ⟨x.2,0,none⟩) n n]
structure IxAt (s:List Nat) (p:Option Addr) (n c Bb B:Nat) (x:Nat × Nat) (W:World):Prop where
 row:W.heap[x.2]?=some (.cells (ixC (ixOf s x.1)) 3 (0,0))
 box:W.heap[Bb]?=some (.cells #[.slice p n c] 29 (0,0))
 shape:RdN W p s
 new:B≤x.2
 lt:x.1<prod s
theorem it87_in (m:Nat) (hm:1≤m) (lr Bb B n c:Nat) (p:Option Addr) (s:List Nat) (hn:n≤4) (hs:Hid (s.length=n)) (hsb:Hid (∀ x ∈ s,x≤1024)) (h4:prod s≤4096) (W0:World) (J:List (Nat × Nat)→World→Prop) (hB:B≤W0.heap.size)
  (hJ:∀ pre A A' row,J pre A→A.grownBy A' row→(∀ r,row=some r→r=W0.heap.size)→J pre A')
  (hY:∀ pre x W1,J pre W1→IxAt s p n c Bb B x W1→pre.map (·.1)=List.range x.1→YieldAt Fence.wide (m-1) Tryz.prog lr (inE n x) W1 fun e W'=>e=.returned (.bool true)∧J (pre++[x]) W'∧IxAt s p n c Bb B x W')
  (hbox:W0.heap[Bb]?=some (.cells #[.slice p n c] 29 (0,0))) (hp:RdN W0 p s) (h0:J [] W0) :
  CallsIn Fence.wide m Tryz.prog 123 #[.func (.yield lr) #[] #[],.pointer (some ⟨Bb,0,none⟩)] W0 fun e W'=>(∃ v,e=.returned v)∧∃ xs:List (Nat × Nat),xs.map (·.1)=List.range (prod s)∧J xs W':=by
 obtain ⟨N,HN⟩:∃ N,Hid (N=prod s):=⟨_,rfl⟩
 have HP:=Lib.hid hp
 have HY:=Lib.hid hY
 have HJ:=Lib.hid hJ
 rw [← HN.out] at h4 ⊢
 have iN:(N:Int)≤4096:=by omega
 have hni:(n:Int)≤4:=by omega
 have hmk:=fun W=>make_ints n (by omega) W
 have cb:W0.cell? ⟨Bb,0,none⟩=some (.slice p n c):=by simp [World.cell?,hbox]
 have hBb:Bb<W0.heap.size:=(Array.getElem?_eq_some_iff.1 hbox).1
 obtain ⟨g,HG⟩:∃ g,Hid (g=W0.heap.size):=⟨_,rfl⟩
 obtain ⟨W1,HW1⟩:∃ W1,Hid (W0.alloc (.cells (ixC (zn n)) 3)=W1):=⟨_,Lib.hid rfl⟩
 have hs1:Hid (W1.heap.size=W0.heap.size+1):=Lib.hid (by rw [← HW1.out];simp)
 have hb1:Hid (Below W0.heap.size W0 W1):=Lib.hid (by rw [← HW1.out];exact (Below.refl _ _).alloc (Nat.le_refl _) _)
 have hg1:Hid (W1.heap[g]?=some (.cells (ixC (zn n)) 3 (0,0))):=Lib.hid (by rw [← HW1.out,HG.out];exact World.alloc_heap_new _ _)
 have hbox1:W1.heap[Bb]?=some (.cells #[.slice p n c] 29 (0,0)):=(hb1.out.block _ hBb).trans hbox
 have HBOX1:=Lib.hid hbox1
 have cb1:W1.cell? ⟨Bb,0,none⟩=some (.slice p n c):=by simp [World.cell?,hbox1]
 have cb1':(W0.alloc (.cells (ixC (zn n)) 3)).cell? ⟨Bb,0,none⟩=some (.slice p n c):=by rw [HW1.out];exact cb1
 have HPR:Hid (∀ W,RdN W p s→Calls Tryz.prog 80 #[.slice p n c] W fun e w'=>W=w'∧e=.returned (.int .i64 ((N:Nat):Int))):=Lib.hid (fun W h=>by
  have:=product_any p c s W (by rw [hs.out];exact hn) hsb.out h
  rwa [hs.out,← HN.out] at this)
 have HJ1:Hid (J [] W1):=Lib.hid (HJ.out _ _ _ none h0 (by rw [← HW1.out];exact World.grownBy_alloc _ _ none) (fun r e=>by cases e))
 clear hp hY hJ hbox hbox1 h0
 refine callsIn_of_wp Tryz.func123 rfl trivial ?_ rfl
 simp only [Tryz.ntmps123,List.size_toArray,List.length_cons,List.length_nil,Nat.reduceAdd,Nat.reduceSub,Array.replicate_succ,Array.replicate_zero,List.push_toArray,List.append_toArray,List.nil_append,List.cons_append]
 gi_wp2_with (refine ⟨trivial,?_⟩;gi_at_call 80;refine (callsIn_wide.2 (HPR.out _ (by rw [HW1.out];exact HP.out.below hb1.out))).mono ?_;rintro e w' ⟨rfl,rfl⟩)
 have HPG:Hid (∀ b off,p=some ⟨b,off,none⟩→0<n→b≠g):=Lib.hid (fun b off e hn0=>by
  rcases HP.out.cell with h0|⟨b',off',h1,h2,-⟩
  ·rw [List.length_map,hs.out] at h0;omega
  ·rw [e] at h1;cases h1;rw [HG.out];omega)
 have HBg:Hid (Bb≠g∧B≤g∧W0.heap.size≤g):=Lib.hid (by rw [HG.out];omega)
 have HROW:Hid (∃ r:List Nat,r.length=n∧(0<N→r=ixOf s 0)∧W1.heap[g]?=some (.cells (ixC r) 3 (0,0))):=Lib.hid ⟨zn n,by simp [zn],fun _=>by rw [ixOf_zero,hs.out],hg1.out⟩
 have HRD:Hid (RdN W1 p s):=Lib.hid (HP.out.below hb1.out)
 rw [HW1.out,← HG.out]
 clear hmk cb cb1 cb1' hBb
 gi_loopw [10] (fun iv wr=>∃ (i:Nat) (pre:List (Nat × Nat)),i≤N∧iv=.int .i64 i∧Hid (pre.map (·.1)=List.range i)∧Hid (J pre wr)∧Hid (wr.heap[Bb]?=some (.cells #[.slice p n c] 29 (0,0)))∧Hid (RdN wr p s)∧Hid (∃ r:List Nat,r.length=n∧(i<N→r=ixOf s i)∧wr.heap[g]?=some (.cells (ixC r) 3 (0,0)))) (fun iv _=>N-(intOf iv).toNat)
 case atStart=>exact ⟨0,[],Nat.zero_le _,rfl,Lib.hid rfl,HJ1,HBOX1,HRD,HROW⟩
 case round =>
  obtain ⟨i,pre,hi,rfl,HPRE,HJi,HBX,HRDi,HRi⟩:=hrel
  have ii:(i:Int)≤(N:Int):=by omega
  by_cases hlt:i<N
  ·have ilt:(i:Int)<(N:Int):=by omega
   have hat:IxAt s p n c Bb B (i,g) wr:=by
    obtain ⟨r,h1,h2,h3⟩:=HRi.out
    rw [h2 hlt] at h3
    exact ⟨h3,HBX.out,HRDi.out,HBg.out.2.1,by rw [← HN.out];exact hlt⟩
   obtain ⟨fn,tmps,assign,body,hy,hRo⟩:=HY.out pre (i,g) wr HJi.out hat HPRE.out
   have hy2:(Instr.yield lr #[.int .i64 (i:Int),.slice (some ⟨g,0,none⟩) n n]).run Tryz.prog wr=.ok (.round lr fn tmps assign body) wr:=hy
   clear hat hy
   gi_wp2
   refine hRo.mono ?_
   rintro e W3 ⟨rfl,hJ3,hat3⟩
   have HJ3:=Lib.hid hJ3
   have HA3:=Lib.hid hat3
   have cb3:W3.cell? ⟨Bb,0,none⟩=some (.slice p n c):=by simp [World.cell?,hat3.box]
   have HST:Hid (Calls Tryz.prog 124 #[.slice p n c,.slice (some ⟨g,0,none⟩) n n] W3 (StepPost g s (ixOf s i) W3)):=Lib.hid
    (step_any p c n n g s (ixOf s i) W3 hn hs (Lib.hid (by rw [ixOf_len,hs.out])) hsb (Lib.hid (ixOf_is s i (by rw [← HN.out];exact hlt)).1) hat3.shape HPG.out hat3.row)
   clear hJ3 hat3 hy2
   gi_wp2_with (refine ⟨trivial,?_⟩;gi_at_call 124;refine (callsIn_wide.2 HST.out).mono ?_;rintro e W4 ⟨⟨_,rfl⟩,r,hr1,hr2,hr3,hr4⟩)
   have HJ4:Hid (J (pre++[(i,g)]) W4):=Lib.hid (HJ.out _ _ _ (some g) HJ3.out hr4 (fun r e=>by cases e;exact HG.out))
   have HBX4:Hid (W4.heap[Bb]?=some (.cells #[.slice p n c] 29 (0,0))):=Lib.hid ((hr4.block Bb (Array.getElem?_eq_some_iff.1 HA3.out.box).1 (by intro e;cases e;exact HBg.out.1 rfl)).trans HA3.out.box)
   have HRD4:Hid (RdN W4 p s):=Lib.hid (HA3.out.shape.gb hr4 (fun b off e h=>HPG.out b off e (by rw [← hs.out];exact h)))
   have HR4:Hid (∃ r:List Nat,r.length=n∧(i+1<N→r=ixOf s (i+1))∧W4.heap[g]?=some (.cells (ixC r) 3 (0,0))):=Lib.hid ⟨r,by rw [hr1,hs.out],fun h=>hr2 _ (ixOf_next (by rw [← HN.out];exact h)),hr3⟩
   have HPRE4:Hid ((pre++[(i,g)]).map (·.1)=List.range (i+1)):=Lib.hid (by rw [List.map_append,HPRE.out,List.range_succ];rfl)
   clear hr1 hr2 hr3 hr4
   gi_wp2
   go_roundw
   case rel=>exact ⟨i+1,pre++[(i,g)],by omega,by go_num,HPRE4,HJ4,HBX4,HRD4,HR4⟩
   case measure=>simp [intOf];omega
  ·obtain rfl:i=N:=by omega
   have ilt:¬ (i:Int)<(i:Int):=by omega
   gi_wp2
   go_end0
   exact ⟨⟨_,rfl⟩,pre,HPRE.out,HJi.out⟩
theorem indexes_seq (m:Nat) (hm:1≤m) (Bb B n c:Nat) (p:Option Addr) (s:List Nat) (hn:n≤4) (hs:Hid (s.length=n)) (hsb:Hid (∀ x ∈ s,x≤1024)) (h4:prod s≤4096) (w:World) (hB:B≤w.heap.size+2) (hbox:w.heap[Bb]?=some (.cells #[.slice p n c] 29 (0,0))) (hp:RdN w p s) :
  SeqC Fence.wide m Tryz.prog 123 #[.pointer (some ⟨Bb,0,none⟩)] (inE n) (IxAt s p n c Bb B) (fun pre x=>pre.map (·.1)=List.range x.1) (fun xs=>xs.map (·.1)=List.range (prod s)) w:=fun lr J W hW hW2 hJ hY h0 =>
 it87_in m hm lr Bb B n c p s hn hs hsb h4 W J (Nat.le_trans hB hW2) (fun pre A A' row h hg hr=>hJ pre A A' row h hg hr) hY ((hW.block _ (Array.getElem?_eq_some_iff.1 hbox).1).trans hbox) (hp.below hW) h0
end Go.Proofs.YtlcpcpmlfegejaaGreatDoor.Arr
