/- Contracts. -/
import Derived.Test.YtgepehlpjpccaaaGreatDoorWDQ
set_option maxHeartbeats 4000000
set_option maxRecDepth 100000
namespace Go.Proofs.YtgepehlpjpccaaaGreatDoor
open Go.RowKit Go.Shelf
open Go.Lib
attribute [local go_sem] Oper.semAt_some
def BsN (N:Nat) (w:World) (p:Oa) (l:Lb):Prop:=l.length=0∨∃ b off,p=some ⟨b,off,none⟩∧b<N∧∀ j,j<l.length→w.cell? ⟨b,off+j,none⟩=some (.int .u8 (((l.getD j 0).toNat:Nat):Int))
theorem BsN.keep {N:Nat} {w w':World} {p:Oa} {l:Lb} (h:BsN N w p l) (hb:Below N w w'):BsN N w' p l:=by
 rcases h with h0|⟨b,off,hp,hlt,hc⟩
 ·exact .inl h0
 ·exact .inr ⟨b,off,hp,hlt,fun j hj=>(hb.cell (p:=⟨b,off+j,none⟩) hlt).trans (hc j hj)⟩
theorem BsN.bs {N:Nat} {w:World} {p:Oa} {l:Lb} (h:BsN N w p l) (hN:N≤w.heap.size):Bs w p l:=by
 rcases h with h0|⟨b,off,hp,hlt,hc⟩
 ·exact .inl h0
 ·exact .inr ⟨b,off,hp,Nat.lt_of_lt_of_le hlt hN,hc⟩
theorem Bs.bsN {w:World} {p:Oa} {l:Lb} (h:Bs w p l):BsN w.heap.size w p l:=h
def GE (N Bn Bb:Nat) (W W':World):Prop:=Below N W W'∧W'.heap[Bn]?=W.heap[Bn]?∧W'.heap[Bb]?=W.heap[Bb]?
theorem GE.trans {N Bn Bb:Nat} {A B C:World} (h:GE N Bn Bb A B) (k:GE N Bn Bb B C):GE N Bn Bb A C:=⟨h.1.trans k.1,k.2.1.trans h.2.1,k.2.2.trans h.2.2⟩
theorem GE.refl (N Bn Bb:Nat) (A:World):GE N Bn Bb A A:=⟨Below.refl _ _,rfl,rfl⟩
theorem GE.c1 {N Bn Bb:Nat} {A B:World} (h:GE N Bn Bb A B):B.cell? ⟨Bn,0,none⟩=A.cell? ⟨Bn,0,none⟩:=World.cell?_of_block (a:=⟨Bn,0,none⟩) h.2.1
theorem GE.c2 {N Bn Bb:Nat} {A B:World} (h:GE N Bn Bb A B):B.cell? ⟨Bb,0,none⟩=A.cell? ⟨Bb,0,none⟩:=World.cell?_of_block (a:=⟨Bb,0,none⟩) h.2.2
abbrev nbE (l:Lb) (n k:Nat) (x:Pl k):Array Value:=#[.int .u64 ((nb ((l.drop (x.1*n)).take n):Nat):Int)]
theorem ytU (m:Nat) (hm:1≤m) (lr Bn Bb N0 n len k c:Nat) (l:Lb) (p:Oa) (HL:Hid (len=l.length)) (HK:Hid (k=len/n)) (hn1:1≤n) (hn2:n≤8) (hlen:len≤1048576) (hc:len≤c) (J Jx:List (Pl k)→World→Prop)
  (hY:∀ pre x W,J pre W→pre.length<k→YieldAt Fence.wide (m-1) Tryz.prog lr (nbE l n k x) W fun e W' =>
   (e=.returned (.bool true)∧J (pre++[x]) W'∧GE N0 Bn Bb W W')∨(e=.returned (.bool false)∧Jx (pre++[x]) W'))
  (W:World) (hN:N0≤W.heap.size) (hBn:W.cell? ⟨Bn,0,none⟩=some (.int .i64 (n:Int))) (hBb:W.cell? ⟨Bb,0,none⟩=some (.slice p len c)) (hbs:BsN N0 W p l) (h0:J [] W) :
  CallsIn Fence.wide m Tryz.prog 222 #[.func (.yield lr) #[] #[],.pointer (some ⟨Bn,0,none⟩),.pointer (some ⟨Bb,0,none⟩)] W fun e W'=>(∃ v,e=.returned v) ∧
   ((∃ ys,ys.map (·.1)=List.range k∧J ys W')∨(∃ pre,True∧Jx pre W')):=by
 have hni:1≤(n:Int):=by omega
 have hni2:(n:Int)≤8:=by omega
 have hli:(len:Int)≤1048576:=by omega
 have HKN:Hid (k*n≤len∧len<k*n+n):=h_ (by
  rw [HK.out]
  have h3:=Nat.div_add_mod len n
  have h4:=Nat.mod_lt len (show n > 0 by omega)
  rw [Nat.mul_comm] at h3;omega)
 have HBS:=h_ hbs
 clear hbs
 refine callsIn_of_wp Tryz.func222 rfl trivial ?_ rfl
 simp only [Tryz.ntmps222,List.size_toArray,List.length_cons,List.length_nil,Nat.reduceAdd,Nat.reduceSub,Array.replicate_succ,Array.replicate_zero,List.push_toArray,List.append_toArray,List.nil_append,List.cons_append]
 gi_wp2
 have HJ0:=h_ h0
 gi_loopw [4] (fun tv wr=>∃ (t i:Nat) (pre:List (Pl k)),i≤k∧tv=.int .i64 t∧Hid (t=i*n)∧Hid (pre.map (·.1)=List.range i)∧Hid (J pre wr)∧Hid (GE N0 Bn Bb W wr)) (fun tv _=>len-(intOf tv).toNat)
 case atStart=>exact ⟨0,0,[],Nat.zero_le _,rfl,h_ (by rw [Nat.zero_mul]),rfl,HJ0,h_ (GE.refl _ _ _ _)⟩
 case round =>
  obtain ⟨t,i,pre,hik,rfl,HT,HP,HJ,HB⟩:=hrel
  have hcn:=HB.out.c1.trans hBn
  have hcb:=HB.out.c2.trans hBb
  by_cases yay:i<k
  ·have htn:t+n≤len:=by
    have h3:=HKN.out.1
    have h4:(i+1)*n≤k*n:=Nat.mul_le_mul_right _ yay
    rw [Nat.succ_mul] at h4
    rw [HT.out];omega
   have htn':(t:Int)+(n:Int)≤(len:Int):=by omega
   have yuZ:=(HBS.out.keep HB.out.1).bs (Nat.le_trans hN HB.out.1.size)
   obtain ⟨b0,off,rfl,-,-⟩:=ydT yuZ (t:=0) (by rw [← HL.out];omega)
   have ybp:Hid (Bs wr (some ⟨b0,off+t,none⟩) ((l.drop t).take n)):=h_ (jK yuZ t n (by rw [← HL.out];omega) rfl)
   obtain ⟨s,HS⟩:=ey ((l.drop t).take n)
   rw [← HS.out] at ybp
   have hsl:s.length=n:=by rw [HS.out,List.length_take,List.length_drop,← HL.out];omega
   have HR:=h_ (jA (some ⟨b0,off+t,none⟩) (c-t) s wr (by omega) ybp.out)
   rw [hsl] at HR
   obtain ⟨x,HX⟩:∃ x:Nat,Hid (x=nb s):=⟨_,rfl⟩
   rw [← HX.out] at HR
   obtain ⟨fn,tmps,assign,body,hy,hRo⟩:=hY pre ⟨i,yay⟩ wr HJ.out (by
    have h:=congrArg List.length HP.out
    rw [List.length_map,List.length_range] at h;omega)
   have hy2:(Instr.yield lr #[.int .u64 (x:Int)]).run Tryz.prog wr=.ok (.round lr fn tmps assign body) wr:=by
    rw [HX.out,HS.out,HT.out];exact hy
   clear hy yuZ hsl
   gi_wp2_with (refine ⟨trivial,?_⟩;gi_at_call 197;refine (callsIn_wide.2 HR.out).mono ?_;rintro e w' ⟨rfl,rfl⟩)
   refine hRo.mono ?_
   rintro e W3 (⟨rfl,hJ3,hk3⟩|⟨rfl,ypH⟩)
   ·have HB3:=h_ (HB.out.trans hk3)
    have HJ3:=h_ hJ3
    have hcn3:=HB3.out.c1.trans hBn
    clear hJ3 hk3 hy2
    gi_wp2
    go_roundw
    case rel=>exact ⟨t+n,i+1,pre++[⟨i,yay⟩],by omega,by go_num,h_ (by rw [HT.out,Nat.succ_mul]),h_ (by rw [List.map_append,HP.out,List.range_succ];rfl),HJ3,HB3⟩
    case measure=>simp [intOf];omega
   ·gi_wp2
    refine bodyPost_ret (results_none rfl _ _ _) rfl ?_
    exact ⟨⟨_,rfl⟩,.inr ⟨_,trivial,ypH⟩⟩
  ·obtain rfl:i=k:=by omega
   have htn':¬ (t:Int)+(n:Int)≤(len:Int):=by rw [HT.out];have:=HKN.out.2;omega
   have htl:t≤len:=by rw [HT.out];exact HKN.out.1
   have hti:(t:Int)≤1048576:=by omega
   gi_wp2
   go_end0
   exact ⟨⟨_,rfl⟩,.inl ⟨pre,HP.out,HJ.out⟩⟩
theorem ybS (m:Nat) (hm:1≤m) (Bn Bb N0 n len k c:Nat) (l:Lb) (p:Oa) (HL:Hid (len=l.length)) (HK:Hid (k=len/n)) (hn1:1≤n) (hn2:n≤8) (hlen:len≤1048576) (hc:len≤c) (w:World) (hN:N0≤w.heap.size) (hB1:Bn<w.heap.size) (hB2:Bb<w.heap.size)
  (hBn:w.cell? ⟨Bn,0,none⟩=some (.int .i64 (n:Int))) (hBb:w.cell? ⟨Bb,0,none⟩=some (.slice p len c)) (hbs:BsN N0 w p l) :
  SeqStopsK Fence.wide m Tryz.prog 222 #[.pointer (some ⟨Bn,0,none⟩),.pointer (some ⟨Bb,0,none⟩)] (nbE l n k) (GE N0 Bn Bb) (fun ys=>ys.map (·.1)=List.range k) (fun _=>True) k w:=fun lr J Jx W hW _ _ hY h0 =>
 ytU m hm lr Bn Bb N0 n len k c l p HL HK hn1 hn2 hlen hc J Jx hY W (Nat.le_trans hN hW.size) ((hW.cell (p:=⟨Bn,0,none⟩) hB1).trans hBn) ((hW.cell (p:=⟨Bb,0,none⟩) hB2).trans hBb) (hbs.keep (hW.mono hN)) h0
attribute [local go_sem] Oper.semAt_some
def yc0 (o:Oper):Bool:=match o.op with | .defer _=>false|_=>true
theorem ymT {o:Oper} (h:yc0 o=true):∀ c,o.op≠.defer c:=by
 intro c e;unfold yc0 at h;rw [e] at h;cases h
theorem ygb {P:Program} {l n:Nat} {o:Oper} (hd:yc0 o=true) {a:Act} {w:World} {K:Act→World→Prop} {Q:Exit→Act→World→Prop}
  (h:o.wp P a w K Q):o.wpIn (Fence.wide.inRound l) n P a w K Q:=by
 unfold Oper.wpIn
 refine ⟨fun _ _=>trivial,?_⟩
 rw [Oper.semAt_plain _ _ _ (ymT hd)]
 unfold Oper.wp at h
 generalize (execOp a.eval o).run P w=r at *
 cases r with
 | ok x w' =>
  cases x
  case enter f args=>exact ⟨fun h0=>Bool.noConfusion h0,CallsIn.inRound l (callsIn_wide.2 h)⟩
  case row r args =>
   refine ⟨fun h0=>Bool.noConfusion h0,fun c cs _=>?_⟩
   obtain ⟨v,w'',h1,h2⟩:=h c cs
   exact ⟨v,w'',h1,stepsIn_wide.2 h2⟩
  all_goals first|exact h|exact h.elim
 | halt x w'=>cases x<;>first|exact h|exact h.elim
theorem yrU {P:Program} {l n:Nat} {ops:Array Oper} (hd:∀ o ∈ ops,yc0 o=true) {i:Nat} {K:Act→World→Prop} {Q:Exit→Act→World→Prop} (hQ:¬ LetsOut Q) {a:Act} {w:World}
  (h:wpOp P ops Q i K a w):wpOpIn (Fence.wide.inRound l) n P ops Q i K a w:=by
 unfold wpOp at h
 unfold wpOpIn
 cases ho:ops[i]? with
 | none=>simp only [ho] at h ⊢;exact h
 | some o =>
  simp only [ho] at h ⊢
  split
  ·rename_i hw;simp only [hw,if_true] at h;exact h.elim (ygb (hd o (Array.mem_of_getElem? ho))) (fun h1=>absurd h1.2 hQ)
  ·rename_i hw;simp only [hw] at h;exact ⟨fun _ _=>trivial,h⟩
theorem yhz {P:Program} {l n:Nat} {md:Region.Mode} {ops:Array Oper} (hd:∀ o ∈ ops,yc0 o=true) {Q:Exit→Act→World→Prop} (hQ:¬ LetsOut Q) :
  ∀ (fuel:Nat) (listed:Array Bool) (a:Act) (w:World),wpAny P md ops Q fuel listed a w→wpAnyIn (Fence.wide.inRound l) n P md ops Q fuel listed a w
 | 0,_,_,_,h=>h
 | fuel+1,_,_,_,h=>⟨h.1,fun i hi=>wpOpIn_mono (fun a' w' h'=>yhz hd hQ fuel _ a' w' h') (yrU hd hQ (h.2 i hi))⟩
theorem yea {P:Program} {l n id:Nat} {ops:Array Oper} {S:World→Prop} {Q:Exit→Act→World→Prop} {a:Act} {w:World} (hm:P.follows .mixedOrders=true) (hd:ops.all yc0=true) (hQ:¬ LetsOut Q) (hS:S w.drew)
  (h:S w.drew→wpAnyH P .any ops Q S ops.size (Array.replicate ops.size false) a w.drew):(Code.region id ops true).wpIn (Fence.wide.inRound l) n P Q a w :=
 wpIn_region_any hm (yhz (fun o ho=>(Array.all_eq_true_iff_forall_mem.1 hd) o ho) hQ _ _ _ _ (wpAny_of_held _ _ _ _ (h hS)))
theorem ydN (m:Nat) (p:Oa) (len c:Nat) (n:Int) (w:World) :
  CallsIn Fence.wide m Tryz.prog 188 #[.slice p len c,.int .i64 n] w fun e w'=>e=.returned (.func (.func 222) #[] #[.pointer (some ⟨w.heap.size+1,0,none⟩),.pointer (some ⟨w.heap.size,0,none⟩)])∧w'=(w.alloc (.cells #[.slice p len c] 39)).alloc (.cells #[.int .i64 n] 3):=by
 refine callsIn_of_wp Tryz.func188 rfl trivial ?_ rfl
 simp only [Tryz.ntmps188,List.size_toArray,List.length_cons,List.length_nil,Nat.reduceAdd,Nat.reduceSub,Array.replicate_succ,Array.replicate_zero,List.push_toArray,List.append_toArray,List.nil_append,List.cons_append]
 gi_wp2
 go_ret
 exact ⟨rfl,rfl⟩
def ynC (f Bl:Nat) (st:Nat→Nat→Nat × Nat):Prop:=∀ (W:World) (a g:Nat),a<zR→g<zR→W.cell? ⟨Bl,0,none⟩=some (.int .u64 (a:Int))→W.frozen? ⟨Bl,0,none⟩=false →
 Calls Tryz.prog f #[.int .u64 (g:Int),.pointer (some ⟨Bl,0,none⟩)] W fun e W'=>e=.returned (.int .u64 ((st a g).1:Int))∧W'=W.setCell ⟨Bl,0,none⟩ (.int .u64 ((st a g).2:Int))
attribute [local go_sem] Oper.semAt_some
def stE (st:Nat→Nat→Nat × Nat):Nat→List Nat→Nat
 | a,[]=>a
 | a,g::gs=>stE st (st a g).2 gs
theorem yj8 (st:Nat→Nat→Nat × Nat) (g:Nat):∀ (gs:List Nat) (a:Nat),stE st a (gs++[g])=(st (stE st a gs) g).2
 | [],_=>rfl
 | x::gs,a=>by rw [List.cons_append,stE,yj8 st g gs,stE]
theorem yj9 (st:Nat→Nat→Nat × Nat) (g:Nat):∀ (gs:List Nat) (a:Nat),stL st a (gs++[g])=stL st a gs++[(st (stE st a gs) g).1]
 | [],_=>rfl
 | x::gs,a=>by rw [List.cons_append,stL,yj9 st g gs,stL,stE,List.cons_append]
theorem yqq {st:Nat→Nat→Nat × Nat} (h:∀ a g,a<zR→g<zR→(st a g).2<zR):∀ (gs:List Nat) (a:Nat),a<zR→(∀ x ∈ gs,x<zR)→stE st a gs<zR
 | [],_,ha,_=>ha
 | g::gs,a,ha,hg=>yqq h gs _ (h a g ha (hg g List.mem_cons_self)) (fun x hx=>hg x (List.mem_cons_of_mem _ hx))
def gN (l:Lb) (n i:Nat):Nat:=nb ((l.drop (i*n)).take n)
theorem ypT (l:Lb) {n:Nat} (h:n≤8) (i:Nat):gN l n i<zR:=ybu (by rw [List.length_take];omega)
theorem yfP (l:Lb) (n:Nat):∀ k,(List.range k).map (gN l n)=gl n k l
 | 0=>rfl
 | k+1=>by rw [List.range_succ,List.map_append,yfP l n k,yif];rfl
def gP (l:Lb) (n:Nat) {k:Nat} (pre:List (Pl k)):List Nat:=pre.map fun x=>gN l n x.1
theorem yig (l:Lb) (n:Nat) {k:Nat} (pre:List (Pl k)) (x:Pl k):gP l n (pre++[x])=gP l n pre++[gN l n x.1]:=by rw [gP,List.map_append];rfl
theorem ydi (l:Lb) (n:Nat) {k:Nat} (pre:List (Pl k)):(gP l n pre).length=pre.length:=List.length_map _
theorem ywj (l:Lb) {n:Nat} (h:n≤8) {k:Nat} (pre:List (Pl k)):∀ x ∈ gP l n pre,x<zR:=by
 intro x hx;rw [gP,List.mem_map] at hx;obtain ⟨y,_,rfl⟩:=hx;exact ypT l h _
theorem ylc (l:Lb) (n:Nat) {k:Nat} (ys:List (Pl k)) (h:ys.map (·.1)=List.range k):gP l n ys=gl n k l:=by
 rw [← yfP,← h,List.map_map];rfl
theorem yhG {W:World} {B k:Nat} {v:Value} {L:Lb} {cs:Array Value} {t:TypeId} {fz:Nat × Nat} (h:W.ownsRow B 5 1 v L.length (zN L)) (hk:W.heap[k]?=some (.cells cs t fz)) (ht:t≠5):some k≠v.ownBlock:=by
 obtain ⟨-,⟨rfl,-⟩|⟨g,cap,cur,rfl,-,hh,-⟩⟩:=h
 ·intro e;cases e
 ·intro e
  have e1:k=g:=Option.some.inj e
  subst e1
  rw [hk] at hh
  cases hh
  exact ht rfl
theorem uP {W W':World} {B:Nat} {v:Value} {L:Lb} (h:W.ownsRow B 5 1 v L.length (zN L)) (hk:∀ (k:Nat) (cs:Array Value),W.heap[k]?=some (.cells cs 5 (0,0))→W'.heap[k]?=some (.cells cs 5 (0,0))):W'.ownsRow B 5 1 v L.length (zN L):=by
 obtain ⟨h1,h2|⟨g,cap,cur,hv,hg,hh,h3⟩⟩:=h
 ·exact ⟨h1,.inl h2⟩
 ·exact ⟨h1,.inr ⟨g,cap,cur,hv,hg,hk g cur hh,h3⟩⟩
theorem ydj {W:World} {B:Nat} {v:Value} {L:Lb} (h:W.ownsRow B 5 1 v L.length (zN L)):∀ (j:Nat) (o:Obj),v.ownBlock=some j→W.heap[j]?=some o→o.isCells=true:=by
 obtain ⟨-,⟨rfl,-⟩|⟨g,cap,cur,rfl,-,hh,-⟩⟩:=h
 ·intro j o e;cases e
 ·intro j o e ho
  have e1:g=j:=Option.some.inj e
  subst e1
  rw [hh] at ho
  cases ho;rfl
theorem vL {W:World} {g:Nat} {v u:Value} {t:TypeId} (h:W.heap[g]?=some (.cells #[u] t (0,0))):(W.setCell ⟨g,0,none⟩ v).heap[g]?=some (.cells #[v] t (0,0)):=by
 obtain ⟨h1,h2⟩:=Array.getElem?_eq_some_iff.1 h
 unfold World.setCell
 rw [Array.getElem?_eq_getElem (by simpa using h1),Array.getElem_modify]
 simp [h2]
structure ChI (f N M Bl n:Nat) (p:Oa) (len c:Nat) (w:World) (v:Value) (L:Lb) (a:Nat) (W:World):Prop where
 own:W.ownsRow Bl 5 1 v L.length (zN L)
 out:W.heap[M]?=some (.cells #[v] 39 (0,0))
 st:W.heap[Bl]?=some (.cells #[.int .u64 (a:Int)] 86 (0,0))
 b4:W.heap[N]?=some (.cells #[.int .i64 (n:Int)] 3 (0,0))
 b5:W.heap[N+1]?=some (.cells #[.func (.func f) #[] #[.pointer (some ⟨Bl,0,none⟩)]] 141 (0,0))
 i1:W.heap[M+1]?=some (.cells #[.slice p len c] 39 (0,0))
 i2:W.heap[M+1+1]?=some (.cells #[.int .i64 (n:Int)] 3 (0,0))
 bel:Below Bl w W
section
variable {f N M Bl n : Nat} {p : Oa} {len c : Nat} {w W W' : World} {v v' : Value} {L L' : Lb} {a a' : Nat}
theorem ChI.keep (h:ChI f N M Bl n p len c w v L a W) {row:Option Nat} (hg:W.grownBy W' row) (hr:∀ r,row=some r→Bl≤r∧∃ o:Obj,W.heap[r]?=some o∧o.isCells=false) (hB:Bl≤W.heap.size):ChI f N M Bl n p len c w v L a W':=by
 have hk:∀ {k:Nat} {o:Obj},W.heap[k]?=some o→o.isCells=true→W'.heap[k]?=some o:=fun h1 h2=>(grownBy_keeps_cells hg (fun r e=>(hr r e).2) h1 h2).trans h1
 exact ⟨uP h.own (fun k cs h1=>hk h1 rfl),hk h.out rfl,hk h.st rfl,hk h.b4 rfl,hk h.b5 rfl,hk h.i1 rfl,hk h.i2 rfl,h.bel.grown hg hB (fun k e=>(hr k e).1)⟩
theorem ChI.lt (h:ChI f N M Bl n p len c w v L a W):Bl≤W.heap.size:=Nat.le_of_lt (Array.getElem?_eq_some_iff.1 h.st).1
theorem ChI.drew (h:ChI f N M Bl n p len c w v L a W):ChI f N M Bl n p len c w v L a W.drew:=⟨h.own,h.out,h.st,h.b4,h.b5,h.i1,h.i2,h.bel.drew⟩
theorem ChI.call (h:ChI f N M Bl n p len c w v L a W) (h1:Bl<N) (h2:Bl<M) (a':Nat):ChI f N M Bl n p len c w v L a' (W.setCell ⟨Bl,0,none⟩ (.int .u64 (a':Int))):=by
 have hk:∀ {k:Nat} {o:Obj},k≠Bl→W.heap[k]?=some o→(W.setCell ⟨Bl,0,none⟩ (.int .u64 (a':Int))).heap[k]?=some o:=fun hne h1=>(Below.heap_setCell W ⟨Bl,0,none⟩ _ _ hne).trans h1
 refine ⟨uP h.own (fun k cs h3=>hk ?_ h3),hk (by omega) h.out,vL h.st,hk (by omega) h.b4,hk (by omega) h.b5,hk (by omega) h.i1,hk (by omega) h.i2,h.bel.setCell (p:=⟨Bl,0,none⟩) nl _⟩
 rintro rfl
 rw [h.st] at h3;cases h3
theorem ChI.app (h:ChI f N M Bl n p len c w v L a W) (hM:Bl<M) (hg:Grew Bl W v L' W' v'):W'.ownsRow Bl 5 1 v' L'.length (zN L')∧ChI f N M Bl n p len c w v' L' a (W'.setCell ⟨M,0,none⟩ v')∧KeepsOthers W (W'.setCell ⟨M,0,none⟩ v')∧W'.heap[N]?=some (.cells #[.int .i64 (n:Int)] 3 (0,0))∧W'.heap[N+1]?=some (.cells #[.func (.func f) #[] #[.pointer (some ⟨Bl,0,none⟩)]] 141 (0,0))∧W'.heap[M]?=some (.cells #[v] 39 (0,0))∧Below Bl W (W'.setCell ⟨M,0,none⟩ v'):=by
 have hk:∀ {k:Nat} {cs:Array Value} {t:TypeId},W.heap[k]?=some (.cells cs t (0,0))→t≠5→W'.heap[k]?=some (.cells cs t (0,0)):=fun h1 h2=>(hg.grown.block _ (Array.getElem?_eq_some_iff.1 h1).1 (yhG h.own h1 h2)).trans h1
 have hs:∀ {k:Nat} {o:Obj},k≠M→W'.heap[k]?=some o→(W'.setCell ⟨M,0,none⟩ v').heap[k]?=some o:=fun hne h1=>(Below.heap_setCell W' ⟨M,0,none⟩ _ _ hne).trans h1
 have hne:∀ {k:Nat} {cs:Array Value} {t:TypeId},W'.heap[k]?=some (.cells cs t (0,0))→t≠39→k≠M:=by
  rintro k cs t h1 h2 rfl
  rw [hk h.out (by decide)] at h1;cases h1;exact h2 rfl
 have hO:=hk h.out (by decide)
 have hKO:KeepsOthers W W':=KeepsOthers.of_grownBy hg.grown (ydj h.own)
 refine ⟨hg.own,⟨uP hg.own (fun k cs h3=>hs (hne h3 (by decide)) h3),vL hO,?_,?_,?_,?_,?_,?_⟩,hKO.trans (KeepsOthers.setCell _ _ _),hk h.b4 (by decide),hk h.b5 (by decide),hO,((Below.refl Bl W).grown hg.grown h.lt (fun k e=>yal h.own e)).setCell (p:=⟨M,0,none⟩) (Nat.le_of_lt hM) _⟩
 ·have:=hk h.st (by decide);exact hs (hne this (by decide)) this
 ·have:=hk h.b4 (by decide);exact hs (hne this (by decide)) this
 ·have:=hk h.b5 (by decide);exact hs (hne this (by decide)) this
 ·have:=hk h.i1 (by decide);exact hs (by omega) this
 ·have:=hk h.i2 (by decide);exact hs (by omega) this
 ·have hb1:Below Bl w W':=h.bel.grown hg.grown h.lt (fun k e=>yal h.own e)
  exact hb1.setCell (p:=⟨M,0,none⟩) (Nat.le_of_lt hM) _
end
end Go.Proofs.YtgepehlpjpccaaaGreatDoor
namespace Go.Proofs.YtgepehlpjpccaaaGreatDoor
open Go.RowKit Go.Shelf
open Go.Lib
attribute [local go_sem] Oper.semAt_some
def yfQ (l:Lb) (k:Nat) (w:World) (e:Ending) (w':World):Prop:=w=w'∧∃ q d,e=.returned (.slice q k d)∧Bs w q l
theorem yrV (p:Oa) (c n:Nat) (w:World) (h1:1≤n) (h2:n≤8) (hpc:p=none→c=0) :
  Calls Tryz.prog 151 #[.slice p 0 c,.int .i64 (n:Int)] w (yfQ [] 0 w):=by
 have hn1:1≤(n:Int):=by omega
 have hn8:(n:Int)≤8:=by omega
 have hmod:(0:Int)%(n:Int)=0:=Int.zero_emod _
 cases p with
 | none =>
  obtain rfl:c=0:=hpc rfl
  go_in
  go_wp2
  go_ret
  exact ⟨rfl,_,_,rfl,Bs.nil _ _⟩
 | some ad =>
  obtain ⟨b0,off,sp⟩:=ad
  go_in
  go_wp2
  go_ret
  exact ⟨rfl,_,_,rfl,Bs.nil _ _⟩
theorem yoW (b0 off c n t len:Nat) (l:Lb) (w:World) (h1:1≤n) (h2:n≤8) (HL:Hid (len=l.length)) (hl:len≤1048576) (hc:len≤c) (HT:Hid (t=len/n*n)) (hb:Bs w (some ⟨b0,off,none⟩) l) :
  Calls Tryz.prog 151 #[.slice (some ⟨b0,off,none⟩) len c,.int .i64 (n:Int)] w (yfQ (l.drop t) (len-t) w):=by
 have hn1:1≤(n:Int):=by omega
 have hn8:(n:Int)≤8:=by omega
 have hlen:(len:Int)≤1048576:=by omega
 have htl:t≤len:=by rw [HT.out];exact Nat.div_mul_le_self _ _
 have ydt:wrap64 ((len:Int)-(len:Int)%(n:Int))=(t:Int):=by
  have h3:=Nat.div_add_mod len n
  rw [Nat.mul_comm,← HT.out] at h3
  have h4:(len:Int)-(len:Int)%(n:Int)=(t:Int):=by omega
  rw [h4]
  unfold wrap64;omega
 have HB:=h_ hb
 clear hb
 by_cases hct:c=t
 ·subst hct
  obtain rfl:len=c:=by omega
  go_in
  go_wp2_with fail
  rw [ydt]
  go_wp2
  go_ret
  exact ⟨rfl,some ⟨b0,off,none⟩,0,by simp,.inl (by rw [HL.out,List.drop_length];rfl)⟩
 ·have hct':t<c:=by omega
  go_in
  go_wp2_with fail
  rw [ydt]
  go_wp2
  go_ret
  exact ⟨rfl,_,_,rfl,vH HB.out t (by rw [← HL.out];exact htl) rfl⟩
theorem yfR (p:Oa) (c n t len:Nat) (l:Lb) (w:World) (h1:1≤n) (h2:n≤8) (HL:Hid (len=l.length)) (hl:len≤1048576) (hc:len≤c) (hpc:p=none→c=0) (HT:Hid (t=len/n*n)) (hb:Bs w p l) :
  Calls Tryz.prog 151 #[.slice p len c,.int .i64 (n:Int)] w (yfQ (l.drop t) (len-t) w):=by
 rcases hb with h0|⟨b,off,rfl,h3,h4⟩
 ·obtain rfl:=List.eq_nil_of_length_eq_zero h0
  obtain rfl:len=0:=HL.out
  obtain rfl:t=0:=by rw [HT.out,Nat.zero_div,Nat.zero_mul]
  exact yrV p c n w h1 h2 hpc
 ·exact yoW b off c n t len l w h1 h2 HL hl hc HT (.inr ⟨b,off,rfl,h3,h4⟩)
theorem ydP {F:Fence} {n:Nat} (w:World) {ops:Array Oper} {rest:List Oper} {o:Oper} {a:Act} {Q:Exit→Act→World→Prop} (hg:o.guard=none) (l c:Operand) (hop:o.op=Op.makeSlice 39 l c)
  (kl kc:IntKind) (k:Nat) (hl:a.eval l=.int kl 0) (hc:a.eval c=.int kc (k:Int)) (hk:k≤1048576)
  (hK:∀ w',w'.ownsRow w.heap.size 5 1 (.slice (some ⟨w.heap.size,0,none⟩) 0 k) ([]:Lb).length (zN [])→w.grownBy w' none→wpListIn F n Tryz.prog ops Q rest (a.put o.dst (.slice (some ⟨w.heap.size,0,none⟩) 0 k)) w') :
  wpListIn F n Tryz.prog ops Q (o::rest) a w:=by
 obtain ⟨i0,hi,hz0,hz1,hz2⟩:=info_parts uF
 refine wpListIn_plain hg fun K hK'=>?_
 have hr:=run_make (P:=Tryz.prog) w 39 5 i0 (.int .u8 0) Tryz.underlying39 hi hz0 kl kc 0 k (by omega) (by omega) (by rw [hz2];omega) (by omega)
 simp only [Int.toNat_natCast] at hr
 rw [hz1,Nat.mul_one] at hr
 unfold Oper.wpIn
 refine ⟨?_,?_⟩
 ·simp [Oper.about,hop]
 ·rw [Oper.semAt_plain F _ _ (by rw [hop];intro c hc';cases hc')]
  simp [execOp,hop,hl,hc,hr,Result.andThen]
  refine hK' _ _ (hK _ ⟨rfl,.inr ⟨w.heap.size,k,_,rfl,Nat.le_refl _,World.alloc_heap_new w _,Nat.zero_le _,by unfold maxLen;omega,?_,rfl⟩⟩ (World.grownBy_alloc w _ none))
  rw [show (Value.int .u8 0).cells=#[Value.int .u8 0] from rfl,ydL];simp [zN]
theorem ya5 {w:World} {o:Oper} {a:Act} {K:Act→World→Prop} {Q:Exit→Act→World→Prop} (s x:Operand)
  (ho:o.op=.call { callee:=.builtin .append,args:=#[s,x],argTypes:=#[39,39] })
  (B:Nat) (v:Value) (n:Nat) (X:Lb) (hs:a.eval s=v) (hn:n=X.length) (yP:w.ownsRow B 5 1 v n (zN X))
  (p:Oa) (m c:Nat) (L:Lb) (hx:a.eval x=.slice p m c) (hm:L.length=m) (hb:Bs w p L) (hlen:n+m≤140737488355328) (hB:B≤w.heap.size)
  (h:∀ v' w',Grew B w v (X++L) w' v'→K (a.put o.dst v') w'):o.wp Tryz.prog a w K Q:=by
 subst hn
 subst hm
 obtain ⟨i0,hi,hz0,hz1,hz2⟩:=info_parts uF
 cases p with
 | none =>
  have h0:L=[]:=by
   rcases hb with h0|⟨b,off,h1,-⟩
   ·exact List.eq_nil_of_length_eq_zero h0
   ·cases h1
  subst h0
  have hr:=yc8 w B v X.length c (zN X) o.type yP
  unfold Oper.wp execOp
  simp only [ho,resolve,invoke,builtin,Sem.run_bind,Sem.run_pure,Result.andThen_ok,List.map_toArray,List.map_cons,List.map_nil,hs,hx,List.length_nil,hr]
  exact h v w (by rw [List.append_nil];exact Grew.refl yP)
 | some ad =>
  obtain ⟨v',w',hr,h2,h3,h4,h5⟩:=run_append_own_at (P:=Tryz.prog) w B 39 o.type 5 i0 (.int .u8 0) 1 1 Tryz.underlying39 hi hz0 hz1 hz2 rfl (by decide) v X.length (zN X) yP ad L.length c (zN L) (by rw [yaA,Nat.mul_one]) (hb.news bR _ rfl) (ydQ L) (by unfold maxLen;omega) (by omega) hB
  unfold Oper.wp execOp
  simp only [ho,resolve,invoke,builtin,Sem.run_bind,Sem.run_pure,Result.andThen_ok,List.map_toArray,List.map_cons,List.map_nil,hs,hx,hr]
  refine h v' w' ⟨?_,h3,h5.imp id fun h=>⟨_,h,Nat.le_refl _⟩⟩
  rw [List.length_append,zN,List.map_append];exact h2
def yvn (Bl:Nat) (L:Lb) (w:World) (e:Ending) (w':World):Prop:=Below Bl w w'∧∃ v,e=.returned (.tuple #[v,.int .i64 0])∧w'.ownsRow Bl 5 1 v L.length (zN L)
theorem yoX (F:Nat) (st:Nat→Nat→Nat × Nat) (hE:∀ a g,a<zR→g<zR→(st a g).1<zR∧(st a g).2<zR) (hent:∀ args W,(callFunc F args).run Tryz.prog W=.ok (.enter F args) W) (p:Oa) (c n Bl:Nat) (l:Lb) (w:World) (h1:1≤n) (h2:n≤8) (hl:l.length≤1048576) (hc:l.length≤c) (hpc:p=none→c=0) (hch:ynC F Bl st) (hbs:BsN Bl w p l) (hBl:w.heap[Bl]?=some (.cells #[.int .u64 0] 86 (0,0))) :
  Calls Tryz.prog 145 #[.slice p l.length c,.int .i64 (n:Int),.func (.func F) #[] #[.pointer (some ⟨Bl,0,none⟩)]] w (yvn Bl (chR st n (l.length/n) 0 l) w):=by
 have HA:∀ W,Calls Tryz.prog 147 #[.slice p l.length c,.int .i64 (n:Int)] W (Qp (.int .i64 0) W):=fun W=>yaI p l.length c n W h1 h2 hl
 have ysH:Bl<w.heap.size:=(Array.getElem?_eq_some_iff.1 hBl).1
 obtain ⟨len,HL⟩:=ey (l.length)
 rw [← HL.out] at hl hc HA ⊢
 obtain ⟨k,HK⟩:=ey (len/n)
 have HKN:Hid (k*n≤len):=h_ (by rw [HK.out];exact Nat.div_mul_le_self _ _)
 rw [← HK.out]
 obtain ⟨R,HR⟩:=ey (chR st n k 0 l)
 rw [← HR.out]
 have HAh:=h_ HA
 have HBS:=h_ hbs
 have HBL:=h_ hBl
 have HPC:=h_ hpc
 clear HA hbs hBl hpc
 refine (callsIn_wide (n:=9)).1 ?_
 refine callsIn_of_wp_marks Tryz.func145 rfl trivial ?_ rfl
 simp only [Tryz.ntmps145,List.size_toArray,List.length_cons,List.length_nil,Nat.reduceAdd,Nat.reduceSub,Array.replicate_succ,Array.replicate_zero,List.push_toArray,List.append_toArray,List.nil_append,List.cons_append]
 gi_wp2_with (first|(refine ⟨trivial,?_⟩;gi_at_call 147;refine (callsIn_wide.2 (HAh.out _)).mono ?_;rintro e w' ⟨rfl,rfl⟩)|(gi_at_make;refine ydP _ rfl _ _ rfl _ _ len rfl rfl hl ?_))
 intro w2 yP hgr
 have hB2:Below (w.heap.size+2) ((w.alloc (.cells #[.int .i64 (n:Int)] 3)).alloc (.cells #[.func (.func F) #[] #[.pointer (some ⟨Bl,0,none⟩)]] 141)) w2:=bR.grown hgr (by simp) (fun k e=>by cases e)
 have hb4:w2.heap[w.heap.size]?=some (.cells #[.int .i64 (n:Int)] 3 (0,0)):=by
  refine (hB2.block w.heap.size (by omega)).trans ((Below.heap_alloc _ _ _ (by simp)).trans (World.alloc_heap_new w _))
 have hb5:w2.heap[w.heap.size+1]?=some (.cells #[.func (.func F) #[] #[.pointer (some ⟨Bl,0,none⟩)]] 141 (0,0)):=by
  refine (hB2.block (w.heap.size+1) (by omega)).trans ?_
  have:=World.alloc_heap_new (w.alloc (.cells #[.int .i64 (n:Int)] 3)) (.cells #[.func (.func F) #[] #[.pointer (some ⟨Bl,0,none⟩)]] 141);rwa [World.size_alloc] at this
 have hN:w.heap.size+2≤w2.heap.size:=by have:=hB2.size;simpa using this
 have hBW:Be w w2:=(((Below.refl _ w).alloc nl _).alloc (by simp) _).trans (hB2.mono (by omega))
 have gb4:w2.cell? ⟨w.heap.size,0,none⟩=some (.int .i64 (n:Int)):=by simp [World.cell?,hb4]
 have gb3:(w2.alloc (.cells #[.slice (some ⟨w.heap.size+1+1,0,none⟩) 0 len] 39)).cell? ⟨w.heap.size,0,none⟩=some (.int .i64 (n:Int)):=by
  rw [World.cell?_of_block (w:=w2) (Below.heap_alloc _ _ _ (by show w.heap.size<w2.heap.size;omega))];exact gb4
 have yjh:=h_ yP
 have HB4:=h_ hb4
 have HB5:=h_ hb5
 have HBW:=h_ hBW
 clear yP hgr hb4 hb5 hB2 hBW
 gi_wp2_with (refine ⟨trivial,?_⟩;gi_at_call 188;refine (ydN _ _ _ _ _ _).mono ?_;rintro e w' ⟨rfl,rfl⟩)
 obtain ⟨W0,hW0⟩:∃ W0,((w2.alloc (.cells #[.slice (some ⟨w.heap.size+1+1,0,none⟩) 0 len] 39)).alloc (.cells #[.slice p len c] 39)).alloc (.cells #[.int .i64 (n:Int)] 3)=W0:=⟨_,rfl⟩
 have hs0:W0.heap.size=w2.heap.size+3:=by rw [← hW0];simp
 have hO:W0.heap[w2.heap.size]?=some (.cells #[.slice (some ⟨w.heap.size+1+1,0,none⟩) 0 len] 39 (0,0)):=by
  rw [← hW0];exact ((Below.heap_alloc _ _ _ (by simp;omega)).trans (Below.heap_alloc _ _ _ (by simp))).trans (World.alloc_heap_new w2 _)
 have hI1:W0.heap[w2.heap.size+1]?=some (.cells #[.slice p len c] 39 (0,0)):=by
  rw [← hW0];refine (Below.heap_alloc _ _ _ (by simp)).trans ?_
  have:=World.alloc_heap_new (w2.alloc (.cells #[.slice (some ⟨w.heap.size+1+1,0,none⟩) 0 len] 39)) (.cells #[.slice p len c] 39);rwa [World.size_alloc] at this
 have hI2:W0.heap[w2.heap.size+1+1]?=some (.cells #[.int .i64 (n:Int)] 3 (0,0)):=by
  rw [← hW0];have:=World.alloc_heap_new ((w2.alloc (.cells #[.slice (some ⟨w.heap.size+1+1,0,none⟩) 0 len] 39)).alloc (.cells #[.slice p len c] 39)) (.cells #[.int .i64 (n:Int)] 3);rwa [World.size_alloc,World.size_alloc] at this
 have ylR:Be w2 W0:=by rw [← hW0];exact (((Below.refl _ w2).alloc nl _).alloc (by simp) _).alloc (by simp;omega) _
 have yu0:Be w W0:=HBW.out.trans (ylR.mono (by omega))
 have hk:∀ {j:Nat} {o:Obj},w2.heap[j]?=some o→W0.heap[j]?=some o:=fun h=>(ylR.block _ (Array.getElem?_eq_some_iff.1 h).1).trans h
 have HI0:ChI F w.heap.size w2.heap.size Bl n p len c w (.slice (some ⟨w.heap.size+1+1,0,none⟩) 0 len) [] 0 W0:=by
  refine ⟨uP ⟨yjh.out.1,?_⟩ (fun j cs h=>hk h),hO,(yu0.block _ ysH).trans HBL.out,hk HB4.out,hk HB5.out,hI1,hI2,yu0.mono (Nat.le_of_lt ysH)⟩
  rcases yjh.out.2 with h|⟨g,cap,cur,hv,hg,h⟩
  ·exact .inl h
  ·exact .inr ⟨g,cap,cur,hv,by omega,h⟩
 rw [hW0]
 clear gb4 gb3
 refine wpIn_rangeFunc_ownF rfl (by omega) (gf:=222) (lb:=#[.pointer (some ⟨w2.heap.size+1+1,0,none⟩),.pointer (some ⟨w2.heap.size+1,0,none⟩)]) rfl trivial (enters_of Tryz.func222 (by kernel_rfl) rfl)
  (ybS _ (by omega) (w2.heap.size+1+1) (w2.heap.size+1) Bl n len k c l p HL HK h1 h2 hl hc W0 (by omega) (by omega) (by omega) (by simp [World.cell?,hI2]) (by simp [World.cell?,hI1]) (HBS.out.keep (yu0.mono (Nat.le_of_lt ysH)))) GE.trans
  (fun W lo o o' hlo ho hc hw=>⟨(Below.refl _ W).grown (grownBy_putObj' W lo o') (by have:=(Array.getElem?_eq_some_iff.1 ho).1;omega) (fun k e=>by cases e;omega),World.putObj_heap_other (by omega),World.putObj_heap_other (by omega)⟩) bR (fun _=>rfl)
  (fun pre W=>∃ v,ChI F w.heap.size w2.heap.size Bl n p len c w v (jl n (stL st 0 (gP l n pre))) (stE st 0 (gP l n pre)) W)
  (fun _ _ _=>False)
  (fun s W W' row h hg hr=>by obtain ⟨v,h⟩:=h;exact ⟨v,h.keep hg (fun r e=>⟨by have:=(hr r e).1;omega,(hr r e).2⟩) h.lt⟩)
  (fun _ _ _ _ _ h _ _=>h)
  ⟨_,HI0⟩ ?a1 ?assign ?body ?done ?stop
 case assign =>
  intro lo x W K hK
  gi_wp2
  exact hK
 case body =>
  rintro lo pre x W ⟨v,hI⟩ hlen
  obtain ⟨a,HA⟩:=ey (stE st 0 (gP l n pre))
  obtain ⟨L,GL⟩:=ey (jl n (stL st 0 (gP l n pre)))
  rw [← HA.out,← GL.out] at hI
  obtain ⟨g,HG⟩:=ey (gN l n x.1)
  have ha:a<zR:=by rw [HA.out];exact yqq (fun a g h1 h2=>(hE a g h1 h2).2) (gP l n pre) 0 (by decide) (ywj l h2 pre)
  have hg:g<zR:=by rw [HG.out];exact ypT l h2 _
  obtain ⟨y,HY⟩:=ey ((st a g).1)
  obtain ⟨a2,HA2⟩:=ey ((st a g).2)
  have hy:y<zR:=by rw [HY.out];exact (hE a g ha hg).1
  have hLl:L.length≤100000000:=by
   have h5:pre.length*n≤k*n:=Nat.mul_le_mul_right _ (Nat.le_of_lt hlen)
   have h6:=HKN.out
   rw [GL.out,uE,ydM,ydi];omega
  have hM:Bl<w2.heap.size:=by omega
  have hD:=hI.drew
  obtain ⟨W1,hW1⟩:∃ W1,W.drew.setCell ⟨Bl,0,none⟩ (.int .u64 (a2:Int))=W1:=⟨_,rfl⟩
  have HC:Hid (Calls Tryz.prog F #[.int .u64 (g:Int),.pointer (some ⟨Bl,0,none⟩)] W.drew fun e W'=>e=.returned (.int .u64 (y:Int))∧W1=W'):=h_ (by
   rw [← hW1,HY.out,HA2.out]
   exact (hch W.drew a g ha hg (by simp [World.cell?,hD.st]) (by simp [World.frozen?,hD.st])).mono fun e W' h=>⟨h.1,h.2.symm⟩)
  have HC1:Hid (ChI F w.heap.size w2.heap.size Bl n p len c w v L a2 W1):=h_ (by rw [← hW1];exact hD.call ysH hM a2)
  have HBB:Hid (Below Bl W W1∧KeepsOthers W W1):=h_ (by
   rw [← hW1];exact ⟨(Below.refl Bl W).drew.setCell (p:=⟨Bl,0,none⟩) nl _,(KeepsOthers.drew W).trans (KeepsOthers.setCell _ _ _)⟩)
  have HN:=h_ (jV Bl v L y n W1 h2 hLl HC1.out.lt HC1.out.own hy)
  have HF:Hid (∀ v5 W3,ChI F w.heap.size w2.heap.size Bl n p len c w v5 (L++be n y) a2 W3→KeepsOthers W1 W3→Below Bl W1 W3→KeepsOthers W W3∧GE Bl (w2.heap.size+1+1) (w2.heap.size+1) W W3 ∧
    ∃ v,ChI F w.heap.size w2.heap.size Bl n p len c w v (jl n (stL st 0 (gP l n (pre++[x])))) (stE st 0 (gP l n (pre++[x]))) W3):=h_ (fun v5 W3 k1 k2 k3=>by
   refine ⟨HBB.out.2.trans k2,⟨HBB.out.1.trans k3,k1.i2.trans hI.i2.symm,k1.i1.trans hI.i1.symm⟩,v5,?_⟩
   rw [yig,yj9,yj8,ydg,← HA.out,← GL.out,← HG.out,← HY.out,← HA2.out,jl,jl,List.append_nil]
   exact k1)
  have hc4:W.drew.cell? ⟨w.heap.size,0,none⟩=some (.int .i64 (n:Int)):=by simp [World.cell?,hD.b4]
  have hc5:W.drew.cell? ⟨w.heap.size+1,0,none⟩=some (.func (.func F) #[] #[.pointer (some ⟨Bl,0,none⟩)]):=by simp [World.cell?,hD.b5]
  have hcO:W.drew.cell? ⟨w2.heap.size,0,none⟩=some v:=by simp [World.cell?,hD.out]
  have hc4':W1.cell? ⟨w.heap.size,0,none⟩=some (.int .i64 (n:Int)):=by simp [World.cell?,HC1.out.b4]
  have hc5':W1.cell? ⟨w.heap.size+1,0,none⟩=some (.func (.func F) #[] #[.pointer (some ⟨Bl,0,none⟩)]):=by simp [World.cell?,HC1.out.b5]
  have hcO':W1.cell? ⟨w2.heap.size,0,none⟩=some v:=by simp [World.cell?,HC1.out.out]
  have e10:(nb ((l.drop (x.1*n)).take n))=g:=HG.out.symm
  simp only [e10]
  clear hI hD hW1 e10 ha hg hy hLl
  gi_wp2
  refine yea (S:=fun W'=>W'.cell? ⟨w.heap.size+1,0,none⟩=some (.func (.func F) #[] #[.pointer (some ⟨Bl,0,none⟩)])∧W'.cell? ⟨w.heap.size,0,none⟩=some (.int .i64 (n:Int))) (by kernel_rfl) (by kernel_rfl) (fun ⟨_,_,h⟩=>h) ⟨hc5,hc4⟩ (fun hHeld=>?_)
  refine tk (i:=1) (v:=.func (.func F) #[] #[.pointer (some ⟨Bl,0,none⟩)]) rfl (Or.inl ⟨by rfl,by intro W' hSw;obtain ⟨e5,e4⟩:=hSw;go_simp⟩) ?_
  simp only [sl]
  refine tk (i:=2) (v:=.int .u64 (g:Int)) rfl (Or.inl ⟨by rfl,by intro W' hSw;obtain ⟨e5,e4⟩:=hSw;go_simp⟩) ?_
  simp only [sl]
  refine tk (i:=4) (v:=.int .i64 (n:Int)) rfl (Or.inl ⟨by rfl,by intro W' hSw;obtain ⟨e5,e4⟩:=hSw;go_simp⟩) ?_
  simp only [sl]
  refine wpAnyH_ready (rs:=[0,3]) (by kernel_rfl) (by simp) ?_
  refine AllReadyH.cons (i:=0) rfl (fun K hK=>?_) (AllReadyH.cons (i:=3) rfl (fun K hK=>?_) AllReadyH.nil)
  ·go_simp
   refine hK.out _ _ (⟨hc5,hc4⟩) (fun hHeld=>?_)
   clear hK K
   refine oN (i:=3) rfl fun K hK=>?_
   go_simp
   refine (HC.out).mono ?_
   rintro e W1' ⟨rfl,rfl⟩
   refine hK.out _ _ (⟨hc5',hc4'⟩) (fun hHeld=>?_)
   clear hK K
   refine oN (i:=5) rfl fun K hK=>?_
   go_simp
   refine (HN.out).mono ?_
   rintro e W2 ⟨v5,rfl,hg5⟩
   obtain ⟨yM,yeD,yff,hh4,hh5,hhM,yca⟩:=HC1.out.app hM hg5
   obtain ⟨p5,c5,rfl,-,-⟩:=zA yM
   obtain ⟨m5,HM5⟩:=ey ((L++be n y).length)
   rw [← HM5.out] at yM yeD yff yca ⊢
   have f4:W2.cell? ⟨w.heap.size,0,none⟩=some (.int .i64 (n:Int)):=by simp [World.cell?,hh4]
   have f5:W2.cell? ⟨w.heap.size+1,0,none⟩=some (.func (.func F) #[] #[.pointer (some ⟨Bl,0,none⟩)]):=by simp [World.cell?,hh5]
   have fM:W2.cell? ⟨w2.heap.size,0,none⟩=some v:=by simp [World.cell?,hhM]
   have fMz:W2.frozen? ⟨w2.heap.size,0,none⟩=false:=by simp [World.frozen?,hhM]
   refine hK.out _ _ (⟨f5,f4⟩) (fun hHeld=>?_)
   clear hK K
   refine oN (i:=6) rfl fun K hK=>?_
   go_simp
   refine hK.out _ _ (⟨(World.cell?_of_block (Below.heap_setCell W2 ⟨w2.heap.size,0,none⟩ _ _ (by show w.heap.size+1≠w2.heap.size;omega))).trans f5,(World.cell?_of_block (Below.heap_setCell W2 ⟨w2.heap.size,0,none⟩ _ _ (by show w.heap.size≠w2.heap.size;omega))).trans f4⟩) (fun hHeld=>?_)
   clear hK K
   refine wpAnyH_done (by kernel_rfl) ?_ _
   exact HF.out _ _ yeD yff yca
  ·go_simp
   refine (HC.out).mono ?_
   rintro e W1' ⟨rfl,rfl⟩
   refine hK.out _ _ (⟨hc5',hc4'⟩) (fun hHeld=>?_)
   clear hK K
   refine oN (i:=0) rfl fun K hK=>?_
   go_simp
   refine hK.out _ _ (⟨hc5',hc4'⟩) (fun hHeld=>?_)
   clear hK K
   refine oN (i:=5) rfl fun K hK=>?_
   go_simp
   refine (HN.out).mono ?_
   rintro e W2 ⟨v5,rfl,hg5⟩
   obtain ⟨yM,yeD,yff,hh4,hh5,hhM,yca⟩:=HC1.out.app hM hg5
   obtain ⟨p5,c5,rfl,-,-⟩:=zA yM
   obtain ⟨m5,HM5⟩:=ey ((L++be n y).length)
   rw [← HM5.out] at yM yeD yff yca ⊢
   have f4:W2.cell? ⟨w.heap.size,0,none⟩=some (.int .i64 (n:Int)):=by simp [World.cell?,hh4]
   have f5:W2.cell? ⟨w.heap.size+1,0,none⟩=some (.func (.func F) #[] #[.pointer (some ⟨Bl,0,none⟩)]):=by simp [World.cell?,hh5]
   have fM:W2.cell? ⟨w2.heap.size,0,none⟩=some v:=by simp [World.cell?,hhM]
   have fMz:W2.frozen? ⟨w2.heap.size,0,none⟩=false:=by simp [World.frozen?,hhM]
   refine hK.out _ _ (⟨f5,f4⟩) (fun hHeld=>?_)
   clear hK K
   refine oN (i:=6) rfl fun K hK=>?_
   go_simp
   refine hK.out _ _ (⟨(World.cell?_of_block (Below.heap_setCell W2 ⟨w2.heap.size,0,none⟩ _ _ (by show w.heap.size+1≠w2.heap.size;omega))).trans f5,(World.cell?_of_block (Below.heap_setCell W2 ⟨w2.heap.size,0,none⟩ _ _ (by show w.heap.size≠w2.heap.size;omega))).trans f4⟩) (fun hHeld=>?_)
   clear hK K
   refine wpAnyH_done (by kernel_rfl) ?_ _
   exact HF.out _ _ yeD yff yca
 case done =>
  rintro D xs W hD hxs ⟨v,hI⟩ hK
  rw [ylc l n xs hxs] at hI
  obtain ⟨G,HG⟩:=ey (jl n (stL st 0 (gl n k l)))
  obtain ⟨a,HA⟩:=ey (stE st 0 (gl n k l))
  rw [← HG.out,← HA.out] at hI
  obtain ⟨t,HT⟩:=ey (k*n)
  have htl:t≤len:=by rw [HT.out];exact HKN.out
  obtain ⟨rs,HRS⟩:=ey (l.drop t)
  have hGR:Hid (G++rs=R):=h_ (by rw [HG.out,HRS.out,HR.out,HT.out,ylb])
  have hGl:G.length=t:=by rw [HG.out,HT.out,uE,ydM,vV]
  have hrl:rs.length=len-t:=by rw [HRS.out,List.length_drop,← HL.out]
  have hRest:=h_ (yfR p c n t len l W.drew h1 h2 HL hl hc HPC.out (by rw [HT.out,HK.out];rfl) ((HBS.out.keep hI.bel).bs hI.lt))
  rw [← HRS.out] at hRest
  have hDI:=hI.drew
  have c4:W.drew.cell? ⟨w.heap.size,0,none⟩=some (.int .i64 (n:Int)):=by simp [World.cell?,hDI.b4]
  have cO:W.drew.cell? ⟨w2.heap.size,0,none⟩=some v:=by simp [World.cell?,hDI.out]
  have HOWN2:Hid (W.drew.ownsRow Bl 5 1 v G.length (zN G)):=h_ hDI.own
  have HBEL:Hid (Below Bl w W.drew):=h_ hDI.bel
  have hlt:Bl≤W.drew.heap.size:=hDI.lt
  have hkey:Hid (∀ v5 W5,Grew Bl W.drew v (G++rs) W5 v5→W5.cell? ⟨w.heap.size,0,none⟩=some (.int .i64 (n:Int))∧W5.cell? ⟨w2.heap.size,0,none⟩=some v∧W5.heap[D]?=some (.deferred (some []))∧(Below Bl w (W5.putObj D (.deferred none))∧(W5.putObj D (.deferred none)).ownsRow Bl 5 1 v5 R.length (zN R))):=h_ (fun v5 W5 hg=>by
   obtain ⟨-,-,-,q4,-,qO,-⟩:=hDI.app (by omega) hg
   have hD5:W5.heap[D]?=some (.deferred (some [])):=(hg.grown.block D (Array.getElem?_eq_some_iff.1 hK).1 (fun e=>by
    have:=ydj hDI.own D _ e.symm hK
    cases this)).trans hK
   have hb5:Below Bl w W5:=hDI.bel.grown hg.grown hlt (fun k e=>yal hDI.own e)
   have hsz:=hg.grown.size
   rw [hGR.out] at hg
   refine ⟨by simp [World.cell?,q4],by simp [World.cell?,qO],hD5,hb5.trans ((Below.refl Bl W5).grown (grownBy_putObj' W5 D _) (Nat.le_trans hlt hsz) (fun k e=>by cases e;omega)),uP hg.own (fun k cs h=>(World.putObj_heap_other (fun e=>by subst e;rw [hD5] at h;cases h)).trans h)⟩)
  clear hI hDI
  gi_wp2
  refine wpIn_wide.2 ?_
  refine wp_region_noPanic ?_
  refine wp_region_held_drew (S:=fun W'=>W'.cell? ⟨w.heap.size,0,none⟩=some (.int .i64 (n:Int))∧W'.cell? ⟨w2.heap.size,0,none⟩=some v) (by kernel_rfl) ⟨c4,cO⟩ (fun hHeld=>?_)
  refine tk (i:=0) (v:=v) rfl (Or.inl ⟨by rfl,by intro W' hSw;obtain ⟨e4,eO⟩:=hSw;go_simp⟩) ?_
  simp only [sl]
  refine tk (i:=1) (v:=.slice p len c) rfl (Or.inl ⟨by rfl,by intro W' hSw;obtain ⟨e4,eO⟩:=hSw;go_simp⟩) ?_
  simp only [sl]
  refine tk (i:=2) (v:=.int .i64 (n:Int)) rfl (Or.inl ⟨by rfl,by intro W' hSw;obtain ⟨e4,eO⟩:=hSw;go_simp⟩) ?_
  simp only [sl]
  refine oN (i:=3) rfl fun K hK=>?_
  go_simp
  refine (hRest.out).mono ?_
  rintro e W' ⟨rfl,q,d,rfl,hq⟩
  have HQ:=h_ hq
  clear hq
  refine hK.out _ _ (⟨c4,cO⟩) (fun hHeld=>?_)
  clear hK K
  refine oN (i:=4) rfl fun K hK9=>?_
  rw [if_pos (by rfl)]
  refine ya5 (.tmp 30) (.tmp 33) rfl Bl v G.length G rfl rfl HOWN2.out q (len-t) d rs rfl hrl HQ.out (by omega) hlt ?_
  intro v5 W5 hg5
  obtain ⟨f4,fO,fD,yF⟩:=hkey.out _ _ hg5
  refine hK9.out _ _ (⟨f4,fO⟩) (fun hHeld=>?_)
  clear hK9 K
  simp only [sl]
  refine oN (i:=5) rfl fun K hK=>?_
  go_simp
  refine hK.out _ _ (⟨f4,fO⟩) (fun hHeld=>?_)
  clear hK K
  refine oN (i:=6) rfl fun K hK=>?_
  go_simp
  refine hK.out _ _ (⟨f4,fO⟩) (fun hHeld=>?_)
  clear hK K
  refine wpAnyH_done (by kernel_rfl) ?_ _
  refine NoPanic.normal ?_
  gi_wp2
  refine ⟨by simp,.inl ⟨_,_,rfl,run_takeDeferred fD,?_⟩⟩
  refine ⟨_,?_,yF.1,v5,rfl,yF.2⟩
  simp [results,Tryz.f145,go_sem]
 case stop =>
  rintro D c pre W hD _ h
  exact h.elim
end Go.Proofs.YtgepehlpjpccaaaGreatDoor
namespace Go.Proofs.YtgepehlpjpccaaaGreatDoor
open Go.RowKit
open Go.Lib
theorem yaw {w:World} {B:Nat} {q:Oa} {n d:Nat} {L:Lb} (h:w.ownsRow B 5 1 (.slice q n d) L.length (zN L)):q=none→d=0:=by
 rintro rfl
 obtain ⟨-,⟨h1,-⟩|⟨g,cap,cur,h1,-⟩⟩:=h
 ·cases h1;rfl
 ·cases h1
def yez (L:Lb) (len:Nat) (w:World) (e:Ending) (w':World):Prop:=Be w w'∧∃ q d,e=.returned (.tuple #[.slice q len d,.int .i64 0])∧Hid (len≤d)∧Hid (q=none→d=0)∧Bs w' q L
theorem uR.bc {L:Lb} {len:Nat} {w w':World} {e:Ending} (h:uR L w e w') (hL:L.length=len):yez L len w e w':=by
 obtain ⟨h1,v,he,ho⟩:=h
 obtain ⟨q,d,hv,hb,hd⟩:=zA ho
 subst hL
 subst hv
 exact ⟨h1,q,d,he,h_ hd,h_ (yaw ho),hb⟩
end Go.Proofs.YtgepehlpjpccaaaGreatDoor
namespace Go.Proofs.YtgepehlpjpccaaaGreatDoor
def bv (b:Nat→Nat) (q:Nat):Nat→Nat
 | 0=>0
 | r+1=>bv b q r+b (8*q+r)*2^(7-r)
theorem yld (b:Nat→Nat) (q:Nat):∀ r,r≤8→2^(8-r) ∣ bv b q r
 | 0,_=>⟨0,rfl⟩
 | r+1,h=>by
  have h1:=yld b q r (by omega)
  have e:8-r=(7-r)+1:=by omega
  rw [e,Nat.pow_succ] at h1
  have h2:2^(7-r) ∣ bv b q r:=Nat.dvd_trans ⟨2,rfl⟩ h1
  have e2:8-(r+1)=7-r:=by omega
  rw [e2,bv]
  exact Nat.dvd_add h2 ⟨_,Nat.mul_comm _ _⟩
theorem ylB (b:Nat→Nat) (hb:∀ t,b t<2) (q:Nat):∀ r,r≤8→bv b q r+2^(8-r)≤256
 | 0,_=>by rw [bv];decide
 | r+1,h=>by
  have h1:=ylB b hb q r (by omega)
  have e:8-r=(7-r)+1:=by omega
  rw [e,Nat.pow_succ] at h1
  have e2:8-(r+1)=7-r:=by omega
  have h3:b (8*q+r)*2^(7-r)≤1*2^(7-r):=Nat.mul_le_mul_right _ (by have:=hb (8*q+r);omega)
  rw [e2,bv];omega
theorem yiW (b:Nat→Nat) (hb:∀ t,b t<2) (q:Nat) {r:Nat} (h:r≤8):(UInt8.ofNat (bv b q r)).toNat=bv b q r:=by
 rw [UInt8.toNat_ofNat']
 refine Nat.mod_eq_of_lt ?_
 have:=ylB b hb q r h
 have h2:0<2^(8-r):=Nat.pow_pos (by decide)
 show _<256
 omega
theorem yug (b:Nat→Nat) (hb:∀ t,b t<2) (q:Nat) {r:Nat} (h:r<8):bv b q r ||| b (8*q+r)*2^(7-r)=bv b q (r+1):=by
 obtain ⟨a,ha⟩:=yld b q r (by omega)
 have hlt:b (8*q+r)*2^(7-r)<2^(8-r):=by
  have e:8-r=(7-r)+1:=by omega
  have h3:b (8*q+r)*2^(7-r)≤1*2^(7-r):=Nat.mul_le_mul_right _ (by have:=hb (8*q+r);omega)
  have h2:0<2^(7-r):=Nat.pow_pos (by decide)
  rw [e,Nat.pow_succ];omega
 rw [bv,ha,Nat.two_pow_add_eq_or_of_lt hlt]
def pkL (b:Nat→Nat) (T:Nat):Lb:=(List.range ((T+7)/8)).map fun q=>UInt8.ofNat (bv b q (min 8 (T-8*q)))
theorem vF (b:Nat→Nat) (T:Nat):(pkL b T).length=(T+7)/8:=by simp [pkL]
theorem yle (b:Nat→Nat) {T q:Nat} (h:q<(T+7)/8):(pkL b T).getD q 0=UInt8.ofNat (bv b q (min 8 (T-8*q))):=by
 rw [List.getD_eq_getElem?_getD,pkL,List.getElem?_map,List.getElem?_range h];rfl
theorem ynD (b:Nat→Nat) {T:Nat} (h:T%8=0):pkL b (T+1)=pkL b T++[UInt8.ofNat (bv b (T/8) 1)]:=by
 have e1:(T+1+7)/8=(T+7)/8+1:=by omega
 have e2:(T+7)/8=T/8:=by omega
 rw [pkL,e1,List.range_succ,List.map_append,List.map_cons,List.map_nil,e2]
 have e3:min 8 (T+1-8*(T/8))=1:=by omega
 rw [e3,pkL,e2]
 congr 1
 refine List.map_congr_left fun q hq=>?_
 rw [List.mem_range] at hq
 have e4:min 8 (T+1-8*q)=min 8 (T-8*q):=by omega
 rw [e4]
theorem ynE (b:Nat→Nat) {T:Nat} (h:T%8≠0):pkL b (T+1)=(pkL b T).set (T/8) (UInt8.ofNat (bv b (T/8) (T%8+1))):=by
 have e1:(T+1+7)/8=(T+7)/8:=by omega
 refine List.ext_getElem? fun q=>?_
 rw [List.getElem?_set,pkL,pkL,e1]
 by_cases hq:q<(T+7)/8
 ·rw [List.getElem?_map,List.getElem?_range hq,Option.map_some]
  by_cases e:T/8=q
  ·rw [if_pos e,if_pos (by rw [List.length_map,List.length_range];omega),← e]
   have e3:min 8 (T+1-8*(T/8))=T%8+1:=by omega
   rw [e3]
  ·rw [if_neg e,List.getElem?_map,List.getElem?_range hq,Option.map_some]
   have e4:min 8 (T+1-8*q)=min 8 (T-8*q):=by omega
   rw [e4]
 ·rw [List.getElem?_eq_none (by rw [List.length_map,List.length_range];omega),if_neg (by omega),List.getElem?_eq_none (by rw [List.length_map,List.length_range];omega)]
abbrev bl (x:Nat):Nat:=Lib.bitLen x
theorem yqr:∀ (f x:Nat),Lib.bitLenAux f x≤f
 | 0,_=>Nat.le_refl _
 | f+1,x=>by
  rw [Lib.bitLenAux]
  split
  ·omega
  ·have:=yqr f (x/2);omega
theorem ypU (x:Nat):bl x≤64:=yqr 64 x
def mnL (gs:List Nat):Nat:=gs.foldl min 18446744073709551615
def mxL (gs:List Nat):Nat:=gs.foldl max 0
theorem ydO:∀ (gs:List Nat) (a:Nat),gs.foldl min a≤a∧∀ g ∈ gs,gs.foldl min a≤g
 | [],_=>⟨Nat.le_refl _,fun _ h=>by cases h⟩
 | x::gs,a=>by
  have h:=ydO gs (min a x)
  refine ⟨Nat.le_trans h.1 (Nat.min_le_left _ _),fun g hg=>?_⟩
  rw [List.mem_cons] at hg
  rcases hg with rfl|hg
  ·exact Nat.le_trans h.1 (Nat.min_le_right _ _)
  ·exact h.2 g hg
theorem ygc:∀ (gs:List Nat) (a:Nat),a≤gs.foldl max a∧∀ g ∈ gs,g≤gs.foldl max a
 | [],_=>⟨Nat.le_refl _,fun _ h=>by cases h⟩
 | x::gs,a=>by
  have h:=ygc gs (max a x)
  refine ⟨Nat.le_trans (Nat.le_max_left _ _) h.1,fun g hg=>?_⟩
  rw [List.mem_cons] at hg
  rcases hg with rfl|hg
  ·exact Nat.le_trans (Nat.le_max_right _ _) h.1
  ·exact h.2 g hg
theorem yfu {gs:List Nat} {g:Nat} (h:g ∈ gs):mnL gs≤g:=(ydO gs _).2 g h
theorem yqs {gs:List Nat} {g:Nat} (h:g ∈ gs):g≤mxL gs:=(ygc gs _).2 g h
theorem ygd {M:Nat}:∀ (gs:List Nat) (a:Nat),a<M→(∀ g ∈ gs,g<M)→gs.foldl max a<M
 | [],_,h,_=>h
 | x::gs,_,h,hg=>ygd gs _ (Nat.max_lt.2 ⟨h,hg x List.mem_cons_self⟩) (fun g h1=>hg g (List.mem_cons_of_mem _ h1))
theorem ylf {gs:List Nat} (h:∀ g ∈ gs,g<zR):mxL gs<zR:=ygd gs 0 (by decide) h
theorem yqt (gs:List Nat):mnL gs<zR:=Nat.lt_of_le_of_lt (ydO gs _).1 (by decide)
theorem ytV {gs:List Nat} (h:gs≠[]):mnL gs≤mxL gs:=by
 cases gs with
 | nil=>exact absurd rfl h
 | cons x gs=>exact Nat.le_trans (yfu List.mem_cons_self) (yqs List.mem_cons_self)
def wdL (gs:List Nat):Nat:=bl (mxL gs-mnL gs)
def btF (gs:List Nat) (m w t:Nat):Nat:=(gs.getD (t/w) 0-m)/2^(w-1-t%w)%2
theorem ylg (gs:List Nat) (m w t:Nat):btF gs m w t<2:=Nat.mod_lt _ (by decide)
theorem ylh (gs:List Nat) (m:Nat) {w i j:Nat} (hj:j<w):btF gs m w (i*w+j)=(gs.getD i 0-m)/2^(w-1-j)%2:=by
 have h1:(i*w+j)/w=i:=by rw [Nat.mul_comm,Nat.mul_add_div (by omega),Nat.div_eq_of_lt hj,Nat.add_zero]
 have h2:(i*w+j)%w=j:=by rw [Nat.mul_comm,Nat.mul_add_mod,Nat.mod_eq_of_lt hj]
 rw [btF,h1,h2]
def pkF (gs:List Nat):Lb:=pkL (btF gs (mnL gs) (wdL gs)) (gs.length*wdL gs)
def pkB (n:Nat) (gs:List Nat):Lb:=if gs.length=0 then be 4 0 else be 4 gs.length++be n (mnL gs)++[UInt8.ofNat (wdL gs)]++pkF gs
def ycm (n:Nat) (gs:List Nat) (rest:Lb):Lb:=pkB n gs++rest
end Go.Proofs.YtgepehlpjpccaaaGreatDoor
namespace Go.Proofs
open Go.Proofs.YtgepehlpjpccaaaGreatDoor
open Go.Shelf
def Tryz.lays129_ren:Go.Shelf.Ren:=⟨fun|129=>190|n=>n,fun|3=>3|4=>4|5=>5|9=>9|46=>50|53=>86|n=>n,fun|s=>s⟩
theorem Tryz.lays129:Go.Proofs.Lays.n129 Tryz.prog Tryz.lays129_ren:={
 mixed:=by kernel_rfl
 f129:=Tryz.func190.trans (congrArg some (by kernel_rfl))
 t3:=Tryz.underlying3
 a3:=Tryz.isAgg3
 z3:=Tryz.sizeOf3
 v3:=Tryz.zeroValue3
 t4:=Tryz.underlying4
 a4:=Tryz.isAgg4
 z4:=Tryz.sizeOf4
 v4:=Tryz.zeroValue4
 t5:=Tryz.underlying5
 a5:=Tryz.isAgg5
 z5:=Tryz.sizeOf5
 v5:=Tryz.zeroValue5
 t9:=Tryz.underlying9
 a9:=Tryz.isAgg9
 z9:=Tryz.sizeOf9
 v9:=Tryz.zeroValue9
 t46:=Tryz.underlying50
 a46:=Tryz.isAgg50
 z46:=Tryz.sizeOf50
 v46:=Tryz.zeroValue50
 t53:=Tryz.underlying86
 a53:=Tryz.isAgg86
 z53:=Tryz.sizeOf86
 v53:=Tryz.zeroValue86 }
theorem Tryz.len64_any (x:Nat) (w:World) (h:x<18446744073709551616):Calls Tryz.prog 190 #[.int .u64 (x:Int)] w (Qp (.int .i64 (Lib.bitLen x:Int)) w) :=
 (Any.bits_Len64 Tryz.lays129 (x:Int) w (by omega) (by omega)).mono fun e w' ⟨h1,h2⟩=>⟨by rw [h1,Int.toNat_natCast],h2.symm⟩
end Go.Proofs
namespace Go.Proofs.YtgepehlpjpccaaaGreatDoor
open Go.RowKit Go.Shelf
open Go.Lib
attribute [local go_sem] Oper.semAt_some
structure SpI (N n:Nat) (p:Oa) (len c:Nat) (w:World) (a z:Nat) (W:World):Prop where
 b6:W.heap[N]?=some (.cells #[.int .u64 (a:Int)] 86 (0,0))
 b7:W.heap[N+1]?=some (.cells #[.int .u64 (z:Int)] 86 (0,0))
 i1:W.heap[N+1+1]?=some (.cells #[.slice p len c] 39 (0,0))
 i2:W.heap[N+1+1+1]?=some (.cells #[.int .i64 (n:Int)] 3 (0,0))
 bel:Below N w W
section
variable {N n : Nat} {p : Oa} {len c : Nat} {w W W' : World} {a z : Nat}
theorem SpI.keep (h:SpI N n p len c w a z W) {row:Option Nat} (hg:W.grownBy W' row) (hr:∀ r,row=some r→N≤r∧∃ o:Obj,W.heap[r]?=some o∧o.isCells=false) (hB:N≤W.heap.size):SpI N n p len c w a z W':=by
 have hk:∀ {k:Nat} {o:Obj},W.heap[k]?=some o→o.isCells=true→W'.heap[k]?=some o:=fun h1 h2=>(grownBy_keeps_cells hg (fun r e=>(hr r e).2) h1 h2).trans h1
 exact ⟨hk h.b6 rfl,hk h.b7 rfl,hk h.i1 rfl,hk h.i2 rfl,h.bel.grown hg hB (fun k e=>(hr k e).1)⟩
theorem SpI.lt (h:SpI N n p len c w a z W):N≤W.heap.size:=Nat.le_of_lt (Array.getElem?_eq_some_iff.1 h.b6).1
theorem SpI.put6 (h:SpI N n p len c w a z W) (a':Nat):SpI N n p len c w a' z (W.setCell ⟨N,0,none⟩ (.int .u64 (a':Int))):=by
 have hk:∀ {k:Nat} {o:Obj},k≠N→W.heap[k]?=some o→(W.setCell ⟨N,0,none⟩ (.int .u64 (a':Int))).heap[k]?=some o:=fun hne h1=>(Below.heap_setCell W ⟨N,0,none⟩ _ _ hne).trans h1
 exact ⟨vL h.b6,hk (by omega) h.b7,hk (by omega) h.i1,hk (by omega) h.i2,h.bel.setCell (p:=⟨N,0,none⟩) nl _⟩
theorem SpI.put7 (h:SpI N n p len c w a z W) (z':Nat):SpI N n p len c w a z' (W.setCell ⟨N+1,0,none⟩ (.int .u64 (z':Int))):=by
 have hk:∀ {k:Nat} {o:Obj},k≠N+1→W.heap[k]?=some o→(W.setCell ⟨N+1,0,none⟩ (.int .u64 (z':Int))).heap[k]?=some o:=fun hne h1=>(Below.heap_setCell W ⟨N+1,0,none⟩ _ _ hne).trans h1
 exact ⟨hk (by omega) h.b6,vL h.b7,hk (by omega) h.i1,hk (by omega) h.i2,h.bel.setCell (p:=⟨N+1,0,none⟩) (by simp) _⟩
end
def yka (gs:List Nat) (w:World) (e:Ending) (w':World):Prop:=Be w w'∧e=.returned (.tuple #[.int .u64 (mnL gs:Int),.int .i64 (wdL gs:Int)])
theorem yrW (p:Oa) (c n len k:Nat) (l:Lb) (w:World) (HL:Hid (len=l.length)) (HK:Hid (k=len/n)) (h1:1≤n) (h2:n≤8) (hl:len≤1048576) (hc:len≤c) (hk0:0<k) (hbs:Bs w p l) :
  Calls Tryz.prog 149 #[.slice p len c,.int .i64 (n:Int)] w (yka (gl n k l) w):=by
 have HBS:Hid (BsN w.heap.size w p l):=h_ hbs.bsN
 obtain ⟨gs,HGS⟩:=ey (gl n k l)
 have HGL:Hid (gs≠[]∧∀ g ∈ gs,g<zR):=h_ (by
  rw [HGS.out]
  exact ⟨fun e=>by rw [← List.length_eq_zero_iff,vV] at e;omega,yiV h2 k l⟩)
 rw [← HGS.out]
 clear hbs
 refine (callsIn_wide (n:=9)).1 ?_
 refine callsIn_of_wp_marks Tryz.func149 rfl trivial ?_ rfl
 simp only [Tryz.ntmps149,List.size_toArray,List.length_cons,List.length_nil,Nat.reduceAdd,Nat.reduceSub,Array.replicate_succ,Array.replicate_zero,List.push_toArray,List.append_toArray,List.nil_append,List.cons_append]
 gi_wp2_with (refine ⟨trivial,?_⟩;gi_at_call 188;refine (ydN _ _ _ _ _ _).mono ?_;rintro e w' ⟨rfl,rfl⟩)
 obtain ⟨W0,hW0⟩:∃ W0,((((w.alloc (.cells #[.int .u64 18446744073709551615] 86)).alloc (.cells #[.int .u64 0] 86)).alloc (.cells #[.slice p len c] 39)).alloc (.cells #[.int .i64 (n:Int)] 3))=W0:=⟨_,rfl⟩
 have hs0:W0.heap.size=w.heap.size+4:=by rw [← hW0];simp
 have hI0:SpI w.heap.size n p len c w 18446744073709551615 0 W0:=by
  rw [← hW0]
  refine ⟨?_,?_,?_,?_,((((Below.refl _ w).alloc nl _).alloc (by simp) _).alloc (by simp<;>omega) _).alloc (by simp<;>omega) _⟩
  ·exact (Below.heap_alloc _ _ _ (by simp<;>omega)).trans ((Below.heap_alloc _ _ _ (by simp<;>omega)).trans ((Below.heap_alloc _ _ _ (by simp)).trans (World.alloc_heap_new w _)))
  ·refine (Below.heap_alloc _ _ _ (by simp<;>omega)).trans ((Below.heap_alloc _ _ _ (by simp)).trans ?_)
   have:=World.alloc_heap_new (w.alloc (.cells #[.int .u64 18446744073709551615] 86)) (.cells #[.int .u64 0] 86);rwa [World.size_alloc] at this
  ·refine (Below.heap_alloc _ _ _ (by simp)).trans ?_
   have:=World.alloc_heap_new ((w.alloc (.cells #[.int .u64 18446744073709551615] 86)).alloc (.cells #[.int .u64 0] 86)) (.cells #[.slice p len c] 39);rwa [World.size_alloc,World.size_alloc] at this
  ·have:=World.alloc_heap_new (((w.alloc (.cells #[.int .u64 18446744073709551615] 86)).alloc (.cells #[.int .u64 0] 86)).alloc (.cells #[.slice p len c] 39)) (.cells #[.int .i64 (n:Int)] 3);rwa [World.size_alloc,World.size_alloc,World.size_alloc] at this
 rw [hW0]
 refine wpIn_rangeFunc_ownF rfl (by omega) (gf:=222) (lb:=#[.pointer (some ⟨w.heap.size+1+1+1,0,none⟩),.pointer (some ⟨w.heap.size+1+1,0,none⟩)]) rfl trivial (enters_of Tryz.func222 (by kernel_rfl) rfl)
  (ybS _ (by omega) (w.heap.size+1+1+1) (w.heap.size+1+1) w.heap.size n len k c l p HL HK h1 h2 hl hc W0 (by omega) (by omega) (by omega) (by simp [World.cell?,hI0.i2]) (by simp [World.cell?,hI0.i1]) (HBS.out.keep hI0.bel)) GE.trans
  (fun W lo o o' hlo ho hc hw=>⟨(Below.refl _ W).grown (grownBy_putObj' W lo o') (by have:=(Array.getElem?_eq_some_iff.1 ho).1;omega) (fun k e=>by cases e;omega),World.putObj_heap_other (by omega),World.putObj_heap_other (by omega)⟩) bR (fun _=>rfl)
  (fun pre W=>SpI w.heap.size n p len c w ((gP l n pre).foldl min 18446744073709551615) ((gP l n pre).foldl max 0) W)
  (fun _ _ _=>False)
  (fun s W W' row h hg hr=>h.keep hg (fun r e=>⟨by have:=(hr r e).1;omega,(hr r e).2⟩) h.lt)
  (fun _ _ _ _ _ h _ _=>h)
  hI0 ?a1 ?assign ?body ?done ?stop
 case assign =>
  intro lo x W K hK
  gi_wp2
  exact hK
 case body =>
  intro lo pre x W hI hlen
  obtain ⟨a,HA⟩:=ey ((gP l n pre).foldl min 18446744073709551615)
  obtain ⟨z,HZ⟩:=ey ((gP l n pre).foldl max 0)
  rw [← HA.out,← HZ.out] at hI
  obtain ⟨g,HG⟩:=ey (gN l n x.1)
  obtain ⟨a2,HA2⟩:=ey (min a g)
  obtain ⟨z2,HZ2⟩:=ey (max z g)
  have e10:(nb ((l.drop (x.1*n)).take n))=g:=HG.out.symm
  have ypd:min (a:Int) (g:Int)=(a2:Int):=by rw [HA2.out];omega
  have hmax:max (z:Int) (g:Int)=(z2:Int):=by rw [HZ2.out];omega
  have c6:W.cell? ⟨w.heap.size,0,none⟩=some (.int .u64 (a:Int)):=by simp [World.cell?,hI.b6]
  have f6:W.frozen? ⟨w.heap.size,0,none⟩=false:=by simp [World.frozen?,hI.b6]
  have hI1:=hI.put6 a2
  have hI2:=hI1.put7 z2
  have hF:KeepsOthers W ((W.setCell ⟨w.heap.size,0,none⟩ (.int .u64 (a2:Int))).setCell ⟨w.heap.size+1,0,none⟩ (.int .u64 (z2:Int)))∧GE w.heap.size (w.heap.size+1+1+1) (w.heap.size+1+1) W ((W.setCell ⟨w.heap.size,0,none⟩ (.int .u64 (a2:Int))).setCell ⟨w.heap.size+1,0,none⟩ (.int .u64 (z2:Int))) ∧
    SpI w.heap.size n p len c w ((gP l n (pre++[x])).foldl min 18446744073709551615) ((gP l n (pre++[x])).foldl max 0) ((W.setCell ⟨w.heap.size,0,none⟩ (.int .u64 (a2:Int))).setCell ⟨w.heap.size+1,0,none⟩ (.int .u64 (z2:Int))):=by
   refine ⟨(KeepsOthers.setCell _ _ _).trans (KeepsOthers.setCell _ _ _),⟨((Below.refl _ W).setCell (p:=⟨w.heap.size,0,none⟩) nl _).setCell (p:=⟨w.heap.size+1,0,none⟩) (by simp) _,hI2.i2.trans hI.i2.symm,hI2.i1.trans hI.i1.symm⟩,?_⟩
   rw [yig,List.foldl_append,List.foldl_append,← HA.out,← HZ.out,← HG.out]
   show SpI _ _ _ _ _ _ (min a g) (max z g) _
   rw [← HA2.out,← HZ2.out]
   exact hI2
  have HFh:=h_ hF
  obtain ⟨W1,hW1⟩:∃ W1,W.setCell ⟨w.heap.size,0,none⟩ (.int .u64 (a2:Int))=W1:=⟨_,rfl⟩
  rw [hW1] at hI1 HFh
  have c7:W1.cell? ⟨w.heap.size+1,0,none⟩=some (.int .u64 (z:Int)):=by simp [World.cell?,hI1.b7]
  have f7:W1.frozen? ⟨w.heap.size+1,0,none⟩=false:=by simp [World.frozen?,hI1.b7]
  simp only [e10]
  clear hF hI hI1 hI2 e10
  gi_wp2
  exact HFh.out
 case done =>
  intro D xs W hD hxs hI hK
  rw [ylc l n xs hxs,← HGS.out] at hI
  have hI':SpI w.heap.size n p len c w (mnL gs) (mxL gs) W:=hI
  obtain ⟨a,HA⟩:=ey (mnL gs)
  obtain ⟨z,HZ⟩:=ey (mxL gs)
  obtain ⟨d,HD⟩:=ey (z-a)
  have yF:Hid (∀ W5:World,W5=W.drew→(W5.putObj D (.deferred none)=W5.putObj D (.deferred none)∧yka gs w (.returned (.tuple #[.int .u64 (a:Int),.int .i64 (Lib.bitLen d:Int)])) (W5.putObj D (.deferred none)))):=h_ (fun W5 h5=>⟨rfl,by
   rw [h5];exact hI'.bel.drew.trans (bR.grown (grownBy_putObj' W.drew D _) hI'.lt (fun k e=>by cases e;omega)),by rw [HA.out,HD.out,HA.out,HZ.out];rfl⟩)
  rw [← HA.out,← HZ.out] at hI'
  have ybp:IntKind.u64.wrap ((z:Int)-(a:Int))=(d:Int):=by
   have q1:=ytV HGL.out.1
   have q2:=ylf HGL.out.2
   rw [← HA.out,← HZ.out] at q1
   rw [← HZ.out] at q2
   rw [IntKind.wrap_u64,HD.out];unfold zR at q2;omega
  have HC:=h_ (Tryz.len64_any d W.drew (by
   have q2:=ylf HGL.out.2
   rw [← HZ.out] at q2
   rw [HD.out];unfold zR at q2;omega))
  have c6:W.drew.cell? ⟨w.heap.size,0,none⟩=some (.int .u64 (a:Int)):=by show W.cell? _=_;simp [World.cell?,hI'.b6]
  have c7:W.drew.cell? ⟨w.heap.size+1,0,none⟩=some (.int .u64 (z:Int)):=by show W.cell? _=_;simp [World.cell?,hI'.b7]
  have hKD:W.drew.heap[D]?=some (.deferred (some [])):=hK
  clear hI hI'
  gi_wp2
  refine wpIn_wide.2 ?_
  refine wp_region_noPanic ?_
  refine wp_region_held_drew (S:=fun W'=>W'.cell? ⟨w.heap.size,0,none⟩=some (.int .u64 (a:Int))∧W'.cell? ⟨w.heap.size+1,0,none⟩=some (.int .u64 (z:Int))) (by kernel_rfl) ⟨c6,c7⟩ (fun hHeld=>?_)
  refine tk (i:=0) (v:=.int .u64 (a:Int)) rfl (Or.inl ⟨by rfl,by intro W' hSw;obtain ⟨e6,e7⟩:=hSw;go_simp⟩) ?_
  simp only [sl]
  refine tk (i:=1) (v:=.int .u64 (z:Int)) rfl (Or.inl ⟨by rfl,by intro W' hSw;obtain ⟨e6,e7⟩:=hSw;go_simp⟩) ?_
  simp only [sl]
  refine tk (i:=2) (v:=.int .u64 (a:Int)) rfl (Or.inl ⟨by rfl,by intro W' hSw;obtain ⟨e6,e7⟩:=hSw;go_simp⟩) ?_
  simp only [sl]
  refine tk (i:=3) (v:=.int .u64 (d:Int)) rfl (Or.inl ⟨by rfl,by intro W' hSw;obtain ⟨e6,e7⟩:=hSw;go_simp⟩) ?_
  simp only [sl]
  refine oN (i:=4) rfl fun K hK=>?_
  go_simp
  refine (HC.out).mono ?_
  rintro e W' ⟨rfl,rfl⟩
  refine hK.out _ _ (⟨c6,c7⟩) (fun hHeld=>?_)
  clear hK K
  refine oN (i:=5) rfl fun K hK=>?_
  go_simp
  refine hK.out _ _ (⟨c6,c7⟩) (fun hHeld=>?_)
  clear hK K
  refine oN (i:=6) rfl fun K hK=>?_
  go_simp
  refine hK.out _ _ (⟨c6,c7⟩) (fun hHeld=>?_)
  clear hK K
  refine wpAnyH_done (by kernel_rfl) ?_ _
  refine NoPanic.normal ?_
  gi_wp2
  refine ⟨by simp,.inl ⟨_,_,rfl,run_takeDeferred hKD,?_⟩⟩
  refine ⟨_,?_,(yF.out _ rfl).2⟩
  simp [results,Tryz.f149,go_sem]
 case stop =>
  rintro D c pre W hD _ h
  exact h.elim
attribute [local go_sem] Oper.semAt_some
theorem yoY {b b':Nat→Nat} {T:Nat} (h:∀ t,t<T→b t=b' t):pkL b T=pkL b' T:=by
 have hv:∀ q r,8*q+r≤T→bv b q r=bv b' q r:=by
  intro q r
  induction r with
  | zero=>intro _;rfl
  | succ r ih=>intro hr;rw [bv,bv,ih (by omega),h (8*q+r) (by omega)]
 unfold pkL
 refine List.map_congr_left fun q hq=>?_
 rw [List.mem_range] at hq
 rw [hv q _ (by omega)]
theorem ymU {gs:List Nat} {g m w t:Nat} (h:t<gs.length*w):btF (gs++[g]) m w t=btF gs m w t:=by
 have hw:0<w:=by
  rcases Nat.eq_zero_or_pos w with h0|h0
  ·rw [h0,Nat.mul_zero] at h;omega
  ·exact h0
 have h1:t/w<gs.length:=(Nat.div_lt_iff_lt_mul hw).2 h
 rw [btF,btF,List.getD_eq_getElem?_getD,List.getD_eq_getElem?_getD,List.getElem?_append_left h1]
structure PkI (N n:Nat) (p:Oa) (len c m wd:Nat) (w:World) (v:Value) (L:Lb) (T:Nat) (W:World):Prop where
 own:W.ownsRow N 5 1 v L.length (zN L)
 b6:W.heap[N]?=some (.cells #[.int .u64 (m:Int)] 86 (0,0))
 b7:W.heap[N+1]?=some (.cells #[.int .i64 (wd:Int)] 3 (0,0))
 out:W.heap[N+1+1]?=some (.cells #[v] 39 (0,0))
 b10:W.heap[N+1+1+1]?=some (.cells #[.int .i64 (T:Int)] 3 (0,0))
 i1:W.heap[N+1+1+1+1]?=some (.cells #[.slice p len c] 39 (0,0))
 i2:W.heap[N+1+1+1+1+1]?=some (.cells #[.int .i64 (n:Int)] 3 (0,0))
 bel:Below N w W
section
variable {N n : Nat} {p : Oa} {len c m wd : Nat} {w W W' : World} {v v' : Value} {L L' : Lb} {T T' : Nat}
theorem PkI.keep (h:PkI N n p len c m wd w v L T W) {row:Option Nat} (hg:W.grownBy W' row) (hr:∀ r,row=some r→N≤r∧∃ o:Obj,W.heap[r]?=some o∧o.isCells=false) (hB:N≤W.heap.size):PkI N n p len c m wd w v L T W':=by
 have hk:∀ {k:Nat} {o:Obj},W.heap[k]?=some o→o.isCells=true→W'.heap[k]?=some o:=fun h1 h2=>(grownBy_keeps_cells hg (fun r e=>(hr r e).2) h1 h2).trans h1
 exact ⟨uP h.own (fun k cs h1=>hk h1 rfl),hk h.b6 rfl,hk h.b7 rfl,hk h.out rfl,hk h.b10 rfl,hk h.i1 rfl,hk h.i2 rfl,h.bel.grown hg hB (fun k e=>(hr k e).1)⟩
theorem PkI.lt (h:PkI N n p len c m wd w v L T W):N≤W.heap.size:=Nat.le_of_lt (Array.getElem?_eq_some_iff.1 h.b6).1
theorem PkI.drew (h:PkI N n p len c m wd w v L T W):PkI N n p len c m wd w v L T W.drew:=⟨h.own,h.b6,h.b7,h.out,h.b10,h.i1,h.i2,h.bel.drew⟩
theorem PkI.put10 (h:PkI N n p len c m wd w v L T W) (T':Nat):PkI N n p len c m wd w v L T' (W.setCell ⟨N+1+1+1,0,none⟩ (.int .i64 (T':Int))):=by
 have hk:∀ {k:Nat} {o:Obj},k≠N+1+1+1→W.heap[k]?=some o→(W.setCell ⟨N+1+1+1,0,none⟩ (.int .i64 (T':Int))).heap[k]?=some o:=fun hne h1=>(Below.heap_setCell W ⟨N+1+1+1,0,none⟩ _ _ hne).trans h1
 refine ⟨uP h.own (fun k cs h3=>hk ?_ h3),hk (by omega) h.b6,hk (by omega) h.b7,hk (by omega) h.out,vL h.b10,hk (by omega) h.i1,hk (by omega) h.i2,h.bel.setCell (p:=⟨N+1+1+1,0,none⟩) (by show N≤N+1+1+1;omega) _⟩
 rintro rfl
 rw [h.b10] at h3;cases h3
theorem PkI.app (h:PkI N n p len c m wd w v L T W) (hg:Grew N W v L' W' v'):W'.ownsRow N 5 1 v' L'.length (zN L')∧PkI N n p len c m wd w v' L' T (W'.setCell ⟨N+1+1,0,none⟩ v')∧KeepsOthers W (W'.setCell ⟨N+1+1,0,none⟩ v')∧W'.heap[N+1+1]?=some (.cells #[v] 39 (0,0))∧Below N W (W'.setCell ⟨N+1+1,0,none⟩ v'):=by
 have hk:∀ {k:Nat} {cs:Array Value} {t:TypeId},W.heap[k]?=some (.cells cs t (0,0))→t≠5→W'.heap[k]?=some (.cells cs t (0,0)):=fun h1 h2=>(hg.grown.block _ (Array.getElem?_eq_some_iff.1 h1).1 (yhG h.own h1 h2)).trans h1
 have hs:∀ {k:Nat} {o:Obj},k≠N+1+1→W'.heap[k]?=some o→(W'.setCell ⟨N+1+1,0,none⟩ v').heap[k]?=some o:=fun hne h1=>(Below.heap_setCell W' ⟨N+1+1,0,none⟩ _ _ hne).trans h1
 have hO:=hk h.out (by decide)
 have hne:∀ {k:Nat} {cs:Array Value},W'.heap[k]?=some (.cells cs 5 (0,0))→k≠N+1+1:=by
  rintro k cs h1 rfl
  rw [hO] at h1;cases h1
 have hb1:Below N w W':=h.bel.grown hg.grown h.lt (fun k e=>yal h.own e)
 refine ⟨hg.own,⟨uP hg.own (fun k cs h3=>hs (hne h3) h3),hs (by omega) (hk h.b6 (by decide)),hs (by omega) (hk h.b7 (by decide)),vL hO,hs (by omega) (hk h.b10 (by decide)),hs (by omega) (hk h.i1 (by decide)),hs (by omega) (hk h.i2 (by decide)),hb1.setCell (p:=⟨N+1+1,0,none⟩) (by show N≤N+1+1;omega) _⟩,(KeepsOthers.of_grownBy hg.grown (ydj h.own)).trans (KeepsOthers.setCell _ _ _),hO,((Below.refl N W).grown hg.grown h.lt (fun k e=>yal h.own e)).setCell (p:=⟨N+1+1,0,none⟩) (by show N≤N+1+1;omega) _⟩
theorem PkI.set (h:PkI N n p len c m wd w v L T W) (hl:0<L.length):∃ g cap,v=.slice (some ⟨g,0,none⟩) L.length cap∧L.length≤cap∧(∀ j,j<L.length→W.cell? ⟨g,j,none⟩=some (.int .u8 (((L.getD j 0).toNat:Nat):Int)))∧(∀ j,W.frozen? ⟨g,j,none⟩=false)∧(∀ k,k≤N+1+1+1+1+1→N≤k→k≠g)∧∀ k (y:UInt8),k<L.length→PkI N n p len c m wd w v (L.set k y) T (W.setCell ⟨g,k,none⟩ (.int .u8 (y.toNat:Int)))∧Below N W (W.setCell ⟨g,k,none⟩ (.int .u8 (y.toNat:Int))):=by
 obtain ⟨g,cap,hv,hcap,hg,hgl,hc,hf,GZ⟩:=yat h.own hl
 have hx:∀ {k:Nat} {cs:Array Value} {t:TypeId},W.heap[k]?=some (.cells cs t (0,0))→t≠5→k≠g:=by
  rintro k cs t h1 h2 rfl
  have:=yhG h.own h1 h2
  rw [hv] at this;exact this rfl
 refine ⟨g,cap,hv,hcap,hc,hf,fun k hk1 hk2=>?_,fun k y hk=>?_⟩
 ·have:k=N∨k=N+1∨k=N+1+1∨k=N+1+1+1∨k=N+1+1+1+1∨k=N+1+1+1+1+1:=by omega
  rcases this with rfl|rfl|rfl|rfl|rfl|rfl
  ·exact hx h.b6 (by decide)
  ·exact hx h.b7 (by decide)
  ·exact hx h.out (by decide)
  ·exact hx h.b10 (by decide)
  ·exact hx h.i1 (by decide)
  ·exact hx h.i2 (by decide)
 ·have hk':∀ {j:Nat} {cs:Array Value} {t:TypeId},W.heap[j]?=some (.cells cs t (0,0))→t≠5→(W.setCell ⟨g,k,none⟩ (.int .u8 (y.toNat:Int))).heap[j]?=some (.cells cs t (0,0)):=fun h1 h2=>(Below.heap_setCell W ⟨g,k,none⟩ _ _ (hx h1 h2)).trans h1
  have ho:=GZ k y hk
  rw [show L.length=(L.set k y).length by rw [List.length_set]] at ho
  exact ⟨⟨ho,hk' h.b6 (by decide),hk' h.b7 (by decide),hk' h.out (by decide),hk' h.b10 (by decide),hk' h.i1 (by decide),hk' h.i2 (by decide),h.bel.setCell (p:=⟨g,k,none⟩) hg _⟩,(Below.refl N W).setCell (p:=⟨g,k,none⟩) hg _⟩
end
end Go.Proofs.YtgepehlpjpccaaaGreatDoor
