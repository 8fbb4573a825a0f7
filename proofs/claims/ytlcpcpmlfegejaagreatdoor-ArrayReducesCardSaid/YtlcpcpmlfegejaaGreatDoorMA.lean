/- A list's clone, as a row. -/
import Derived.Test.YtlcpcpmlfegejaaGreatDoorGL
set_option maxHeartbeats 1600000
set_option maxRecDepth 100000
namespace Go.Proofs.YtlcpcpmlfegejaaGreatDoor.Arr
open Go.RowKit Go.Shelf
open Go.Lib
attribute [local go_sem] Oper.semAt_some
def CloneRow (n:Nat) (s:List Nat) (w:World) (e:Ending) (w':World):Prop:=Below w.heap.size w w'∧∃ b d,e=.returned (.slice (some ⟨b,0,none⟩) n d)∧RdN w' (some ⟨b,0,none⟩) s∧(n≤d∧d≤maxLen)∧w.heap.size≤b∧∃ cur,w'.heap[b]?=some (.cells cur 3 (0,0))
theorem rdn_own2 {w:World} {B n:Nat} {v:Value} {s:List Nat} (hs:s.length=n) (h0:0<n) (hb:∀ x ∈ s,x≤1024) (h:w.ownsRow B 3 1 v n (s.map (fun x=>Value.int .i64 ((x:Nat):Int)))):∃ b d,v=.slice (some ⟨b,0,none⟩) n d∧RdN w (some ⟨b,0,none⟩) s∧(n≤d∧d≤maxLen)∧B≤b∧∃ cur,w.heap[b]?=some (.cells cur 3 (0,0)):=by
 obtain ⟨q,d,e,h1,h2,-,h4⟩:=rdn_own hs hb h
 obtain ⟨-,⟨e2,h3⟩|⟨g,cap,cur,e2,hg,hh,-,hcm,-⟩⟩:=h
 ·omega
 ·rw [e] at e2
  injection e2 with e3 _ e4
  subst e3
  subst e4
  exact ⟨g,d,e,h1,⟨h2,hcm⟩,hg,cur,hh⟩
theorem clone_row (a:Addr) (n c:Nat) (s:List Nat) (w:World) (hs:Hid (s.length=n)) (hn:n≤4) (h0:0<n) (hb:Hid (∀ x ∈ s,x≤1024)) (h:RdN w (some a) s) :
  Calls Tryz.prog 78 #[.slice (some a) n c] w (CloneRow n s w):=by
 have H:=Lib.hid h
 have H0:=Lib.hid h0
 have heq:∀ W:World,(binOp .eql 29 (.slice (some a) n c) (.slice none 0 0)).run Tryz.prog W=.ok (.bool false) W:=fun W=>by kernel_rfl
 have HBa:Hid (Below w.heap.size w (w.alloc (.cells #[] 3))):=Lib.hid ((Below.refl _ w).alloc (Nat.le_refl _) _)
 have hown:Hid ((w.alloc (.cells #[] 3)).ownsRow w.heap.size 3 1 (.slice (some ⟨w.heap.size,0,none⟩) 0 0) 0 (([]:List Nat).map (fun x=>Value.int .i64 ((x:Nat):Int)))):=Lib.hid ⟨rfl,.inr ⟨w.heap.size,0,#[],rfl,Nat.le_refl _,World.alloc_heap_new w _,Nat.le_refl _,Nat.zero_le _,rfl,rfl⟩⟩
 have hsz:Hid (w.heap.size≤(w.alloc (.cells #[] 3)).heap.size):=Lib.hid (by simp)
 clear h h0
 go_enter Tryz.func78,Tryz.ntmps78
 go_wp2_with (at_builtin;refine wpList_append_ns rfl (.tmp 5) (.tmp 6) rfl w.heap.size _ [] rfl hown.out (some a) n c s rfl hs.out (H.out.below HBa.out) (by simp;omega) hsz.out ?_)
 intro v5 w5 hown5 hg5 _
 obtain ⟨b,d,rfl,hq⟩:=rdn_own2 (s:=s) (n:=n) hs.out H0.out hb.out (by simpa using hown5)
 have hfin:Hid (CloneRow n s w (.returned (.slice (some ⟨b,0,none⟩) n d)) w5):=Lib.hid ⟨HBa.out.trans ((Below.refl _ _).grown hg5 hsz.out (fun k e=>own_ge' hown.out e)),b,d,rfl,hq⟩
 clear hown5 hg5 hq
 go_wp2_with fail
 go_ret
 exact hfin.out
end Go.Proofs.YtlcpcpmlfegejaaGreatDoor.Arr
set_option maxHeartbeats 4000000
set_option maxRecDepth 100000
namespace Go.Proofs.YtlcpcpmlfegejaaGreatDoor.Arr
open Go.RowKit Go.Shelf
open Go.Lib
attribute [local go_sem] Oper.semAt_some
structure GR (R:Nat→Prop) (A B:World):Prop where
 os:B.os=A.os
 tape:B.tape=A.tape
 output:B.output=A.output
 size:A.heap.size≤B.heap.size
 block:∀ k,k<A.heap.size→¬ R k→B.heap[k]?=A.heap[k]?
theorem GR.trans {R:Nat→Prop} {A B C:World} (h:GR R A B) (g:GR R B C):GR R A C :=
 ⟨g.os.trans h.os,g.tape.trans h.tape,g.output.trans h.output,Nat.le_trans h.size g.size,fun k hk hn=>(g.block k (Nat.lt_of_lt_of_le hk h.size) hn).trans (h.block k hk hn)⟩
theorem GR.of_below {A B:World} (h:Below A.heap.size A B) (R:Nat→Prop):GR R A B:=⟨h.os,h.tape,h.output,h.size,fun k hk _=>h.block k hk⟩
theorem GR.new {R:Nat→Prop} {A B C:World} {row:Option Nat} (h:GR R A B) (g:B.grownBy C row) (hr:∀ k,row=some k→A.heap.size≤k):GR R A C :=
 ⟨g.os.trans h.os,g.tape.trans h.tape,g.output.trans h.output,Nat.le_trans h.size g.size,fun k hk hn=>(g.block k (Nat.lt_of_lt_of_le hk h.size) (by intro e;have:=hr k e.symm;omega)).trans (h.block k hk hn)⟩
structure BR (w:World) (N:Nat) (fv:Value) (val:Nat→List UInt8) (R:Nat→Prop) (Ok:World→Prop) (pre:List (Nat × Nat)) (W:World):Prop where
 old:GR R w W
 bv:W.heap[w.heap.size]?=some (.cells #[fv] 89 (0,0))
 br:W.heap[w.heap.size+1]?=some (.cells #[.slice none 0 0,.slice none 0 0] 31 (0,0))
 vals:∃ l:List (List UInt8),l.length=N∧W.heap[w.heap.size+1+1]?=some (.cells (strC l) 9 (0,0))∧∀ y ∈ pre,y.1<N→l.getD y.1 []=val y.1
 bx:W.heap[w.heap.size+1+1+1]?=some (.cells #[.slice (some ⟨w.heap.size+1+1,0,none⟩) N N] 22 (0,0))
 ok:Ok W
def BuildPostR (w:World) (n N:Nat) (s:List Nat) (val:Nat→List UInt8) (R:Nat→Prop) (Ok:World→Prop) (e:Ending) (w':World):Prop :=
 GR R w w'∧Ok w'∧∃ b d V,e=.returned (.agg #[.slice (some ⟨b,0,none⟩) n d,.slice (some ⟨V,0,none⟩) N N])∧RdN w' (some ⟨b,0,none⟩) s∧(n≤d∧d≤maxLen)∧w.heap.size≤b∧(∃ cur,w'.heap[b]?=some (.cells cur 3 (0,0)))∧RdS w' (some ⟨V,0,none⟩) ((List.range N).map val)∧w.heap.size≤V
def CloR (w:World) (kf:Nat) (cap:Array Value) (n N:Nat) (s:List Nat) (val:Nat→List UInt8) (R:Nat→Prop) (Ok:World→Prop):Prop :=
 ∀ i g W,i<N→Ok W→W.heap[g]?=some (.cells (ixC (ixOf s i)) 3 (0,0))→w.heap.size≤g→Calls Tryz.prog kf (#[.slice (some ⟨g,0,none⟩) n n]++cap) W fun e W'=>e=.returned (.string ⟨List.toArray (val i)⟩)∧GR R W W'∧KeepsOthers W W'∧Ok W'
section
variable {w A A' : World} {N : Nat} {fv : Value} {val : Nat → List UInt8} {R : Nat → Prop} {Ok : World → Prop} {pre : List (Nat × Nat)}
theorem BR.above (h:BR w N fv val R Ok pre A) (hOk:∀ A B r,Ok A→A.grownBy B r→(∀ k,r=some k→w.heap.size≤k)→Ok B) {r:Option Nat} (hg:A.grownBy A' r) (hr:∀ k,r=some k→w.heap.size+5≤k):BR w N fv val R Ok pre A':=by
 have hk:∀ {k:Nat} {o:Obj},k<w.heap.size+5→A.heap[k]?=some o→A'.heap[k]?=some o:=fun {k o} h1 h2 =>
  (hg.block k (Array.getElem?_eq_some_iff.1 h2).1 (by intro e;have:=hr k e.symm;omega)).trans h2
 obtain ⟨l,h1,h2,h3⟩:=h.vals
 exact ⟨h.old.new hg (fun k e=>by have:=hr k e;omega),hk (by omega) h.bv,hk (by omega) h.br,⟨l,h1,hk (by omega) h2,h3⟩,hk (by omega) h.bx,hOk A A' r h.ok hg (fun k e=>by have:=hr k e;omega)⟩
end
theorem buildR_any (p:Option Addr) (pa:Addr) (hpa:p=some pa) (c n N kf:Nat) (cap:Array Value) (s:List Nat) (val:Nat→List UInt8) (R:Nat→Prop) (Ok:World→Prop) (w:World)
  (hn:n≤4) (hn0:0<n) (hs:Hid (s.length=n)) (hsb:Hid (∀ x ∈ s,x≤1024)) (HN:Hid (N=prod s)) (h4:N≤4096) (hp:RdN w p s)
  (hrow:∀ r,R r→r<w.heap.size) (hprow:∀ b off,p=some ⟨b,off,none⟩→0<n→¬ R b)
  (hent:∀ args W,(callFunc kf args).run Tryz.prog W=.ok (.enter kf args) W)
  (hOk0:Ok w) (hOk:∀ A B r,Ok A→A.grownBy B r→(∀ k,r=some k→w.heap.size≤k)→Ok B) (hval:CloR w kf cap n N s val R Ok) :
  Calls Tryz.prog 53 #[.slice p n c,.func (.func kf) #[] cap] w (BuildPostR w n N s val R Ok):=by
 have HP:=Lib.hid hp
 have HPA:=Lib.hid hpa
 have HN0:=Lib.hid hn0
 have HV:=Lib.hid hval
 have HOK:=Lib.hid hOk
 have HROW:=Lib.hid hrow
 have HPROW:=Lib.hid hprow
 have iN:(N:Int)≤4096:=by omega
 have hni:(n:Int)≤4:=by omega
 have hmk:=fun W=>make_strs N (by omega) W
 have HPR:Hid (∀ W,RdN W p s→Calls Tryz.prog 80 #[.slice p n c] W fun e w'=>W=w'∧e=.returned (.int .i64 ((N:Nat):Int))):=Lib.hid (fun W h=>by
  have:=product_any p c s W (by rw [hs.out];exact hn) hsb.out h
  rwa [hs.out,← HN.out] at this)
 obtain ⟨W0,HW0⟩:∃ W0,Hid ((w.alloc (.cells #[.func (.func kf) #[] cap] 89)).alloc (.cells #[.slice none 0 0,.slice none 0 0] 31)=W0):=⟨_,Lib.hid rfl⟩
 have HB0:Hid (Below w.heap.size w W0):=Lib.hid (by rw [← HW0.out];exact ((Below.refl _ w).alloc (Nat.le_refl _) _).alloc (by simp) _)
 clear hp hval hOk hrow hprow hpa hn0
 refine (callsIn_wide (n:=9)).1 ?_
 refine callsIn_of_wp_marks Tryz.func53 rfl trivial ?_ rfl
 simp only [Tryz.ntmps53,List.size_toArray,List.length_cons,List.length_nil,Nat.reduceAdd,Nat.reduceSub,Array.replicate_succ,Array.replicate_zero,List.push_toArray,List.append_toArray,List.nil_append,List.cons_append]
 gi_wp2_with (first|(refine ⟨trivial,?_⟩;gi_at_call 80;refine (callsIn_wide.2 (HPR.out _ (by rw [HW0.out];exact HP.out.below HB0.out))).mono ?_;rintro e w' ⟨rfl,rfl⟩)|(refine ⟨trivial,?_⟩;gi_at_call 90;refine (indexes_in _ _ _ _ _).mono ?_;rintro e w' ⟨rfl,rfl⟩))
 obtain ⟨W3,hW3⟩:∃ W3,(((((w.alloc (.cells #[.func (.func kf) #[] cap] 89)).alloc (.cells #[.slice none 0 0,.slice none 0 0] 31)).alloc (.cells (strC (List.replicate N [])) 9)).alloc (.cells #[.slice (some ⟨w.heap.size+1+1,0,none⟩) N N] 22)).alloc (.cells #[.slice p n c] 29))=W3:=⟨_,rfl⟩
 have HBW3:Hid (Below w.heap.size w W3):=Lib.hid (by rw [← hW3];exact (((((Below.refl _ w).alloc (Nat.le_refl _) _).alloc (by simp) _).alloc (by simp;omega) _).alloc (by simp;omega) _).alloc (by simp;omega) _)
 have hsz3:W3.heap.size=w.heap.size+5:=by rw [← hW3];simp
 have HBI3:Hid (BR w N (.func (.func kf) #[] cap) val R Ok [] W3):=Lib.hid (by
  refine ⟨GR.of_below HBW3.out R,?_,?_,⟨List.replicate N [],by simp,?_,by intro y hy;cases hy⟩,?_,HOK.out w W3 none hOk0 (gb_of_below HBW3.out none) (fun k e=>by cases e)⟩
  all_goals (rw [← hW3];simp only [World.alloc,Array.getElem?_push,Array.size_push])
  all_goals (repeat' (first|rw [if_pos (by omega)] | rw [if_neg (by omega)] | rfl)))
 have hbox3:W3.heap[w.heap.size+1+1+1+1]?=some (.cells #[.slice p n c] 29 (0,0)):=by
  rw [← hW3];simp only [World.alloc,Array.getElem?_push,Array.size_push]
  repeat' (first|rw [if_pos (by omega)] | rw [if_neg (by omega)] | rfl)
 rw [hW3]
 refine wpIn_rangeFunc_cells rfl (by omega) (gf:=123) (lb:=#[.pointer (some ⟨w.heap.size+1+1+1+1,0,none⟩)]) rfl trivial (enters_of Tryz.func123 (by kernel_rfl) rfl)
  (indexes_seq _ (by omega) (w.heap.size+1+1+1+1) (w.heap.size+5) n c p s hn hs hsb (by rw [← HN.out];exact h4) W3 (by omega) hbox3 (HP.out.below HBW3.out))
  (fun x A l o o' ho hc hat=>hat.put ho hc) (Below.refl _ _) (fun _=>rfl)
  (fun pre W=>BR w N (.func (.func kf) #[] cap) val R Ok pre W)
  (fun pre A B r h hg hr=>h.above HOK.out hg (fun k e=>by have:=hr k e;omega))
  HBI3.out ?a1 ?assign ?body ?done
 case assign =>
  intro lo x W K hK
  gi_wp2
  exact hK
 case body =>
  rintro lo pre ⟨i,g⟩ W hBI hAt -
  have hiN:i<N:=by rw [HN.out];exact hAt.lt
  have iiN:(i:Int)<(N:Int):=by omega
  have hgn:=hAt.new
  obtain ⟨l,hl1,hl2,hl3⟩:=hBI.vals
  obtain ⟨x,HX⟩:∃ x,Hid (x=l.getD i []):=⟨_,rfl⟩
  have HBI:=Lib.hid hBI
  have HAT:=Lib.hid hAt
  have HL:=Lib.hid (And.intro hl1 (And.intro hl2 hl3))
  have bxd:W.drew.cell? ⟨w.heap.size+1+1+1,0,none⟩=some (.slice (some ⟨w.heap.size+1+1,0,none⟩) N N):=by
   show W.cell? ⟨w.heap.size+1+1+1,0,none⟩=_
   simp [World.cell?,hBI.bx]
  have bvd:W.drew.cell? ⟨w.heap.size,0,none⟩=some (.func (.func kf) #[] cap):=by
   show W.cell? ⟨w.heap.size,0,none⟩=_
   simp [World.cell?,hBI.bv]
  have HCL:Hid (Calls Tryz.prog kf (#[.slice (some ⟨g,0,none⟩) n n]++cap) W.drew fun e W'=>e=.returned (.string ⟨List.toArray (val i)⟩)∧GR R W.drew W'∧KeepsOthers W.drew W'∧Ok W'):=Lib.hid
   (HV.out i g W.drew hiN (HOK.out W W.drew none hBI.ok ⟨rfl,rfl,rfl,Nat.le_refl _,fun _ _ _=>rfl⟩ (fun k e=>by cases e)) hAt.row (by omega))
  clear hl1 hl2 hl3 hBI hAt
  gi_wp2
  refine region_round (S:=fun W'=>W'.cell? ⟨w.heap.size+1+1+1,0,none⟩=some (.slice (some ⟨w.heap.size+1+1,0,none⟩) N N)∧W'.cell? ⟨w.heap.size,0,none⟩=some (.func (.func kf) #[] cap)) (by kernel_rfl) (by kernel_rfl) (fun ⟨_,_,h⟩=>h) ⟨bxd,bvd⟩ (fun hHeld=>?_)
  refine wpAnyH_take (i:=0) (v:=?v1) rfl (by kernel_rfl) (by kernel_rfl) (by kernel_rfl) (fun _ _ _ h=>h) (Or.inl ⟨by rfl,?hy1⟩) (by assumption) ?rest1
  case hy1 =>
   intro W' hSw
   obtain ⟨e0,e1⟩:=hSw
   go_simp
   with_reducible rfl
  simp only [List.getElem_toArray,List.getElem_cons_zero,Act.put,List.setIfInBounds_toArray,List.set_cons_zero,List.set_cons_succ]
  refine wpAnyH_take (i:=1) (v:=?v2) rfl (by kernel_rfl) (by kernel_rfl) (by kernel_rfl) (fun _ _ _ h=>h) (Or.inl ⟨by rfl,?hy2⟩) (by assumption) ?rest2
  case hy2 =>
   intro W' hSw
   obtain ⟨e0,e1⟩:=hSw
   go_simp
   with_reducible rfl
  simp only [List.getElem_toArray,List.getElem_cons_zero,List.getElem_cons_succ,Act.put,List.setIfInBounds_toArray,List.set_cons_zero,List.set_cons_succ]
  refine wpAnyH_take (i:=2) (v:=?v3) rfl (by kernel_rfl) (by kernel_rfl) (by kernel_rfl) (fun _ _ _ h=>h) (Or.inl ⟨by rfl,?hy3⟩) (by assumption) ?rest3
  case hy3 =>
   intro W' hSw
   obtain ⟨e0,e1⟩:=hSw
   go_simp
   with_reducible rfl
  simp only [List.getElem_toArray,List.getElem_cons_zero,List.getElem_cons_succ,Act.put,List.setIfInBounds_toArray,List.set_cons_zero,List.set_cons_succ]
  refine wpAnyH_take (i:=3) (v:=?v4) rfl (by kernel_rfl) (by kernel_rfl) (by kernel_rfl) (fun _ _ _ h=>h) (Or.inl ⟨by rfl,?hy4⟩) (by assumption) ?rest4
  case hy4 =>
   intro W' hSw
   obtain ⟨e0,e1⟩:=hSw
   go_simp
   with_reducible rfl
  simp only [List.getElem_toArray,List.getElem_cons_zero,List.getElem_cons_succ,Act.put,List.setIfInBounds_toArray,List.set_cons_zero,List.set_cons_succ]
  refine wpAnyH_ready (rs:=[4]) (by kernel_rfl) (by simp) ?_
  refine AllReadyH.cons (i:=4) rfl (fun K hK=>?_) AllReadyH.nil
  go_simp
  refine (HCL.out).mono ?_
  rintro e W4 ⟨rfl,hg4,hk4,hok4⟩
  have hrne:∀ k,w.heap.size≤k→¬ R k:=fun k hk e=>by have:=HROW.out k e;omega
  have blk4:∀ {k:Nat} {o:Obj},w.heap.size≤k→W.heap[k]?=some o→W4.heap[k]?=some o:=fun {k o} h1 h2=>(hg4.block k (Array.getElem?_eq_some_iff.1 h2).1 (hrne k h1)).trans h2
  have bx4:W4.heap[w.heap.size+1+1+1]?=some (.cells #[.slice (some ⟨w.heap.size+1+1,0,none⟩) N N] 22 (0,0)):=blk4 (by omega) HBI.out.bx
  have bv4:W4.heap[w.heap.size]?=some (.cells #[.func (.func kf) #[] cap] 89 (0,0)):=blk4 (by omega) HBI.out.bv
  have br4:W4.heap[w.heap.size+1]?=some (.cells #[.slice none 0 0,.slice none 0 0] 31 (0,0)):=blk4 (by omega) HBI.out.br
  have vb4:W4.heap[w.heap.size+1+1]?=some (.cells (strC l) 9 (0,0)):=blk4 (by omega) HL.out.2.1
  have HS4:Hid (W4.cell? ⟨w.heap.size+1+1+1,0,none⟩=some (.slice (some ⟨w.heap.size+1+1,0,none⟩) N N)∧W4.cell? ⟨w.heap.size,0,none⟩=some (.func (.func kf) #[] cap)):=Lib.hid ⟨by simp [World.cell?,bx4],by simp [World.cell?,bv4]⟩
  have hcv:W4.cell? ⟨w.heap.size+1+1,i,none⟩=some (.string ⟨List.toArray (l.getD i [])⟩):=by
   have:=strC_at (l:=l) (k:=i) (by rw [HL.out.1];exact hiN)
   simp [World.cell?,vb4,this]
  have hcf:W4.frozen? ⟨w.heap.size+1+1,i,none⟩=false:=by simp [World.frozen?,vb4]
  obtain ⟨W5,hW5⟩:∃ W5,W4.setCell ⟨w.heap.size+1+1,i,none⟩ (.string ⟨List.toArray (val i)⟩)=W5:=⟨_,rfl⟩
  have hg5:W4.grownBy W5 (some (w.heap.size+1+1)):=by rw [← hW5];exact gb_set _ _ _ _
  have blk5:∀ {k:Nat} {o:Obj},k≠w.heap.size+1+1→W4.heap[k]?=some o→W5.heap[k]?=some o:=fun {k o} h1 h2=>(hg5.block k (Array.getElem?_eq_some_iff.1 h2).1 (by intro e;injection e with e;exact h1 e)).trans h2
  have vb5:W5.heap[w.heap.size+1+1]?=some (.cells (strC (l.set i (val i))) 9 (0,0)):=by
   rw [← hW5,← strC_set];exact heap_set W4 _ i _ _ _ vb4
  have HS5:Hid (W5.cell? ⟨w.heap.size+1+1+1,0,none⟩=some (.slice (some ⟨w.heap.size+1+1,0,none⟩) N N)∧W5.cell? ⟨w.heap.size,0,none⟩=some (.func (.func kf) #[] cap)):=Lib.hid ⟨by simp [World.cell?,blk5 (by omega) bx4],by simp [World.cell?,blk5 (by omega) bv4]⟩
  have HFIN:Hid (KeepsOthers W W5∧IxAt s p n c (w.heap.size+1+1+1+1) (w.heap.size+5) (i,g) W5∧BR w N (.func (.func kf) #[] cap) val R Ok (pre++[(i,g)]) W5):=Lib.hid (by
   refine ⟨(KeepsOthers.drew W).trans (hk4.trans (by rw [← hW5];exact KeepsOthers.setCell _ _ _)),⟨blk5 (by omega) (blk4 (by omega) HAT.out.row),blk5 (by omega) (blk4 (by omega) HAT.out.box),HAT.out.shape.keep (Nat.le_trans hg4.size hg5.size) (fun b off e h0=>?_),HAT.out.new,HAT.out.lt⟩,?_⟩
   ·have hbw:b<w.heap.size:=by
     rcases HP.out.cell with h|⟨b',off',e',h1,-⟩
     ·rw [List.length_map] at h;omega
     ·rw [e] at e';cases e';exact h1
    have hbW:b<W.heap.size:=Nat.lt_of_lt_of_le hbw HBI.out.old.size
    rw [hg5.block b (Nat.lt_of_lt_of_le hbW hg4.size) (by intro e2;injection e2 with e2;omega)]
    exact hg4.block b hbW (HPROW.out b off e (by rw [← hs.out];exact h0))
   ·have h45:GR R w W4:=(HBI.out.old.trans (⟨rfl,rfl,rfl,Nat.le_refl _,fun _ _ _=>rfl⟩:GR R W W.drew)).trans hg4
    refine ⟨h45.new hg5 (fun k e=>by cases e;omega),blk5 (by omega) bv4,blk5 (by omega) br4,⟨l.set i (val i),by rw [List.length_set];exact HL.out.1,vb5,fun y hy hyN=>?_⟩,blk5 (by omega) bx4,HOK.out W4 W5 _ hok4 hg5 (fun k e=>by cases e;omega)⟩
    rcases List.mem_append.1 hy with hy|hy
    ·by_cases e:y.1=i
     ·rw [e,List.getD_eq_getElem?_getD,List.getElem?_set_self (by rw [HL.out.1];exact hiN)];rfl
     ·rw [List.getD_eq_getElem?_getD,List.getElem?_set_ne (fun h=>e h.symm),← List.getD_eq_getElem?_getD]
      exact HL.out.2.2 y hy hyN
    ·obtain rfl:=List.mem_singleton.1 hy
     rw [List.getD_eq_getElem?_getD,List.getElem?_set_self (by rw [HL.out.1];exact hiN)];rfl)
  clear hg4 hk4 hok4 hrne bx4 bv4 br4 vb4 hg5 vb5 blk4 blk5
  refine hK.out _ _ HS4.out (fun hHeld2=>?_)
  clear hK K hHeld
  refine wpAnyH_take (i:=5) (v:=?v5) rfl (by kernel_rfl) (by kernel_rfl) (by kernel_rfl) (fun _ _ _ h=>h) (Or.inl ⟨by rfl,?hy5⟩) (by assumption) ?rest5
  case hy5 =>
   intro W' hSw
   obtain ⟨e0,e1⟩:=hSw
   go_simp
   with_reducible rfl
  simp only [List.getElem_toArray,List.getElem_cons_zero,List.getElem_cons_succ,Act.put,List.setIfInBounds_toArray,List.set_cons_zero,List.set_cons_succ]
  refine wpAnyH_ready (rs:=[6]) (by kernel_rfl) (by simp) ?_
  refine AllReadyH.cons (i:=6) rfl (fun K hK=>?_) AllReadyH.nil
  go_simp
  try rw [hW5]
  refine hK.out _ _ HS5.out (fun hHeld3=>?_)
  clear hK K
  refine wpAnyH_done (by kernel_rfl) ?_ _
  gi_wp2
  exact HFIN.out
 case done =>
  rintro D9 xs W hD hS hBI hK
  obtain ⟨l,hl1,hl2,hl3⟩:=hBI.vals
  have HBI:=Lib.hid hBI
  have hW0:w.heap.size+5≤W.heap.size:=by
   have:=(Array.getElem?_eq_some_iff.1 hK).1;omega
  have hall:∀ i,i<N→l.getD i []=val i:=fun i hi=>by
   have hm:i ∈ xs.map (·.1):=by rw [hS,List.mem_range,← HN.out];exact hi
   obtain ⟨y,hy,rfl⟩:=List.mem_map.1 hm
   exact hl3 y hy hi
  have HL:=Lib.hid (And.intro hl1 (And.intro hl2 hall))
  have hpW:RdN W p s:=HP.out.keep hBI.old.size (fun b off e h0=>by
   have hbw:b<w.heap.size:=by
    rcases HP.out.cell with h|⟨b',off',e',h1,-⟩
    ·rw [List.length_map] at h;omega
    ·rw [e] at e';cases e';exact h1
   exact hBI.old.block b hbw (HPROW.out b off e (by rw [← hs.out];exact h0)))
  have HCL:Hid (Calls Tryz.prog 78 #[.slice p n c] W.drew (CloneRow n s W.drew)):=Lib.hid (by
   have h:=hpW.below (show Below W.heap.size W W.drew from ⟨rfl,rfl,rfl,Nat.le_refl _,fun _ _=>rfl⟩)
   rw [HPA.out] at h ⊢
   exact clone_row pa n c s W.drew hs hn HN0.out hsb h)
  have bxd:W.drew.cell? ⟨w.heap.size+1+1+1,0,none⟩=some (.slice (some ⟨w.heap.size+1+1,0,none⟩) N N):=by
   show W.cell? ⟨w.heap.size+1+1+1,0,none⟩=_
   simp [World.cell?,hBI.bx]
  have HK:=Lib.hid hK
  clear hl1 hl2 hl3 hBI hall hpW hK
  gi_wp2
  refine wpIn_wide.2 ?_
  refine wp_region_noPanic ?_
  refine wp_region_held_drew (S:=fun W'=>W'.cell? ⟨w.heap.size+1+1+1,0,none⟩=some (.slice (some ⟨w.heap.size+1+1,0,none⟩) N N)) (by kernel_rfl) bxd (fun hHeld=>?_)
  refine wpAnyH_take (i:=0) (v:=?v6) rfl (by kernel_rfl) (by kernel_rfl) (by kernel_rfl) (fun _ _ _ h=>h) (Or.inl ⟨by rfl,?hy6⟩) (by assumption) ?rest6
  case hy6 =>
   intro W' hSw
   obtain e0:=hSw
   go_simp
   with_reducible rfl
  simp only [List.getElem_toArray,List.getElem_cons_zero,Act.put,List.setIfInBounds_toArray,List.set_cons_zero,List.set_cons_succ]
  refine wpAnyH_take (i:=2) (v:=?v7) rfl (by kernel_rfl) (by kernel_rfl) (by kernel_rfl) (fun _ _ _ h=>h) (Or.inl ⟨by rfl,?hy7⟩) (by assumption) ?rest7
  case hy7 =>
   intro W' hSw
   obtain e0:=hSw
   go_simp
   with_reducible rfl
  simp only [List.getElem_toArray,List.getElem_cons_zero,List.getElem_cons_succ,Act.put,List.setIfInBounds_toArray,List.set_cons_zero,List.set_cons_succ]
  refine wpAnyH_ready (rs:=[1]) (by kernel_rfl) (by simp) ?_
  refine AllReadyH.cons (i:=1) rfl (fun K hK=>?_) AllReadyH.nil
  go_simp
  refine (HCL.out).mono ?_
  rintro e W2 ⟨hb2,b0,d,rfl,hq1,hq2,hq4,cur,hcur⟩
  have hWs:W.drew.heap.size=W.heap.size:=rfl
  have hW2s:W.heap.size≤W2.heap.size:=hb2.size
  have blk2:∀ {k:Nat} {o:Obj},W.heap[k]?=some o→W2.heap[k]?=some o:=fun {k o} h2=>(hb2.block k (Array.getElem?_eq_some_iff.1 h2).1).trans h2
  have bx2:W2.cell? ⟨w.heap.size+1+1+1,0,none⟩=some (.slice (some ⟨w.heap.size+1+1,0,none⟩) N N):=by
   have:=blk2 HBI.out.bx
   simp [World.cell?,this]
  have br2:=blk2 HBI.out.br
  have r0:W2.cell? ⟨w.heap.size+1,0,none⟩=some (.slice none 0 0):=by simp [World.cell?,br2]
  have r1:W2.cell? ⟨w.heap.size+1,1,none⟩=some (.slice none 0 0):=by simp [World.cell?,br2]
  have z0:W2.frozen? ⟨w.heap.size+1,0,none⟩=false:=by simp [World.frozen?,br2]
  have z1:W2.frozen? ⟨w.heap.size+1,1,none⟩=false:=by simp [World.frozen?,br2]
  have hE1:=heap_set W2 (w.heap.size+1) 0 (.slice (some ⟨b0,0,none⟩) n d) _ _ br2
  have hE2:=heap_set _ (w.heap.size+1) 1 (.slice (some ⟨w.heap.size+1+1,0,none⟩) N N) _ _ hE1
  obtain ⟨W5,hW5⟩:∃ W5,(W2.setCell ⟨w.heap.size+1,0,none⟩ (.slice (some ⟨b0,0,none⟩) n d)).setCell ⟨w.heap.size+1,1,none⟩ (.slice (some ⟨w.heap.size+1+1,0,none⟩) N N)=W5:=⟨_,rfl⟩
  rw [hW5] at hE2
  have hg25:W2.grownBy W5 (some (w.heap.size+1)):=by rw [← hW5];exact (gb_set _ _ _ _).trans (gb_set _ _ _ _)
  have blk5:∀ {k:Nat} {o:Obj},k≠w.heap.size+1→W2.heap[k]?=some o→W5.heap[k]?=some o:=fun {k o} h1 h2=>(hg25.block k (Array.getElem?_eq_some_iff.1 h2).1 (by intro e;injection e with e;exact h1 e)).trans h2
  have hD1:D9≠w.heap.size+1:=by omega
  have HK5:Hid (W5.heap[D9]?=some (.deferred (some []))):=Lib.hid (blk5 hD1 (blk2 HK.out))
  have bx5:W5.cell? ⟨w.heap.size+1+1+1,0,none⟩=some (.slice (some ⟨w.heap.size+1+1,0,none⟩) N N):=by
   have:=blk5 (by omega) (blk2 HBI.out.bx)
   simp [World.cell?,this]
  have hput:∀ {k:Nat},k≠D9→(W5.putObj D9 (.deferred none)).heap[k]?=W5.heap[k]?:=fun {k} h=>World.putObj_heap_other h
  have k0:(W5.putObj D9 (.deferred none)).cell? ⟨w.heap.size+1,0,none⟩=some (.slice (some ⟨b0,0,none⟩) n d):=by
   have:=(hput (k:=w.heap.size+1) (by omega)).trans hE2
   simp [World.cell?,this]
  have k1:(W5.putObj D9 (.deferred none)).cell? ⟨w.heap.size+1,1,none⟩=some (.slice (some ⟨w.heap.size+1+1,0,none⟩) N N):=by
   have:=(hput (k:=w.heap.size+1) (by omega)).trans hE2
   simp [World.cell?,this]
  have hgD:W5.grownBy (W5.putObj D9 (.deferred none)) (some D9):=grownBy_putObj' W5 D9 (.deferred none)
  have HFIN:Hid (BuildPostR w n N s val R Ok (.returned (.agg #[.slice (some ⟨b0,0,none⟩) n d,.slice (some ⟨w.heap.size+1+1,0,none⟩) N N])) (W5.putObj D9 (.deferred none))):=Lib.hid (by
   have h02:GR R w W2:=(HBI.out.old.trans (⟨rfl,rfl,rfl,Nat.le_refl _,fun _ _ _=>rfl⟩:GR R W W.drew)).trans (GR.of_below hb2 R)
   have o1:=HOK.out W W.drew none HBI.out.ok ⟨rfl,rfl,rfl,Nat.le_refl _,fun _ _ _=>rfl⟩ (fun k e=>by cases e)
   have o2:=HOK.out W.drew W2 none o1 (gb_of_below hb2 none) (fun k e=>by cases e)
   have o3:=HOK.out W2 W5 _ o2 hg25 (fun k e=>by cases e;omega)
   have o4:=HOK.out W5 _ _ o3 hgD (fun k e=>by cases e;omega)
   have hDW:=(Array.getElem?_eq_some_iff.1 HK.out).1
   refine ⟨(h02.new hg25 (fun k e=>by cases e;omega)).new hgD (fun k e=>by cases e;omega),o4,b0,d,_,rfl,?_,hq2,Nat.le_trans (by omega) hq4,⟨cur,(hput (by omega)).trans (blk5 (by omega) hcur)⟩,?_,by omega⟩
   ·refine hq1.keep (Nat.le_trans hg25.size hgD.size) (fun b off e h0=>?_)
    cases e
    have hb:=hq4
    have hbl:b0<W2.heap.size:=(Array.getElem?_eq_some_iff.1 hcur).1
    rw [hput (by omega),hg25.block b0 hbl (by intro e2;injection e2 with e2;omega)]
   ·exact rds_of HL.out.1 ((hput (by omega)).trans (blk5 (by omega) (blk2 HL.out.2.1))) HL.out.2.2)
  clear hb2 hq1 hq4 hcur blk2 br2 hE1 hE2 hg25 blk5 hput hgD
  refine hK.out _ _ bx2 (fun hHeld2=>?_)
  clear hK K hHeld
  refine wpAnyH_take (i:=3) (v:=?v8) rfl (by kernel_rfl) (by kernel_rfl) (by kernel_rfl) (fun _ _ _ h=>h) (Or.inl ⟨by rfl,?hy8⟩) (by assumption) ?rest8
  case hy8 =>
   intro W' hSw
   obtain e0:=hSw
   go_simp
   with_reducible rfl
  simp only [List.getElem_toArray,List.getElem_cons_zero,List.getElem_cons_succ,Act.put,List.setIfInBounds_toArray,List.set_cons_zero,List.set_cons_succ]
  refine wpAnyH_ready (rs:=[4]) (by kernel_rfl) (by simp) ?_
  refine AllReadyH.cons (i:=4) rfl (fun K hK=>?_) AllReadyH.nil
  go_simp
  try rw [hW5]
  refine hK.out _ _ bx5 (fun hHeld3=>?_)
  clear hK K
  refine wpAnyH_done (by kernel_rfl) ?_ _
  refine NoPanic.normal ?_
  clear hHeld2 hHeld3 bx2 r0 r1 z0 z1 bx5
  gi_wp2
  refine ⟨by simp,.inl ⟨_,_,rfl,run_takeDeferred HK5.out,?_⟩⟩
  refine ⟨.agg #[.slice (some ⟨b0,0,none⟩) n d,.slice (some ⟨w.heap.size+1+1,0,none⟩) N N],?_,HFIN.out⟩
  simp [results,Tryz.f53,go_sem,k0,k1]
end Go.Proofs.YtlcpcpmlfegejaaGreatDoor.Arr
