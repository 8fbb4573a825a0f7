/- The document's product of units. -/
import Derived.Test.YtigicjakloiliaaGreatDoorUE
import Derived.Test.YtigicjakloiliaaGreatDoorUF
import Derived.Test.YtigicjakloiliaaGreatDoorPart18
set_option maxHeartbeats 12800000
set_option maxRecDepth 100000
namespace Go.Proofs.YtigicjakloiliaaGreatDoor
open Go.RowKit Big
open Go.Lib
def ck (b:Bool) (x:Option Addr) (l c:Nat) (y:Option Addr) (m d:Nat) (u0 u1 u2 u3 u4 u5 u6 v0 v1 v2 v3 v4 v5 v6 n:Int) (k:Nat):Array Value:=#[.bool b,.slice x l c,.slice y m d,.bool false,.slice none 0 0,.slice none 0 0,.int .i64 (if 0<k then u0+n*v0 else u0),.int .i64 (if 1<k then u1+n*v1 else u1),.int .i64 (if 2<k then u2+n*v2 else u2),.int .i64 (if 3<k then u3+n*v3 else u3),.int .i64 (if 4<k then u4+n*v4 else u4),.int .i64 (if 5<k then u5+n*v5 else u5),.int .i64 (if 6<k then u6+n*v6 else u6)]
theorem ck_seven (b:Bool) (x:Option Addr) (l c:Nat) (y:Option Addr) (m d:Nat) (u0 u1 u2 u3 u4 u5 u6 v0 v1 v2 v3 v4 v5 v6 n:Int):ck b x l c y m d u0 u1 u2 u3 u4 u5 u6 v0 v1 v2 v3 v4 v5 v6 n 7=#[.bool b,.slice x l c,.slice y m d,.bool false,.slice none 0 0,.slice none 0 0,.int .i64 (u0+n*v0),.int .i64 (u1+n*v1),.int .i64 (u2+n*v2),.int .i64 (u3+n*v3),.int .i64 (u4+n*v4),.int .i64 (u5+n*v5),.int .i64 (u6+n*v6)]:=rfl
structure Fil (g:Nat) (W W':World) (c:Array Value):Prop where
 heap:W'.heap[g]?=some (.cells c 118 (0,0))
 size:c.size=13
 noU:∀ (j:Nat) v,c[j]?=some v→NoU v
 nums:∀ v q,QAt W v q→QAt W' v q
 keep:∀ w L,w.heap.size≤g→(∀ x ∈ L,x.1≠g)→Keep w W L→Keep w W' L
 res:∀ (w:World) B,w.heap.size≤g→B≠g→ResU B w W→ResU B w W'
theorem Fil.start {g:Nat} {W:World} (h:W.heap[g]?=some (.cells #[.bool false,.slice none 0 0,.slice none 0 0,.bool false,.slice none 0 0,.slice none 0 0,.int .i64 0,.int .i64 0,.int .i64 0,.int .i64 0,.int .i64 0,.int .i64 0,.int .i64 0] 118 (0,0))):Fil g W W #[.bool false,.slice none 0 0,.slice none 0 0,.bool false,.slice none 0 0,.slice none 0 0,.int .i64 0,.int .i64 0,.int .i64 0,.int .i64 0,.int .i64 0,.int .i64 0,.int .i64 0] :=
 ⟨h,rfl,fun j v hj=>by
  match j,hj with
  | 0,hj=>cases hj;exact nub _
  | 1,hj=>cases hj;exact nus _ _ _
  | 2,hj=>cases hj;exact nus _ _ _
  | 3,hj=>cases hj;exact nub _
  | 4,hj=>cases hj;exact nus _ _ _
  | 5,hj=>cases hj;exact nus _ _ _
  | 6,hj=>cases hj;exact nui _
  | 7,hj=>cases hj;exact nui _
  | 8,hj=>cases hj;exact nui _
  | 9,hj=>cases hj;exact nui _
  | 10,hj=>cases hj;exact nui _
  | 11,hj=>cases hj;exact nui _
  | 12,hj=>cases hj;exact nui _
  | j+13,hj=>simp at hj,fun _ _ h=>h,fun _ _ _ _ h=>h,fun _ _ _ _ h=>h⟩
theorem Fil.more {g:Nat} {W W':World} {c:Array Value} (h:Fil g W W' c) (k:Nat) (a:Value) (ha:NoU a):Fil g W (W'.setCell ⟨g,k,none⟩ a) (c.setIfInBounds k a) :=
 ⟨heap_set g k c 118 a h.heap,by rw [Array.size_setIfInBounds];exact h.size,fun j v hj=>by
  by_cases e:k=j
  ·subst e
   rw [Array.getElem?_setIfInBounds_self] at hj
   split at hj
   ·cases hj;exact ha
   ·cases hj
  ·rw [Array.getElem?_setIfInBounds_ne e] at hj
   exact h.noU _ _ hj,fun v q hq=>qat_setU ⟨c,h.heap,h.size,h.noU⟩ (h.nums v q hq) k a,fun w L hg hne hk=>by
  have hk':=h.keep w L hg hne hk
  exact ⟨hk'.below.setCell hg _,fun x hx=>(Below.heap_setCell _ _ _ _ (hne x hx)).trans (hk'.all x hx)⟩,fun w B hg hne hr=>(h.res w B hg hne hr).set_far g k a hg hne⟩
theorem Fil.more' {g:Nat} {W W':World} {c c':Array Value} (h:Fil g W W' c) (k:Nat) (a:Value) (ha:NoU a) (e:c.setIfInBounds k a=c'):Fil g W (W'.setCell ⟨g,k,none⟩ a) c':=e ▸ h.more k a ha
theorem bLT {a b c g:Nat} (h4:b<g) (_h3:c<g) (hs:a+3≤c∧c<b):a+3≤g:=by omega
theorem bNE {a b c g:Nat} (h4:b<g) (_h3:c<g) (_hs:a+3≤c∧c<b):g≠b:=by omega
theorem bNF {a b c g:Nat} (_h4:b<g) (h3:c<g) (_hs:a+3≤c∧c<b):g≠c:=by omega
theorem cLT {a b c:Nat} (hs:a+3≤c∧c<b):a+3≤b+1:=by omega
theorem cNE {a b c:Nat} (_hs:a+3≤c∧c<b):b+1≠b:=by omega
theorem cNF {a b c:Nat} (hs:a+3≤c∧c<b):b+1≠c:=by omega
section
variable {b : Bool} {x : Option Addr} {l c : Nat} {y : Option Addr} {m d : Nat} {u0 u1 u2 u3 u4 u5 u6 v0 v1 v2 v3 v4 v5 v6 n : Int}
theorem ck_get (k:Nat) (hk:k<7):(ck b x l c y m d u0 u1 u2 u3 u4 u5 u6 v0 v1 v2 v3 v4 v5 v6 n k)[6+k]?=some (.int .i64 ([u0,u1,u2,u3,u4,u5,u6].getD k 0)):=by
 rcases (show k=0∨k=1∨k=2∨k=3∨k=4∨k=5∨k=6 by omega) with rfl|rfl|rfl|rfl|rfl|rfl|rfl<;>rfl
theorem ck_set (k:Nat) (hk:k<7):(ck b x l c y m d u0 u1 u2 u3 u4 u5 u6 v0 v1 v2 v3 v4 v5 v6 n k).setIfInBounds (6+k) (.int .i64 ([u0,u1,u2,u3,u4,u5,u6].getD k 0+n*[v0,v1,v2,v3,v4,v5,v6].getD k 0))=ck b x l c y m d u0 u1 u2 u3 u4 u5 u6 v0 v1 v2 v3 v4 v5 v6 n (k+1):=by
 rcases (show k=0∨k=1∨k=2∨k=3∨k=4∨k=5∨k=6 by omega) with rfl|rfl|rfl|rfl|rfl|rfl|rfl<;>rfl
theorem ck_noU (k:Nat) (j:Nat) (v:Value) (h:(ck b x l c y m d u0 u1 u2 u3 u4 u5 u6 v0 v1 v2 v3 v4 v5 v6 n k)[j]?=some v):NoU v:=by
 match j,h with
 | 0,h=>cases h;exact nub _
 | 1,h=>cases h;exact nus _ _ _
 | 2,h=>cases h;exact nus _ _ _
 | 3,h=>cases h;exact nub _
 | 4,h=>cases h;exact nus _ _ _
 | 5,h=>cases h;exact nus _ _ _
 | 6,h=>cases h;exact nui _
 | 7,h=>cases h;exact nui _
 | 8,h=>cases h;exact nui _
 | 9,h=>cases h;exact nui _
 | 10,h=>cases h;exact nui _
 | 11,h=>cases h;exact nui _
 | 12,h=>cases h;exact nui _
 | j+13,h=>simp [ck] at h
theorem parts_get {z0 z1 z2 z3 z4 z5:Value} (k:Nat) (hk:k<7):(#[z0,z1,z2,z3,z4,z5,.int .i64 v0,.int .i64 v1,.int .i64 v2,.int .i64 v3,.int .i64 v4,.int .i64 v5,.int .i64 v6]:Array Value)[6+k]?=some (.int .i64 ([v0,v1,v2,v3,v4,v5,v6].getD k 0)):=by
 rcases (show k=0∨k=1∨k=2∨k=3∨k=4∨k=5∨k=6 by omega) with rfl|rfl|rfl|rfl|rfl|rfl|rfl<;>rfl
end
theorem rproduct_ok (fu ou:ByteArray) (u0 u1 u2 u3 u4 u5 u6:Int) (fv ov:ByteArray) (v0 v1 v2 v3 v4 v5 v6:Int) (n:Int) (qf rf r:Rat) (sf so:ByteArray) (r0 r1 r2 r3 r4 r5 r6:Int) (code:Int) (w:World) (qo ro:Rat) (hp:Hid (∀ W,Below w.heap.size w W→Calls Tryz.prog 115 #[.agg #[.string fu,.string ou,.int .i64 u0,.int .i64 u1,.int .i64 u2,.int .i64 u3,.int .i64 u4,.int .i64 u5,.int .i64 u6]] W fun e w'=>e=.returned (.bool true)∧Below W.heap.size W w')) (hq:Hid (∀ W,Below w.heap.size w W→Calls Tryz.prog 115 #[.agg #[.string fv,.string ov,.int .i64 v0,.int .i64 v1,.int .i64 v2,.int .i64 v3,.int .i64 v4,.int .i64 v5,.int .i64 v6]] W fun e w'=>e=.returned (.bool true)∧Below W.heap.size W w'))
  (h1:Hid (∀ W,Below w.heap.size w W→Calls Tryz.prog 116 #[.agg #[.string fu,.string ou,.int .i64 u0,.int .i64 u1,.int .i64 u2,.int .i64 u3,.int .i64 u4,.int .i64 u5,.int .i64 u6]] W (ScPost qf qo u0 u1 u2 u3 u4 u5 u6 true W))) (h2:Hid (∀ W,Below w.heap.size w W→Calls Tryz.prog 116 #[.agg #[.string fv,.string ov,.int .i64 v0,.int .i64 v1,.int .i64 v2,.int .i64 v3,.int .i64 v4,.int .i64 v5,.int .i64 v6]] W (ScPost rf ro v0 v1 v2 v3 v4 v5 v6 true W)))
  (h157:Hid (∀ W z,QAt W z rf→Calls Tryz.prog 157 #[z,.int .i64 n] W (QPostC (rf^n) W))) (h47:Hid (∀ W a z,QAt W a qf→QAt W z (rf^n)→Calls Tryz.prog 47 #[a,z] W (QPostC r W)))
  (h110:Hid (∀ W (b:Bool) (x:Option Addr) (l c:Nat) (y:Option Addr) (m d:Nat),QAt W (.agg #[.bool b,.slice x l c,.slice y m d]) r→Calls Tryz.prog 110 #[.agg #[.bool b,.slice x l c,.slice y m d,.bool false,.slice none 0 0,.slice none 0 0,.int .i64 (u0+n*v0),.int .i64 (u1+n*v1),.int .i64 (u2+n*v2),.int .i64 (u3+n*v3),.int .i64 (u4+n*v4),.int .i64 (u5+n*v5),.int .i64 (u6+n*v6)]] W fun e w'=>e=.returned (.tuple #[.agg #[.string sf,.string so,.int .i64 r0,.int .i64 r1,.int .i64 r2,.int .i64 r3,.int .i64 r4,.int .i64 r5,.int .i64 r6],.int .i64 code])∧Below W.heap.size W w'))
  (hwm:Hid (∀ k<7,IntKind.i64.wrap (n*[v0,v1,v2,v3,v4,v5,v6].getD k 0)=n*[v0,v1,v2,v3,v4,v5,v6].getD k 0)) (hwa:Hid (∀ k<7,IntKind.i64.wrap ([u0,u1,u2,u3,u4,u5,u6].getD k 0+n*[v0,v1,v2,v3,v4,v5,v6].getD k 0)=[u0,u1,u2,u3,u4,u5,u6].getD k 0+n*[v0,v1,v2,v3,v4,v5,v6].getD k 0)):Calls Tryz.prog 118 #[.agg #[.string fu,.string ou,.int .i64 u0,.int .i64 u1,.int .i64 u2,.int .i64 u3,.int .i64 u4,.int .i64 u5,.int .i64 u6],.agg #[.string fv,.string ov,.int .i64 v0,.int .i64 v1,.int .i64 v2,.int .i64 v3,.int .i64 v4,.int .i64 v5,.int .i64 v6],.int .i64 n] w fun e w'=>e=.returned (.tuple #[.agg #[.string sf,.string so,.int .i64 r0,.int .i64 r1,.int .i64 r2,.int .i64 r3,.int .i64 r4,.int .i64 r5,.int .i64 r6],.int .i64 code])∧Below w.heap.size w w':=by
 have KP:Hid (Keep w (((w.alloc (.cells #[.string fu,.string ou,.int .i64 u0,.int .i64 u1,.int .i64 u2,.int .i64 u3,.int .i64 u4,.int .i64 u5,.int .i64 u6] 53)).alloc (.cells #[.string fv,.string ov,.int .i64 v0,.int .i64 v1,.int .i64 v2,.int .i64 v3,.int .i64 v4,.int .i64 v5,.int .i64 v6] 53)).alloc (.cells #[.string ⟨#[]⟩,.string ⟨#[]⟩,.int .i64 0,.int .i64 0,.int .i64 0,.int .i64 0,.int .i64 0,.int .i64 0,.int .i64 0] 53)) [(w.heap.size+1,#[.string fv,.string ov,.int .i64 v0,.int .i64 v1,.int .i64 v2,.int .i64 v3,.int .i64 v4,.int .i64 v5,.int .i64 v6],53),(w.heap.size,#[.string fu,.string ou,.int .i64 u0,.int .i64 u1,.int .i64 u2,.int .i64 u3,.int .i64 u4,.int .i64 u5,.int .i64 u6],53)]∧ResU (w.heap.size+1+1) w (((w.alloc (.cells #[.string fu,.string ou,.int .i64 u0,.int .i64 u1,.int .i64 u2,.int .i64 u3,.int .i64 u4,.int .i64 u5,.int .i64 u6] 53)).alloc (.cells #[.string fv,.string ov,.int .i64 v0,.int .i64 v1,.int .i64 v2,.int .i64 v3,.int .i64 v4,.int .i64 v5,.int .i64 v6] 53)).alloc (.cells #[.string ⟨#[]⟩,.string ⟨#[]⟩,.int .i64 0,.int .i64 0,.int .i64 0,.int .i64 0,.int .i64 0,.int .i64 0,.int .i64 0] 53))):=hiD (by
  have h0:=(((Keep.nil w).more #[.string fu,.string ou,.int .i64 u0,.int .i64 u1,.int .i64 u2,.int .i64 u3,.int .i64 u4,.int .i64 u5,.int .i64 u6] 53).more #[.string fv,.string ov,.int .i64 v0,.int .i64 v1,.int .i64 v2,.int .i64 v3,.int .i64 v4,.int .i64 v5,.int .i64 v6] 53).more #[.string ⟨#[]⟩,.string ⟨#[]⟩,.int .i64 0,.int .i64 0,.int .i64 0,.int .i64 0,.int .i64 0,.int .i64 0,.int .i64 0] 53
  rw [show ((w.alloc (.cells #[.string fu,.string ou,.int .i64 u0,.int .i64 u1,.int .i64 u2,.int .i64 u3,.int .i64 u4,.int .i64 u5,.int .i64 u6] 53)).alloc (.cells #[.string fv,.string ov,.int .i64 v0,.int .i64 v1,.int .i64 v2,.int .i64 v3,.int .i64 v4,.int .i64 v5,.int .i64 v6] 53)).heap.size=w.heap.size+1+1 from by simp,show (w.alloc (.cells #[.string fu,.string ou,.int .i64 u0,.int .i64 u1,.int .i64 u2,.int .i64 u3,.int .i64 u4,.int .i64 u5,.int .i64 u6] 53)).heap.size=w.heap.size+1 from by simp] at h0
  exact ⟨h0.sub (fun x hx=>List.mem_cons_of_mem _ hx),by simp,h0.below,_,_,_,_,_,_,_,_,_,h0.one _ (List.mem_cons_self ..)⟩)
 have hu:=KP.out.1.one _ (List.mem_cons_of_mem _ (List.mem_cons_self ..))
 have hu_0:=ceh hu 0
 have hu_1:=ceh hu 1
 have hu_2:=ceh hu 2
 have hu_3:=ceh hu 3
 have hu_4:=ceh hu 4
 have hu_5:=ceh hu 5
 have hu_6:=ceh hu 6
 have hu_7:=ceh hu 7
 have hu_8:=ceh hu 8
 clear hu
 go_enter Tryz.func118,Tryz.ntmps118
 go_wp2_with fail
 refine (hp.out _ KP.out.1.below).mono ?_
 rintro e w1 ⟨rfl,hb⟩
 have K1:=hiD (And.intro (KP.out.1.next hb) (KP.out.2.next hb))
 clear hb KP hu_0 hu_1 hu_2 hu_3 hu_4 hu_5 hu_6 hu_7 hu_8
 have hv:=K1.out.1.one _ (List.mem_cons_self ..)
 have hv_0:=ceh hv 0
 have hv_1:=ceh hv 1
 have hv_2:=ceh hv 2
 have hv_3:=ceh hv 3
 have hv_4:=ceh hv 4
 have hv_5:=ceh hv 5
 have hv_6:=ceh hv 6
 have hv_7:=ceh hv 7
 have hv_8:=ceh hv 8
 clear hv
 go_wp2_with fail
 refine (hq.out _ K1.out.1.below).mono ?_
 rintro e w2 ⟨rfl,hb⟩
 have K2:=hiD (And.intro (K1.out.1.next hb) (K1.out.2.next hb))
 clear hb K1 hv_0 hv_1 hv_2 hv_3 hv_4 hv_5 hv_6 hv_7 hv_8
 have hu:=K2.out.1.one _ (List.mem_cons_of_mem _ (List.mem_cons_self ..))
 have hu_0:=ceh hu 0
 have hu_1:=ceh hu 1
 have hu_2:=ceh hu 2
 have hu_3:=ceh hu 3
 have hu_4:=ceh hu 4
 have hu_5:=ceh hu 5
 have hu_6:=ceh hu 6
 have hu_7:=ceh hu 7
 have hu_8:=ceh hu 8
 clear hu
 go_wp2_with fail
 refine (h1.out _ K2.out.1.below).mono ?_
 rintro e w3 ⟨b1,x1,n1,c1,y1,m1,d1,b2,x2,n2,c2,y2,m2,d2,rfl,hb,hq1⟩
 have Z3:Hid (w.heap.size+3≤w3.heap.size):=hiD (by have h1:=(K2.out.2.next hb).size;omega)
 have K3:=hiD (And.intro ((K2.out.1.next hb).more #[.bool b1,.slice x1 n1 c1,.slice y1 m1 d1,.bool b2,.slice x2 n2 c2,.slice y2 m2 d2,.int .i64 u0,.int .i64 u1,.int .i64 u2,.int .i64 u3,.int .i64 u4,.int .i64 u5,.int .i64 u6] 118) ((K2.out.2.next hb).next (below_alloc9 w3 (.cells #[.bool b1,.slice x1 n1 c1,.slice y1 m1 d1,.bool b2,.slice x2 n2 c2,.slice y2 m2 d2,.int .i64 u0,.int .i64 u1,.int .i64 u2,.int .i64 u3,.int .i64 u4,.int .i64 u5,.int .i64 u6] 118))))
 have F3:=hiD ((hq1 rfl).1.below (below_alloc9 w3 (.cells #[.bool b1,.slice x1 n1 c1,.slice y1 m1 d1,.bool b2,.slice x2 n2 c2,.slice y2 m2 d2,.int .i64 u0,.int .i64 u1,.int .i64 u2,.int .i64 u3,.int .i64 u4,.int .i64 u5,.int .i64 u6] 118)))
 clear hb hq1 K2 hu_0 hu_1 hu_2 hu_3 hu_4 hu_5 hu_6 hu_7 hu_8
 have hv:=K3.out.1.one _ (List.mem_cons_of_mem _ (List.mem_cons_self ..))
 have hv_0:=ceh hv 0
 have hv_1:=ceh hv 1
 have hv_2:=ceh hv 2
 have hv_3:=ceh hv 3
 have hv_4:=ceh hv 4
 have hv_5:=ceh hv 5
 have hv_6:=ceh hv 6
 have hv_7:=ceh hv 7
 have hv_8:=ceh hv 8
 clear hv
 go_wp2_with fail
 refine (h2.out _ K3.out.1.below).mono ?_
 rintro e w4 ⟨b3,x3,n3,c3,y3,m3,d3,b4,x4,n4,c4,y4,m4,d4,rfl,hb,hq1⟩
 have HS:Hid (w.heap.size+3≤w3.heap.size∧w3.heap.size<w4.heap.size):=hiD ⟨Z3.out,by have:=hb.size;simp at this;omega⟩
 have K4:=hiD (And.intro ((K3.out.1.next hb).more #[.bool b3,.slice x3 n3 c3,.slice y3 m3 d3,.bool b4,.slice x4 n4 c4,.slice y4 m4 d4,.int .i64 v0,.int .i64 v1,.int .i64 v2,.int .i64 v3,.int .i64 v4,.int .i64 v5,.int .i64 v6] 118) ((K3.out.2.next hb).next (below_alloc9 w4 (.cells #[.bool b3,.slice x3 n3 c3,.slice y3 m3 d3,.bool b4,.slice x4 n4 c4,.slice y4 m4 d4,.int .i64 v0,.int .i64 v1,.int .i64 v2,.int .i64 v3,.int .i64 v4,.int .i64 v5,.int .i64 v6] 118))))
 have F4:=hiD ((F3.out.below hb).below (below_alloc9 w4 (.cells #[.bool b3,.slice x3 n3 c3,.slice y3 m3 d3,.bool b4,.slice x4 n4 c4,.slice y4 m4 d4,.int .i64 v0,.int .i64 v1,.int .i64 v2,.int .i64 v3,.int .i64 v4,.int .i64 v5,.int .i64 v6] 118)))
 have G4:=hiD ((hq1 rfl).1.below (below_alloc9 w4 (.cells #[.bool b3,.slice x3 n3 c3,.slice y3 m3 d3,.bool b4,.slice x4 n4 c4,.slice y4 m4 d4,.int .i64 v0,.int .i64 v1,.int .i64 v2,.int .i64 v3,.int .i64 v4,.int .i64 v5,.int .i64 v6] 118)))
 clear hb hq1 K3 F3 hv_0 hv_1 hv_2 hv_3 hv_4 hv_5 hv_6 hv_7 hv_8
 go_wp2_with fail
 rename_i KK hKa
 have HT:Hid (∀ (g:Nat) (W:World) (b:Bool) (x:Option Addr) (l c:Nat) (y:Option Addr) (m d:Nat) (s0 s1 s3 s4 s5 s7 s8 s9 s11 s13 s14 s15 s16 s17 s18 s19 s20 s21 s22 s23 s24 s25 s26 s27 s28 s29 s30 s31 s32 s33 s34 s35 s36 s37 s38 s39 s40 s41 s42 s43 s44 s45 s46 s47 s48 s49 s50 s51 s52 s53 s54 s55 s56 s57 s58 s59 s60 s61 s62 s63:Value),Keep w W [(w4.heap.size,#[.bool b3,.slice x3 n3 c3,.slice y3 m3 d3,.bool b4,.slice x4 n4 c4,.slice y4 m4 d4,.int .i64 v0,.int .i64 v1,.int .i64 v2,.int .i64 v3,.int .i64 v4,.int .i64 v5,.int .i64 v6],118)]→ResU (w.heap.size+1+1) w W→W.heap[g]?=some (.cells (ck b x l c y m d u0 u1 u2 u3 u4 u5 u6 v0 v1 v2 v3 v4 v5 v6 n 0) 118 (0,0))→QAt W (.agg #[.bool b,.slice x l c,.slice y m d]) r→w.heap.size+3≤g→g≠w4.heap.size →
   KK { tmps:=#[s0,s1,.int .i64 n,s3,s4,s5,.pointer (some ⟨w.heap.size+1+1,0,none⟩),s7,s8,s9,.pointer (some ⟨w4.heap.size,0,none⟩),s11,.pointer (some ⟨g,0,none⟩),s13,s14,s15,s16,s17,s18,s19,s20,s21,s22,s23,s24,s25,s26,s27,s28,s29,s30,s31,s32,s33,s34,s35,s36,s37,s38,s39,s40,s41,s42,s43,s44,s45,s46,s47,s48,s49,s50,s51,s52,s53,s54,s55,s56,s57,s58,s59,s60,s61,s62,s63],defers:=[] } W):=hiD (by
  intro g W b x l c y m d s0 s1 s3 s4 s5 s7 s8 s9 s11 s13 s14 s15 s16 s17 s18 s19 s20 s21 s22 s23 s24 s25 s26 s27 s28 s29 s30 s31 s32 s33 s34 s35 s36 s37 s38 s39 s40 s41 s42 s43 s44 s45 s46 s47 s48 s49 s50 s51 s52 s53 s54 s55 s56 s57 s58 s59 s60 s61 s62 s63 hk hr hg hq hlt hne
  have H0:=hiD (And.intro hk (And.intro hr (And.intro hg hq)))
  have HL:=hiD hlt
  have HN:=hiD hne
  clear hk hr hg hq hlt hne
  apply hKa
  clear hKa
  go_wp2_with fail
  go_loopw [43] (fun iv wr=>∃ k:Nat,k≤7∧iv=.int .i64 (k:Int)∧Hid (Keep w wr [(w4.heap.size,#[.bool b3,.slice x3 n3 c3,.slice y3 m3 d3,.bool b4,.slice x4 n4 c4,.slice y4 m4 d4,.int .i64 v0,.int .i64 v1,.int .i64 v2,.int .i64 v3,.int .i64 v4,.int .i64 v5,.int .i64 v6],118)]∧ResU (w.heap.size+1+1) w wr∧wr.heap[g]?=some (.cells (ck b x l c y m d u0 u1 u2 u3 u4 u5 u6 v0 v1 v2 v3 v4 v5 v6 n k) 118 (0,0))∧QAt wr (.agg #[.bool b,.slice x l c,.slice y m d]) r)) (fun iv _=>7-(intOf iv).toNat)
  case atStart=>exact ⟨0,by omega,rfl,H0⟩
  case round =>
   obtain ⟨k,hk,rfl,hinv⟩:=hrel
   by_cases hlt:k<7
   ·have hlt':(k:Int)<7:=by omega
    have hk0:(0:Int)≤(k:Int):=by omega
    have c1:wr.cell? ⟨g,6+k,none⟩=some (.int .i64 ([u0,u1,u2,u3,u4,u5,u6].getD k 0)):=by rw [ceh hinv.out.2.2.1 (6+k)];exact ck_get k hlt
    have e1:=foh hinv.out.2.2.1 (6+k)
    have c2:wr.cell? ⟨w4.heap.size,6+k,none⟩=some (.int .i64 ([v0,v1,v2,v3,v4,v5,v6].getD k 0)):=by rw [ceh (hinv.out.1.one _ (List.mem_cons_self ..)) (6+k)];exact parts_get k hlt
    have m1:=hwm.out k hlt
    have m2:=hwa.out k hlt
    have hset:=hiD (ck_set (b:=b) (x:=x) (l:=l) (c:=c) (y:=y) (m:=m) (d:=d) (u0:=u0) (u1:=u1) (u2:=u2) (u3:=u3) (u4:=u4) (u5:=u5) (u6:=u6) (v0:=v0) (v1:=v1) (v2:=v2) (v3:=v3) (v4:=v4) (v5:=v5) (v6:=v6) (n:=n) k hlt)
    generalize [u0,u1,u2,u3,u4,u5,u6].getD k 0=uk at c1 m2 hset
    generalize [v0,v1,v2,v3,v4,v5,v6].getD k 0=vk at c2 m1 m2 hset
    have hk1:Hid (k+1≤7):=hiD hlt
    have hnx:Hid (Keep w (wr.setCell ⟨g,6+k,none⟩ (.int .i64 (uk+n*vk))).drew [(w4.heap.size,#[.bool b3,.slice x3 n3 c3,.slice y3 m3 d3,.bool b4,.slice x4 n4 c4,.slice y4 m4 d4,.int .i64 v0,.int .i64 v1,.int .i64 v2,.int .i64 v3,.int .i64 v4,.int .i64 v5,.int .i64 v6],118)]∧ResU (w.heap.size+1+1) w (wr.setCell ⟨g,6+k,none⟩ (.int .i64 (uk+n*vk))).drew∧(wr.setCell ⟨g,6+k,none⟩ (.int .i64 (uk+n*vk))).drew.heap[g]?=some (.cells (ck b x l c y m d u0 u1 u2 u3 u4 u5 u6 v0 v1 v2 v3 v4 v5 v6 n (k+1)) 118 (0,0))∧QAt (wr.setCell ⟨g,6+k,none⟩ (.int .i64 (uk+n*vk))).drew (.agg #[.bool b,.slice x l c,.slice y m d]) r):=hiD (by
     have a1:=HL.out
     obtain ⟨p1,p2,p3,p4⟩:=hinv.out
     refine ⟨Keep.drew ⟨p1.below.setCell (by show w.heap.size≤g;omega) _,fun z hz=>(Below.heap_setCell _ _ _ _ ?_).trans (p1.all z hz)⟩,ResU.drew (p2.set_far g _ _ (by omega) (by omega)),?_,QAt.dr (qat_setU ⟨_,p3,rfl,fun j v h=>ck_noU k j v h⟩ p4 _ _)⟩
     ·simp only [List.mem_cons,List.not_mem_nil,or_false] at hz
      subst hz
      exact fun e=>HN.out e.symm
     ·rw [← hset.out]
      exact heap_set g (6+k) _ 118 _ p3)
    clear hlt hk hset hinv
    go_wp2_with fail
    go_region
    go_wp2_with fail
    go_roundw
    case rel=>exact ⟨k+1,hk1.out,by go_num,hnx⟩
    case measure=>(simp [intOf])<;>omega
   ·obtain rfl:k=7:=by omega
    have hg7:=hinv.out.2.2.1
    rw [ck_seven] at hg7
    have g0':=ceh hg7 0
    have g1':=ceh hg7 1
    have g2':=ceh hg7 2
    have g3':=ceh hg7 3
    have g4':=ceh hg7 4
    have g5':=ceh hg7 5
    have g6':=ceh hg7 6
    have g7':=ceh hg7 7
    have g8':=ceh hg7 8
    have g9':=ceh hg7 9
    have g10':=ceh hg7 10
    have g11':=ceh hg7 11
    have g12':=ceh hg7 12
    have hc:=h110.out wr b x l c y m d hinv.out.2.2.2
    have HC:=hiD hc
    clear hg7 hc hlt hk
    go_wp2_with fail
    refine HC.out.mono ?_
    rintro e w9 ⟨rfl,hb⟩
    have hr9:=hinv.out.2.1.next hb
    obtain ⟨z0,z1,z2,z3,z4,z5,z6,z7,z8,hz⟩:=hr9.z
    have k0:=ceh hz 0
    have e0:=foh hz 0
    have k1:=ceh hz 1
    have e1:=foh hz 1
    have k2:=ceh hz 2
    have e2:=foh hz 2
    have k3:=ceh hz 3
    have e3:=foh hz 3
    have k4:=ceh hz 4
    have e4:=foh hz 4
    have k5:=ceh hz 5
    have e5:=foh hz 5
    have k6:=ceh hz 6
    have e6:=foh hz 6
    have k7:=ceh hz 7
    have e7:=foh hz 7
    have k8:=ceh hz 8
    have e8:=foh hz 8
    have HF:=hiD (hr9.put9 (by omega) (.string sf) (.string so) (.int .i64 r0) (.int .i64 r1) (.int .i64 r2) (.int .i64 r3) (.int .i64 r4) (.int .i64 r5) (.int .i64 r6))
    clear hz hr9 hb HC hinv g0' g1' g2' g3' g4' g5' g6' g7' g8' g9' g10' g11' g12'
    go_wp2_with fail
    refine bodyPost_ret (v:=.tuple #[.agg #[.string sf,.string so,.int .i64 r0,.int .i64 r1,.int .i64 r2,.int .i64 r3,.int .i64 r4,.int .i64 r5,.int .i64 r6],.int .i64 code]) (by simp [results,Tryz.results118,go_sem,k0,k1,k2,k3,k4,k5,k6,k7,k8]) rfl ?_
    exact ⟨rfl,HF.out⟩)
 have K5:Hid (Keep w (w4.alloc (.cells #[.bool b3,.slice x3 n3 c3,.slice y3 m3 d3,.bool b4,.slice x4 n4 c4,.slice y4 m4 d4,.int .i64 v0,.int .i64 v1,.int .i64 v2,.int .i64 v3,.int .i64 v4,.int .i64 v5,.int .i64 v6] 118)) [(w4.heap.size,#[.bool b3,.slice x3 n3 c3,.slice y3 m3 d3,.bool b4,.slice x4 n4 c4,.slice y4 m4 d4,.int .i64 v0,.int .i64 v1,.int .i64 v2,.int .i64 v3,.int .i64 v4,.int .i64 v5,.int .i64 v6],118),(w3.heap.size,#[.bool b1,.slice x1 n1 c1,.slice y1 m1 d1,.bool b2,.slice x2 n2 c2,.slice y2 m2 d2,.int .i64 u0,.int .i64 u1,.int .i64 u2,.int .i64 u3,.int .i64 u4,.int .i64 u5,.int .i64 u6],118)]):=hiD (K4.out.1.sub (fun z hz=>by
  simp only [List.mem_cons,List.not_mem_nil,or_false] at hz
  rcases hz with rfl|rfl
  ·exact List.mem_cons_self ..
  ·exact List.mem_cons_of_mem _ (List.mem_cons_self ..)))
 have R5:=hiD K4.out.2
 have KB:Hid (∀ W,Keep w W [(w4.heap.size,#[.bool b3,.slice x3 n3 c3,.slice y3 m3 d3,.bool b4,.slice x4 n4 c4,.slice y4 m4 d4,.int .i64 v0,.int .i64 v1,.int .i64 v2,.int .i64 v3,.int .i64 v4,.int .i64 v5,.int .i64 v6],118),(w3.heap.size,#[.bool b1,.slice x1 n1 c1,.slice y1 m1 d1,.bool b2,.slice x2 n2 c2,.slice y2 m2 d2,.int .i64 u0,.int .i64 u1,.int .i64 u2,.int .i64 u3,.int .i64 u4,.int .i64 u5,.int .i64 u6],118)]→ResU (w.heap.size+1+1) w W→QAt W (.agg #[.bool b1,.slice x1 n1 c1,.slice y1 m1 d1]) qf→QAt W (.agg #[.bool b3,.slice x3 n3 c3,.slice y3 m3 d3]) rf→((fun w'=>(Keep w w' [(w4.heap.size,#[.bool b3,.slice x3 n3 c3,.slice y3 m3 d3,.bool b4,.slice x4 n4 c4,.slice y4 m4 d4,.int .i64 v0,.int .i64 v1,.int .i64 v2,.int .i64 v3,.int .i64 v4,.int .i64 v5,.int .i64 v6],118),(w3.heap.size,#[.bool b1,.slice x1 n1 c1,.slice y1 m1 d1,.bool b2,.slice x2 n2 c2,.slice y2 m2 d2,.int .i64 u0,.int .i64 u1,.int .i64 u2,.int .i64 u3,.int .i64 u4,.int .i64 u5,.int .i64 u6],118)]∧ResU (w.heap.size+1+1) w w'∧QAt w' (.agg #[.bool b1,.slice x1 n1 c1,.slice y1 m1 d1]) qf∧QAt w' (.agg #[.bool b3,.slice x3 n3 c3,.slice y3 m3 d3]) rf)∧w'.cell? ⟨w3.heap.size,0,none⟩=some (.bool b1)∧w'.cell? ⟨w3.heap.size,1,none⟩=some (.slice x1 n1 c1)∧w'.cell? ⟨w3.heap.size,2,none⟩=some (.slice y1 m1 d1)∧w'.cell? ⟨w3.heap.size,6,none⟩=some (.int .i64 u0)∧w'.cell? ⟨w3.heap.size,7,none⟩=some (.int .i64 u1)∧w'.cell? ⟨w3.heap.size,8,none⟩=some (.int .i64 u2)∧w'.cell? ⟨w3.heap.size,9,none⟩=some (.int .i64 u3)∧w'.cell? ⟨w3.heap.size,10,none⟩=some (.int .i64 u4)∧w'.cell? ⟨w3.heap.size,11,none⟩=some (.int .i64 u5)∧w'.cell? ⟨w3.heap.size,12,none⟩=some (.int .i64 u6)∧w'.cell? ⟨w4.heap.size,0,none⟩=some (.bool b3)∧w'.cell? ⟨w4.heap.size,1,none⟩=some (.slice x3 n3 c3)∧w'.cell? ⟨w4.heap.size,2,none⟩=some (.slice y3 m3 d3)) W)):=hiD fun W h hr h1 h2=>⟨⟨h,hr,h1,h2⟩,ceh (h.one _ (List.mem_cons_of_mem _ (List.mem_cons_self ..))) 0,ceh (h.one _ (List.mem_cons_of_mem _ (List.mem_cons_self ..))) 1,ceh (h.one _ (List.mem_cons_of_mem _ (List.mem_cons_self ..))) 2,ceh (h.one _ (List.mem_cons_of_mem _ (List.mem_cons_self ..))) 6,ceh (h.one _ (List.mem_cons_of_mem _ (List.mem_cons_self ..))) 7,ceh (h.one _ (List.mem_cons_of_mem _ (List.mem_cons_self ..))) 8,ceh (h.one _ (List.mem_cons_of_mem _ (List.mem_cons_self ..))) 9,ceh (h.one _ (List.mem_cons_of_mem _ (List.mem_cons_self ..))) 10,ceh (h.one _ (List.mem_cons_of_mem _ (List.mem_cons_self ..))) 11,ceh (h.one _ (List.mem_cons_of_mem _ (List.mem_cons_self ..))) 12,ceh (h.one _ (List.mem_cons_self ..)) 0,ceh (h.one _ (List.mem_cons_self ..)) 1,ceh (h.one _ (List.mem_cons_self ..)) 2⟩
 clear K4
 refine wp_region_held_drew (S:=fun w'=>(Keep w w' [(w4.heap.size,#[.bool b3,.slice x3 n3 c3,.slice y3 m3 d3,.bool b4,.slice x4 n4 c4,.slice y4 m4 d4,.int .i64 v0,.int .i64 v1,.int .i64 v2,.int .i64 v3,.int .i64 v4,.int .i64 v5,.int .i64 v6],118),(w3.heap.size,#[.bool b1,.slice x1 n1 c1,.slice y1 m1 d1,.bool b2,.slice x2 n2 c2,.slice y2 m2 d2,.int .i64 u0,.int .i64 u1,.int .i64 u2,.int .i64 u3,.int .i64 u4,.int .i64 u5,.int .i64 u6],118)]∧ResU (w.heap.size+1+1) w w'∧QAt w' (.agg #[.bool b1,.slice x1 n1 c1,.slice y1 m1 d1]) qf∧QAt w' (.agg #[.bool b3,.slice x3 n3 c3,.slice y3 m3 d3]) rf)∧w'.cell? ⟨w3.heap.size,0,none⟩=some (.bool b1)∧w'.cell? ⟨w3.heap.size,1,none⟩=some (.slice x1 n1 c1)∧w'.cell? ⟨w3.heap.size,2,none⟩=some (.slice y1 m1 d1)∧w'.cell? ⟨w3.heap.size,6,none⟩=some (.int .i64 u0)∧w'.cell? ⟨w3.heap.size,7,none⟩=some (.int .i64 u1)∧w'.cell? ⟨w3.heap.size,8,none⟩=some (.int .i64 u2)∧w'.cell? ⟨w3.heap.size,9,none⟩=some (.int .i64 u3)∧w'.cell? ⟨w3.heap.size,10,none⟩=some (.int .i64 u4)∧w'.cell? ⟨w3.heap.size,11,none⟩=some (.int .i64 u5)∧w'.cell? ⟨w3.heap.size,12,none⟩=some (.int .i64 u6)∧w'.cell? ⟨w4.heap.size,0,none⟩=some (.bool b3)∧w'.cell? ⟨w4.heap.size,1,none⟩=some (.slice x3 n3 c3)∧w'.cell? ⟨w4.heap.size,2,none⟩=some (.slice y3 m3 d3)) (by kernel_rfl) (KB.out _ K5.out.drew R5.out.drew F4.out.dr G4.out.dr) (fun hHeld=>?_)
 refine wpAnyH_take (i:=0) (v:=(.pointer (some ⟨w3.heap.size,0,none⟩))) rfl (by kernel_rfl) (by kernel_rfl) (by kernel_rfl) (fun _ _ _ h=>h) (Or.inl ⟨by rfl,by intro W hSw;clear hHeld;go_split_ands;go_simp⟩) (by assumption) ?_
 simp only [List.getElem_toArray,List.getElem_cons_zero,Act.put,List.setIfInBounds_toArray,List.set_cons_zero,List.set_cons_succ]
 refine wpAnyH_take (i:=1) (v:=(.agg #[.bool b1,.slice x1 n1 c1,.slice y1 m1 d1])) rfl (by kernel_rfl) (by kernel_rfl) (by kernel_rfl) (fun _ _ _ h=>h) (Or.inl ⟨by rfl,by intro W hSw;clear hHeld;go_split_ands;go_simp⟩) (by assumption) ?_
 simp only [List.getElem_toArray,List.getElem_cons_zero,List.getElem_cons_succ,Act.put,List.setIfInBounds_toArray,List.set_cons_zero,List.set_cons_succ]
 refine wpAnyH_take (i:=2) (v:=(.pointer (some ⟨w4.heap.size,0,none⟩))) rfl (by kernel_rfl) (by kernel_rfl) (by kernel_rfl) (fun _ _ _ h=>h) (Or.inl ⟨by rfl,by intro W hSw;clear hHeld;go_split_ands;go_simp⟩) (by assumption) ?_
 simp only [List.getElem_toArray,List.getElem_cons_zero,List.getElem_cons_succ,Act.put,List.setIfInBounds_toArray,List.set_cons_zero,List.set_cons_succ]
 refine wpAnyH_take (i:=3) (v:=(.agg #[.bool b3,.slice x3 n3 c3,.slice y3 m3 d3])) rfl (by kernel_rfl) (by kernel_rfl) (by kernel_rfl) (fun _ _ _ h=>h) (Or.inl ⟨by rfl,by intro W hSw;clear hHeld;go_split_ands;go_simp⟩) (by assumption) ?_
 simp only [List.getElem_toArray,List.getElem_cons_zero,List.getElem_cons_succ,Act.put,List.setIfInBounds_toArray,List.set_cons_zero,List.set_cons_succ]
 refine wpAnyH_take (i:=4) (v:=(.int .i64 n)) rfl (by kernel_rfl) (by kernel_rfl) (by kernel_rfl) (fun _ _ _ h=>h) (Or.inl ⟨by rfl,by intro W hSw;clear hHeld;go_split_ands;go_simp⟩) (by assumption) ?_
 simp only [List.getElem_toArray,List.getElem_cons_zero,List.getElem_cons_succ,Act.put,List.setIfInBounds_toArray,List.set_cons_zero,List.set_cons_succ]
 refine wpAnyH_take (i:=7) (v:=(.pointer (some ⟨w3.heap.size,6,none⟩))) rfl (by kernel_rfl) (by kernel_rfl) (by kernel_rfl) (fun _ _ _ h=>h) (Or.inl ⟨by rfl,by intro W hSw;clear hHeld;go_split_ands;go_simp⟩) (by assumption) ?_
 simp only [List.getElem_toArray,List.getElem_cons_zero,List.getElem_cons_succ,Act.put,List.setIfInBounds_toArray,List.set_cons_zero,List.set_cons_succ]
 refine wpAnyH_take (i:=8) (v:=(.agg #[.int .i64 u0,.int .i64 u1,.int .i64 u2,.int .i64 u3,.int .i64 u4,.int .i64 u5,.int .i64 u6])) rfl (by kernel_rfl) (by kernel_rfl) (by kernel_rfl) (fun _ _ _ h=>h) (Or.inl ⟨by rfl,by intro W hSw;clear hHeld;go_split_ands;go_simp⟩) (by assumption) ?_
 simp only [List.getElem_toArray,List.getElem_cons_zero,List.getElem_cons_succ,Act.put,List.setIfInBounds_toArray,List.set_cons_zero,List.set_cons_succ]
 refine wpAnyH_ready (rs:=[5,10]) (by kernel_rfl) (by simp) ?_
 refine AllReadyH.cons (i:=5) rfl (fun K hK=>?_) ?_
 ·go_simp
  refine (h157.out _ _ hHeld.1.2.2.2).mono ?_
  rintro e v1 ⟨e10,e11,e12,e13,e14,e15,e16,rfl,hz1,hb1⟩
  go_simp
  refine hK.out _ _ (KB.out _ (hHeld.1.1.next hb1) (hHeld.1.2.1.next hb1) (hHeld.1.2.2.1.below hb1) (hHeld.1.2.2.2.below hb1)) (fun hHeld=>?_)
  clear hK K
  refine wpAnyH_ready (rs:=[6,10]) (by kernel_rfl) (by simp) ?_
  refine AllReadyH.cons (i:=6) rfl (fun K hK=>?_) ?_
  ·go_simp
   refine (h47.out _ _ _ hHeld.1.2.2.1 hz1).mono ?_
   rintro e v2 ⟨e20,e21,e22,e23,e24,e25,e26,rfl,hz2,hb2⟩
   go_simp
   refine hK.out _ _ (KB.out _ (hHeld.1.1.next hb2) (hHeld.1.2.1.next hb2) (hHeld.1.2.2.1.below hb2) (hHeld.1.2.2.2.below hb2)) (fun hHeld=>?_)
   clear hK K
   refine wpAnyH_take (i:=9) (v:=(.agg #[.bool e20,.slice e21 e22 e23,.slice e24 e25 e26,.bool false,.slice none 0 0,.slice none 0 0,.int .i64 u0,.int .i64 u1,.int .i64 u2,.int .i64 u3,.int .i64 u4,.int .i64 u5,.int .i64 u6])) rfl (by kernel_rfl) (by kernel_rfl) (by kernel_rfl) (fun _ _ _ h=>h) (Or.inl ⟨by rfl,by intro W hSw;clear hHeld;go_split_ands;go_simp⟩) (by assumption) ?_
   simp only [List.getElem_toArray,List.getElem_cons_zero,List.getElem_cons_succ,Act.put,List.setIfInBounds_toArray,List.set_cons_zero,List.set_cons_succ]
   have hlt4:=hiD (hHeld.1.1.lt (List.mem_cons_self ..))
   have hlt3:=hiD (hHeld.1.1.lt (List.mem_cons_of_mem _ (List.mem_cons_self ..)))
   have hba:=below_alloc9 v2 (.cells #[.bool e20,.slice e21 e22 e23,.slice e24 e25 e26,.bool false,.slice none 0 0,.slice none 0 0,.int .i64 u0,.int .i64 u1,.int .i64 u2,.int .i64 u3,.int .i64 u4,.int .i64 u5,.int .i64 u6] 118)
   have hkk:=hiD (hHeld.1.1.next hba)
   have hrr:=hiD (hHeld.1.2.1.next hba)
   have hq1:=hiD (hHeld.1.2.2.1.below hba)
   have hq2:=hiD (hHeld.1.2.2.2.below hba)
   have hq3:=hiD (hz2.below hba)
   have hgg:=hiD (heap_new v2 (.cells #[.bool e20,.slice e21 e22 e23,.slice e24 e25 e26,.bool false,.slice none 0 0,.slice none 0 0,.int .i64 u0,.int .i64 u1,.int .i64 u2,.int .i64 u3,.int .i64 u4,.int .i64 u5,.int .i64 u6] 118))
   have hlt:=hiD (show w.heap.size+3≤v2.heap.size from (bLT hlt4.out hlt3.out HS.out))
   have hne4:=hiD (show v2.heap.size≠w4.heap.size from (bNE hlt4.out hlt3.out HS.out))
   clear hba
   refine wpAnyH_ready (rs:=[10]) (by kernel_rfl) (by simp) ?_
   refine AllReadyH.cons (i:=10) rfl (fun K hK=>?_) AllReadyH.nil
   go_simp
   refine hK.out _ _ (KB.out _ (hHeld.1.1.next (below_alloc9 v2 (.cells #[.bool false,.slice none 0 0,.slice none 0 0,.bool false,.slice none 0 0,.slice none 0 0,.int .i64 0,.int .i64 0,.int .i64 0,.int .i64 0,.int .i64 0,.int .i64 0,.int .i64 0] 118))) (hHeld.1.2.1.next (below_alloc9 v2 (.cells #[.bool false,.slice none 0 0,.slice none 0 0,.bool false,.slice none 0 0,.slice none 0 0,.int .i64 0,.int .i64 0,.int .i64 0,.int .i64 0,.int .i64 0,.int .i64 0,.int .i64 0] 118))) (hHeld.1.2.2.1.below (below_alloc9 v2 (.cells #[.bool false,.slice none 0 0,.slice none 0 0,.bool false,.slice none 0 0,.slice none 0 0,.int .i64 0,.int .i64 0,.int .i64 0,.int .i64 0,.int .i64 0,.int .i64 0,.int .i64 0] 118))) (hHeld.1.2.2.2.below (below_alloc9 v2 (.cells #[.bool false,.slice none 0 0,.slice none 0 0,.bool false,.slice none 0 0,.slice none 0 0,.int .i64 0,.int .i64 0,.int .i64 0,.int .i64 0,.int .i64 0,.int .i64 0,.int .i64 0] 118)))) (fun hHeld=>?_)
   clear hK K
   refine wpAnyH_ready (rs:=[11]) (by kernel_rfl) (by simp) ?_
   refine AllReadyH.cons (i:=11) rfl (fun K hK=>?_) AllReadyH.nil
   go_simp
   refine hK.out _ _ (KB.out _ hkk.out hrr.out hq1.out hq2.out) (fun hHeld=>?_)
   clear hK K
   refine wpAnyH_done (by kernel_rfl) ?_ _
   exact HT.out v2.heap.size _ e20 e21 e22 e23 e24 e25 e26 _ _ _ _ _ _ _ _ _ _ _ _ _ _ _ _ _ _ _ _ _ _ _ _ _ _ _ _ _ _ _ _ _ _ _ _ _ _ _ _ _ _ _ _ _ _ _ _ _ _ _ _ _ _ _ _ _ _ _ _ (hkk.out.sub (fun z hz=>by simp only [List.mem_cons,List.not_mem_nil,or_false] at hz;subst hz;exact List.mem_cons_self ..)) hrr.out hgg.out hq3.out hlt.out hne4.out
  ·refine AllReadyH.cons (i:=10) rfl (fun K hK=>?_) AllReadyH.nil
   have hG1:=hiD (heap_new v1 (.cells #[.bool false,.slice none 0 0,.slice none 0 0,.bool false,.slice none 0 0,.slice none 0 0,.int .i64 0,.int .i64 0,.int .i64 0,.int .i64 0,.int .i64 0,.int .i64 0,.int .i64 0] 118))
   have hlt4:=hiD (hHeld.1.1.lt (List.mem_cons_self ..))
   have hlt3:=hiD (hHeld.1.1.lt (List.mem_cons_of_mem _ (List.mem_cons_self ..)))
   have hz1':=hz1.below (below_alloc9 v1 (.cells #[.bool false,.slice none 0 0,.slice none 0 0,.bool false,.slice none 0 0,.slice none 0 0,.int .i64 0,.int .i64 0,.int .i64 0,.int .i64 0,.int .i64 0,.int .i64 0,.int .i64 0] 118))
   go_simp
   refine hK.out _ _ (KB.out _ (hHeld.1.1.next (below_alloc9 v1 (.cells #[.bool false,.slice none 0 0,.slice none 0 0,.bool false,.slice none 0 0,.slice none 0 0,.int .i64 0,.int .i64 0,.int .i64 0,.int .i64 0,.int .i64 0,.int .i64 0,.int .i64 0] 118))) (hHeld.1.2.1.next (below_alloc9 v1 (.cells #[.bool false,.slice none 0 0,.slice none 0 0,.bool false,.slice none 0 0,.slice none 0 0,.int .i64 0,.int .i64 0,.int .i64 0,.int .i64 0,.int .i64 0,.int .i64 0,.int .i64 0] 118))) (hHeld.1.2.2.1.below (below_alloc9 v1 (.cells #[.bool false,.slice none 0 0,.slice none 0 0,.bool false,.slice none 0 0,.slice none 0 0,.int .i64 0,.int .i64 0,.int .i64 0,.int .i64 0,.int .i64 0,.int .i64 0,.int .i64 0] 118))) (hHeld.1.2.2.2.below (below_alloc9 v1 (.cells #[.bool false,.slice none 0 0,.slice none 0 0,.bool false,.slice none 0 0,.slice none 0 0,.int .i64 0,.int .i64 0,.int .i64 0,.int .i64 0,.int .i64 0,.int .i64 0,.int .i64 0] 118)))) (fun hHeld=>?_)
   clear hK K
   refine wpAnyH_ready (rs:=[6]) (by kernel_rfl) (by simp) ?_
   refine AllReadyH.cons (i:=6) rfl (fun K hK=>?_) AllReadyH.nil
   go_simp
   refine (h47.out _ _ _ hHeld.1.2.2.1 hz1').mono ?_
   rintro e v2 ⟨e20,e21,e22,e23,e24,e25,e26,rfl,hz2,hb2⟩
   have hG:=hiD ((hb2.block v1.heap.size (by simp)).trans hG1.out)
   have HZ:=hiD hz2
   go_simp
   refine hK.out _ _ (KB.out _ (hHeld.1.1.next hb2) (hHeld.1.2.1.next hb2) (hHeld.1.2.2.1.below hb2) (hHeld.1.2.2.2.below hb2)) (fun hHeld=>?_)
   clear hK K
   refine wpAnyH_take (i:=9) (v:=(.agg #[.bool e20,.slice e21 e22 e23,.slice e24 e25 e26,.bool false,.slice none 0 0,.slice none 0 0,.int .i64 u0,.int .i64 u1,.int .i64 u2,.int .i64 u3,.int .i64 u4,.int .i64 u5,.int .i64 u6])) rfl (by kernel_rfl) (by kernel_rfl) (by kernel_rfl) (fun _ _ _ h=>h) (Or.inl ⟨by rfl,by intro W hSw;clear hHeld;go_split_ands;go_simp⟩) (by assumption) ?_
   simp only [List.getElem_toArray,List.getElem_cons_zero,List.getElem_cons_succ,Act.put,List.setIfInBounds_toArray,List.set_cons_zero,List.set_cons_succ]
   refine wpAnyH_ready (rs:=[11]) (by kernel_rfl) (by simp) ?_
   refine AllReadyH.cons (i:=11) rfl (fun K hK=>?_) AllReadyH.nil
   have k0:=ceh hG.out 0
   have f0:=foh hG.out 0
   have k1:=ceh hG.out 1
   have f1:=foh hG.out 1
   have k2:=ceh hG.out 2
   have f2:=foh hG.out 2
   have k3:=ceh hG.out 3
   have f3:=foh hG.out 3
   have k4:=ceh hG.out 4
   have f4:=foh hG.out 4
   have k5:=ceh hG.out 5
   have f5:=foh hG.out 5
   have k6:=ceh hG.out 6
   have f6:=foh hG.out 6
   have k7:=ceh hG.out 7
   have f7:=foh hG.out 7
   have k8:=ceh hG.out 8
   have f8:=foh hG.out 8
   have k9:=ceh hG.out 9
   have f9:=foh hG.out 9
   have k10:=ceh hG.out 10
   have f10:=foh hG.out 10
   have k11:=ceh hG.out 11
   have f11:=foh hG.out 11
   have k12:=ceh hG.out 12
   have f12:=foh hG.out 12
   have hf:=hiD ((((((((((((((Fil.start hG.out).more' 0 (.bool e20) (nub _) (c':=#[.bool e20,.slice none 0 0,.slice none 0 0,.bool false,.slice none 0 0,.slice none 0 0,.int .i64 0,.int .i64 0,.int .i64 0,.int .i64 0,.int .i64 0,.int .i64 0,.int .i64 0]) rfl).more' 1 (.slice e21 e22 e23) (nus _ _ _) (c':=#[.bool e20,.slice e21 e22 e23,.slice none 0 0,.bool false,.slice none 0 0,.slice none 0 0,.int .i64 0,.int .i64 0,.int .i64 0,.int .i64 0,.int .i64 0,.int .i64 0,.int .i64 0]) rfl).more' 2 (.slice e24 e25 e26) (nus _ _ _) (c':=#[.bool e20,.slice e21 e22 e23,.slice e24 e25 e26,.bool false,.slice none 0 0,.slice none 0 0,.int .i64 0,.int .i64 0,.int .i64 0,.int .i64 0,.int .i64 0,.int .i64 0,.int .i64 0]) rfl).more' 3 (.bool false) (nub _) (c':=#[.bool e20,.slice e21 e22 e23,.slice e24 e25 e26,.bool false,.slice none 0 0,.slice none 0 0,.int .i64 0,.int .i64 0,.int .i64 0,.int .i64 0,.int .i64 0,.int .i64 0,.int .i64 0]) rfl).more' 4 (.slice none 0 0) (nus _ _ _) (c':=#[.bool e20,.slice e21 e22 e23,.slice e24 e25 e26,.bool false,.slice none 0 0,.slice none 0 0,.int .i64 0,.int .i64 0,.int .i64 0,.int .i64 0,.int .i64 0,.int .i64 0,.int .i64 0]) rfl).more' 5 (.slice none 0 0) (nus _ _ _) (c':=#[.bool e20,.slice e21 e22 e23,.slice e24 e25 e26,.bool false,.slice none 0 0,.slice none 0 0,.int .i64 0,.int .i64 0,.int .i64 0,.int .i64 0,.int .i64 0,.int .i64 0,.int .i64 0]) rfl).more' 6 (.int .i64 u0) (nui _) (c':=#[.bool e20,.slice e21 e22 e23,.slice e24 e25 e26,.bool false,.slice none 0 0,.slice none 0 0,.int .i64 u0,.int .i64 0,.int .i64 0,.int .i64 0,.int .i64 0,.int .i64 0,.int .i64 0]) rfl).more' 7 (.int .i64 u1) (nui _) (c':=#[.bool e20,.slice e21 e22 e23,.slice e24 e25 e26,.bool false,.slice none 0 0,.slice none 0 0,.int .i64 u0,.int .i64 u1,.int .i64 0,.int .i64 0,.int .i64 0,.int .i64 0,.int .i64 0]) rfl).more' 8 (.int .i64 u2) (nui _) (c':=#[.bool e20,.slice e21 e22 e23,.slice e24 e25 e26,.bool false,.slice none 0 0,.slice none 0 0,.int .i64 u0,.int .i64 u1,.int .i64 u2,.int .i64 0,.int .i64 0,.int .i64 0,.int .i64 0]) rfl).more' 9 (.int .i64 u3) (nui _) (c':=#[.bool e20,.slice e21 e22 e23,.slice e24 e25 e26,.bool false,.slice none 0 0,.slice none 0 0,.int .i64 u0,.int .i64 u1,.int .i64 u2,.int .i64 u3,.int .i64 0,.int .i64 0,.int .i64 0]) rfl).more' 10 (.int .i64 u4) (nui _) (c':=#[.bool e20,.slice e21 e22 e23,.slice e24 e25 e26,.bool false,.slice none 0 0,.slice none 0 0,.int .i64 u0,.int .i64 u1,.int .i64 u2,.int .i64 u3,.int .i64 u4,.int .i64 0,.int .i64 0]) rfl).more' 11 (.int .i64 u5) (nui _) (c':=#[.bool e20,.slice e21 e22 e23,.slice e24 e25 e26,.bool false,.slice none 0 0,.slice none 0 0,.int .i64 u0,.int .i64 u1,.int .i64 u2,.int .i64 u3,.int .i64 u4,.int .i64 u5,.int .i64 0]) rfl).more' 12 (.int .i64 u6) (nui _) (c':=#[.bool e20,.slice e21 e22 e23,.slice e24 e25 e26,.bool false,.slice none 0 0,.slice none 0 0,.int .i64 u0,.int .i64 u1,.int .i64 u2,.int .i64 u3,.int .i64 u4,.int .i64 u5,.int .i64 u6]) rfl)
   have hlt:=hiD (show w.heap.size+3≤v1.heap.size from (bLT hlt4.out hlt3.out HS.out))
   have hne4:=hiD (show v1.heap.size≠w4.heap.size from (bNE hlt4.out hlt3.out HS.out))
   have hne3:=hiD (show v1.heap.size≠w3.heap.size from (bNF hlt4.out hlt3.out HS.out))
   have hkk:=hiD (hf.out.keep _ _ (by have:=hlt.out;omega) (by intro z hz;simp only [List.mem_cons,List.not_mem_nil,or_false] at hz;rcases hz with rfl|rfl;exact fun e=>hne4.out e.symm;exact fun e=>hne3.out e.symm) hHeld.1.1)
   have hrr:=hiD (hf.out.res _ _ (by have:=hlt.out;omega) (by have:=hlt.out;omega) hHeld.1.2.1)
   have hq1:=hiD (hf.out.nums _ _ hHeld.1.2.2.1)
   have hq2:=hiD (hf.out.nums _ _ hHeld.1.2.2.2)
   have hq3:=hiD (hf.out.nums _ _ HZ.out)
   go_simp
   refine hK.out _ _ (KB.out _ hkk.out hrr.out hq1.out hq2.out) (fun hHeld=>?_)
   clear hK K
   refine wpAnyH_done (by kernel_rfl) ?_ _
   exact HT.out (v1.heap.size) _ e20 e21 e22 e23 e24 e25 e26 _ _ _ _ _ _ _ _ _ _ _ _ _ _ _ _ _ _ _ _ _ _ _ _ _ _ _ _ _ _ _ _ _ _ _ _ _ _ _ _ _ _ _ _ _ _ _ _ _ _ _ _ _ _ _ _ _ _ _ _ (hkk.out.sub (fun z hz=>by simp only [List.mem_cons,List.not_mem_nil,or_false] at hz;subst hz;exact List.mem_cons_self ..)) hrr.out hf.out.heap hq3.out hlt.out hne4.out
 ·refine AllReadyH.cons (i:=10) rfl (fun K hK=>?_) AllReadyH.nil
  have hG0:Hid (((w4.alloc (.cells #[.bool b3,.slice x3 n3 c3,.slice y3 m3 d3,.bool b4,.slice x4 n4 c4,.slice y4 m4 d4,.int .i64 v0,.int .i64 v1,.int .i64 v2,.int .i64 v3,.int .i64 v4,.int .i64 v5,.int .i64 v6] 118)).alloc (.cells #[.bool false,.slice none 0 0,.slice none 0 0,.bool false,.slice none 0 0,.slice none 0 0,.int .i64 0,.int .i64 0,.int .i64 0,.int .i64 0,.int .i64 0,.int .i64 0,.int .i64 0] 118)).heap[w4.heap.size+1]?=some (.cells #[.bool false,.slice none 0 0,.slice none 0 0,.bool false,.slice none 0 0,.slice none 0 0,.int .i64 0,.int .i64 0,.int .i64 0,.int .i64 0,.int .i64 0,.int .i64 0,.int .i64 0] 118 (0,0))):=hiD (by have h:=heap_new (w4.alloc (.cells #[.bool b3,.slice x3 n3 c3,.slice y3 m3 d3,.bool b4,.slice x4 n4 c4,.slice y4 m4 d4,.int .i64 v0,.int .i64 v1,.int .i64 v2,.int .i64 v3,.int .i64 v4,.int .i64 v5,.int .i64 v6] 118)) (.cells #[.bool false,.slice none 0 0,.slice none 0 0,.bool false,.slice none 0 0,.slice none 0 0,.int .i64 0,.int .i64 0,.int .i64 0,.int .i64 0,.int .i64 0,.int .i64 0,.int .i64 0] 118);rw [show (w4.alloc (.cells #[.bool b3,.slice x3 n3 c3,.slice y3 m3 d3,.bool b4,.slice x4 n4 c4,.slice y4 m4 d4,.int .i64 v0,.int .i64 v1,.int .i64 v2,.int .i64 v3,.int .i64 v4,.int .i64 v5,.int .i64 v6] 118)).heap.size=w4.heap.size+1 from by simp] at h;exact h)
  have hba:=below_alloc9 (w4.alloc (.cells #[.bool b3,.slice x3 n3 c3,.slice y3 m3 d3,.bool b4,.slice x4 n4 c4,.slice y4 m4 d4,.int .i64 v0,.int .i64 v1,.int .i64 v2,.int .i64 v3,.int .i64 v4,.int .i64 v5,.int .i64 v6] 118)) (.cells #[.bool false,.slice none 0 0,.slice none 0 0,.bool false,.slice none 0 0,.slice none 0 0,.int .i64 0,.int .i64 0,.int .i64 0,.int .i64 0,.int .i64 0,.int .i64 0,.int .i64 0] 118)
  go_simp
  refine hK.out _ _ (KB.out _ (K5.out.next hba).drew (R5.out.next hba).drew (F4.out.below hba).dr (G4.out.below hba).dr) (fun hHeld=>?_)
  clear hK K
  refine wpAnyH_ready (rs:=[5]) (by kernel_rfl) (by simp) ?_
  refine AllReadyH.cons (i:=5) rfl (fun K hK=>?_) AllReadyH.nil
  go_simp
  refine (h157.out _ _ hHeld.1.2.2.2).mono ?_
  rintro e v1 ⟨e10,e11,e12,e13,e14,e15,e16,rfl,hz1,hb1⟩
  have hG1:=hiD ((hb1.block (w4.heap.size+1) (by simp)).trans hG0.out)
  go_simp
  refine hK.out _ _ (KB.out _ (hHeld.1.1.next hb1) (hHeld.1.2.1.next hb1) (hHeld.1.2.2.1.below hb1) (hHeld.1.2.2.2.below hb1)) (fun hHeld=>?_)
  clear hK K
  refine wpAnyH_ready (rs:=[6]) (by kernel_rfl) (by simp) ?_
  refine AllReadyH.cons (i:=6) rfl (fun K hK=>?_) AllReadyH.nil
  go_simp
  refine (h47.out _ _ _ hHeld.1.2.2.1 hz1).mono ?_
  rintro e v2 ⟨e20,e21,e22,e23,e24,e25,e26,rfl,hz2,hb2⟩
  have hG:=hiD ((hb2.block (w4.heap.size+1) (Array.getElem?_eq_some_iff.1 hG1.out).1).trans hG1.out)
  have HZ:=hiD hz2
  go_simp
  refine hK.out _ _ (KB.out _ (hHeld.1.1.next hb2) (hHeld.1.2.1.next hb2) (hHeld.1.2.2.1.below hb2) (hHeld.1.2.2.2.below hb2)) (fun hHeld=>?_)
  clear hK K
  refine wpAnyH_take (i:=9) (v:=(.agg #[.bool e20,.slice e21 e22 e23,.slice e24 e25 e26,.bool false,.slice none 0 0,.slice none 0 0,.int .i64 u0,.int .i64 u1,.int .i64 u2,.int .i64 u3,.int .i64 u4,.int .i64 u5,.int .i64 u6])) rfl (by kernel_rfl) (by kernel_rfl) (by kernel_rfl) (fun _ _ _ h=>h) (Or.inl ⟨by rfl,by intro W hSw;clear hHeld;go_split_ands;go_simp⟩) (by assumption) ?_
  simp only [List.getElem_toArray,List.getElem_cons_zero,List.getElem_cons_succ,Act.put,List.setIfInBounds_toArray,List.set_cons_zero,List.set_cons_succ]
  refine wpAnyH_ready (rs:=[11]) (by kernel_rfl) (by simp) ?_
  refine AllReadyH.cons (i:=11) rfl (fun K hK=>?_) AllReadyH.nil
  have k0:=ceh hG.out 0
  have f0:=foh hG.out 0
  have k1:=ceh hG.out 1
  have f1:=foh hG.out 1
  have k2:=ceh hG.out 2
  have f2:=foh hG.out 2
  have k3:=ceh hG.out 3
  have f3:=foh hG.out 3
  have k4:=ceh hG.out 4
  have f4:=foh hG.out 4
  have k5:=ceh hG.out 5
  have f5:=foh hG.out 5
  have k6:=ceh hG.out 6
  have f6:=foh hG.out 6
  have k7:=ceh hG.out 7
  have f7:=foh hG.out 7
  have k8:=ceh hG.out 8
  have f8:=foh hG.out 8
  have k9:=ceh hG.out 9
  have f9:=foh hG.out 9
  have k10:=ceh hG.out 10
  have f10:=foh hG.out 10
  have k11:=ceh hG.out 11
  have f11:=foh hG.out 11
  have k12:=ceh hG.out 12
  have f12:=foh hG.out 12
  have hf:=hiD ((((((((((((((Fil.start hG.out).more' 0 (.bool e20) (nub _) (c':=#[.bool e20,.slice none 0 0,.slice none 0 0,.bool false,.slice none 0 0,.slice none 0 0,.int .i64 0,.int .i64 0,.int .i64 0,.int .i64 0,.int .i64 0,.int .i64 0,.int .i64 0]) rfl).more' 1 (.slice e21 e22 e23) (nus _ _ _) (c':=#[.bool e20,.slice e21 e22 e23,.slice none 0 0,.bool false,.slice none 0 0,.slice none 0 0,.int .i64 0,.int .i64 0,.int .i64 0,.int .i64 0,.int .i64 0,.int .i64 0,.int .i64 0]) rfl).more' 2 (.slice e24 e25 e26) (nus _ _ _) (c':=#[.bool e20,.slice e21 e22 e23,.slice e24 e25 e26,.bool false,.slice none 0 0,.slice none 0 0,.int .i64 0,.int .i64 0,.int .i64 0,.int .i64 0,.int .i64 0,.int .i64 0,.int .i64 0]) rfl).more' 3 (.bool false) (nub _) (c':=#[.bool e20,.slice e21 e22 e23,.slice e24 e25 e26,.bool false,.slice none 0 0,.slice none 0 0,.int .i64 0,.int .i64 0,.int .i64 0,.int .i64 0,.int .i64 0,.int .i64 0,.int .i64 0]) rfl).more' 4 (.slice none 0 0) (nus _ _ _) (c':=#[.bool e20,.slice e21 e22 e23,.slice e24 e25 e26,.bool false,.slice none 0 0,.slice none 0 0,.int .i64 0,.int .i64 0,.int .i64 0,.int .i64 0,.int .i64 0,.int .i64 0,.int .i64 0]) rfl).more' 5 (.slice none 0 0) (nus _ _ _) (c':=#[.bool e20,.slice e21 e22 e23,.slice e24 e25 e26,.bool false,.slice none 0 0,.slice none 0 0,.int .i64 0,.int .i64 0,.int .i64 0,.int .i64 0,.int .i64 0,.int .i64 0,.int .i64 0]) rfl).more' 6 (.int .i64 u0) (nui _) (c':=#[.bool e20,.slice e21 e22 e23,.slice e24 e25 e26,.bool false,.slice none 0 0,.slice none 0 0,.int .i64 u0,.int .i64 0,.int .i64 0,.int .i64 0,.int .i64 0,.int .i64 0,.int .i64 0]) rfl).more' 7 (.int .i64 u1) (nui _) (c':=#[.bool e20,.slice e21 e22 e23,.slice e24 e25 e26,.bool false,.slice none 0 0,.slice none 0 0,.int .i64 u0,.int .i64 u1,.int .i64 0,.int .i64 0,.int .i64 0,.int .i64 0,.int .i64 0]) rfl).more' 8 (.int .i64 u2) (nui _) (c':=#[.bool e20,.slice e21 e22 e23,.slice e24 e25 e26,.bool false,.slice none 0 0,.slice none 0 0,.int .i64 u0,.int .i64 u1,.int .i64 u2,.int .i64 0,.int .i64 0,.int .i64 0,.int .i64 0]) rfl).more' 9 (.int .i64 u3) (nui _) (c':=#[.bool e20,.slice e21 e22 e23,.slice e24 e25 e26,.bool false,.slice none 0 0,.slice none 0 0,.int .i64 u0,.int .i64 u1,.int .i64 u2,.int .i64 u3,.int .i64 0,.int .i64 0,.int .i64 0]) rfl).more' 10 (.int .i64 u4) (nui _) (c':=#[.bool e20,.slice e21 e22 e23,.slice e24 e25 e26,.bool false,.slice none 0 0,.slice none 0 0,.int .i64 u0,.int .i64 u1,.int .i64 u2,.int .i64 u3,.int .i64 u4,.int .i64 0,.int .i64 0]) rfl).more' 11 (.int .i64 u5) (nui _) (c':=#[.bool e20,.slice e21 e22 e23,.slice e24 e25 e26,.bool false,.slice none 0 0,.slice none 0 0,.int .i64 u0,.int .i64 u1,.int .i64 u2,.int .i64 u3,.int .i64 u4,.int .i64 u5,.int .i64 0]) rfl).more' 12 (.int .i64 u6) (nui _) (c':=#[.bool e20,.slice e21 e22 e23,.slice e24 e25 e26,.bool false,.slice none 0 0,.slice none 0 0,.int .i64 u0,.int .i64 u1,.int .i64 u2,.int .i64 u3,.int .i64 u4,.int .i64 u5,.int .i64 u6]) rfl)
  have hlt:=hiD (show w.heap.size+3≤w4.heap.size+1 from (cLT HS.out))
  have hne4:=hiD (show w4.heap.size+1≠w4.heap.size from (cNE HS.out))
  have hne3:=hiD (show w4.heap.size+1≠w3.heap.size from (cNF HS.out))
  have hkk:=hiD (hf.out.keep _ _ (by have:=hlt.out;omega) (by intro z hz;simp only [List.mem_cons,List.not_mem_nil,or_false] at hz;rcases hz with rfl|rfl;exact fun e=>hne4.out e.symm;exact fun e=>hne3.out e.symm) hHeld.1.1)
  have hrr:=hiD (hf.out.res _ _ (by have:=hlt.out;omega) (by have:=hlt.out;omega) hHeld.1.2.1)
  have hq1:=hiD (hf.out.nums _ _ hHeld.1.2.2.1)
  have hq2:=hiD (hf.out.nums _ _ hHeld.1.2.2.2)
  have hq3:=hiD (hf.out.nums _ _ HZ.out)
  go_simp
  refine hK.out _ _ (KB.out _ hkk.out hrr.out hq1.out hq2.out) (fun hHeld=>?_)
  clear hK K
  refine wpAnyH_done (by kernel_rfl) ?_ _
  exact HT.out (w4.heap.size+1) _ e20 e21 e22 e23 e24 e25 e26 _ _ _ _ _ _ _ _ _ _ _ _ _ _ _ _ _ _ _ _ _ _ _ _ _ _ _ _ _ _ _ _ _ _ _ _ _ _ _ _ _ _ _ _ _ _ _ _ _ _ _ _ _ _ _ _ _ _ _ _ (hkk.out.sub (fun z hz=>by simp only [List.mem_cons,List.not_mem_nil,or_false] at hz;subst hz;exact List.mem_cons_self ..)) hrr.out hf.out.heap hq3.out hlt.out hne4.out
end Go.Proofs.YtigicjakloiliaaGreatDoor
