/- Texts of units: prefixValue, findSymbol. Texts of units: factors as values, known. -/
import Derived.Test.YtlcpcpmlfegejaaGreatDoorGB
import Derived.Test.YtlcpcpmlfegejaaGreatDoorZ05
import Derived.Test.YtlcpcpmlfegejaaGreatDoorZVA
import Derived.Test.YtlcpcpmlfegejaaGreatDoorZVS
namespace Go.Proofs.YtlcpcpmlfegejaaGreatDoor
open Go.RowKit Go.Lib Big
section
variable {T : TypeId} {B : Nat} {w0 W W' : World}
end
def NoU (v:Value):Prop:=∀ n,v≠.int .u64 n
section
variable {B : Nat} {w0 W W' : World}
end
end Go.Proofs.YtlcpcpmlfegejaaGreatDoor
set_option maxHeartbeats 4000000
set_option maxRecDepth 100000
namespace Go.Proofs.YtlcpcpmlfegejaaGreatDoor
open Go.RowKit Big
open Go.Lib Go.Shelf
abbrev C7:=Bool × Option Addr × Nat × Nat × Option Addr × Nat × Nat
def encC (x:C7):List Value:=[.bool x.1,.slice x.2.1 x.2.2.1 x.2.2.2.1,.slice x.2.2.2.2.1 x.2.2.2.2.2.1 x.2.2.2.2.2.2]
def valC (x:C7):Value:=.agg #[.bool x.1,.slice x.2.1 x.2.2.1 x.2.2.2.1,.slice x.2.2.2.2.1 x.2.2.2.2.2.1 x.2.2.2.2.2.2]
theorem RdQ.names {W:World} {b off n K:Nat} {qs:List Rat} (h:RdQ W (some ⟨b,off,none⟩) qs K) (hn:qs.length=n) (h0:0<n):b<W.heap.size∧∃ f:Fin n→C7,(∀ (i:Fin n) (c:Nat),c<3→W.cell? ⟨b,off+i.1*3+c,none⟩=(encC (f i))[c]?)∧∀ i:Fin n,RatIs W (valC (f i)) (qs.getD i.1 0) K:=by
 rcases h with h|⟨b',off',e,hb,hx⟩
 ·omega
 ·cases e
  have hch:∀ i:Fin n,∃ x:C7,(∀ c,c<3→W.cell? ⟨b,off+i.1*3+c,none⟩=(encC x)[c]?)∧RatIs W (valC x) (qs.getD i.1 0) K:=fun i=>by
   obtain ⟨x,⟨s,p,n1,c,r,m,d,rfl,c0,c1,c2⟩,hq⟩:=hx i.1 (by rw [hn];exact i.2)
   refine ⟨(s,p,n1,c,r,m,d),fun k hk=>?_,hq⟩
   match k,hk with
   | 0,_=>exact c0
   | 1,_=>exact c1
   | 2,_=>exact c2
  exact ⟨hb,fun i=>Classical.choose (hch i),fun i=>(Classical.choose_spec (hch i)).1,fun i=>(Classical.choose_spec (hch i)).2⟩
theorem RatIs.bottom {W:World} {s:Bool} {p r:Option Addr} {n c m d K:Nat} {q:Rat} (h:RatIs W (.agg #[.bool s,.slice p n c,.slice r m d]) q K):∃ b,NatAt W (.slice r m d) b∧b<B64^K:=by
 obtain ⟨s',a,b,⟨u,v,e,-,hv,-⟩,-,-,-,hb⟩:=h
 cases e
 exact ⟨b,hv,hb⟩
theorem sortWorld_grown {α:Type} [Inhabited α] (enc:α→List Value) (k:Nat) (w:World) (g off n:Nat) (d:Array α) (os:Array Obj):w.grownBy (sortWorldK enc k w g off n d os) (some g):=by
 refine ⟨rfl,rfl,rfl,by simp [sortWorldK,Go.Sort.putRowK],fun j hj hne=>?_⟩
 have hg:g≠j:=fun e=>hne (by rw [e])
 unfold sortWorldK Go.Sort.putRowK
 rw [Go.Sort.heap_grow_old _ _ (by simpa using hj)]
 simp [Go.Sort.putRow,Go.Sort.mapBlock,Go.Sort.ahead,Array.getElem?_modify,hg]
theorem sortWorld_block {α:Type} [Inhabited α] (enc:α→List Value) (hk:∀ x,(enc x).length=3) (hN:∀ x,∀ u ∈ enc x,NoU u) (w:World) (V n:Nat) (d:Array α) (os:Array Obj) (cur:Array Value) (hV:w.heap[V]?=some (.cells cur 62 (0,0))) (hc:∀ u ∈ cur.toList,NoU u):∃ cur',(sortWorldK enc 3 w V 0 n d os).heap[V]?=some (.cells cur' 62 (0,0))∧cur'.size=cur.size∧∀ u ∈ cur'.toList,NoU u:=by
 have hg:V<w.heap.size:=(Array.getElem?_eq_some_iff.1 hV).1
 refine ⟨Go.Sort.putCells id 0 (Go.Sort.flatK enc 3 d) cur,?_,by simp [Go.Sort.putCells],fun u hu=>?_⟩
 ·unfold sortWorldK Go.Sort.putRowK
  rw [Go.Sort.heap_grow_old _ _ (by simpa using hg)]
  simp [Go.Sort.putRow,Go.Sort.mapBlock,Go.Sort.ahead,Array.getElem?_modify,hV,Go.Sort.onCells]
 ·obtain ⟨j,hj,rfl⟩:=List.getElem_of_mem hu
  simp only [Go.Sort.putCells,Array.getElem_toList,Array.getElem_mapIdx]
  split
  ·rename_i h
   have hjs:j<d.size*3:=by
    have:=h.2
    rw [Go.Sort.size_flatK] at this
    omega
   rw [Nat.sub_zero,id_eq,Go.Sort.get_flatK _ _ _ _ hjs]
   have hl:j%3<(enc d[j/3]!).length:=by rw [hk];exact Nat.mod_lt _ (by omega)
   rw [getElem!_pos (enc d[j/3]!) (j%3) hl]
   exact hN _ _ (List.getElem_mem hl)
  ·exact hc _ (Array.getElem_mem_toList _)
theorem bottoms_any (x y:C7) (a b K:Nat) (W:World) (hK:K≤most) (ha:a<B64^K) (hb:b<B64^K) (hx:NatAt W (.slice x.2.2.2.2.1 x.2.2.2.2.2.1 x.2.2.2.2.2.2) a) (hy:NatAt W (.slice y.2.2.2.2.1 y.2.2.2.2.2.1 y.2.2.2.2.2.2) b) :
  Calls Tryz.prog 128 #[valC x,valC y] W fun e w'=>e=.returned (.int .i64 (cmp3 a b))∧∃ q os',w'=Go.Sort.grow (W.drewN q) os':=by
 obtain ⟨s1,p1,n1,c1,r1,m1,d1⟩:=x
 obtain ⟨s2,p2,n2,c2,r2,m2,d2⟩:=y
 obtain ⟨W2,HW2⟩:∃ W2,Hid ((W.alloc (.cells #[.bool s1,.slice p1 n1 c1,.slice r1 m1 d1] 62)).alloc (.cells #[.bool s2,.slice p2 n2 c2,.slice r2 m2 d2] 62)=W2):=⟨_,hiD rfl⟩
 have HB2:Below W.heap.size W W2:=by rw [← HW2.out];exact ((Below.refl _ W).alloc (Nat.le_refl _) _).alloc (by simp) _
 have HC:=hiD (compare_nat _ _ a b K W2 hK ha hb (hx.below HB2) (hy.below HB2))
 clear hx hy HB2
 unfold valC
 go_enter Tryz.func128,Tryz.ntmps128
 go_wp2_with fail
 rw [HW2.out]
 refine HC.out.mono ?_
 rintro e w3 ⟨rfl,k,e3⟩
 have HE3:=hiD e3
 clear e3
 go_wp2_with fail
 go_ret
 refine ⟨rfl,k,#[.cells #[.bool s1,.slice p1 n1 c1,.slice r1 m1 d1] 62,.cells #[.bool s2,.slice p2 n2 c2,.slice r2 m2 d2] 62],?_⟩
 rw [← HE3.out,← HW2.out,Go.Sort.alloc_eq_grow,Go.Sort.alloc_eq_grow,Go.Sort.grow_grow]
 rfl
theorem cmp_swo {n:Nat} (bo:Fin n→Nat):Go.Sort.SWO (ltOf fun i j:Fin n=>cmp3 (bo i) (bo j)):=by
 have h:∀ i j,ltOf (fun i j:Fin n=>cmp3 (bo i) (bo j)) i j=decide (bo i<bo j):=fun i j=>by
  unfold ltOf cmp3
  by_cases h1:bo i<bo j
  ·simp [h1]
  ·by_cases h2:bo j<bo i<;>simp [h1,h2]
 exact ⟨fun x=>by rw [h];simp,fun x y z h1 h2=>by rw [h] at *;simp at *;omega,fun x y z h1 h2=>by rw [h] at *;simp at *;omega⟩
theorem sort_rat (n V cap K:Nat) (f:Fin n→C7) (qs:List Rat) (w0 w:World) (h0:0<n) (hn:n≤1000) (hV:w0.heap.size≤V) (hVw:V<w.heap.size) (hb:Below w0.heap.size w0 w) (hK:K≤most) (hq:∀ i:Fin n,RatIs w0 (valC (f i)) (qs.getD i.1 0) K)
  (hH:∀ (i:Fin n) (c:Nat),c<3→w.cell? ⟨V,i.1*3+c,none⟩=(encC (f i))[c]?∧w.frozen? ⟨V,i.1*3+c,none⟩=false) :
  Calls Tryz.prog 127 #[.slice (some ⟨V,0,none⟩) n cap,.func (.func 128) #[] #[]] w fun e w'=>e=.returned (.tuple #[])∧∃ g:Fin n→Fin n,((List.finRange n).map g).Perm (List.finRange n)∧(∀ (i:Fin n) (c:Nat),c<3→w'.cell? ⟨V,i.1*3+c,none⟩=(encC (f (g i)))[c]?∧w'.frozen? ⟨V,i.1*3+c,none⟩=false)∧w.grownBy w' (some V)∧∀ cur,w.heap[V]?=some (.cells cur 62 (0,0))→(∀ u ∈ cur.toList,NoU u)→∃ cur',w'.heap[V]?=some (.cells cur' 62 (0,0))∧cur'.size=cur.size∧∀ u ∈ cur'.toList,NoU u:=by
 have:Inhabited (Fin n):=⟨⟨0,h0⟩⟩
 have hch:∀ i:Fin n,∃ b,NatAt w0 (.slice (f i).2.2.2.2.1 (f i).2.2.2.2.2.1 (f i).2.2.2.2.2.2) b∧b<B64^K:=fun i=>(hq i).bottom
 obtain ⟨bo,hbo⟩:∃ bo:Fin n→Nat,∀ i,NatAt w0 (.slice (f i).2.2.2.2.1 (f i).2.2.2.2.2.1 (f i).2.2.2.2.2.2) (bo i)∧bo i<B64^K:=⟨fun i=>Classical.choose (hch i),fun i=>Classical.choose_spec (hch i)⟩
 have eg:∀ args w,(callFunc 128 args).run Tryz.prog w=.ok (.enter 128 args) w:=enters_of Tryz.func128 (by kernel_rfl) rfl
 have hd:(Array.ofFn (fun i:Fin n=>i)).size=n:=by simp
 have hcl:CmpLays Tryz.prog 128 #[] (fun i:Fin n=>encC (f i)) 3 (fun i j=>cmp3 (bo i) (bo j)) V 0 (Array.ofFn (fun i:Fin n=>i)).size w:=by
  intro m os dk hdk x y
  have hbw:Below w0.heap.size w0 (sortWorldK (fun i:Fin n=>encC (f i)) 3 w V 0 m dk os):=hb.grown (sortWorld_grown _ _ _ _ _ _ _ _) hb.size (fun k hk=>by injection hk with hk;omega)
  exact bottoms_any (f x) (f y) (bo x) (bo y) K _ hK (hbo x).2 (hbo y).2 ((hbo x).1.below hbw) ((hbo y).1.below hbw)
 have hhold:Go.Sort.HoldsK (fun i:Fin n=>encC (f i)) 3 w V 0 (Array.ofFn (fun i:Fin n=>i)):=by
  intro j hj
  rw [Go.Sort.size_flatK,hd] at hj
  have hi:j/3<n:=by omega
  obtain ⟨h1,h2⟩:=hH ⟨j/3,hi⟩ (j%3) (Nat.mod_lt _ (by omega))
  rw [Go.Sort.get_flatK _ _ _ _ (by rw [hd];exact hj),Nat.zero_add]
  have e:j/3*3+j%3=j:=by omega
  rw [e] at h1 h2
  refine ⟨h1.trans ?_,h2⟩
  have hg:(Array.ofFn (fun i:Fin n=>i))[j/3]! =⟨j/3,hi⟩:=by rw [getElem!_pos _ _ (by simpa using hi)];simp
  rw [hg]
  have hc:j%3=0∨j%3=1∨j%3=2:=by omega
  rcases hc with hc|hc|hc<;>rw [hc]<;>rfl
 have hcon:=AnyQ.slices_SortFunc Tryz.sortRat 3 Tryz.isAgg62 Tryz.sizeOf62 (fun i:Fin n=>encC (f i)) (fun _=>rfl) (fun x v hv=>by simp [encC] at hv;rcases hv with rfl|rfl|rfl<;>rfl) (fun i j=>cmp3 (bo i) (bo j)) (cmp_swo bo) 128 #[] V 0 cap (Array.ofFn (fun i:Fin n=>i)) w eg hcl hhold hVw (by rw [hd];omega)
 rw [hd] at hcon
 refine hcon.mono ?_
 rintro e w' ⟨rfl,d',m,os,hp,-,rfl⟩
 obtain ⟨hs,-,hpp⟩:=hp
 rw [hd] at hs
 have hh:=holdsK_sortWorldK_c (fun i:Fin n=>encC (f i)) 3 w V 0 (Array.ofFn (fun i:Fin n=>i)) d' m os hhold hVw (by rw [hs,hd])
 refine ⟨rfl,fun i=>d'[i.1]'(by rw [hs];exact i.2),?_,fun i c hc=>?_,sortWorld_grown _ _ _ _ _ _ _ _,fun cur hV hc=>sortWorld_block _ (fun _=>rfl) (fun x u hu=>by
  simp only [encC,List.mem_cons,List.not_mem_nil,or_false] at hu
  rcases hu with rfl|rfl|rfl<;>(intro n h;cases h)) w V m d' os cur hV hc⟩
 ·have e1:(List.finRange n).map (fun i:Fin n=>d'[i.1]'(by rw [hs];exact i.2))=d'.toList:=by
   apply List.ext_getElem
   ·simp [hs]
   ·intro i h1 h2;simp
  rw [e1]
  have e2:(d'.extract 0 n).toList=d'.toList:=by
   apply List.ext_getElem
   ·simp [hs]
   ·intro i h1 h2;simp
  have e3:((Array.ofFn (fun i:Fin n=>i)).extract 0 n).toList=List.finRange n:=by
   apply List.ext_getElem
   ·simp
   ·intro i h1 h2;simp
  rw [e2,e3] at hpp
  exact hpp
 ·have:=hh.cell (i:=i.1) (c:=c) (by rw [hs];exact i.2) hc
  rw [Nat.zero_add] at this
  refine ⟨this.1.trans ?_,this.2⟩
  rw [getElem!_pos d' _ (by rw [hs];exact i.2)]
  match c,hc with
  | 0,_=>rfl
  | 1,_=>rfl
  | 2,_=>rfl
end Go.Proofs.YtlcpcpmlfegejaaGreatDoor
namespace Go.Proofs.YtlcpcpmlfegejaaGreatDoor
open Go.RowKit Go.Lib Big
def NRow (w:World) (base:Nat) (e:TypeId) (size:Nat) (v:Value) (n:Nat) (xs:List Value):Prop :=
 w.ownsRow base e size v n xs∧∀ g k cap,v=.slice (some ⟨g,0,none⟩) k cap→∀ cur t f,w.heap[g]?=some (.cells cur t f)→∀ u ∈ cur.toList,NoU u
theorem NRow.nil (w:World) (base:Nat) (e:TypeId) (size:Nat):NRow w base e size (.slice none 0 0) 0 [] :=
 ⟨World.ownsRow_nil w base e size,fun g k cap h=>by cases h⟩
theorem mem_zeroCells {z:Array Value} {k:Nat} {u:Value} (h:u ∈ (Builtin.zeroCells z k).toList):u ∈ z.toList:=by
 unfold Builtin.zeroCells at h
 rw [Array.toList_map,List.mem_map] at h
 obtain ⟨i,hi,rfl⟩:=h
 have hlt:i<k*z.size:=by simpa using hi
 have hz:0<z.size:=by
  apply Nat.pos_of_ne_zero;intro h0;rw [h0,Nat.mul_zero] at hlt;omega
 have hm:i%z.size<z.size:=Nat.mod_lt _ hz
 rw [getElem!_pos z (i%z.size) hm]
 simp
section
variable {P : Program}
theorem run_append_N (w:World) (base:Nat) (t ty e:TypeId) (i:TypeInfo) (z:Value) (size bytes:Nat) (ht:P.underlying t=some (.slice e)) (hi:P.info? e=some i) (hz:i.zero=some z)
  (hsize:i.size=size) (hby:i.bytes=bytes) (hzs:z.cells.size=size) (hsz:0<size) (hzN:∀ u ∈ z.cells.toList,NoU u)
  (v:Value) (n:Nat) (xs:List Value) (hown:NRow w base e size v n xs)
  (a:Addr) (m c:Nat) (news:List Value) (hl:news.length=m*size) (hnews:∀ j u,news[j]?=some u→w.cell? (a.add j)=some u) (h1:∀ u ∈ news,u.oneCell'=true) (hN:∀ u ∈ news,NoU u) (hm:0<m)
  (h63:n+m≤maxLen) (hbytes:(n+m)*bytes≤140737488355328) (hbase:base≤w.heap.size) :
  ∃ v' w',(Builtin.append_ #[t,t] ty #[v,.slice (some a) m c]).run P w=.ok v' w'∧NRow w' base e size v' (n+m) (xs++news)∧w.grownBy w' v.ownBlock:=by
 subst hsize
 subst hby
 obtain ⟨hown,hNo⟩:=hown
 have hsmall:n+m≤9223372036854775807:=by simp only [maxLen] at h63;omega
 have hlen:(xs++news).length=(n+m)*i.size:=by rw [List.length_append,hown.1,hl,Nat.add_mul]
 have grown:∀ (old:Nat),old<n+m→(∀ u ∈ xs,NoU u)→∀ (row:Option Nat),
   NRow (w.drew.alloc (.cells (xs.toArray++news.toArray++Builtin.zeroCells z.cells (grownCap w (n+m) old e-(n+m))) e)) base e i.size
    (.slice (some ⟨w.heap.size,0,none⟩) (n+m) (grownCap w (n+m) old e)) (n+m) (xs++news) ∧
   w.grownBy (w.drew.alloc (.cells (xs.toArray++news.toArray++Builtin.zeroCells z.cells (grownCap w (n+m) old e-(n+m))) e)) row:=by
  intro old ho hxN row
  have hge:=grownCap_ge w (n+m) old e
  have hcm:grownCap w (n+m) old e≤maxLen:=grownCap_le_maxLen w (n+m) old e h63
  refine ⟨⟨⟨hlen,.inr ⟨w.heap.size,_,_,rfl,hbase,heap_new w.drew _,hge,hcm,?_,?_⟩⟩,?_⟩,⟨rfl,rfl,rfl,by simp,fun k hk _=>Below.heap_alloc w.drew _ k hk⟩⟩
  ·simp only [Array.size_append,List.size_toArray,size_zeroCells,hzs,hown.1,hl,← Nat.add_mul]
   congr 1
   omega
  ·simp only [Array.toList_append,List.append_assoc]
   rw [← List.append_assoc,← hlen]
   exact List.take_left
  ·intro g k cap hv cur t' f hh u hu
   cases hv
   have:=heap_new w.drew (.cells (xs.toArray++news.toArray++Builtin.zeroCells z.cells (grownCap w (n+m) old e-(n+m))) e)
   rw [show w.drew.heap.size=w.heap.size from rfl] at this
   rw [this] at hh
   cases hh
   simp only [Array.toList_append,List.mem_append] at hu
   rcases hu with (hu|hu)|hu
   ·exact hxN u (by simpa using hu)
   ·exact hN u (by simpa using hu)
   ·exact hzN u (mem_zeroCells hu)
 rcases hown.2 with ⟨rfl,rfl⟩|⟨g,cap,cur,rfl,hbg,hg,hnc,hcm,hcs,htake⟩
 ·have hx:xs=[]:=List.eq_nil_of_length_eq_zero (by simpa using hown.1)
  subst hx
  have hr:=run_append_nil (P:=P) w t ty e i z ht hi hz a m c news hl hnews (by omega) (by omega) (by have hb:=hbytes;simp only [Nat.zero_add] at hb;omega)
  have hgr:=grown 0 (by omega) (fun u hu=>by cases hu) (Value.ownBlock (.slice none 0 0))
  simp only [Nat.zero_add,List.nil_append,Array.empty_append] at hgr ⊢
  exact ⟨_,_,hr,hgr.1,hgr.2⟩
 ·have hcN:=hNo g n cap rfl cur e _ hg
  by_cases hroom:n+m≤cap
  ·have hfit:n*i.size+news.length≤cur.size:=by rw [hl,hcs,← Nat.add_mul];exact Nat.mul_le_mul_right _ hroom
   have hr:=run_append_room (P:=P) w t ty e i ht hi g n cap cur hg a m c news hl hnews h1 hroom hfit
   have hset:=setRow_heap w g cur (cur.toList.take (n*i.size)++news++cur.toList.drop (n*i.size+news.length)).toArray e _ hg
   refine ⟨_,_,hr,⟨⟨hlen,.inr ⟨g,cap,_,rfl,hbg,hset,hroom,hcm,?_,?_⟩⟩,?_⟩,⟨rfl,rfl,rfl,by simp,fun k _ hk=>setRow_other w g k _ (fun e=>hk (by simp [Value.ownBlock,e]))⟩⟩
   ·simp only [List.size_toArray,List.length_append,List.length_take,List.length_drop,Array.length_toList]
    omega
   ·rw [htake,← hlen]
    exact List.take_left
   ·intro g' k' cap' hv cur' t' f hh u hu
    cases hv
    rw [hset] at hh
    cases hh
    simp only [List.mem_append] at hu
    rcases hu with (hu|hu)|hu
    ·exact hcN u (List.mem_of_mem_take hu)
    ·exact hN u hu
    ·exact hcN u (List.mem_of_mem_drop hu)
  ·have holds:∀ j u,xs[j]?=some u→w.cell? ((⟨g,0,none⟩:Addr).add j)=some u:=hown.cells (g:=g) rfl
   have hr:=run_append_grow (P:=P) w t ty e i z ht hi hz ⟨g,0,none⟩ n cap xs hown.1 holds a m c news hl hnews (by omega) (by omega) (growslice_fits (by omega) hbytes)
   have hgr:=grown cap (by omega) (fun u hu=>hcN u (by rw [← htake] at hu;exact List.mem_of_mem_take hu)) (Value.ownBlock (.slice (some ⟨g,0,none⟩) n cap))
   exact ⟨_,_,hr,hgr.1,hgr.2⟩
theorem wpList_append_N {w:World} {ops:Array Oper} {rest:List Oper} {o:Oper} {a:Act} {Q:Exit→Act→World→Prop} (hgd:o.guard=none) (s x:Operand) (t:TypeId)
  (ho:o.op=.call { callee:=.builtin .append,args:=#[s,x],argTypes:=#[t,t] })
  (base:Nat) (e:TypeId) (i:TypeInfo) (z:Value) (size bytes:Nat) (ht:P.underlying t=some (.slice e)) (hi:P.info? e=some i) (hz:i.zero=some z)
  (hsize:i.size=size) (hby:i.bytes=bytes) (hzs:z.cells.size=size) (hsz:0<size) (hzN:∀ u ∈ z.cells.toList,NoU u)
  (v:Value) (n:Nat) (xs:List Value) (hs:a.eval s=v) (hown:NRow w base e size v n xs)
  (ad:Addr) (m c:Nat) (news:List Value) (hx:a.eval x=.slice (some ad) m c) (hl:news.length=m*size) (hnews:∀ j u,news[j]?=some u→w.cell? (ad.add j)=some u) (h1:∀ u ∈ news,u.oneCell'=true) (hN:∀ u ∈ news,NoU u) (hm:0<m)
  (h63:n+m≤maxLen) (hbytes:(n+m)*bytes≤140737488355328) (hbase:base≤w.heap.size)
  (h:∀ v' w',NRow w' base e size v' (n+m) (xs++news)→w.grownBy w' v.ownBlock→wpList P ops Q rest (a.put o.dst v') w'):wpList P ops Q (o::rest) a w :=
 wpList_plain hgd fun K hK=>by
  obtain ⟨v',w',hr,h2,h3⟩:=run_append_N (P:=P) w base t o.type e i z size bytes ht hi hz hsize hby hzs hsz hzN v n xs hown ad m c news hl hnews h1 hN hm h63 hbytes hbase
  unfold Oper.wp execOp
  simp only [ho,resolve,invoke,builtin,Sem.run_bind,Sem.run_pure,Result.andThen_ok,List.map_toArray,List.map_cons,List.map_nil,hs,hx,hr]
  exact hK _ _ (h v' w' h2 h3)
end
theorem NRow.below {W W':World} {base:Nat} {e:TypeId} {size:Nat} {v:Value} {n:Nat} {xs:List Value} (h:NRow W base e size v n xs) (hb:Below W.heap.size W W'):NRow W' base e size v n xs:=by
 obtain ⟨⟨h1,h2⟩,h3⟩:=h
 rcases h2 with h2|⟨g,cap,cur,rfl,hbg,hg,hr⟩
 ·refine ⟨⟨h1,.inl h2⟩,?_⟩
  intro g k cap hv
  rw [h2.1] at hv;cases hv
 ·have hlt:=(Array.getElem?_eq_some_iff.1 hg).1
  have hg':=(hb.block g hlt).trans hg
  refine ⟨⟨h1,.inr ⟨g,cap,cur,rfl,hbg,hg',hr⟩⟩,?_⟩
  intro g' k cap' hv cur' t f hh u hu
  cases hv
  rw [hg'] at hh;cases hh
  exact h3 _ _ _ rfl _ _ _ hg u hu
theorem nat_grown {W W':World} {base:Nat} {e:TypeId} {size:Nat} {v:Value} {n:Nat} {xs:List Value} (h:NRow W base e size v n xs) (hg:W.grownBy W' v.ownBlock) {x:Value} {k:Nat} (hx:NatAt W x k):NatAt W' x k:=by
 obtain ⟨p,m,c',l,h1,h2,hr,h4⟩:=hx
 refine ⟨p,m,c',l,h1,h2,⟨hr.len,?_⟩,h4⟩
 rcases hr.cell with h0|⟨b,off,hp,hlt,hcl⟩
 ·exact .inl h0
 ·by_cases hm:m=0
  ·exact .inl hm
  refine .inr ⟨b,off,hp,Nat.lt_of_lt_of_le hlt hg.size,fun j hj=>?_⟩
  have hne:some b≠v.ownBlock:=by
   intro hb
   obtain ⟨⟨-,h5⟩,h6⟩:=h
   rcases h5 with ⟨rfl,-⟩|⟨g,cap,cur,rfl,-,hgg,-⟩
   ·cases hb
   ·simp only [Value.ownBlock,Option.some.injEq] at hb
    subst hb
    have h7:=hcl 0 (by omega)
    rw [ceh hgg] at h7
    have:Value.int .u64 ((l.getD 0 0:Nat):Int) ∈ cur.toList:=by
     obtain ⟨hi,he⟩:=Array.getElem?_eq_some_iff.1 h7
     rw [← he];simp
    exact h6 _ _ _ rfl _ _ _ hgg _ this _ rfl
  rw [← hcl j hj]
  exact World.cell?_of_block (w:=W) (hg.block b hlt hne)
theorem rat_grown {W W':World} {base:Nat} {e:TypeId} {size:Nat} {v:Value} {n:Nat} {xs:List Value} (h:NRow W base e size v n xs) (hg:W.grownBy W' v.ownBlock) {x:Value} {q:Rat} {K:Nat} (hx:RatIs W x q K):RatIs W' x q K:=by
 obtain ⟨s,m,n,⟨u,v,rfl,hu,hv,hs⟩,hr⟩:=hx
 exact ⟨s,m,n,⟨u,v,rfl,nat_grown h hg hu,nat_grown h hg hv,hs⟩,hr⟩
end Go.Proofs.YtlcpcpmlfegejaaGreatDoor
namespace Go.Proofs.YtlcpcpmlfegejaaGreatDoor
open Go.RowKit Big
open Go.Lib Go.Shelf
theorem encC_len (x:C7):(encC x).length=3:=rfl
theorem encC_one (x:C7):∀ u ∈ encC x,u.oneCell'=true:=by
 intro u hu
 simp only [encC,List.mem_cons,List.not_mem_nil,or_false] at hu
 rcases hu with rfl|rfl|rfl<;>rfl
theorem encC_noU (x:C7):∀ u ∈ encC x,NoU u:=by
 intro u hu
 simp only [encC,List.mem_cons,List.not_mem_nil,or_false] at hu
 rcases hu with rfl|rfl|rfl<;>(intro n h;cases h)
def SRow (W:World) (V cap:Nat):Prop:=∃ cur,W.heap[V]?=some (.cells cur 62 (0,0))∧cur.size=cap*3∧∀ u ∈ cur.toList,NoU u
def AtC (W:World) (V i:Nat) (x:C7):Prop:=∀ c,c<3→W.cell? ⟨V,i*3+c,none⟩=(encC x)[c]?∧W.frozen? ⟨V,i*3+c,none⟩=false
theorem AtC.of {W:World} {V i cap:Nat} {x:C7} (h:SRow W V cap) (hc:∀ c,c<3→W.cell? ⟨V,i*3+c,none⟩=(encC x)[c]?):AtC W V i x:=fun c h3=>by
 obtain ⟨cur,hV,-⟩:=h
 exact ⟨hc c h3,foh hV _⟩
theorem nat_row {W W':World} {V cap:Nat} (h:SRow W V cap) (hg:W.grownBy W' (some V)) {x:Value} {k:Nat} (hx:NatAt W x k):NatAt W' x k:=by
 obtain ⟨cur,hV,-,hN⟩:=h
 obtain ⟨p,m,c',l,h1,h2,hr,h4⟩:=hx
 refine ⟨p,m,c',l,h1,h2,⟨hr.len,?_⟩,h4⟩
 rcases hr.cell with h0|⟨b,off,hp,hlt,hcl⟩
 ·exact .inl h0
 ·by_cases hm:m=0
  ·exact .inl hm
  refine .inr ⟨b,off,hp,Nat.lt_of_lt_of_le hlt hg.size,fun j hj=>?_⟩
  have hne:some b≠some V:=by
   intro hb
   injection hb with hb
   subst hb
   have h7:=hcl 0 (by omega)
   rw [ceh hV] at h7
   have:Value.int .u64 ((l.getD 0 0:Nat):Int) ∈ cur.toList:=by
    obtain ⟨hi,he⟩:=Array.getElem?_eq_some_iff.1 h7
    rw [← he];simp
   exact hN _ this _ rfl
  rw [← hcl j hj]
  exact World.cell?_of_block (w:=W) (hg.block b hlt hne)
theorem ratAt_row {W W':World} {V cap:Nat} (h:SRow W V cap) (hg:W.grownBy W' (some V)) {x:Value} {s:Bool} {a b:Nat} (hx:RatAt W x s a b):RatAt W' x s a b:=by
 obtain ⟨u,v,rfl,hu,hv,hs⟩:=hx
 exact ⟨u,v,rfl,nat_row h hg hu,nat_row h hg hv,hs⟩
theorem rat_row {W W':World} {V cap:Nat} (h:SRow W V cap) (hg:W.grownBy W' (some V)) {x:Value} {q:Rat} {K:Nat} (hx:RatIs W x q K):RatIs W' x q K:=by
 obtain ⟨s,m,n,hr,h2⟩:=hx
 exact ⟨s,m,n,ratAt_row h hg hr,h2⟩
theorem put_row {W:World} {V cap i:Nat} (h:SRow W V cap) (hi:i<cap) (x:C7):∃ W',W'=((W.setCell ⟨V,i*3,none⟩ (.bool x.1)).setCell ⟨V,i*3+1,none⟩ (.slice x.2.1 x.2.2.1 x.2.2.2.1)).setCell ⟨V,i*3+2,none⟩ (.slice x.2.2.2.2.1 x.2.2.2.2.2.1 x.2.2.2.2.2.2)∧SRow W' V cap∧AtC W' V i x∧W.grownBy W' (some V)∧∀ j y,j≠i→AtC W V j y→AtC W' V j y:=by
 obtain ⟨cur,hV,hs,hN⟩:=h
 have e1:=heap_set V (i*3) cur 62 (.bool x.1) hV
 have e2:=heap_set V (i*3+1) _ 62 (.slice x.2.1 x.2.2.1 x.2.2.2.1) e1
 have e3:=heap_set V (i*3+2) _ 62 (.slice x.2.2.2.2.1 x.2.2.2.2.2.1 x.2.2.2.2.2.2) e2
 obtain ⟨W',hW'⟩:∃ W',W'=((W.setCell ⟨V,i*3,none⟩ (.bool x.1)).setCell ⟨V,i*3+1,none⟩ (.slice x.2.1 x.2.2.1 x.2.2.2.1)).setCell ⟨V,i*3+2,none⟩ (.slice x.2.2.2.2.1 x.2.2.2.2.2.1 x.2.2.2.2.2.2):=⟨_,rfl⟩
 rw [← hW'] at e3
 have hsr:SRow W' V cap:=by
  refine ⟨_,e3,by simp [hs],fun u hu=>?_⟩
  have hu':=Array.mem_toList_iff.1 hu
  rcases Array.mem_or_eq_of_mem_setIfInBounds hu' with hu' | rfl
  ·rcases Array.mem_or_eq_of_mem_setIfInBounds hu' with hu' | rfl
   ·rcases Array.mem_or_eq_of_mem_setIfInBounds hu' with hu' | rfl
    ·exact hN u (Array.mem_toList_iff.2 hu')
    ·intro n h;cases h
   ·intro n h;cases h
  ·intro n h;cases h
 have hlt:i*3+2<cur.size:=by omega
 refine ⟨W',hW',hsr,AtC.of hsr fun c hc=>?_,?_,fun j y hj hy=>AtC.of hsr fun c hc=>?_⟩
 ·rw [ceh e3]
  match c,hc with
  | 0,_=>rw [Array.getElem?_setIfInBounds_ne (by omega),Array.getElem?_setIfInBounds_ne (by omega),Nat.add_zero,Array.getElem?_setIfInBounds_self_of_lt (by omega)];rfl
  | 1,_=>rw [Array.getElem?_setIfInBounds_ne (by omega),Array.getElem?_setIfInBounds_self_of_lt (by simp;omega)];rfl
  | 2,_=>rw [Array.getElem?_setIfInBounds_self_of_lt (by simp;omega)];rfl
 ·rw [hW']
  have hb:∀ (X:World) (k:Nat) (a:Value),X.grownBy (X.setCell ⟨V,k,none⟩ a) (some V):=fun X k a=>⟨rfl,rfl,rfl,by rw [World.size_setCell];exact Nat.le_refl _,fun b _ hne=>Below.heap_setCell _ _ _ _ (fun e=>hne (by rw [e]))⟩
  exact ((hb _ _ _).trans (hb _ _ _)).trans (hb _ _ _)
 ·have h1:=(hy c hc).1
  rw [ceh hV] at h1
  rw [ceh e3,Array.getElem?_setIfInBounds_ne (by omega),Array.getElem?_setIfInBounds_ne (by omega),Array.getElem?_setIfInBounds_ne (by omega)]
  exact h1
end Go.Proofs.YtlcpcpmlfegejaaGreatDoor
set_option maxHeartbeats 4000000
set_option maxRecDepth 100000
namespace Go.Proofs.YtlcpcpmlfegejaaGreatDoor
open Go.RowKit Big
open Go.Lib Go.Shelf
theorem info66:(Tryz.prog.info? 62).map (fun i=>(i.zero,i.size,i.bytes))=some (some (.agg #[.bool false,.slice none 0 0,.slice none 0 0]),3,56):=by kernel_rfl
theorem info_parts6 {T:TypeId} {z:Value} {k b:Nat} (h:(Tryz.prog.info? T).map (fun i=>(i.zero,i.size,i.bytes))=some (some z,k,b)):∃ i,Tryz.prog.info? T=some i∧i.zero=some z∧i.size=k∧i.bytes=b:=by
 cases hi:Tryz.prog.info? T with
 | none=>rw [hi] at h;cases h
 | some i =>
  rw [hi] at h
  simp only [Option.map_some,Option.some.injEq,Prod.mk.injEq] at h
  exact ⟨i,rfl,h.1,h.2.1,h.2.2⟩
def cellsC {n:Nat} (f:Fin n→C7):List Value:=List.ofFn (fun j:Fin (n*3)=>(encC (f ⟨j.1/3,by have:=j.2;omega⟩))[j.1%3]'(Nat.mod_lt _ (by decide)))
theorem cellsC_at {n:Nat} (f:Fin n→C7) (i:Fin n) (c:Nat) (hc:c<3):(cellsC f)[i.1*3+c]?=(encC (f i))[c]?:=by
 have hj:i.1*3+c<n*3:=by have:=i.2;omega
 unfold cellsC
 rw [List.getElem?_ofFn,dif_pos hj]
 have e1:(i.1*3+c)/3=i.1:=by omega
 have e2:(i.1*3+c)%3=c:=by omega
 simp only [e1,e2]
 rw [List.getElem?_eq_getElem (by rw [encC_len];exact hc)]
theorem cellsC_len {n:Nat} (f:Fin n→C7):(cellsC f).length=n*3:=by simp [cellsC]
theorem cellsC_mem {n:Nat} (f:Fin n→C7) {u:Value} (h:u ∈ cellsC f):∃ i,u ∈ encC (f i):=by
 unfold cellsC at h
 rw [List.mem_ofFn] at h
 obtain ⟨j,rfl⟩:=h
 exact ⟨_,List.getElem_mem _⟩
theorem zero_noU66:∀ u ∈ (Value.agg #[.bool false,.slice none 0 0,.slice none 0 0]).cells.toList,NoU u:=by
 intro u hu
 simp only [Value.cells,List.mem_cons,List.not_mem_nil,or_false] at hu
 rcases hu with rfl|rfl|rfl<;>(intro n h;cases h)
theorem nrow_made (w:World):NRow (w.alloc (.cells #[] 62)) w.heap.size 62 3 (.slice (some ⟨w.heap.size,0,none⟩) 0 0) 0 []:=by
 refine ⟨World.ownsRow_made w #[] 0 (Nat.le_refl _) (Nat.zero_le _) (by simp),fun g k cap h cur t f hg u hu=>?_⟩
 cases h
 rw [heap_new] at hg
 cases hg
 simp at hu
theorem nrow_row {w:World} {B n V cap:Nat} {f:Fin n→C7} (h:NRow w B 62 3 (.slice (some ⟨V,0,none⟩) n cap) n (cellsC f)):B≤V∧n≤cap∧cap≤maxLen∧SRow w V cap∧∀ i:Fin n,AtC w V i.1 (f i):=by
 obtain ⟨ho,hN⟩:=h
 have ho2:=ho
 obtain ⟨-,⟨e,-⟩|⟨g,cap',cur,e,hB,hg,hn,hm,hs,ht⟩⟩:=ho
 ·cases e
 ·cases e
  have hr:SRow w V cap:=⟨cur,hg,hs,hN _ _ _ rfl _ _ _ hg⟩
  refine ⟨hB,hn,hm,hr,fun i=>AtC.of hr fun c hc=>?_⟩
  have hj:i.1*3+c<n*3:=by have:=i.2;omega
  rw [ceh hg,← cellsC_at f i c hc,← ht,List.getElem?_take_of_lt hj,Array.getElem?_toList]
theorem clone_rat (b off n c:Nat) (f:Fin n→C7) (W:World) (h0:0<n) (hn:n≤1000) (hb:b<W.heap.size) (hf:∀ (i:Fin n) (k:Nat),k<3→W.cell? ⟨b,off+i.1*3+k,none⟩=(encC (f i))[k]?) :
  Calls Tryz.prog 126 #[.slice (some ⟨b,off,none⟩) n c] W fun e w'=>∃ V cap,e=.returned (.slice (some ⟨V,0,none⟩) n cap)∧Below W.heap.size W w'∧W.heap.size≤V∧n≤cap∧cap≤maxLen∧SRow w' V cap∧∀ i:Fin n,AtC w' V i.1 (f i):=by
 obtain ⟨i0,hi,hz0,hz1,hz2⟩:=info_parts6 info66
 have hb0:=bea W (.cells #[] 62)
 have hnews:∀ j u,(cellsC f)[j]?=some u→(W.alloc (.cells #[] 62)).cell? ((⟨b,off,none⟩:Addr).add j)=some u:=fun j u hj=>by
  have hjl:=(List.getElem?_eq_some_iff.1 hj).1
  rw [cellsC_len] at hjl
  have e:=cellsC_at f ⟨j/3,by omega⟩ (j%3) (Nat.mod_lt _ (by omega))
  have e2:j/3*3+j%3=j:=by omega
  rw [e2,hj] at e
  rw [Addr.add_mid]
  have h1:=hf ⟨j/3,by omega⟩ (j%3) (Nat.mod_lt _ (by omega))
  rw [← e] at h1
  rw [show off+j=off+j/3*3+j%3 by omega]
  exact (hb0.cell (p:=⟨b,off+j/3*3+j%3,none⟩) hb).trans h1
 have HNEWS:=hiD hnews
 have HZ:=hiD hz0
 have HI:=hiD hi
 have hq:∀ (w:World),(binOp .eql 57 (.slice (some ⟨b,off,none⟩) n c) (.slice none 0 0)).run Tryz.prog w=.ok (.bool false) w:=fun w=>Lib.run_eql_slice_nil w 57 (Tryz.prog.elem 57) (some ⟨b,off,none⟩) n c 0 0 elem91
 clear hnews hf hb0 hi hz0
 go_enter Tryz.func126,Tryz.ntmps126
 go_wp2_with (at_builtin;refine wpList_append_N rfl _ _ 57 rfl W.heap.size 62 i0 (.agg #[.bool false,.slice none 0 0,.slice none 0 0]) 3 56 Tryz.underlying57 HI.out HZ.out hz1 hz2 rfl (by decide) zero_noU66 _ _ _ rfl (nrow_made W) ⟨b,off,none⟩ n c (cellsC f) rfl (cellsC_len f) HNEWS.out (fun u hu=>by obtain ⟨i,hu⟩:=cellsC_mem f hu;exact encC_one _ u hu) (fun u hu=>by obtain ⟨i,hu⟩:=cellsC_mem f hu;exact encC_noU _ u hu) h0 (by unfold maxLen;omega) (by omega) (by simp) ?_)
 intro v' w1 hrow hgr
 have HROW:=hiD hrow
 have HGR:=hiD hgr
 clear hrow hgr
 go_wp2_with fail
 go_ret
 have hrow:=HROW.out
 obtain ⟨V,cap,rfl⟩:∃ V cap,v'=.slice (some ⟨V,0,none⟩) n cap:=by
  obtain ⟨-,⟨e,e2⟩|⟨g,cap',cur,e,-⟩⟩:=hrow.1
  ·omega
  ·exact ⟨g,cap',e⟩
 obtain ⟨h1,h2,h3,h4,h5⟩:=nrow_row hrow
 exact ⟨V,cap,rfl,(bea W _).grown HGR.out (by simp) (by intro k hk;simp [Value.ownBlock] at hk;omega),h1,h2,h3,h4,h5⟩
end Go.Proofs.YtlcpcpmlfegejaaGreatDoor
namespace Go.Proofs.YtlcpcpmlfegejaaGreatDoor
open Go.RowKit Big
open Go.Lib Go.Shelf
theorem row_put {cur:List Value} {m cap:Nat} {x:C7} (hs:cur.length=cap*3) (hm:m<cap):(cur.take (m*3)++encC x++cur.drop (m*3+3)).length=cap*3∧(∀ c,c<3→(cur.take (m*3)++encC x++cur.drop (m*3+3))[m*3+c]?=(encC x)[c]?)∧∀ k,(k<m*3∨m*3+3≤k)→(cur.take (m*3)++encC x++cur.drop (m*3+3))[k]?=cur[k]?:=by
 have h3:=encC_len x
 have ht:(cur.take (m*3)).length=m*3:=by rw [List.length_take];omega
 refine ⟨by rw [List.length_append,List.length_append,ht,h3,List.length_drop];omega,fun c hc=>?_,fun k hk=>?_⟩
 ·rw [List.getElem?_append_left (by rw [List.length_append,ht,h3];omega),List.getElem?_append_right (by omega),ht]
  congr 1;omega
 ·rcases hk with hk|hk
  ·rw [List.getElem?_append_left (by rw [List.length_append,ht,h3];omega),List.getElem?_append_left (by omega),List.getElem?_take_of_lt hk]
  ·rw [List.getElem?_append_right (by rw [List.length_append,ht,h3];omega),List.getElem?_drop,List.length_append,ht,h3]
   congr 1;omega
theorem run_append_in (w:World) (ty:TypeId) (V m cap g:Nat) (x:C7) (hrow:SRow w V cap) (hm:m<cap) (hg:∀ c,c<3→w.cell? ⟨g,c,none⟩=(encC x)[c]?):∃ w',(Builtin.append_ #[57,57] ty #[.slice (some ⟨V,0,none⟩) m cap,.slice (some ⟨g,0,none⟩) 1 1]).run Tryz.prog w=.ok (.slice (some ⟨V,0,none⟩) (m+1) cap) w'∧SRow w' V cap∧AtC w' V m x∧w.grownBy w' (some V)∧∀ j y,j≠m→AtC w V j y→AtC w' V j y:=by
 obtain ⟨i0,hi,-,hz1,-⟩:=info_parts6 info66
 have hrow2:=hrow
 obtain ⟨cur,hV,hs,hN⟩:=hrow
 have hsl:cur.toList.length=cap*3:=by rw [Array.length_toList];exact hs
 obtain ⟨hl,hin,hout⟩:=row_put (x:=x) hsl hm
 have hr:=run_append_room (P:=Tryz.prog) w 57 ty 62 i0 Tryz.underlying57 hi V m cap cur hV ⟨g,0,none⟩ 1 1 (encC x) (by rw [hz1];rfl) (fun j u hj=>by
  have hj3:j<3:=by have:=(List.getElem?_eq_some_iff.1 hj).1;rwa [encC_len] at this
  rw [Addr.add_mid,Nat.zero_add,hg j hj3,hj]) (encC_one x) (by omega) (by rw [hz1,encC_len];omega)
 rw [hz1,encC_len] at hr
 have hh:=setRow_heap w V cur (cur.toList.take (m*3)++encC x++cur.toList.drop (m*3+3)).toArray 62 (0,0) hV
 have hsr:SRow (w.setRow V (cur.toList.take (m*3)++encC x++cur.toList.drop (m*3+3)).toArray) V cap:=by
  refine ⟨_,hh,by rw [List.size_toArray];exact hl,fun u hu=>?_⟩
  simp only [List.mem_append] at hu
  rcases hu with (hu|hu)|hu
  ·exact hN u (List.mem_of_mem_take hu)
  ·exact encC_noU x u hu
  ·exact hN u (List.mem_of_mem_drop hu)
 refine ⟨_,hr,hsr,AtC.of hsr fun c hc=>?_,⟨rfl,rfl,rfl,by simp,fun k _ hk=>setRow_other w V k _ (fun e=>hk (by simp [e]))⟩,fun j y hj hy=>AtC.of hsr fun c hc=>?_⟩
 ·rw [ceh hh,List.getElem?_toArray];exact hin c hc
 ·rw [ceh hh,List.getElem?_toArray,hout _ (by omega),Array.getElem?_toList,← ceh hV]
  exact (hy c hc).1
theorem wpList_append_in {w:World} {ops:Array Oper} {rest:List Oper} {o:Oper} {a:Act} {Q:Exit→Act→World→Prop} (hgd:o.guard=none) (s z:Operand)
  (ho:o.op=.call { callee:=.builtin .append,args:=#[s,z],argTypes:=#[57,57] }) (V m cap g:Nat) (x:C7) (hs:a.eval s=.slice (some ⟨V,0,none⟩) m cap) (hz:a.eval z=.slice (some ⟨g,0,none⟩) 1 1) (hrow:SRow w V cap) (hm:m<cap) (hg:∀ c,c<3→w.cell? ⟨g,c,none⟩=(encC x)[c]?)
  (h:∀ w',SRow w' V cap→AtC w' V m x→w.grownBy w' (some V)→(∀ j y,j≠m→AtC w V j y→AtC w' V j y)→wpList Tryz.prog ops Q rest (a.put o.dst (.slice (some ⟨V,0,none⟩) (m+1) cap)) w'):wpList Tryz.prog ops Q (o::rest) a w :=
 wpList_plain hgd fun K hK=>by
  obtain ⟨w',hr,h2,h3,h4,h5⟩:=run_append_in w o.type V m cap g x hrow hm hg
  unfold Oper.wp execOp
  simp only [ho,resolve,invoke,builtin,Sem.run_bind,Sem.run_pure,Result.andThen_ok,List.map_toArray,List.map_cons,List.map_nil,hs,hz,hr]
  exact hK _ _ (h w' h2 h3 h4 h5)
def PartAt (W:World) (x:Value) (q:Rat) (m:Nat):Prop:=∃ s a d,RatAt W x s a d∧ratv s a d=q∧0<d∧a<m*B64^20∧d<B64^20
theorem PartAt.first {W:World} {x:Value} {q:Rat} {m:Nat} (h:RatIs W x q 20) (hm:1≤m):PartAt W x q m:=by
 obtain ⟨s,a,d,h1,h2,h3,h4,h5⟩:=h
 refine ⟨s,a,d,h1,h2,h3,?_,h5⟩
 have:1*B64^20≤m*B64^20:=Nat.mul_le_mul_right _ hm
 omega
theorem PartAt.more {W:World} {x:Value} {q:Rat} {m k:Nat} (h:PartAt W x q m) (hm:m≤k):PartAt W x q k:=by
 obtain ⟨s,a,d,h1,h2,h3,h4,h5⟩:=h
 have:m*B64^20≤k*B64^20:=Nat.mul_le_mul_right _ hm
 exact ⟨s,a,d,h1,h2,h3,by omega,h5⟩
theorem PartAt.below {W W':World} {x:Value} {q:Rat} {m:Nat} (h:PartAt W x q m) (hb:Below W.heap.size W W'):PartAt W' x q m:=by
 obtain ⟨s,a,d,h1,h2⟩:=h
 exact ⟨s,a,d,h1.below hb,h2⟩
theorem PartAt.row {W W':World} {V cap:Nat} {x:Value} {q:Rat} {m:Nat} (h:PartAt W x q m) (hr:SRow W V cap) (hg:W.grownBy W' (some V)):PartAt W' x q m:=by
 obtain ⟨s,a,d,h1,h2⟩:=h
 exact ⟨s,a,d,ratAt_row hr hg h1,h2⟩
theorem PartAt.is {W:World} {x:Value} {q:Rat} {m:Nat} (h:PartAt W x q m) (hm:m≤1000):RatIs W x q 21:=by
 obtain ⟨s,a,d,h1,h2,h3,h4,h5⟩:=h
 have e:B64^21=B64*B64^20:=by rw [Nat.pow_succ,Nat.mul_comm]
 have h6:m*B64^20≤B64*B64^20:=Nat.mul_le_mul_right _ (by rw [B64_eq];omega)
 have h7:1*B64^20≤B64*B64^20:=Nat.mul_le_mul_right _ (by rw [B64_eq];omega)
 exact ⟨s,a,d,h1,h2,h3,by rw [e];omega,by rw [e];omega⟩
end Go.Proofs.YtlcpcpmlfegejaaGreatDoor
namespace Go.Proofs.YtlcpcpmlfegejaaGreatDoor
open Go.RowKit Big
open Go.Lib Go.Shelf
theorem sumQ_set:∀ (l:List Rat) (k:Nat) (q:Rat),k<l.length→sumQ (l.set k (l.getD k 0+q))=sumQ l+q:=by
 intro l
 induction l with
 | nil=>intro k q h;simp at h
 | cons a l ih =>
  intro k q h
  cases k with
  | zero=>simp only [List.set_cons_zero,sumQ,List.getD_cons_zero];rw [Rat.add_assoc,Rat.add_comm q,← Rat.add_assoc]
  | succ k=>simp only [List.set_cons_succ,sumQ,List.getD_cons_succ];rw [ih k q (by simpa using h),Rat.add_assoc]
theorem sumQ_take {l:List Rat} {i:Nat} (h:i<l.length):sumQ (l.take (i+1))=sumQ (l.take i)+l.getD i 0:=by
 rw [List.take_succ_eq_append_getElem h,sumQ_append,List.getD_eq_getElem?_getD,List.getElem?_eq_getElem h]
 simp [sumQ,Rat.add_zero]
theorem SRow.lt {W:World} {V cap:Nat} (h:SRow W V cap):V<W.heap.size:=by
 obtain ⟨cur,hV,-⟩:=h
 exact (Array.getElem?_eq_some_iff.1 hV).1
theorem SRow.below {W W':World} {V cap:Nat} (h:SRow W V cap) (hb:Below W.heap.size W W'):SRow W' V cap:=by
 have hl:=h.lt
 obtain ⟨cur,hV,h2⟩:=h
 exact ⟨cur,(hb.block V hl).trans hV,h2⟩
theorem AtC.below {W W':World} {V i cap:Nat} {x:C7} (h:AtC W V i x) (hr:SRow W V cap) (hb:Below W.heap.size W W'):AtC W' V i x :=
 AtC.of (hr.below hb) fun c hc=>(hb.cell (p:=⟨V,i*3+c,none⟩) hr.lt).trans (h c hc).1
structure TI (W1:World) (V cap n i m:Nat) (h:Fin n→C7) (qs:List Rat) (W:World):Prop where
 below:Below W1.heap.size W1 W
 row:SRow W V cap
 rest:∀ j:Fin n,i≤j.1→AtC W V j.1 (h j)
 parts:∃ (ps:Nat→C7) (rs:List Rat),rs.length=m∧sumQ rs=sumQ (qs.take i)∧∀ k,k<m→AtC W V k (ps k)∧PartAt W (valC (ps k)) (rs.getD k 0) i
theorem TI.next {W1 W W':World} {V cap n i m:Nat} {h:Fin n→C7} {qs:List Rat} (H:TI W1 V cap n i m h qs W) (hb:Below W.heap.size W W'):TI W1 V cap n i m h qs W':=by
 obtain ⟨ps,rs,h1,h2,h3⟩:=H.parts
 exact ⟨H.below.trans (hb.mono H.below.size),H.row.below hb,fun j hj=>(H.rest j hj).below H.row hb,ps,rs,h1,h2,fun k hk=>⟨(h3 k hk).1.below H.row hb,(h3 k hk).2.below hb⟩⟩
theorem TI.append {W1 W W':World} {V cap n i m:Nat} {h:Fin n→C7} {qs:List Rat} (H:TI W1 V cap n i m h qs W) (hV:W1.heap.size≤V) (hm:m≤i) (hi:i<n) (hl:qs.length=n) (hq:RatIs W (valC (h ⟨i,hi⟩)) (qs.getD i 0) 20)
  (hr:SRow W' V cap) (ha:AtC W' V m (h ⟨i,hi⟩)) (hg:W.grownBy W' (some V)) (ho:∀ j y,j≠m→AtC W V j y→AtC W' V j y):TI W1 V cap n (i+1) (m+1) h qs W':=by
 obtain ⟨ps,rs,h1,h2,h3⟩:=H.parts
 refine ⟨H.below.grown hg H.below.size (fun k hk=>by injection hk with hk;omega),hr,fun j hj=>ho _ _ (by omega) (H.rest j (by omega)),fun k=>if k=m then h ⟨i,hi⟩ else ps k,rs++[qs.getD i 0],by rw [List.length_append,h1];rfl,?_,fun k hk=>?_⟩
 ·rw [sumQ_append,h2,sumQ_take (by omega)];simp [sumQ,Rat.add_zero]
 ·by_cases hkm:k=m
  ·subst hkm
   dsimp only
   rw [if_pos rfl,List.getD_eq_getElem?_getD,List.getElem?_append_right (by omega),h1,Nat.sub_self]
   exact ⟨ha,(PartAt.first (rat_row H.row hg hq) (by omega))⟩
  ·dsimp only
   rw [if_neg hkm,List.getD_eq_getElem?_getD,List.getElem?_append_left (by omega),← List.getD_eq_getElem?_getD]
   have:=h3 k (by omega)
   exact ⟨ho _ _ hkm this.1,(this.2.row H.row hg).more (by omega)⟩
theorem TI.merge {W1 W W':World} {V cap n i k:Nat} {h:Fin n→C7} {qs:List Rat} {y:C7} {r:Rat} (H:TI W1 V cap n i (k+1) h qs W) (hV:W1.heap.size≤V) (hm:k+1≤i) (hi:i<n) (hl:qs.length=n)
  (rs:List Rat) (ps:Nat→C7) (h1:rs.length=k+1) (h2:sumQ rs=sumQ (qs.take i)) (h3:∀ j,j<k+1→AtC W V j (ps j)∧PartAt W (valC (ps j)) (rs.getD j 0) i) (hr':r=rs.getD k 0)
  (hy:PartAt W (valC y) (r+qs.getD i 0) (i+1)) (hr:SRow W' V cap) (ha:AtC W' V k y) (hg:W.grownBy W' (some V)) (ho:∀ j y,j≠k→AtC W V j y→AtC W' V j y):TI W1 V cap n (i+1) (k+1) h qs W':=by
 subst hr'
 refine ⟨H.below.grown hg H.below.size (fun k hk=>by injection hk with hk;omega),hr,fun j hj=>ho _ _ (by omega) (H.rest j (by omega)),fun j=>if j=k then y else ps j,rs.set k (rs.getD k 0+qs.getD i 0),by rw [List.length_set,h1],?_,fun j hj=>?_⟩
 ·rw [sumQ_set _ _ _ (by omega),h2,sumQ_take (by omega)]
 ·by_cases hjk:j=k
  ·subst hjk
   dsimp only
   rw [if_pos rfl,show (rs.set j (rs.getD j 0+qs.getD i 0)).getD j 0=rs.getD j 0+qs.getD i 0 from by rw [List.getD_eq_getElem?_getD,List.getElem?_set_self (by omega)];rfl]
   exact ⟨ha,hy.row H.row hg⟩
  ·dsimp only
   rw [if_neg hjk,List.getD_eq_getElem?_getD,List.getElem?_set_ne (fun e=>hjk e.symm),← List.getD_eq_getElem?_getD]
   have:=h3 j hj
   exact ⟨ho _ _ hjk this.1,(this.2.row H.row hg).more (by omega)⟩
theorem PartAt.sum {q r:Rat} {i a d c:Nat} {s t:Bool} (hq:ratv s a d=q) (ha:a<i*B64^20) (hdl:d<B64^20) (hc:c<B64^20)  (hr:ratv t c d=r) {W':World} {z:Value} {u:Bool} {n' m':Nat} (hz:RatAt W' z u n' m') (hm0:0<m') (hv:ratv u n' m'=ratv s a d+ratv t c d) (hn:n'≤(addB a d c d).1) (hm:m'=(addB a d c d).2):PartAt W' z (q+r) (i+1):=by
 unfold addB at hn hm
 rw [if_pos rfl] at hn hm
 refine ⟨u,n',m',hz,by rw [hv,hq,hr],hm0,?_,by rw [hm];exact hdl⟩
 rw [Nat.add_mul,Nat.one_mul]
 simp only at hn
 omega
end Go.Proofs.YtlcpcpmlfegejaaGreatDoor
