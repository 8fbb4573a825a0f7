/- Contracts. -/
import Derived.Maps.GroupsBeside
import Derived.WideKeyEntry
import Derived.Test.YtgepehlpjpccaaaGreatDoorWFN
import Derived.WideKeyArr2
namespace Go.Proofs.YtgepehlpjpccaaaGreatDoor
section
open Go.RowKit Go.Maps Go.ChangeShapes Go.MapKept
open Go.WideElems (Fit rd rg pl rd_key rd_val rg_of rd_mk rd_stay)
open Go.ChangeMaps (setBlock heap_setBlock_same heap_setBlock_other putKey notKey)
section
variable {H : Type} {P : Program} {k : TypeId} {w : World} {base : Nat} {e : TypeId} {q : IntKind} {b n : Nat} {D : DataW H}
def yeW (P:Program) (t k:TypeId) (base:Nat) (e:TypeId) (q:IntKind) (b n:Nat) (D:DataW H) (kl:Lit) (v:Value) (st:Nat) (w w1:World):Prop :=
 ∀ (w2:World) (v':Value) (zs':List Int),w1.grownBy w2 v.ownBlock→w2.ownsInts base e q v' zs'→zs'.length≤n+1→(v'.ownBlock=v.ownBlock∨∃ g,v'.ownBlock=some g∧w.heap.size≤g) →
  ∃ w3,(Instr.entryStore t (.map (some b)) (goInt st) v').run P w2=.ok () w3∧w3.ownsGroups P k base e q b (n+1) (D.put kl (rowDatum q v' zs'))∧w2.grownBy w3 (some b)
theorem yj4 {t E:TypeId} {key:Value} {kl:Lit} (h:w.ownsGroups P k base e q b n D) (KL:WideMaps.KeyLaw P k) (ht:P.underlying t=some (.map k E)) (hz:∀ u:World,(zeroValue E).run P u=.ok (.slice none 0 0) u) (hn:n<maxLen) (ydv:keyOf P k key=some kl) :
  ∃ (v:Value) (zs:List Int) (st:Nat) (w1:World),(Instr.mapEntry t (.map (some b)) key).run P w=.ok (.tuple #[v,goInt st]) w1∧w.grownBy w1 (some b)∧D.atKey kl .nil=rowDatum q v zs∧w1.ownsInts base e q v zs∧zs.length≤n∧w1.heap.size=w.heap.size∧yeW P t k base e q b n D kl v st w w1:=by
 have K:=Keyed.of_law KL
 have hO:=h
 obtain ⟨es,clock,hb,F,hs,rfl,hbb,hlen,hap⟩:=h
 obtain ⟨v0,st,es1,clock1,zL,hv0,hst⟩:=Go.WideElems.entry_then_store KL ht hz hb F ydv
 have hblt:b<w.heap.size:=(Array.getElem?_eq_some_iff.1 hb).1
 have hg1:w.grownBy (setBlock w b (.map es1 clock1)) (some b):=⟨rfl,rfl,rfl,by simp [setBlock],fun i _ hi=>heap_setBlock_other hb _ (fun e1=>hi (by rw [e1]))⟩
 have hb1:(setBlock w b (.map es1 clock1)).heap[b]?=some (.map es1 clock1):=heap_setBlock_same hb _
 have owned:∀ x ∈ es.toList,∃ zs,w.ownsInts base e q x.val zs:=fun x hx=>by
  obtain ⟨y,hy⟩:=F.reads x hx
  obtain ⟨z,hz1,_⟩:=rd_val hy
  obtain ⟨zs,ho,_⟩:=rowElem_inv hz1
  exact ⟨zs,ho⟩
 have ybH:∀ {W:World} {u:Value} {ys:List Int},W.ownsInts base e q u ys→u.ownBlock=none∨u.ownBlock≠some b:=fun {W u ys} ho=>by
  cases hu:u.ownBlock with
  | none=>exact Or.inl rfl
  | some g =>
   refine Or.inr (fun e1=>?_)
   have:=(ho.1.lt g hu).1
   cases e1
   omega
 -- what the entry holds
 obtain ⟨zs,ho,hat,hzl,hap0⟩:∃ zs,w.ownsInts base e q v0 zs∧(DataW.map ((es.toList.map (rg P k (rowElem (H:=H) w base e q))).foldr DataW.insert [])).atKey kl .nil=rowDatum q v0 zs∧zs.length≤n∧(∀ x ∈ es.toList,x.key≠key→x.val.ownBlock=none∨x.val.ownBlock≠v0.ownBlock):=by
  rcases Maps.fit_look false K ht (hz w) hb F ydv with ⟨zP,hno,hat⟩|⟨e0,y,hm0,h3,zP,hR,hat,_⟩
  ·rcases hv0 with ⟨e0,hm,hk0,_⟩|⟨_,rfl⟩
   ·exact absurd hk0 (hno e0 hm)
   ·exact ⟨[],World.ownsInts_nil _ _ _ _,hat _,Nat.zero_le _,fun x _ _=>by cases x.val.ownBlock<;>simp [Value.ownBlock]⟩
  ·rcases hv0 with ⟨e1,hm1,hk1,rfl⟩|⟨hno,_⟩
   ·have huniq:∀ x ∈ es.toList,x.key=key→x.val=e0.val:=fun x hx hxk=>by
     rcases K.find w ydv es.toList F.keys with ⟨_,h2⟩|⟨j,ej,h1,h2,h3'⟩
     ·exact absurd h3 (h2 e0 hm0)
     ·have hpw:es.toList.Pairwise (fun a b=>a.key≠b.key):=List.pairwise_map.1 F.stamped.2.2
      obtain ⟨i,hi,hxe⟩:=List.getElem_of_mem hx
      obtain ⟨i0,hi0,ykC⟩:=List.getElem_of_mem hm0
      by_cases e:i=i0
      ·subst e;rw [← hxe,← ykC]
      ·exfalso
       rcases Nat.lt_or_gt_of_ne e with hlt|hlt
       ·exact (List.pairwise_iff_getElem.1 hpw i i0 hi hi0 hlt) (by rw [hxe,ykC,hxk,h3])
       ·exact (List.pairwise_iff_getElem.1 hpw i0 i hi0 hi hlt) (by rw [hxe,ykC,hxk,h3])
    obtain ⟨zs,ho,rfl⟩:=rowElem_inv hR
    have e10:=huniq e1 hm1 hk1
    rw [e10]
    exact ⟨zs,ho,hat _,hlen e0 hm0 zs ho,fun x hx hne=>hap x hx e0 hm0 (by rw [h3];exact hne)⟩
   ·exact absurd h3 (hno e0 hm0)
 refine ⟨v0,zs,st,_,zL,hg1,hat,ho.kept hg1 (ybH ho),hzl,by simp [setBlock],?_⟩
 intro w2 v' zs' hg hown' hl' yna
 have hw2:w2.heap[b]?=some (.map es1 clock1):=(hg.block b (by rw [show (setBlock w b (.map es1 clock1)).heap.size=w.heap.size by simp [setBlock]];exact hblt) (fun e1=>(ybH ho).elim (fun h=>by rw [h] at e1;cases e1) (fun h=>h e1.symm))).trans hb1
 obtain ⟨es',clock',zP,hup⟩:=hst w2 v' hw2
 have hg3:w2.grownBy (setBlock w2 b (.map es' clock')) (some b):=⟨rfl,rfl,rfl,by simp [setBlock],fun i _ hi=>heap_setBlock_other hw2 _ (fun e1=>hi (by rw [e1]))⟩
 have keepx:∀ x ∈ es.toList,x.key≠key→∀ zs,w.ownsInts base e q x.val zs→(setBlock w2 b (.map es' clock')).ownsInts base e q x.val zs:=fun x hx hne zs hx0 =>
  (((hx0.kept hg1 (ybH hx0)).kept hg (hap0 x hx hne)).kept hg3 (ybH hx0))
 have hown3:(setBlock w2 b (.map es' clock')).ownsInts base e q v' zs':=hown'.kept hg3 (ybH hown')
 have hs1:∀ x ∈ es.toList,x.key≠key→∀ z,rowElem (H:=H) w base e q x.val=some z→rowElem (setBlock w2 b (.map es' clock')) base e q x.val=some z:=by
  intro x hx hne z hz1
  obtain ⟨ys,hys,rfl⟩:=rowElem_inv hz1
  exact rowElem_mk (keepx x hx hne ys hys)
 obtain ⟨es'',clock'',hrun3,F',zQ,_,_,ywe⟩:=Maps.fit_store (R':=rowElem (setBlock w2 b (.map es' clock')) base e q) K ht hb F (Nat.lt_of_le_of_lt hs hn) hs1 ydv (rowElem_mk hown3)
 have hsame:es''=es'∧clock''=clock':=by
  have h:=hup.symm.trans hrun3
  have h2:setBlock w b (.map es' clock')=setBlock w b (.map es'' clock''):=by simpa using h
  have h3:(setBlock w b (.map es' clock')).heap[b]?=(setBlock w b (.map es'' clock'')).heap[b]?:=by rw [h2]
  rw [heap_setBlock_same hb,heap_setBlock_same hb] at h3
  simp only [Option.some.injEq,Obj.map.injEq] at h3
  exact ⟨h3.1.symm,h3.2.symm⟩
 obtain ⟨rfl,rfl⟩:=hsame
 have old_new:∀ x ∈ es.toList,x.key≠key→x.val.ownBlock=none∨x.val.ownBlock≠v'.ownBlock:=by
  intro x hx hne
  rcases yna with h1|⟨g,h1,h2⟩
  ·rw [h1]
   exact hap0 x hx hne
  ·cases hx':x.val.ownBlock with
   | none=>exact Or.inl rfl
   | some gx =>
    obtain ⟨ys,hys⟩:=owned x hx
    have:=(hys.1.lt gx hx').2
    refine Or.inr (fun e1=>?_)
    rw [h1] at e1
    cases e1
    omega
 refine ⟨_,zP,⟨es'',clock'',heap_setBlock_same hw2 _,F',?_,?_,hbb,?_,?_⟩,hg3⟩
 ·have e1:es''.size=((es''.toList.map (rg P k (rowElem (H:=H) (setBlock w2 b (.map es'' clock'')) base e q))).foldr DataW.insert []).length:=by rw [length_sorted];simp
  rw [e1,zQ]
  unfold putKey
  rw [length_insert]
  have e2:=List.length_filter_le (notKey kl) ((es.toList.map (rg P k (rowElem (H:=H) w base e q))).foldr DataW.insert [])
  rw [length_sorted] at e2
  simp at e2
  omega
 ·rw [DataW.put_eq,zQ]
 ·intro x hx ys hys
  rcases ywe x hx with ⟨hx0,hne⟩|⟨_,zR⟩
  ·obtain ⟨ys0,ho0⟩:=owned x hx0
   have:=hlen x hx0 ys0 ho0
   rw [hys.unique (keepx x hx0 hne ys0 ho0)]
   omega
  ·rw [zR] at hys
   rw [hys.unique hown3]
   exact hl'
 ·intro x hx y hy hne
  rcases ywe x hx with ⟨hx0,hxk⟩|⟨hxk,hxv⟩<;>rcases ywe y hy with ⟨hy0,hyk⟩|⟨hyk,hyv⟩
  ·exact hap x hx0 y hy0 hne
  ·rw [hyv]
   exact old_new x hx0 hxk
  ·rw [hxv]
   cases hv':v'.ownBlock with
   | none=>exact Or.inl rfl
   | some g =>
    refine Or.inr (fun e1=>?_)
    rcases old_new y hy0 hyk with h|h
    ·rw [h] at e1
     cases e1
    ·exact h (by rw [hv',e1])
  ·exact absurd (hxk.trans hyk.symm) hne
end
theorem yj5 {H:Type} {P:Program} (w:World) {ops:Array Oper} {rest:List Oper} {o:Oper} {a:Act} {Q:Exit→Act→World→Prop}
  (hg:o.guard=none) (m x:Operand) (t:TypeId) (hop:o.op=Op.mapEntry t m x)
  (k E e:TypeId) (q:IntKind) (KL:WideMaps.KeyLaw P k) (ht:P.underlying t=some (.map k E)) (hz:∀ u:World,(zeroValue E).run P u=.ok (.slice none 0 0) u) (base b n:Nat) (D:DataW H)
  (hm:a.eval m=.map (some b)) (yW:w.ownsGroups P k base e q b n D) (hn:n<maxLen) (key:Value) (kl:Lit) (hx:a.eval x=key) (ydv:keyOf P k key=some kl)
  (hK:∀ (v:Value) (zs:List Int) (st:Nat) (w1:World),w.grownBy w1 (some b)→D.atKey kl .nil=rowDatum q v zs→w1.ownsInts base e q v zs→zs.length≤n→w1.heap.size=w.heap.size→yeW P t k base e q b n D kl v st w w1→wpList P ops Q rest (a.put o.dst (.tuple #[v,goInt st])) w1) :
  wpList P ops Q (o::rest) a w:=by
 refine wpList_plain hg fun K' hK'=>?_
 obtain ⟨v,zs,st,w1,zL,h1,h2,h3,h4,h5,h6⟩:=yj4 yW KL ht hz hn ydv
 unfold Oper.wp
 simp [execOp,hop,hm,hx,zL,Result.andThen]
 exact hK' _ _ (hK v zs st w1 h1 h2 h3 h4 h5 h6)
theorem yeN {H:Type} {P:Program} (w:World) {ops:Array Oper} {rest:List Oper} {o:Oper} {a:Act} {Q:Exit→Act→World→Prop}
  (hg:o.guard=none) (m s x:Operand) (t:TypeId) (hop:o.op=Op.entryStore t m s x)
  {w0 w1:World} {k:TypeId} {base:Nat} {e:TypeId} {q:IntKind} {b n:Nat} {D:DataW H} {kl:Lit} {u v':Value} {st:Nat} {zs':List Int}
  (ydN:yeW P t k base e q b n D kl u st w0 w1) (hm:a.eval m=.map (some b)) (hs:a.eval s=goInt st) (hx:a.eval x=v')
  (hgr:w1.grownBy w u.ownBlock) (hown':w.ownsInts base e q v' zs') (hl':zs'.length≤n+1) (yna:v'.ownBlock=u.ownBlock∨∃ g,v'.ownBlock=some g∧w0.heap.size≤g)
  (hK:∀ w2,w2.ownsGroups P k base e q b (n+1) (D.put kl (rowDatum q v' zs'))→w.grownBy w2 (some b)→wpList P ops Q rest (a.put o.dst undef) w2) :
  wpList P ops Q (o::rest) a w:=by
 refine wpList_plain hg fun K' hK'=>?_
 obtain ⟨w2,zL,r1,r2⟩:=ydN w v' zs' hgr hown' hl' yna
 unfold Oper.wp
 simp [execOp,hop,hm,hs,hx,zL,Result.andThen]
 exact hK' _ _ (hK w2 r1 r2)
end
section
def k4 (l:List UInt8) (i:Nat):List UInt8:=[l.getD i 0,l.getD (i+1) 0,l.getD (i+2) 0,l.getD (i+3) 0]
def pls (l:List UInt8) (m:Nat) (x:List UInt8):List Nat:=(List.range m).filter (fun i=>k4 l i==x)
theorem ylf (l:List UInt8) (m:Nat) (x:List UInt8):pls l (m+1) x=if k4 l m=x then pls l m x++[m] else pls l m x:=by
 rw [pls,List.range_succ,List.filter_append]
 by_cases e:k4 l m=x
 ·rw [if_pos e];simp [pls,e]
 ·rw [if_neg e];simp [pls,e]
theorem ypc {l:List UInt8} {m:Nat} {x:List UInt8} {i:Nat}:i ∈ pls l m x↔i<m∧k4 l i=x:=by
 simp [pls,List.mem_filter]
theorem ywD (l:List UInt8) (m:Nat) (x:List UInt8):(pls l m x).Pairwise (·<·):=List.Pairwise.filter _ List.pairwise_lt_range
theorem yu3 (l:List UInt8) (m:Nat) (x:List UInt8):(pls l m x).length≤m:=by
 have:=List.length_filter_le (fun i=>k4 l i==x) (List.range m)
 rwa [List.length_range] at this
theorem yu4 {l:List UInt8} {a n x:Nat} (hn:3≤n) (hx:x≤a) (h:n<rn l a x):a+(n-3)-x ∈ pls l (l.length-3) (k4 l (a+(n-3))):=by
 have hr:=(ygf l a x).same
 have h0:=hr (n-3) (by omega)
 have h1:=hr (n-2) (by omega)
 have h2:=hr (n-1) (by omega)
 have h3:=hr n h
 rw [ypc]
 refine ⟨by have:=h3.1;omega,?_⟩
 have e0:a+(n-3)-x=a+(n-3)-x:=rfl
 unfold k4
 have a1:a+(n-3)+1=a+(n-2):=by omega
 have a2:a+(n-3)+2=a+(n-1):=by omega
 have a3:a+(n-3)+3=a+n:=by omega
 have b1:a+(n-3)-x+1=a+(n-2)-x:=by omega
 have b2:a+(n-3)-x+2=a+(n-1)-x:=by omega
 have b3:a+(n-3)-x+3=a+n-x:=by omega
 rw [a1,a2,a3,b1,b2,b3,h0.2,h1.2,h2.2,h3.2]
structure Srch (l:List UInt8) (a n d N i:Nat) (ps:Nat→Nat):Prop where
 n3:3≤n
 da:d≤a
 all:∀ y,y ∈ pls l (l.length-3) (k4 l (a+(n-3)))→∃ j,j<N∧ps j=y
 up:∀ j k,j≤k→k<N→ps j≤ps k
 iN:i≤N
 lo:∀ j,j<i→ps j<a+(n-3)-d
 hi:∀ j,i≤j→j<N→a+(n-3)-d≤ps j
def ycS (l:List UInt8) (a n i:Nat) (ps:Nat→Nat) (r:Nat):Prop:=∀ j,i≤j+r→j<i→rn l a (a+(n-3)-ps j)≤n
theorem ycS.start (l:List UInt8) (a n i:Nat) (ps:Nat→Nat):ycS l a n i ps 0:=fun j h1 h2=>by omega
variable {l : List UInt8} {a n d N i : Nat} {ps : Nat → Nat} {r : Nat}
theorem ycS.step (h:ycS l a n i ps r) (hr:r<i) (k:rn l a (a+(n-3)-ps (i-1-r))≤n):ycS l a n i ps (r+1):=fun j h1 h2=>by
 by_cases e:j=i-1-r
 ·rw [e];exact k
 ·exact h j (by omega) h2
theorem Srch.place (s:Srch l a n d N i ps) {x:Nat} (h1:d<x) (h2:x≤a) (h3:n<rn l a x):∃ j,j<i∧ps j=a+(n-3)-x:=by
 obtain ⟨j,hj,e⟩:=s.all _ (yu4 s.n3 h2 h3)
 refine ⟨j,?_,e⟩
 rcases Nat.lt_or_ge j i with h|h
 ·exact h
 ·have:=s.hi j h hj;omega
theorem ycS.done (s:Srch l a n d N i ps) (h:ycS l a n i ps i):yce l a n d:=fun x h1 h2=>by
 rcases Nat.lt_or_ge n (rn l a x) with h3|h3
 ·obtain ⟨j,hj,e⟩:=s.place h1 h2 h3
  have:=h j (by omega) hj
  rwa [e,show a+(n-3)-(a+(n-3)-x)=x by omega] at this
 ·exact h3
theorem ycS.cut (s:Srch l a n d N i ps) (h:ycS l a n i ps r) (hr:r<i) (k:ps (i-1-r)<n-3):yce l a n d:=fun x h1 h2=>by
 rcases Nat.lt_or_ge n (rn l a x) with h3|h3
 ·obtain ⟨j,hj,e⟩:=s.place h1 h2 h3
  have hjr:i≤j+r:=by
   rcases Nat.lt_or_ge (j+r) i with h4|h4
   ·have:=s.up j (i-1-r) (by omega) (by have:=s.iN;omega);omega
   ·exact h4
  have:=h j hjr hj
  rwa [e,show a+(n-3)-(a+(n-3)-x)=x by omega] at this
 ·exact h3
theorem ycS.found (s:Srch l a n d N i ps) (h:ycS l a n i ps r) (hr:r<i) (hk:n-3≤ps (i-1-r)) (k:n<rn l a (a+(n-3)-ps (i-1-r))):NextAt l a n d (rn l a (a+(n-3)-ps (i-1-r))) (a+(n-3)-ps (i-1-r)):=by
 have hlo:=s.lo (i-1-r) (by omega)
 have hda:=s.da
 refine ⟨by omega,by omega,rfl,k,fun x h1 h2=>?_⟩
 rcases Nat.lt_or_ge n (rn l a x) with h3|h3
 ·obtain ⟨j,hj,e⟩:=s.place h1 (by omega) h3
  have hjr:i≤j+r:=by
   rcases Nat.lt_or_ge (j+r) i with h4|h4
   ·have:=s.up j (i-1-r) (by omega) (by have:=s.iN;omega);omega
   ·exact h4
  have:=h j hjr hj
  rwa [e,show a+(n-3)-(a+(n-3)-x)=x by omega] at this
 ·exact h3
end
section
open Go.RowKit Go.Maps Go.ChangeShapes Go.WideMaps
theorem yvw:ArrKey Tryz.prog 79 5 4:=⟨Tryz.underlying79,by kernel_rfl,by kernel_rfl,by kernel_rfl⟩
theorem yvx:KeyLaw Tryz.prog 79:=yvw.law
theorem yiG (w:World):(zeroValue 194).run Tryz.prog w=.ok (.slice none 0 0) w:=by kernel_rfl
theorem ygW:∃ m,Tryz.prog.types.size=m+1:=⟨Tryz.prog.types.size-1,by
 have:0<Tryz.prog.types.size:=of_decide_eq_true (by kernel_rfl)
 omega⟩
theorem ymY (x:UInt8):(Lit.int .u8 (x.toNat:Int)).wf=true:=by
 have:=x.toNat_lt
 have h1:IntKind.u8.min=0:=by decide
 have h2:IntKind.u8.max=255:=by decide
 simp only [Lit.wf,h1,h2]
 simp
 omega
theorem ywE (x:UInt8):Lit.keyBytes (.int .u8 (x.toNat:Int))=[x]:=by
 have:=x.toNat_lt
 have e:(((x.toNat:Nat):Int)%2^8).toNat=x.toNat:=by omega
 show bytesBE 1 (((x.toNat:Nat):Int)%2^8).toNat=[x]
 rw [e]
 simp only [bytesBE,bytesLE,List.reverse_cons,List.reverse_nil,List.nil_append]
 rw [Nat.mod_eq_of_lt this,UInt8.ofNat_toNat]
theorem yoj (x0 x1 x2 x3:UInt8):keyOf Tryz.prog 79 (.agg #[.int .u8 (x0.toNat:Int),.int .u8 (x1.toNat:Int),.int .u8 (x2.toNat:Int),.int .u8 (x3.toNat:Int)])=some (.string [x0,x1,x2,x3]):=by
 have A:=yvw
 have hkt:=A.keyType ygW
 obtain ⟨m,hm⟩:=ygW
 have w0:=ymY x0
 have w1:=ymY x1
 have w2:=ymY x2
 have w3:=ymY x3
 have hk:keyBytes [.int .u8 (x0.toNat:Int),.int .u8 (x1.toNat:Int),.int .u8 (x2.toNat:Int),.int .u8 (x3.toNat:Int)]=[x0,x1,x2,x3]:=by
  simp only [keyBytes,List.flatMap_cons,List.flatMap_nil,ywE,List.append_nil,List.cons_append,List.nil_append]
 rw [← hk]
 unfold keyOf
 simp only [A.hu]
 rw [if_pos (by simp [hkt,Value.formed,A.hu,A.size]),hm]
 unfold Program.keyLits
 simp only [A.hu,Value.cells]
 rw [if_pos (by rw [A.size];rfl),show List.range 4=[0,1,2,3] from rfl,List.mapM_cons,List.mapM_cons,List.mapM_cons,List.mapM_cons,List.mapM_nil]
 simp [A.one,Program.keyLits,Tryz.underlying5,w0,w1,w2,w3]
theorem ylg (l:List UInt8) (i:Nat):keyOf Tryz.prog 79 (yqp l i)=some (.string (k4 l i)):=yoj _ _ _ _
def plI (l:List UInt8) (m:Nat) (x:List UInt8):List Int:=(pls l m x).map Int.ofNat
def itm {H:Type}:DataW H→List (DataW H)
 | .slice xs _=>xs
 | _=>[]
theorem ypd {H:Type} {w:World} {base:Nat} {e:TypeId} {v:Value} {zs:List Int} (h:w.ownsInts base e .i64 v zs):itm (rowDatum (H:=H) .i64 v zs)=lits .i64 zs:=by
 rcases h.datum (H:=H) with ⟨h1,rfl⟩|h1<;>rw [h1]<;>rfl
theorem ysY {H:Type} {a b:List Int} (h:(lits (H:=H) .i64 a)=lits .i64 b):a=b:=by
 unfold lits at h
 refine (List.map_inj_right fun x y hxy=>?_).1 h
 simpa using hxy
structure Gm (l:List UInt8) (m:Nat) (D:DataW Unit):Prop where
 map:IsMap D
 items:∀ x:List UInt8,itm (D.atKey (.string x) .nil)=lits .i64 (plI l m x)
theorem Gm.start (l:List UInt8):Gm l 0 (.map []):=⟨isMap_empty,fun _=>rfl⟩
theorem Gm.group {l:List UInt8} {m:Nat} {D:DataW Unit} (h:Gm l m D) {w:World} {base:Nat} {e:TypeId} {v:Value} {zs:List Int} {x:List UInt8} (ho:w.ownsInts base e .i64 v zs) (hat:D.atKey (.string x) .nil=rowDatum .i64 v zs):zs=plI l m x:=by
 have e:=h.items x
 rw [hat,ypd ho] at e
 exact ysY e
theorem Gm.put {l:List UInt8} {m:Nat} {D:DataW Unit} (h:Gm l m D) {w:World} {base:Nat} {e:TypeId} {v:Value} {zs:List Int} (hz:zs=plI l m (k4 l m)) (ho:w.ownsInts base e .i64 v (zs++[(m:Int)])):Gm l (m+1) (D.put (.string (k4 l m)) (rowDatum .i64 v (zs++[(m:Int)]))):=by
 subst hz
 have hk:WideAt.IsKeyLit (.string (k4 l m)):=by trivial
 refine ⟨h.map.put _ _,fun x=>?_⟩
 by_cases e:x=k4 l m
 ·subst e
  rw [atKey_put_same h.map hk,ypd ho,plI,plI,ylf,if_pos rfl,List.map_append];rfl
 ·rw [atKey_put_other (by simpa using e),h.items x,plI,plI,ylf,if_neg (fun h1=>e h1.symm)]
end
end Go.Proofs.YtgepehlpjpccaaaGreatDoor
