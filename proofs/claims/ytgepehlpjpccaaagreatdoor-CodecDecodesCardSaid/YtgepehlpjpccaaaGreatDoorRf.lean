/- Contracts. -/
import Derived.Test.YtgepehlpjpccaaaGreatDoorRe
set_option maxHeartbeats 3200000
set_option maxRecDepth 100000
namespace Go.Proofs.YtgepehlpjpccaaaGreatDoor
section
open Go.Lib Big
def jR (l:Lb):Nat:=(l.takeWhile yL).length
structure FacT where
 v:Rat
 ps:List Int
 e:Int
def ycH (ds:Lb):Int:=ds.foldl (fun (e:Int) c=>if e≤12 then e*10+((c.toNat:Int)-48) else e) 0
end
section
open Go.RowKit Go.Lib Big
def GD (w:World) (x:Value) (q:Rat) (K:Nat):Prop:=∃ s a b,vM w x s a b∧yX s a b=q∧0<b∧a<yB^K∧b<yB^K
theorem GD.below {w w':World} {x:Value} {q:Rat} {K:Nat} (h:GD w x q K) (hb:Be w w'):GD w' x q K:=by
 obtain ⟨s,a,b,h1,h2⟩:=h
 exact ⟨s,a,b,h1.below hb,h2⟩
theorem GD.more {w:World} {x:Value} {q:Rat} {K M:Nat} (h:GD w x q K) (hM:K≤M):GD w x q M:=by
 obtain ⟨s,a,b,h1,h2,h3,h4,h5⟩:=h
 have:=Nat.pow_le_pow_right yU hM
 exact ⟨s,a,b,h1,h2,h3,by omega,by omega⟩
theorem GD.agg {w:World} {x:Value} {q:Rat} {K:Nat} (h:GD w x q K):∃ b p n c r m d,x=.agg #[.bool b,.slice p n c,.slice r m d]:=by
 obtain ⟨s,a,b,⟨u,v,rfl,hu,hv,-⟩,-⟩:=h
 obtain ⟨p,n,c,rfl⟩:=hu.slice
 obtain ⟨r,m,d,rfl⟩:=hv.slice
 exact ⟨_,_,_,_,_,_,_,rfl⟩
theorem One.drew {B:Nat} {s:Bool} {u1 v1:Value} {w0 W:World} (h:One B s u1 v1 w0 W):One B s u1 v1 w0 W.drew:=⟨h.size,h.below.drew,h.x,h.z⟩
theorem One.all {B:Nat} {s:Bool} {u1 v1:Value} {w0 W:World} (h:One B s u1 v1 w0 W):One B s u1 v1 w0 W∧W.cell? ⟨B,0,none⟩=some (.bool s)∧W.cell? ⟨B,1,none⟩=some u1∧W.cell? ⟨B,2,none⟩=some v1:=⟨h,h.cells⟩
end
section
open Go.RowKit Go.Lib Big
structure ResU (B:Nat) (w0 W:World):Prop where
 size:B+1≤W.heap.size
 below:Be w0 W
 z:∃ z0 z1 z2 z3 z4 z5 z6 z7 z8:Value,W.heap[B]?=some (.cells #[z0,z1,z2,z3,z4,z5,z6,z7,z8] 158 (0,0))
section
variable {B : Nat} {w0 W W' : World}
theorem ResU.next (h:ResU B w0 W) (hb:Be W W'):ResU B w0 W':=by
 have hs:=h.size
 obtain ⟨z0,z1,z2,z3,z4,z5,z6,z7,z8,hz⟩:=h.z
 exact ⟨Nat.le_trans hs hb.size,tr h.below hb,z0,z1,z2,z3,z4,z5,z6,z7,z8,(hb.block _ (by omega)).trans hz⟩
theorem ResU.slots (h:ResU B w0 W):∃ z0 z1 z2 z3 z4 z5 z6 z7 z8:Value,(W.cell? ⟨B,0,none⟩=some z0∧W.cell? ⟨B,1,none⟩=some z1∧W.cell? ⟨B,2,none⟩=some z2∧W.cell? ⟨B,3,none⟩=some z3∧W.cell? ⟨B,4,none⟩=some z4∧W.cell? ⟨B,5,none⟩=some z5∧W.cell? ⟨B,6,none⟩=some z6∧W.cell? ⟨B,7,none⟩=some z7∧W.cell? ⟨B,8,none⟩=some z8)∧(W.frozen? ⟨B,0,none⟩=false∧W.frozen? ⟨B,1,none⟩=false∧W.frozen? ⟨B,2,none⟩=false∧W.frozen? ⟨B,3,none⟩=false∧W.frozen? ⟨B,4,none⟩=false∧W.frozen? ⟨B,5,none⟩=false∧W.frozen? ⟨B,6,none⟩=false∧W.frozen? ⟨B,7,none⟩=false∧W.frozen? ⟨B,8,none⟩=false):=by
 obtain ⟨z0,z1,z2,z3,z4,z5,z6,z7,z8,hz⟩:=h.z
 exact ⟨z0,z1,z2,z3,z4,z5,z6,z7,z8,⟨zW hz 0,zW hz 1,zW hz 2,zW hz 3,zW hz 4,zW hz 5,zW hz 6,zW hz 7,zW hz 8⟩,⟨GX hz 0,GX hz 1,GX hz 2,GX hz 3,GX hz 4,GX hz 5,GX hz 6,GX hz 7,GX hz 8⟩⟩
theorem ResU.start (w:World):ResU w.heap.size w (w.alloc (.cells #[.string ⟨#[]⟩,.string ⟨#[]⟩,.int .i64 0,.int .i64 0,.int .i64 0,.int .i64 0,.int .i64 0,.int .i64 0,.int .i64 0] 158)) :=
 ⟨by simp,bR.alloc nl _,_,_,_,_,_,_,_,_,_,zG _ _⟩
end
end
section
open Go.RowKit Go.Lib Big
abbrev Blk:=Nat × Array Value × TypeId
structure Keep (w0 W:World) (L:List Blk):Prop where
 below:Be w0 W
 all:∀ x ∈ L,W.heap[x.1]?=some (.cells x.2.1 x.2.2 (0,0))
section
variable {w0 W W' : World} {L : List Blk}
theorem Keep.next (h:Keep w0 W L) (hb:Be W W'):Keep w0 W' L :=
 ⟨tr h.below hb,fun x hx=>(hb.block _ (Array.getElem?_eq_some_iff.1 (h.all x hx)).1).trans (h.all x hx)⟩
theorem Keep.drew (h:Keep w0 W L):Keep w0 W.drew L:=⟨h.below.drew,h.all⟩
theorem Keep.one (h:Keep w0 W L) (x:Blk) (hx:x ∈ L):W.heap[x.1]?=some (.cells x.2.1 x.2.2 (0,0)):=h.all x hx
theorem Keep.nil (w:World):Keep w w []:=⟨Below.refl _ _,fun _ h=>by cases h⟩
theorem Keep.more (h:Keep w0 W L) (c:Array Value) (T:TypeId):Keep w0 (W.alloc (.cells c T)) ((W.heap.size,c,T)::L):=by
 have h2:=h.next (bea W (.cells c T))
 refine ⟨h2.below,fun x hx=>?_⟩
 rcases List.mem_cons.1 hx with rfl|hx
 ·exact zG W _
 ·exact h2.all x hx
theorem Keep.put {g:Nat} {c:Array Value} {T:TypeId} (h:Keep w0 W ((g,c,T)::L)) (hg:w0.heap.size≤g) (hne:∀ x ∈ L,x.1≠g) (k:Nat) (v:Value):Keep w0 (W.setCell ⟨g,k,none⟩ v) ((g,c.setIfInBounds k v,T)::L):=by
 refine ⟨h.below.setCell hg _,fun x hx=>?_⟩
 rcases List.mem_cons.1 hx with rfl|hx
 ·exact jU g k c T v (h.all _ (List.mem_cons_self ..))
 ·exact (Below.heap_setCell _ _ _ _ (hne x hx)).trans (h.all x (List.mem_cons_of_mem _ hx))
theorem Keep.lt (h:Keep w0 W L) {x:Blk} (hx:x ∈ L):x.1<W.heap.size:=(Array.getElem?_eq_some_iff.1 (h.all x hx)).1
end
theorem yhF (p:UInt8→Bool) (l:Lb) (k:Nat) (hk:k≤l.length) (ha:(l.take k).all p=true) (hs:k=l.length∨∃ h:k<l.length,p l[k]=false):(l.takeWhile p).length=k:=by
 induction l generalizing k with
 | nil=>simp at hk;simp [hk]
 | cons x l ih =>
  cases k with
  | zero =>
   rcases hs with hs|⟨h,hs⟩
   ·simp at hs
   ·have:p x=false:=hs
    simp [this]
  | succ k =>
   rw [List.take_succ_cons,List.all_cons,Bool.and_eq_true] at ha
   rw [List.takeWhile_cons,if_pos ha.1,List.length_cons,ih k (by simpa using hk) ha.2]
   rcases hs with hs|⟨h,hs⟩
   ·exact .inl (by simpa using hs)
   ·exact .inr ⟨by simpa using h,by simpa using hs⟩
theorem ygp (p:UInt8→Bool) (l:Lb) (k:Nat) (h:k<l.length) (ha:(l.take k).all p=true) (hd:p l[k]=true):(l.take (k+1)).all p=true:=by
 rw [List.take_succ_eq_append_getElem h,List.all_append,ha];simp [hd]
end
section
open Go.RowKit Go.Lib Big
structure ResT (T:TypeId) (B:Nat) (w0 W:World):Prop where
 size:B+1≤W.heap.size
 below:Be w0 W
 z:∃ z0 z1 z2 z3 z4 z5 z6 z7 z8:Value,W.heap[B]?=some (.cells #[z0,z1,z2,z3,z4,z5,z6,z7,z8] T (0,0))
section
variable {T : TypeId} {B : Nat} {w0 W W' : World}
theorem ResT.next (h:ResT T B w0 W) (hb:Be W W'):ResT T B w0 W':=by
 have hs:=h.size
 obtain ⟨z0,z1,z2,z3,z4,z5,z6,z7,z8,hz⟩:=h.z
 exact ⟨Nat.le_trans hs hb.size,tr h.below hb,z0,z1,z2,z3,z4,z5,z6,z7,z8,(hb.block _ (by omega)).trans hz⟩
theorem ResT.slots (h:ResT T B w0 W):∃ z0 z1 z2 z3 z4 z5 z6 z7 z8:Value,(W.cell? ⟨B,0,none⟩=some z0∧W.cell? ⟨B,1,none⟩=some z1∧W.cell? ⟨B,2,none⟩=some z2∧W.cell? ⟨B,3,none⟩=some z3∧W.cell? ⟨B,4,none⟩=some z4∧W.cell? ⟨B,5,none⟩=some z5∧W.cell? ⟨B,6,none⟩=some z6∧W.cell? ⟨B,7,none⟩=some z7∧W.cell? ⟨B,8,none⟩=some z8)∧(W.frozen? ⟨B,0,none⟩=false∧W.frozen? ⟨B,1,none⟩=false∧W.frozen? ⟨B,2,none⟩=false∧W.frozen? ⟨B,3,none⟩=false∧W.frozen? ⟨B,4,none⟩=false∧W.frozen? ⟨B,5,none⟩=false∧W.frozen? ⟨B,6,none⟩=false∧W.frozen? ⟨B,7,none⟩=false∧W.frozen? ⟨B,8,none⟩=false):=by
 obtain ⟨z0,z1,z2,z3,z4,z5,z6,z7,z8,hz⟩:=h.z
 exact ⟨z0,z1,z2,z3,z4,z5,z6,z7,z8,⟨zW hz 0,zW hz 1,zW hz 2,zW hz 3,zW hz 4,zW hz 5,zW hz 6,zW hz 7,zW hz 8⟩,⟨GX hz 0,GX hz 1,GX hz 2,GX hz 3,GX hz 4,GX hz 5,GX hz 6,GX hz 7,GX hz 8⟩⟩
end
theorem ResT.start (T:TypeId) (w:World) (a0 a1 a2 a3 a4 a5 a6 a7 a8:Value):ResT T w.heap.size w (w.alloc (.cells #[a0,a1,a2,a3,a4,a5,a6,a7,a8] T)) :=
 ⟨by simp,bR.alloc nl _,_,_,_,_,_,_,_,_,_,zG _ _⟩
def NoU (v:Value):Prop:=∀ n,v≠.int .u64 n
theorem nub (b:Bool):NoU (.bool b):=fun _ h=>by cases h
theorem nus (p:Oa) (n c:Nat):NoU (.slice p n c):=fun _ h=>by cases h
theorem nui (n:Int):NoU (.int .i64 n):=fun _ h=>by cases h
structure ResF (B:Nat) (w0 W:World):Prop where
 below:Be w0 W
 z:∃ z0 z1 z2 z3 z4 z5 z6 z7 z8 z9 z10:Value,W.heap[B]?=some (.cells #[z0,z1,z2,z3,z4,z5,z6,z7,z8,z9,z10] 246 (0,0))∧NoU z0∧NoU z1∧NoU z2∧NoU z3∧NoU z4∧NoU z5∧NoU z6∧NoU z7∧NoU z8∧NoU z9∧NoU z10
section
variable {B : Nat} {w0 W W' : World}
theorem ResF.lt (h:ResF B w0 W):B<W.heap.size:=by
 obtain ⟨z0,z1,z2,z3,z4,z5,z6,z7,z8,z9,z10,hz,-⟩:=h.z
 exact (Array.getElem?_eq_some_iff.1 hz).1
theorem ResF.next (h:ResF B w0 W) (hb:Be W W'):ResF B w0 W':=by
 obtain ⟨z0,z1,z2,z3,z4,z5,z6,z7,z8,z9,z10,hz,hn⟩:=h.z
 exact ⟨tr h.below hb,z0,z1,z2,z3,z4,z5,z6,z7,z8,z9,z10,(hb.block _ h.lt).trans hz,hn⟩
theorem ResF.drew (h:ResF B w0 W):ResF B w0 W.drew:=⟨h.below.drew,h.z⟩
theorem ResF.slots (h:ResF B w0 W):∃ z0 z1 z2 z3 z4 z5 z6 z7 z8 z9 z10:Value,(W.cell? ⟨B,0,none⟩=some z0∧W.cell? ⟨B,1,none⟩=some z1∧W.cell? ⟨B,2,none⟩=some z2∧W.cell? ⟨B,3,none⟩=some z3∧W.cell? ⟨B,4,none⟩=some z4∧W.cell? ⟨B,5,none⟩=some z5∧W.cell? ⟨B,6,none⟩=some z6∧W.cell? ⟨B,7,none⟩=some z7∧W.cell? ⟨B,8,none⟩=some z8∧W.cell? ⟨B,9,none⟩=some z9∧W.cell? ⟨B,10,none⟩=some z10)∧(W.frozen? ⟨B,0,none⟩=false∧W.frozen? ⟨B,1,none⟩=false∧W.frozen? ⟨B,2,none⟩=false∧W.frozen? ⟨B,3,none⟩=false∧W.frozen? ⟨B,4,none⟩=false∧W.frozen? ⟨B,5,none⟩=false∧W.frozen? ⟨B,6,none⟩=false∧W.frozen? ⟨B,7,none⟩=false∧W.frozen? ⟨B,8,none⟩=false∧W.frozen? ⟨B,9,none⟩=false∧W.frozen? ⟨B,10,none⟩=false):=by
 obtain ⟨z0,z1,z2,z3,z4,z5,z6,z7,z8,z9,z10,hz,-⟩:=h.z
 exact ⟨z0,z1,z2,z3,z4,z5,z6,z7,z8,z9,z10,⟨zW hz 0,zW hz 1,zW hz 2,zW hz 3,zW hz 4,zW hz 5,zW hz 6,zW hz 7,zW hz 8,zW hz 9,zW hz 10⟩,⟨GX hz 0,GX hz 1,GX hz 2,GX hz 3,GX hz 4,GX hz 5,GX hz 6,GX hz 7,GX hz 8,GX hz 9,GX hz 10⟩⟩
theorem ResF.put (h:ResF B w0 W) (hB:w0.heap.size≤B) (a0 a1 a2 a3 a4 a5 a6 a7 a8 a9 a10:Value) (hn:NoU a0∧NoU a1∧NoU a2∧NoU a3∧NoU a4∧NoU a5∧NoU a6∧NoU a7∧NoU a8∧NoU a9∧NoU a10):ResF B w0 ((((((((((((W).setCell ⟨B,0,none⟩ a0).setCell ⟨B,1,none⟩ a1).setCell ⟨B,2,none⟩ a2).setCell ⟨B,3,none⟩ a3).setCell ⟨B,4,none⟩ a4).setCell ⟨B,5,none⟩ a5).setCell ⟨B,6,none⟩ a6).setCell ⟨B,7,none⟩ a7).setCell ⟨B,8,none⟩ a8).setCell ⟨B,9,none⟩ a9).setCell ⟨B,10,none⟩ a10)∧((((((((((((W).setCell ⟨B,0,none⟩ a0).setCell ⟨B,1,none⟩ a1).setCell ⟨B,2,none⟩ a2).setCell ⟨B,3,none⟩ a3).setCell ⟨B,4,none⟩ a4).setCell ⟨B,5,none⟩ a5).setCell ⟨B,6,none⟩ a6).setCell ⟨B,7,none⟩ a7).setCell ⟨B,8,none⟩ a8).setCell ⟨B,9,none⟩ a9).setCell ⟨B,10,none⟩ a10).heap[B]?=some (.cells #[a0,a1,a2,a3,a4,a5,a6,a7,a8,a9,a10] 246 (0,0)):=by
 obtain ⟨z0,z1,z2,z3,z4,z5,z6,z7,z8,z9,z10,hz,-⟩:=h.z
 have hh:((((((((((((W).setCell ⟨B,0,none⟩ a0).setCell ⟨B,1,none⟩ a1).setCell ⟨B,2,none⟩ a2).setCell ⟨B,3,none⟩ a3).setCell ⟨B,4,none⟩ a4).setCell ⟨B,5,none⟩ a5).setCell ⟨B,6,none⟩ a6).setCell ⟨B,7,none⟩ a7).setCell ⟨B,8,none⟩ a8).setCell ⟨B,9,none⟩ a9).setCell ⟨B,10,none⟩ a10).heap[B]?=some (.cells #[a0,a1,a2,a3,a4,a5,a6,a7,a8,a9,a10] 246 (0,0)):=by
  have h0:((W).setCell ⟨B,0,none⟩ a0).heap[B]?=some (.cells #[a0,z1,z2,z3,z4,z5,z6,z7,z8,z9,z10] 246 (0,0)):=jU B 0 _ 246 a0 hz
  have h1:(((W).setCell ⟨B,0,none⟩ a0).setCell ⟨B,1,none⟩ a1).heap[B]?=some (.cells #[a0,a1,z2,z3,z4,z5,z6,z7,z8,z9,z10] 246 (0,0)):=jU B 1 _ 246 a1 h0
  have h2:((((W).setCell ⟨B,0,none⟩ a0).setCell ⟨B,1,none⟩ a1).setCell ⟨B,2,none⟩ a2).heap[B]?=some (.cells #[a0,a1,a2,z3,z4,z5,z6,z7,z8,z9,z10] 246 (0,0)):=jU B 2 _ 246 a2 h1
  have h3:(((((W).setCell ⟨B,0,none⟩ a0).setCell ⟨B,1,none⟩ a1).setCell ⟨B,2,none⟩ a2).setCell ⟨B,3,none⟩ a3).heap[B]?=some (.cells #[a0,a1,a2,a3,z4,z5,z6,z7,z8,z9,z10] 246 (0,0)):=jU B 3 _ 246 a3 h2
  have h4:((((((W).setCell ⟨B,0,none⟩ a0).setCell ⟨B,1,none⟩ a1).setCell ⟨B,2,none⟩ a2).setCell ⟨B,3,none⟩ a3).setCell ⟨B,4,none⟩ a4).heap[B]?=some (.cells #[a0,a1,a2,a3,a4,z5,z6,z7,z8,z9,z10] 246 (0,0)):=jU B 4 _ 246 a4 h3
  have h5:(((((((W).setCell ⟨B,0,none⟩ a0).setCell ⟨B,1,none⟩ a1).setCell ⟨B,2,none⟩ a2).setCell ⟨B,3,none⟩ a3).setCell ⟨B,4,none⟩ a4).setCell ⟨B,5,none⟩ a5).heap[B]?=some (.cells #[a0,a1,a2,a3,a4,a5,z6,z7,z8,z9,z10] 246 (0,0)):=jU B 5 _ 246 a5 h4
  have h6:((((((((W).setCell ⟨B,0,none⟩ a0).setCell ⟨B,1,none⟩ a1).setCell ⟨B,2,none⟩ a2).setCell ⟨B,3,none⟩ a3).setCell ⟨B,4,none⟩ a4).setCell ⟨B,5,none⟩ a5).setCell ⟨B,6,none⟩ a6).heap[B]?=some (.cells #[a0,a1,a2,a3,a4,a5,a6,z7,z8,z9,z10] 246 (0,0)):=jU B 6 _ 246 a6 h5
  have h7:(((((((((W).setCell ⟨B,0,none⟩ a0).setCell ⟨B,1,none⟩ a1).setCell ⟨B,2,none⟩ a2).setCell ⟨B,3,none⟩ a3).setCell ⟨B,4,none⟩ a4).setCell ⟨B,5,none⟩ a5).setCell ⟨B,6,none⟩ a6).setCell ⟨B,7,none⟩ a7).heap[B]?=some (.cells #[a0,a1,a2,a3,a4,a5,a6,a7,z8,z9,z10] 246 (0,0)):=jU B 7 _ 246 a7 h6
  have h8:((((((((((W).setCell ⟨B,0,none⟩ a0).setCell ⟨B,1,none⟩ a1).setCell ⟨B,2,none⟩ a2).setCell ⟨B,3,none⟩ a3).setCell ⟨B,4,none⟩ a4).setCell ⟨B,5,none⟩ a5).setCell ⟨B,6,none⟩ a6).setCell ⟨B,7,none⟩ a7).setCell ⟨B,8,none⟩ a8).heap[B]?=some (.cells #[a0,a1,a2,a3,a4,a5,a6,a7,a8,z9,z10] 246 (0,0)):=jU B 8 _ 246 a8 h7
  have h9:(((((((((((W).setCell ⟨B,0,none⟩ a0).setCell ⟨B,1,none⟩ a1).setCell ⟨B,2,none⟩ a2).setCell ⟨B,3,none⟩ a3).setCell ⟨B,4,none⟩ a4).setCell ⟨B,5,none⟩ a5).setCell ⟨B,6,none⟩ a6).setCell ⟨B,7,none⟩ a7).setCell ⟨B,8,none⟩ a8).setCell ⟨B,9,none⟩ a9).heap[B]?=some (.cells #[a0,a1,a2,a3,a4,a5,a6,a7,a8,a9,z10] 246 (0,0)):=jU B 9 _ 246 a9 h8
  have h10:((((((((((((W).setCell ⟨B,0,none⟩ a0).setCell ⟨B,1,none⟩ a1).setCell ⟨B,2,none⟩ a2).setCell ⟨B,3,none⟩ a3).setCell ⟨B,4,none⟩ a4).setCell ⟨B,5,none⟩ a5).setCell ⟨B,6,none⟩ a6).setCell ⟨B,7,none⟩ a7).setCell ⟨B,8,none⟩ a8).setCell ⟨B,9,none⟩ a9).setCell ⟨B,10,none⟩ a10).heap[B]?=some (.cells #[a0,a1,a2,a3,a4,a5,a6,a7,a8,a9,a10] 246 (0,0)):=jU B 10 _ 246 a10 h9
  exact h10
 exact ⟨⟨(((((((((((h.below).setCell hB _).setCell hB _).setCell hB _).setCell hB _).setCell hB _).setCell hB _).setCell hB _).setCell hB _).setCell hB _).setCell hB _).setCell hB _,a0,a1,a2,a3,a4,a5,a6,a7,a8,a9,a10,hh,hn⟩,hh⟩
theorem ResF.start (w:World):ResF w.heap.size w (w.alloc (.cells #[.bool false,.slice none 0 0,.slice none 0 0,.int .i64 0,.int .i64 0,.int .i64 0,.int .i64 0,.int .i64 0,.int .i64 0,.int .i64 0,.int .i64 0] 246)) :=
 ⟨bea _ _,_,_,_,_,_,_,_,_,_,_,_,zG _ _,nub _,nus _ _ _,nus _ _ _,nui _,nui _,nui _,nui _,nui _,nui _,nui _,nui _⟩
end
def ypS (w:World) (x:Value) (f:FacT) (K:Nat):Prop:=∃ b p n c q m d p0 p1 p2 p3 p4 p5 p6,x=.agg #[.bool b,.slice p n c,.slice q m d,.int .i64 p0,.int .i64 p1,.int .i64 p2,.int .i64 p3,.int .i64 p4,.int .i64 p5,.int .i64 p6,.int .i64 f.e]∧GD w (.agg #[.bool b,.slice p n c,.slice q m d]) f.v K∧[p0,p1,p2,p3,p4,p5,p6]=f.ps
theorem ypS.below {w w':World} {x:Value} {f:FacT} {K:Nat} (h:ypS w x f K) (hb:Be w w'):ypS w' x f K:=by
 obtain ⟨b,p,n,c,q,m,d,p0,p1,p2,p3,p4,p5,p6,h1,h2,h3⟩:=h
 exact ⟨b,p,n,c,q,m,d,p0,p1,p2,p3,p4,p5,p6,h1,h2.below hb,h3⟩
end
section
open Go.RowKit Go.Lib Big
theorem yhm (l:Lb) (c:UInt8):ycH (l++[c])=if ycH l≤12 then ycH l*10+((c.toNat:Int)-48) else ycH l:=by
 unfold ycH;rw [List.foldl_append];rfl
theorem yvf (l:Lb) (h:l.all yL=true):0≤ycH l∧ycH l≤129:=by
 suffices ∀ (n:Nat) (l:Lb),l.length=n→l.all yL=true→0≤ycH l∧ycH l≤129 from this l.length l rfl h
 intro n
 induction n with
 | zero=>intro l hl _;rw [List.eq_nil_of_length_eq_zero hl];exact ⟨by decide,by decide⟩
 | succ n ih =>
  intro l hl hd
  obtain ⟨m,c,rfl⟩:∃ m c,l=m++[c]:=⟨l.dropLast,l.getLast (by intro h;rw [h] at hl;simp at hl),(List.dropLast_concat_getLast _).symm⟩
  rw [List.all_append,Bool.and_eq_true] at hd
  obtain ⟨h1,h2⟩:=ih m (by simpa using hl) hd.1
  have hc:yL c=true:=by simpa using hd.2
  unfold yL at hc
  simp at hc
  rw [yhm]
  split<;>omega
theorem ynt (p:UInt8→Bool) (l:Lb) (j:Nat) (hj:j≤(l.takeWhile p).length):(l.take j).all p=true:=by
 induction l generalizing j with
 | nil=>simp
 | cons x l ih =>
  cases j with
  | zero=>simp
  | succ j =>
   rw [List.takeWhile_cons] at hj
   by_cases hx:p x=true
   ·rw [if_pos hx,List.length_cons] at hj
    rw [List.take_succ_cons,List.all_cons,hx,ih j (by omega)];rfl
   ·rw [if_neg hx] at hj;simp at hj
structure ExpoAt (s:ByteArray) (st D:Nat):Prop where
 size:st+D≤s.size
 cnt:jR (s.data.toList.drop st)=D
theorem ExpoAt.step {s:ByteArray} {st D k:Nat} (h:ExpoAt s st D) (h1:st≤k) (h2:k<st+D):48≤(s[k]'(by have:=h.size;omega)).toNat∧(s[k]'(by have:=h.size;omega)).toNat≤57 ∧
  ycH ((s.data.toList.drop st).take (k+1-st))=if ycH ((s.data.toList.drop st).take (k-st))≤12 then ycH ((s.data.toList.drop st).take (k-st))*10+(((s[k]'(by have:=h.size;omega)).toNat:Int)-48) else ycH ((s.data.toList.drop st).take (k-st)):=by
 have hs:=h.size
 have hk:k-st<(s.data.toList.drop st).length:=by simp;omega
 have hc:=h.cnt
 have GR:=ynt yL (s.data.toList.drop st) (k-st+1) (by unfold jR at hc;omega)
 rw [List.take_succ_eq_append_getElem hk,List.all_append,Bool.and_eq_true] at GR
 have hd:yL ((s.data.toList.drop st)[k-st])=true:=by simpa using GR.2
 have he:(s.data.toList.drop st)[k-st]=s[k]'(by omega):=by
  rw [List.getElem_drop]
  have:st+(k-st)=k:=by omega
  simp only [this]
  rfl
 rw [he] at hd
 unfold yL at hd
 simp at hd
 refine ⟨hd.1,hd.2,?_⟩
 rw [show k+1-st=k-st+1 from by omega,List.take_succ_eq_append_getElem hk,yhm,he]
theorem ExpoAt.bd {s:ByteArray} {st D k:Nat} (h:ExpoAt s st D) (h2:k≤st+D):0≤ycH ((s.data.toList.drop st).take (k-st))∧ycH ((s.data.toList.drop st).take (k-st))≤129:=by
 apply yvf
 have hc:=h.cnt
 exact ynt yL _ _ (by unfold jR at hc;omega)
end
section
open Go.RowKit Go.Lib Big
def yfc (w:World) (base:Nat) (e:TypeId) (size:Nat) (v:Value) (n:Nat) (xs:List Value):Prop :=
 w.ownsRow base e size v n xs∧∀ g k cap,v=.slice (some ⟨g,0,none⟩) k cap→∀ cur t f,w.heap[g]?=some (.cells cur t f)→∀ u ∈ cur.toList,NoU u
theorem yfc.nil (w:World) (base:Nat) (e:TypeId) (size:Nat):yfc w base e size (.slice none 0 0) 0 [] :=
 ⟨World.ownsRow_nil w base e size,fun g k cap h=>by cases h⟩
section
variable {P : Program}
end
def yjd (W:World) (cs:List Value) (f:FacT):Prop:=∃ b p n c q m d p0 p1 p2 p3 p4 p5 p6,cs=[.bool b,.slice p n c,.slice q m d,.int .i64 p0,.int .i64 p1,.int .i64 p2,.int .i64 p3,.int .i64 p4,.int .i64 p5,.int .i64 p6,.int .i64 f.e]∧GD W (.agg #[.bool b,.slice p n c,.slice q m d]) f.v 40∧[p0,p1,p2,p3,p4,p5,p6]=f.ps
structure FacsIn (W:World) (base:Nat) (v:Value) (css:List (List Value)) (fs:List FacT):Prop where
 row:yfc W base 246 11 v fs.length css.flatten
 len:css.length=fs.length
 each:∀ j (h:j<css.length) (h':j<fs.length),yjd W css[j] fs[j]
theorem yfc.below {W W':World} {base:Nat} {e:TypeId} {size:Nat} {v:Value} {n:Nat} {xs:List Value} (h:yfc W base e size v n xs) (hb:Be W W'):yfc W' base e size v n xs:=by
 obtain ⟨⟨h1,h2⟩,h3⟩:=h
 rcases h2 with h2|⟨g,cap,cur,rfl,hbg,hg,hr⟩
 ·refine ⟨⟨h1,.inl h2⟩,?_⟩
  intro g k cap hv
  rw [h2.1] at hv;cases hv
 ·have hlt:=(Array.getElem?_eq_some_iff.1 hg).1
  have hg':=(hb.block g hlt).trans hg
  refine ⟨⟨h1,.inr ⟨g,cap,cur,rfl,hbg,hg',hr⟩⟩,?_⟩
  intro g' k cap' hv cur' t f hh u hu
  cases hv
  rw [hg'] at hh;cases hh
  exact h3 _ _ _ rfl _ _ _ hg u hu
theorem yhn {W W':World} {base:Nat} {e:TypeId} {size:Nat} {v:Value} {n:Nat} {xs:List Value} (h:yfc W base e size v n xs) (hg:W.grownBy W' v.ownBlock) {x:Value} {k:Nat} (hx:yI W x k):yI W' x k:=by
 obtain ⟨p,m,c',l,h1,h2,hr,h4⟩:=hx
 refine ⟨p,m,c',l,h1,h2,⟨hr.len,?_⟩,h4⟩
 rcases hr.cell with h0|⟨b,off,hp,hlt,hcl⟩
 ·exact .inl h0
 ·by_cases hm:m=0
  ·exact .inl hm
  refine .inr ⟨b,off,hp,Nat.lt_of_lt_of_le hlt hg.size,fun j hj=>?_⟩
  have hne:some b≠v.ownBlock:=by
   intro hb
   obtain ⟨⟨-,h5⟩,h6⟩:=h
   rcases h5 with ⟨rfl,-⟩|⟨g,cap,cur,rfl,-,hgg,-⟩
   ·cases hb
   ·simp only [Value.ownBlock,Option.some.injEq] at hb
    subst hb
    have h7:=hcl 0 (by omega)
    rw [zW hgg] at h7
    have:Value.int .u64 ((l.getD 0 0:Nat):Int) ∈ cur.toList:=by
     obtain ⟨hi,he⟩:=Array.getElem?_eq_some_iff.1 h7
     rw [← he];simp
    exact h6 _ _ _ rfl _ _ _ hgg _ this _ rfl
  rw [← hcl j hj]
  exact World.cell?_of_block (w:=W) (hg.block b hlt hne)
theorem yoz {W W':World} {base:Nat} {e:TypeId} {size:Nat} {v:Value} {n:Nat} {xs:List Value} (h:yfc W base e size v n xs) (hg:W.grownBy W' v.ownBlock) {x:Value} {q:Rat} {K:Nat} (hx:GD W x q K):GD W' x q K:=by
 obtain ⟨s,m,n,⟨u,v,rfl,hu,hv,hs⟩,hr⟩:=hx
 exact ⟨s,m,n,⟨u,v,rfl,yhn h hg hu,yhn h hg hv,hs⟩,hr⟩
theorem yjd.below {W W':World} {cs:List Value} {f:FacT} (h:yjd W cs f) (hb:Be W W'):yjd W' cs f:=by
 obtain ⟨b,p,n,c,q,m,d,p0,p1,p2,p3,p4,p5,p6,h1,h2,h3⟩:=h
 exact ⟨b,p,n,c,q,m,d,p0,p1,p2,p3,p4,p5,p6,h1,h2.below hb,h3⟩
theorem FacsIn.below {W W':World} {base:Nat} {v:Value} {css:List (List Value)} {fs:List FacT} (h:FacsIn W base v css fs) (hb:Be W W'):FacsIn W' base v css fs :=
 ⟨h.row.below hb,h.len,fun j h1 h2=>(h.each j h1 h2).below hb⟩
theorem FacsIn.nil (W:World) (base:Nat):FacsIn W base (.slice none 0 0) [] []:=⟨yfc.nil W base 246 11,rfl,fun j h=>by simp at h⟩
theorem FacsIn.more {W W':World} {base:Nat} {v v':Value} {css:List (List Value)} {fs:List FacT} {cs:List Value} {f:FacT} (h:FacsIn W base v css fs) (hc:yjd W cs f) (hr:yfc W' base 246 11 v' (fs.length+1) (css.flatten++cs)) (hg:W.grownBy W' v.ownBlock):FacsIn W' base v' (css++[cs]) (fs++[f]):=by
 have keep:∀ {cs f},yjd W cs f→yjd W' cs f:=by
  rintro cs f ⟨b,p,n,c,q,m,d,p0,p1,p2,p3,p4,p5,p6,h1,h2,h3⟩
  exact ⟨b,p,n,c,q,m,d,p0,p1,p2,p3,p4,p5,p6,h1,yoz h.row hg h2,h3⟩
 refine ⟨?_,by simp [h.len],?_⟩
 ·rw [List.flatten_append,List.length_append]
  simpa using hr
 ·intro j h1 h2
  by_cases hj:j<css.length
  ·have hj':j<fs.length:=by rw [← h.len];exact hj
   rw [List.getElem_append_left hj,List.getElem_append_left hj']
   exact keep (h.each j hj hj')
  ·have e1:j=css.length:=by simp at h1;omega
   subst e1
   have:(fs++[f])[css.length]=f:=by simp [h.len]
   rw [this]
   simp only [List.getElem_concat_length]
   exact keep hc
end
section
open Go.RowKit Big
open Go.Lib
theorem yh7 (s:ByteArray) (w:World) (hs:(s.size:Int)≤1000000):Calls Tryz.prog 123 #[.string s,.int .i64 0] w (Qp (.int .i64 (jR s.data.toList)) w):=by
 go_in
 go_wp2
 go_loop [5] (fun i=>∃ k:Nat,k≤s.size∧i=.int .i64 k∧Hid ((s.data.toList.take k).all yL=true)) (fun i=>s.size-(intOf i).toNat)
 case atStart=>exact ⟨0,Nat.zero_le _,rfl,yA (by simp)⟩
 case round =>
  obtain ⟨k,hk,rfl,GR⟩:=hrel
  by_cases hlt:k<s.size
  ·have hkl:k<s.data.toList.length:=by simpa using hlt
   have hb:Hid (∀ d,yL s[k]=d→yL s.data.toList[k]=d):=yA (fun d h=>h)
   rcases (show (s[k].toNat:Int)<48∨(57:Int)<s[k].toNat∨((48:Int)≤s[k].toNat∧(s[k].toNat:Int)≤57) from by omega) with h0|h1|⟨h2a,h2b⟩
   ·have hf:Hid (jR s.data.toList=k):=yA (yhF _ _ k (by omega) GR.out (.inr ⟨hkl,hb.out _ (by simp [yL];omega)⟩))
    go_wp2
    go_ret
    exact ⟨by rw [hf.out];rfl,rfl⟩
   ·have hf:Hid (jR s.data.toList=k):=yA (yhF _ _ k (by omega) GR.out (.inr ⟨hkl,hb.out _ (by simp [yL];omega)⟩))
    go_wp2
    go_ret
    exact ⟨by rw [hf.out];rfl,rfl⟩
   ·have hn:Hid ((s.data.toList.take (k+1)).all yL=true):=yA (ygp _ _ k hkl GR.out (hb.out _ (by simp [yL];omega)))
    go_wp2
    go_round
    case rel=>exact ⟨k+1,by omega,by go_num,hn⟩
    case measure=>simp [intOf];omega
  ·have hf:Hid (jR s.data.toList=k):=yA (yhF _ _ k (by simpa using hk) GR.out (.inl (by simp;omega)))
   obtain rfl:k=s.size:=by omega
   go_wp2
   go_ret
   exact ⟨by rw [hf.out];rfl,rfl⟩
structure ReadInv (l:Lb) (e:Nat) (z:Int) (L:List Nat):Prop where
 le:e≤l.length
 at_:(z=e∧9*L.length+e=l.length)∨(z<0∧e=0)
 dig:yO B9 L
 eq:yC B9 L=zC (l.drop e)
 len:L.length≤l.length
theorem yoA (l:Lb) (st i:Nat) (h1:st≤i) (h2:i<l.length):zC ((l.drop st).take (i+1-st))=10*zC ((l.drop st).take (i-st))+(l[i].toNat-48):=by
 have hlt:i-st<(l.drop st).length:=by rw [List.length_drop];omega
 rw [show i+1-st=(i-st)+1 from by omega,List.take_succ_eq_append_getElem hlt,uK]
 have e:(l.drop st)[i-st]=l[i]:=by rw [List.getElem_drop];congr 1;omega
 rw [e]
 show zC _*10^1+(0*10+(l[i].toNat-48))=_
 omega
theorem yjX (l:Lb) (st i:Nat) (ha:l.all yL=true):zC ((l.drop st).take (i-st))<10^(i-st):=by
 have h1:((l.drop st).take (i-st)).all yL=true:=by
  rw [List.all_eq_true] at ha ⊢
  exact fun x hx=>ha x (List.mem_of_mem_drop (List.mem_of_mem_take hx))
 have h2:=ycf _ h1
 have h3:10^((l.drop st).take (i-st)).length≤10^(i-st):=Nat.pow_le_pow_right (by omega) (by rw [List.length_take];omega)
 omega
theorem ReadInv.next {l:Lb} {e st:Nat} {z:Int} {L:List Nat} (h:ReadInv l e z L) (ha:l.all yL=true) (he:0<e) (hst:st=e-9) :
  ReadInv l st (z-9) (L++[zC ((l.drop st).take (e-st))]):=by
 have hle:=h.le
 have hat:z=e∧9*L.length+e=l.length:=h.at_.resolve_right fun h=>by omega
 have hc:=yjX l st e ha
 have h9:(10:Nat)^(e-st)≤10^9:=Nat.pow_le_pow_right (by omega) (by omega)
 have e9:=zE
 refine ⟨by omega,?_,h.dig.append (yO.one (by omega)),?_,by rw [List.length_append];simp;omega⟩
 ·by_cases h10:9≤e
  ·exact .inl ⟨by omega,by rw [List.length_append];simp;omega⟩
  ·exact .inr ⟨by omega,by omega⟩
 ·have e1:l.drop st=(l.drop st).take (e-st)++l.drop e:=by
   conv=>lhs;rw [← List.take_append_drop (e-st) (l.drop st)]
   rw [List.drop_drop,show st+(e-st)=e from by omega]
  rw [jJ,h.eq]
  conv=>rhs;rw [e1]
  rw [uK,List.length_drop,GW,show 9*L.length=l.length-e from by omega,Nat.mul_comm,Nat.add_comm]
theorem ybF (s:ByteArray) (w:World) (hs:(s.size:Int)≤1000000) (ha:s.data.toList.all yL=true):Calls Tryz.prog 124 #[.string s] w (zJ (zC s.data.toList) w):=by
 obtain ⟨i0,hi,hz0,hz1,hz2⟩:=info_parts vP
 have Ha:=yA ha
 clear ha
 obtain ⟨l,hl⟩:∃ l,Hid (l=s.data.toList):=⟨_,yA rfl⟩
 have hll:Hid (l.length=s.size):=yA (by rw [hl.out];simp)
 have hst:Hid (ReadInv l s.size s.size []):=yA ⟨by rw [hll.out];exact Nat.le_refl _,.inl ⟨rfl,by rw [hll.out];simp⟩,yO.nil _,by rw [List.drop_eq_nil_of_le (by rw [hll.out];exact Nat.le_refl _)];rfl,by simp⟩
 have Ha2:Hid (l.all yL=true):=yA (by rw [hl.out];exact Ha.out)
 go_in
 go_wp2
 go_loopw [3,4] (fun ov zv wr=>∃ (e:Nat) (z:Int) (L:List Nat) (po:Oa) (no co:Nat),zv=.int .i64 z∧ov=.slice po no co∧-9≤z∧z≤1000000∧Hid (ReadInv l e z L)∧Hid (Acc w wr ov L)) (fun _ zv _=>(intOf zv).toNat)
 case atStart=>exact ⟨s.size,s.size,[],_,_,_,rfl,rfl,by omega,by omega,hst,yA (Acc.nil _ _ bR)⟩
 case round =>
  obtain ⟨e,z,L,po,no,co,rfl,rfl,hz1',hz2',yJ,jO⟩:=hrel
  by_cases h0:0<z
  ·have hat:=yJ.out.at_.resolve_right fun h=>by omega
   obtain ⟨rfl,h9⟩:=hat
   have H9:=yA h9
   clear h9
   obtain ⟨st,ysE⟩:∃ st,Hid (st=e-9):=⟨_,yA rfl⟩
   have hstv:max ((e:Int)-9) 0=(st:Int):=by rw [ysE.out];omega
   have hste:st≤e:=by rw [ysE.out];omega
   have hes:Hid (e≤s.size):=yA (by have:=yJ.out.le;rw [hll.out] at this;exact this)
   (go_wp2_with fail)<;>(
    go_loopw [5,6] (fun dv iv w2=>∃ (i:Nat),st≤i∧i≤e∧iv=.int .i64 i∧dv=.int .u64 ((zC ((l.drop st).take (i-st)):Nat):Int)∧wr=w2) (fun _ iv _=>e-(intOf iv).toNat)
    case atStart=>exact ⟨st,Nat.le_refl _,hste,by first|rfl|(rw [hstv])|(congr 1;omega),by simp [zC],rfl⟩
    case round =>
     obtain ⟨i,hi1,hi2,rfl,rfl,rfl⟩:=hrel
     obtain ⟨D,hD⟩:∃ D,Hid (zC ((l.drop st).take (i-st))=D):=⟨_,yA rfl⟩
     rw [hD.out]
     by_cases hlt:i<e
     ·have e1:(i:Int)<e:=by omega
      have hlt2:i<s.size:=by have:=hes.out;omega
      have hil:i<l.length:=by rw [hll.out];exact hlt2
      have hdg:yL l[i]=true:=List.all_eq_true.1 Ha2.out _ (List.getElem_mem hil)
      have hgl:Hid (l[i]=s[i]):=yA (by have h:=hl.out;subst h;rfl)
      rw [hgl.out] at hdg
      have hdg2:48≤s[i].toNat∧s[i].toNat≤57:=by simpa [yL] using hdg
      have hb1:(48:Int)≤s[i].toNat:=by omega
      have hb2:(s[i].toNat:Int)≤57:=by omega
      have hDb:(D:Int)≤100000000:=by
       have h1:=yjX l st i Ha2.out
       rw [hD.out] at h1
       have h2:(10:Nat)^(i-st)≤10^8:=Nat.pow_le_pow_right (by omega) (by have:=ysE.out;omega)
       omega
      obtain ⟨D2,hD2⟩:∃ D2:Nat,Hid (zC ((l.drop st).take (i+1-st))=D2):=⟨_,yA rfl⟩
      have hDv:(10:Int)*D+((s[i].toNat:Int)-48)=(D2:Int):=by
       rw [← hD2.out,yoA l st i hi1 hil,hD.out,hgl.out];omega
      clear hdg hdg2 hgl hil
      go_wp2
      go_roundw
      case rel=>exact ⟨i+1,by omega,by omega,by go_num,by rw [hD2.out],trivial⟩
      case measure=>simp [intOf];omega
     ·obtain rfl:i=e:=by omega
      have ybd:Hid (ReadInv l st ((i:Int)-9) (L++[D])):=yA (by rw [← hD.out];exact yJ.out.next Ha2.out (by omega) ysE.out)
      have hlen:Hid (L.length+1≤maxLen∧(L.length+1)*8≤140737488355328∧w.heap.size≤wr.heap.size+1):=yA (by
       have h1:=yJ.out.len
       have h2:=hll.out
       have h:=jO.out.below.size
       unfold maxLen;omega)
      go_wp2_with (at_builtin;refine wpList_append_own _ rfl (.tmp 29) (.tmp 31) 57 rfl w.heap.size 86 i0 (.int .u64 0) 1 8 zF hi hz0 hz1 hz2 rfl (by decide) _ _ _ rfl ((jO.out.own).alloc _) ⟨_,0,none⟩ 1 1 [.int .u64 (D:Int)] rfl rfl (cell_one_new _ _ _) (by intro u hu;simp at hu;subst hu;rfl) hlen.out.1 hlen.out.2.1 (by simp;exact hlen.out.2.2) ?_)
      intro v5 w5 yM yH _
      have jE:=yA (jO.out.next (x:=D) rfl yM yH)
      obtain ⟨p5,c5,rfl,-⟩:=ycE jE.out.own
      clear yM yH
      go_wp2
      go_roundw
      case rel=>exact ⟨st,(i:Int)-9,_,_,_,_,rfl,rfl,by omega,by omega,ybd,jE⟩
      case measure=>simp [intOf];omega)
  ·have zT:Hid (yC B9 L=zC s.data.toList):=yA (by
    have h:=yJ.out.eq
    have he:e=0:=by rcases yJ.out.at_ with ⟨h1,_⟩|⟨_,h2⟩<;>omega
    rw [he,List.drop_zero,hl.out] at h
    exact h)
   have ht:Hid (Calls Tryz.prog 126 #[.slice po no co] wr (zJ (zC s.data.toList) w)):=yA (by
    obtain ⟨p',c',h,hnc,hr,hf⟩:=ycE jO.out.own
    cases h
    rw [← zT.out]
    exact (ycP _ _ _ L wr (by have h1:=yJ.out.len;have h2:=hll.out;unfold maxLen;omega) hnc.1 hr).mono fun _ _ h=>yck hnc hf hr yJ.out.dig jO.out.below h)
   go_wp2_with fail
   refine ht.out.mono ?_
   rintro e' w4 ⟨v,rfl,hv⟩
   obtain ⟨pv,nv,cv,rfl⟩:=hv.1.slice
   go_wp2
   go_ret
   exact ⟨_,rfl,hv⟩
structure Bx (B:Nat) (c:Array Value) (w0 W:World):Prop where
 size:B+1≤W.heap.size
 below:Be w0 W
 x:W.heap[B]?=some (.cells c 59 (0,0))
theorem Bx.start (w:World) (c:Array Value):Bx w.heap.size c w (w.alloc (.cells c 59)):=⟨by simp,yD _ _,zG _ _⟩
theorem Bx.next {B:Nat} {c:Array Value} {w0 W W':World} (h:Bx B c w0 W) (hb:Be W W'):Bx B c w0 W':=⟨Nat.le_trans h.size hb.size,tr h.below hb,(hb.block _ (by have:=h.size;omega)).trans h.x⟩
theorem Bx.drew {B:Nat} {c:Array Value} {w0 W:World} (h:Bx B c w0 W):Bx B c w0 W.drew:=⟨h.size,h.below.drew,h.x⟩
theorem Bx.all {B:Nat} {a b c:Value} {w0 W:World} (h:Bx B #[a,b,c] w0 W):Bx B #[a,b,c] w0 W∧W.cell? ⟨B,0,none⟩=some a∧W.cell? ⟨B,1,none⟩=some b∧W.cell? ⟨B,2,none⟩=some c :=
 ⟨h,zW h.x 0,zW h.x 1,zW h.x 2⟩
theorem ymA (u1 v1:Value) (s:Bool) (q:Rat) (sn sd _y:ByteArray) (w:World) (_ok:Bool) (hX:Hid (∀ W,Be w W→Calls Tryz.prog 125 #[u1] W (Rp (.string sn) W))) (yaX:Hid (∀ W,Be w W→Calls Tryz.prog 71 #[.agg #[.bool s,u1,v1]] W (yct q.den W)))
  (hD:Hid (∀ W v,yE W v q.den→Calls Tryz.prog 125 #[v] W (Rp (.string sd) W))) (h1:(40:Int)<sn.size) :
  Calls Tryz.prog 69 #[.agg #[.bool s,u1,v1]] w (Rp (.tuple #[.string ⟨#[]⟩,.bool false]) w):=by
 have hbx:=Bx.start w #[.bool s,u1,v1]
 have Hbx:=yA hbx
 obtain ⟨-,c0,c1,c2⟩:=hbx.all
 clear hbx
 go_in
 go_wp2_with fail
 go_region_held3 (fun w'=>Bx w.heap.size #[.bool s,u1,v1] w w'∧w'.cell? ⟨w.heap.size,0,none⟩=some (.bool s)∧w'.cell? ⟨w.heap.size,1,none⟩=some u1∧w'.cell? ⟨w.heap.size,2,none⟩=some v1)
  (first|exact Bx.all (Bx.drew Hbx.out)|exact Bx.all Hbx.out|(go_split_ands;exact Bx.all (Bx.next (by assumption) hb1))|(go_split_ands;exact Bx.all (Bx.next (by assumption) hb2))|(go_split_ands;exact Bx.all (Bx.next (by assumption) hb3))|go_keep)
  (first|(go_at_call_of 125 u1;go_split_ands;refine (hX.out _ (Bx.below (by assumption))).mono ?_;rintro e w1 ⟨rfl,hb1⟩)|(go_at_call 71;go_split_ands;refine (yaX.out _ (Bx.below (by assumption))).mono ?_;rintro e w2 ⟨p2,n2,k2,rfl,hv2,hb2⟩)|(go_at_call 125;go_split_ands;refine (hD.out _ _ hv2).mono ?_;rintro e w3 ⟨rfl,hb3⟩;have htw:=Bx.next (by assumption) hb3))
 obtain ⟨-,c0,c1,c2⟩:=htw.all
 have Hb3:=yA htw.below
 go_wp2
 go_ret2
 exact ⟨rfl,Hb3.out⟩
theorem ymB (u1 v1:Value) (s:Bool) (q:Rat) (sn sd _y:ByteArray) (w:World) (_ok:Bool) (hX:Hid (∀ W,Be w W→Calls Tryz.prog 125 #[u1] W (Rp (.string sn) W))) (yaX:Hid (∀ W,Be w W→Calls Tryz.prog 71 #[.agg #[.bool s,u1,v1]] W (yct q.den W)))
  (hD:Hid (∀ W v,yE W v q.den→Calls Tryz.prog 125 #[v] W (Rp (.string sd) W))) (h1:(sn.size:Int)≤40) (h2:(40:Int)<sd.size) :
  Calls Tryz.prog 69 #[.agg #[.bool s,u1,v1]] w (Rp (.tuple #[.string ⟨#[]⟩,.bool false]) w):=by
 have hbx:=Bx.start w #[.bool s,u1,v1]
 have Hbx:=yA hbx
 obtain ⟨-,c0,c1,c2⟩:=hbx.all
 clear hbx
 go_in
 go_wp2_with fail
 go_region_held3 (fun w'=>Bx w.heap.size #[.bool s,u1,v1] w w'∧w'.cell? ⟨w.heap.size,0,none⟩=some (.bool s)∧w'.cell? ⟨w.heap.size,1,none⟩=some u1∧w'.cell? ⟨w.heap.size,2,none⟩=some v1)
  (first|exact Bx.all (Bx.drew Hbx.out)|exact Bx.all Hbx.out|(go_split_ands;exact Bx.all (Bx.next (by assumption) hb1))|(go_split_ands;exact Bx.all (Bx.next (by assumption) hb2))|(go_split_ands;exact Bx.all (Bx.next (by assumption) hb3))|go_keep)
  (first|(go_at_call_of 125 u1;go_split_ands;refine (hX.out _ (Bx.below (by assumption))).mono ?_;rintro e w1 ⟨rfl,hb1⟩)|(go_at_call 71;go_split_ands;refine (yaX.out _ (Bx.below (by assumption))).mono ?_;rintro e w2 ⟨p2,n2,k2,rfl,hv2,hb2⟩)|(go_at_call 125;go_split_ands;refine (hD.out _ _ hv2).mono ?_;rintro e w3 ⟨rfl,hb3⟩;have htw:=Bx.next (by assumption) hb3))
 obtain ⟨-,c0,c1,c2⟩:=htw.all
 have Hb3:=yA htw.below
 go_wp2
 go_ret2
 exact ⟨rfl,Hb3.out⟩
theorem ygq (u1 v1:Value) (s:Bool) (q:Rat) (sn sd _y:ByteArray) (w:World) (_ok:Bool) (hX:Hid (∀ W,Be w W→Calls Tryz.prog 125 #[u1] W (Rp (.string sn) W))) (yaX:Hid (∀ W,Be w W→Calls Tryz.prog 71 #[.agg #[.bool s,u1,v1]] W (yct q.den W)))
  (hD:Hid (∀ W v,yE W v q.den→Calls Tryz.prog 125 #[v] W (Rp (.string sd) W))) (h1:(sn.size:Int)≤40) (h2:(sd.size:Int)≤40) (h3:(sd.toList==[49])=true) (hs:s=true) :
  Calls Tryz.prog 69 #[.agg #[.bool s,u1,v1]] w (Rp (.tuple #[.string (⟨#[45]⟩++sn),.bool true]) w):=by
 subst hs
 have hbx:=Bx.start w #[.bool true,u1,v1]
 have Hbx:=yA hbx
 obtain ⟨-,c0,c1,c2⟩:=hbx.all
 clear hbx
 go_in
 go_wp2_with fail
 go_region_held3 (fun w'=>Bx w.heap.size #[.bool true,u1,v1] w w'∧w'.cell? ⟨w.heap.size,0,none⟩=some (.bool true)∧w'.cell? ⟨w.heap.size,1,none⟩=some u1∧w'.cell? ⟨w.heap.size,2,none⟩=some v1)
  (first|exact Bx.all (Bx.drew Hbx.out)|exact Bx.all Hbx.out|(go_split_ands;exact Bx.all (Bx.next (by assumption) hb1))|(go_split_ands;exact Bx.all (Bx.next (by assumption) hb2))|(go_split_ands;exact Bx.all (Bx.next (by assumption) hb3))|go_keep)
  (first|(go_at_call_of 125 u1;go_split_ands;refine (hX.out _ (Bx.below (by assumption))).mono ?_;rintro e w1 ⟨rfl,hb1⟩)|(go_at_call 71;go_split_ands;refine (yaX.out _ (Bx.below (by assumption))).mono ?_;rintro e w2 ⟨p2,n2,k2,rfl,hv2,hb2⟩)|(go_at_call 125;go_split_ands;refine (hD.out _ _ hv2).mono ?_;rintro e w3 ⟨rfl,hb3⟩;have htw:=Bx.next (by assumption) hb3))
 obtain ⟨-,c0,c1,c2⟩:=htw.all
 have Hb3:=yA htw.below
 go_wp2
 go_ret2
 exact ⟨rfl,Hb3.out⟩
theorem yfk (u1 v1:Value) (s:Bool) (q:Rat) (sn sd _y:ByteArray) (w:World) (_ok:Bool) (hX:Hid (∀ W,Be w W→Calls Tryz.prog 125 #[u1] W (Rp (.string sn) W))) (yaX:Hid (∀ W,Be w W→Calls Tryz.prog 71 #[.agg #[.bool s,u1,v1]] W (yct q.den W)))
  (hD:Hid (∀ W v,yE W v q.den→Calls Tryz.prog 125 #[v] W (Rp (.string sd) W))) (h1:(sn.size:Int)≤40) (h2:(sd.size:Int)≤40) (h3:(sd.toList==[49])=false) (hs:s=true) :
  Calls Tryz.prog 69 #[.agg #[.bool s,u1,v1]] w (Rp (.tuple #[.string ((⟨#[45]⟩++sn)++⟨#[47]⟩++sd),.bool true]) w):=by
 subst hs
 have hbx:=Bx.start w #[.bool true,u1,v1]
 have Hbx:=yA hbx
 obtain ⟨-,c0,c1,c2⟩:=hbx.all
 clear hbx
 go_in
 go_wp2_with fail
 go_region_held3 (fun w'=>Bx w.heap.size #[.bool true,u1,v1] w w'∧w'.cell? ⟨w.heap.size,0,none⟩=some (.bool true)∧w'.cell? ⟨w.heap.size,1,none⟩=some u1∧w'.cell? ⟨w.heap.size,2,none⟩=some v1)
  (first|exact Bx.all (Bx.drew Hbx.out)|exact Bx.all Hbx.out|(go_split_ands;exact Bx.all (Bx.next (by assumption) hb1))|(go_split_ands;exact Bx.all (Bx.next (by assumption) hb2))|(go_split_ands;exact Bx.all (Bx.next (by assumption) hb3))|go_keep)
  (first|(go_at_call_of 125 u1;go_split_ands;refine (hX.out _ (Bx.below (by assumption))).mono ?_;rintro e w1 ⟨rfl,hb1⟩)|(go_at_call 71;go_split_ands;refine (yaX.out _ (Bx.below (by assumption))).mono ?_;rintro e w2 ⟨p2,n2,k2,rfl,hv2,hb2⟩)|(go_at_call 125;go_split_ands;refine (hD.out _ _ hv2).mono ?_;rintro e w3 ⟨rfl,hb3⟩;have htw:=Bx.next (by assumption) hb3))
 obtain ⟨-,c0,c1,c2⟩:=htw.all
 have Hb3:=yA htw.below
 go_wp2
 go_ret2
 exact ⟨rfl,Hb3.out⟩
theorem yfl (u1 v1:Value) (s:Bool) (q:Rat) (sn sd _y:ByteArray) (w:World) (_ok:Bool) (hX:Hid (∀ W,Be w W→Calls Tryz.prog 125 #[u1] W (Rp (.string sn) W))) (yaX:Hid (∀ W,Be w W→Calls Tryz.prog 71 #[.agg #[.bool s,u1,v1]] W (yct q.den W)))
  (hD:Hid (∀ W v,yE W v q.den→Calls Tryz.prog 125 #[v] W (Rp (.string sd) W))) (h1:(sn.size:Int)≤40) (h2:(sd.size:Int)≤40) (h3:(sd.toList==[49])=true) (hs:s=false) :
  Calls Tryz.prog 69 #[.agg #[.bool s,u1,v1]] w (Rp (.tuple #[.string sn,.bool true]) w):=by
 subst hs
 have hbx:=Bx.start w #[.bool false,u1,v1]
 have Hbx:=yA hbx
 obtain ⟨-,c0,c1,c2⟩:=hbx.all
 clear hbx
 go_in
 go_wp2_with fail
 go_region_held3 (fun w'=>Bx w.heap.size #[.bool false,u1,v1] w w'∧w'.cell? ⟨w.heap.size,0,none⟩=some (.bool false)∧w'.cell? ⟨w.heap.size,1,none⟩=some u1∧w'.cell? ⟨w.heap.size,2,none⟩=some v1)
  (first|exact Bx.all (Bx.drew Hbx.out)|exact Bx.all Hbx.out|(go_split_ands;exact Bx.all (Bx.next (by assumption) hb1))|(go_split_ands;exact Bx.all (Bx.next (by assumption) hb2))|(go_split_ands;exact Bx.all (Bx.next (by assumption) hb3))|go_keep)
  (first|(go_at_call_of 125 u1;go_split_ands;refine (hX.out _ (Bx.below (by assumption))).mono ?_;rintro e w1 ⟨rfl,hb1⟩)|(go_at_call 71;go_split_ands;refine (yaX.out _ (Bx.below (by assumption))).mono ?_;rintro e w2 ⟨p2,n2,k2,rfl,hv2,hb2⟩)|(go_at_call 125;go_split_ands;refine (hD.out _ _ hv2).mono ?_;rintro e w3 ⟨rfl,hb3⟩;have htw:=Bx.next (by assumption) hb3))
 obtain ⟨-,c0,c1,c2⟩:=htw.all
 have Hb3:=yA htw.below
 go_wp2
 go_ret2
 exact ⟨rfl,Hb3.out⟩
theorem yeH (u1 v1:Value) (s:Bool) (q:Rat) (sn sd _y:ByteArray) (w:World) (_ok:Bool) (hX:Hid (∀ W,Be w W→Calls Tryz.prog 125 #[u1] W (Rp (.string sn) W))) (yaX:Hid (∀ W,Be w W→Calls Tryz.prog 71 #[.agg #[.bool s,u1,v1]] W (yct q.den W)))
  (hD:Hid (∀ W v,yE W v q.den→Calls Tryz.prog 125 #[v] W (Rp (.string sd) W))) (h1:(sn.size:Int)≤40) (h2:(sd.size:Int)≤40) (h3:(sd.toList==[49])=false) (hs:s=false) :
  Calls Tryz.prog 69 #[.agg #[.bool s,u1,v1]] w (Rp (.tuple #[.string (sn++⟨#[47]⟩++sd),.bool true]) w):=by
 subst hs
 have hbx:=Bx.start w #[.bool false,u1,v1]
 have Hbx:=yA hbx
 obtain ⟨-,c0,c1,c2⟩:=hbx.all
 clear hbx
 go_in
 go_wp2_with fail
 go_region_held3 (fun w'=>Bx w.heap.size #[.bool false,u1,v1] w w'∧w'.cell? ⟨w.heap.size,0,none⟩=some (.bool false)∧w'.cell? ⟨w.heap.size,1,none⟩=some u1∧w'.cell? ⟨w.heap.size,2,none⟩=some v1)
  (first|exact Bx.all (Bx.drew Hbx.out)|exact Bx.all Hbx.out|(go_split_ands;exact Bx.all (Bx.next (by assumption) hb1))|(go_split_ands;exact Bx.all (Bx.next (by assumption) hb2))|(go_split_ands;exact Bx.all (Bx.next (by assumption) hb3))|go_keep)
  (first|(go_at_call_of 125 u1;go_split_ands;refine (hX.out _ (Bx.below (by assumption))).mono ?_;rintro e w1 ⟨rfl,hb1⟩)|(go_at_call 71;go_split_ands;refine (yaX.out _ (Bx.below (by assumption))).mono ?_;rintro e w2 ⟨p2,n2,k2,rfl,hv2,hb2⟩)|(go_at_call 125;go_split_ands;refine (hD.out _ _ hv2).mono ?_;rintro e w3 ⟨rfl,hb3⟩;have htw:=Bx.next (by assumption) hb3))
 obtain ⟨-,c0,c1,c2⟩:=htw.all
 have Hb3:=yA htw.below
 go_wp2
 go_ret2
 exact ⟨rfl,Hb3.out⟩
theorem yjY {a b:ByteArray} (h:a.data.toList=b.data.toList):a=b:=by
 cases a;cases b;congr 1;exact Array.toList_inj.1 h
theorem yiG (d:Nat):(decDigits d==[49])=decide (d=1):=by
 by_cases h:d=1
 ·subst h;rw [decDigits_one (by omega)];rfl
 ·rw [decide_eq_false h,beq_eq_false_iff_ne]
  intro e
  have h1:=(yh5 d).2
  rw [e] at h1
  exact h (by rw [← h1];rfl)
def yeo (q:Rat) (w:World) (e:Ending) (w':World):Prop:=e=.returned (.tuple #[.string ⟨(txt q).toArray⟩,.bool (!(txt q).isEmpty)])∧Be w w'
theorem ytA {q:Rat} (h1:nDigits q.num.natAbs≤40) (h2:nDigits q.den≤40):txt q=wrote (decide (q.num<0)) q.num.natAbs q.den∧(!(txt q).isEmpty)=true:=by
 have e:=yfs q
 rw [if_pos ⟨h1,h2⟩] at e
 refine ⟨e,?_⟩
 rw [e]
 have:=yjU (decide (q.num<0)) q.num.natAbs q.den
 cases h:wrote (decide (q.num<0)) q.num.natAbs q.den with
 | nil=>exact absurd h this
 | cons x l=>rfl
theorem yqk {q:Rat} (h:¬ (nDigits q.num.natAbs≤40∧nDigits q.den≤40)):txt q=[]:=by
 rw [yfs,if_neg h]
theorem yql (x:Value) (q:Rat) (K:Nat) (w:World) (hK:K≤900000) (hq:QLt K q) (hx:uH w x q):Calls Tryz.prog 69 #[x] w (yeo q w):=by
 have hden0:=fun W (hW:Be w W)=>ycY x q W (hx.below hW)
 obtain ⟨u1,v1,rfl,hu,hv⟩:=hx
 obtain ⟨sn,hsn⟩:∃ sn:ByteArray,sn=⟨(decDigits q.num.natAbs).toArray⟩:=⟨_,rfl⟩
 obtain ⟨sd,hsd⟩:∃ sd:ByteArray,sd=⟨(decDigits q.den).toArray⟩:=⟨_,rfl⟩
 have hX:Hid (∀ W,Be w W→Calls Tryz.prog 125 #[u1] W (Rp (.string sn) W)):=yA fun W hW=>by
  rw [hsn];exact yeT u1 _ K W hK hq.1 (hu.below hW)
 have hD:Hid (∀ W v,yE W v q.den→Calls Tryz.prog 125 #[v] W (Rp (.string sd) W)):=yA fun W v h=>by
  rw [hsd];exact yeT v _ K W hK hq.2 h
 obtain ⟨s,hs⟩:∃ s,s=decide (q.num<0):=⟨_,rfl⟩
 rw [← hs] at hden0 ⊢
 have yaX:=yA hden0
 have z1:sn.size=nDigits q.num.natAbs:=by rw [hsn,size_toArray,decDigits_length]
 have z2:sd.size=nDigits q.den:=by rw [hsd,size_toArray,decDigits_length]
 have t1:sn.data.toList=decDigits q.num.natAbs:=by rw [hsn]
 have t2:sd.data.toList=decDigits q.den:=by rw [hsd]
 unfold yeo
 by_cases h1:nDigits q.num.natAbs≤40
 ·by_cases h2:nDigits q.den≤40
  ·obtain ⟨e1,e2⟩:=ytA h1 h2
   rw [e2]
   have h3:(sd.toList==[49])=decide (q.den=1):=by
    have e:sd.toList=decDigits q.den:=by rw [Lib.toList_data];exact t2
    rw [e];exact yiG _
   have fin:∀ y:ByteArray,y.data.toList=txt q→(Calls Tryz.prog 69 #[.agg #[.bool s,u1,v1]] w (Rp (.tuple #[.string y,.bool true]) w))→Calls Tryz.prog 69 #[.agg #[.bool s,u1,v1]] w (Rp (.tuple #[.string ⟨(txt q).toArray⟩,.bool true]) w):=by
    intro y hy h
    have:y=⟨(txt q).toArray⟩:=yjY (by rw [hy])
    rw [this] at h;exact h
   rw [e1] at fin ⊢
   rw [← hs] at fin ⊢
   unfold wrote at fin ⊢
   by_cases hd:q.den=1
   ·rw [hd,decide_eq_true rfl] at h3
    rw [if_pos hd] at fin ⊢
    cases s with
    | true=>exact fin _ (by simp [t1]) (ygq u1 v1 true q sn sd ⟨#[]⟩ w true hX yaX hD (by omega) (by omega) h3 rfl)
    | false=>exact fin _ (by simp [t1]) (yfl u1 v1 false q sn sd ⟨#[]⟩ w true hX yaX hD (by omega) (by omega) h3 rfl)
   ·rw [decide_eq_false hd] at h3
    rw [if_neg hd] at fin ⊢
    cases s with
    | true=>exact fin _ (by simp [t1,t2]) (yfk u1 v1 true q sn sd ⟨#[]⟩ w true hX yaX hD (by omega) (by omega) h3 rfl)
    | false=>exact fin _ (by simp [t1,t2]) (yeH u1 v1 false q sn sd ⟨#[]⟩ w true hX yaX hD (by omega) (by omega) h3 rfl)
  ·rw [yqk (fun h=>h2 h.2)]
   exact ymB u1 v1 s q sn sd ⟨#[]⟩ w true hX yaX hD (by omega) (by omega)
 ·rw [yqk (fun h=>h1 h.1)]
  exact ymA u1 v1 s q sn sd ⟨#[]⟩ w true hX yaX hD (by omega)
end
end Go.Proofs.YtgepehlpjpccaaaGreatDoor
