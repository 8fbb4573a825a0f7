/- Contracts. -/
import Derived.Test.YtgepehlpjpccaaaGreatDoorRe
namespace Go.Proofs.YtgepehlpjpccaaaGreatDoor
set_option maxHeartbeats 3200000
set_option maxRecDepth 100000
section
open Go.Lib Big
def zJ (l:List UInt8):Nat:=(l.takeWhile yI).length
structure FacT where
 v:Rat
 ps:List Int
 e:Int
def ycR (ds:List UInt8):Int:=ds.foldl (fun (e:Int) c=>if e≤12 then e*10+((c.toNat:Int)-48) else e) 0
end
section
open Go.RowKit Go.Lib Big
def zO (w:World) (x:Value) (q:Rat) (K:Nat):Prop:=∃ s a b,jU w x s a b∧yL s a b=q∧0<b∧a<yB^K∧b<yB^K
theorem zO.below {w w':World} {x:Value} {q:Rat} {K:Nat} (h:zO w x q K) (hb:Below w.heap.size w w'):zO w' x q K:=by
 obtain ⟨s,a,b,h1,h2⟩:=h
 exact ⟨s,a,b,h1.below hb,h2⟩
theorem zO.more {w:World} {x:Value} {q:Rat} {K M:Nat} (h:zO w x q K) (hM:K≤M):zO w x q M:=by
 obtain ⟨s,a,b,h1,h2,h3,h4,h5⟩:=h
 have:=Nat.pow_le_pow_right yR hM
 exact ⟨s,a,b,h1,h2,h3,by omega,by omega⟩
theorem zO.agg {w:World} {x:Value} {q:Rat} {K:Nat} (h:zO w x q K):∃ b p n c r m d,x=.agg #[.bool b,.slice p n c,.slice r m d]:=by
 obtain ⟨s,a,b,⟨u,v,rfl,hu,hv,-⟩,-⟩:=h
 obtain ⟨p,n,c,rfl⟩:=hu.slice
 obtain ⟨r,m,d,rfl⟩:=hv.slice
 exact ⟨_,_,_,_,_,_,_,rfl⟩
theorem One.drew {B:Nat} {s:Bool} {u1 v1:Value} {w0 W:World} (h:One B s u1 v1 w0 W):One B s u1 v1 w0 W.drew:=⟨h.size,h.below.drew,h.x,h.z⟩
theorem One.all {B:Nat} {s:Bool} {u1 v1:Value} {w0 W:World} (h:One B s u1 v1 w0 W):One B s u1 v1 w0 W∧W.cell? ⟨B,0,none⟩=some (.bool s)∧W.cell? ⟨B,1,none⟩=some u1∧W.cell? ⟨B,2,none⟩=some v1:=⟨h,h.cells⟩
end
section
open Go.RowKit Go.Lib Big
structure ResU (B:Nat) (w0 W:World):Prop where
 size:B+1≤W.heap.size
 below:Below w0.heap.size w0 W
 z:∃ z0 z1 z2 z3 z4 z5 z6 z7 z8:Value,W.heap[B]?=some (.cells #[z0,z1,z2,z3,z4,z5,z6,z7,z8] 158 (0,0))
section
variable {B : Nat} {w0 W W' : World}
theorem ResU.next (h:ResU B w0 W) (hb:Below W.heap.size W W'):ResU B w0 W':=by
 have hs:=h.size
 obtain ⟨z0,z1,z2,z3,z4,z5,z6,z7,z8,hz⟩:=h.z
 exact ⟨Nat.le_trans hs hb.size,h.below.trans (hb.mono h.below.size),z0,z1,z2,z3,z4,z5,z6,z7,z8,(hb.block _ (by omega)).trans hz⟩
theorem ResU.slots (h:ResU B w0 W):∃ z0 z1 z2 z3 z4 z5 z6 z7 z8:Value,(W.cell? ⟨B,0,none⟩=some z0∧W.cell? ⟨B,1,none⟩=some z1∧W.cell? ⟨B,2,none⟩=some z2∧W.cell? ⟨B,3,none⟩=some z3∧W.cell? ⟨B,4,none⟩=some z4∧W.cell? ⟨B,5,none⟩=some z5∧W.cell? ⟨B,6,none⟩=some z6∧W.cell? ⟨B,7,none⟩=some z7∧W.cell? ⟨B,8,none⟩=some z8)∧(W.frozen? ⟨B,0,none⟩=false∧W.frozen? ⟨B,1,none⟩=false∧W.frozen? ⟨B,2,none⟩=false∧W.frozen? ⟨B,3,none⟩=false∧W.frozen? ⟨B,4,none⟩=false∧W.frozen? ⟨B,5,none⟩=false∧W.frozen? ⟨B,6,none⟩=false∧W.frozen? ⟨B,7,none⟩=false∧W.frozen? ⟨B,8,none⟩=false):=by
 obtain ⟨z0,z1,z2,z3,z4,z5,z6,z7,z8,hz⟩:=h.z
 exact ⟨z0,z1,z2,z3,z4,z5,z6,z7,z8,⟨zU hz 0,zU hz 1,zU hz 2,zU hz 3,zU hz 4,zU hz 5,zU hz 6,zU hz 7,zU hz 8⟩,⟨foh hz 0,foh hz 1,foh hz 2,foh hz 3,foh hz 4,foh hz 5,foh hz 6,foh hz 7,foh hz 8⟩⟩
theorem ResU.start (w:World):ResU w.heap.size w (w.alloc (.cells #[.string ⟨#[]⟩,.string ⟨#[]⟩,.int .i64 0,.int .i64 0,.int .i64 0,.int .i64 0,.int .i64 0,.int .i64 0,.int .i64 0] 158)) :=
 ⟨by simp,(Below.refl _ _).alloc (Nat.le_refl _) _,_,_,_,_,_,_,_,_,_,yY _ _⟩
end
end
set_option maxHeartbeats 1600000
section
open Go.RowKit Go.Lib Big
abbrev Blk:=Nat × Array Value × TypeId
structure Keep (w0 W:World) (L:List Blk):Prop where
 below:Below w0.heap.size w0 W
 all:∀ x ∈ L,W.heap[x.1]?=some (.cells x.2.1 x.2.2 (0,0))
section
variable {w0 W W' : World} {L : List Blk}
theorem Keep.next (h:Keep w0 W L) (hb:Below W.heap.size W W'):Keep w0 W' L :=
 ⟨h.below.trans (hb.mono h.below.size),fun x hx=>(hb.block _ (Array.getElem?_eq_some_iff.1 (h.all x hx)).1).trans (h.all x hx)⟩
theorem Keep.drew (h:Keep w0 W L):Keep w0 W.drew L:=⟨h.below.drew,h.all⟩
theorem Keep.one (h:Keep w0 W L) (x:Blk) (hx:x ∈ L):W.heap[x.1]?=some (.cells x.2.1 x.2.2 (0,0)):=h.all x hx
theorem Keep.nil (w:World):Keep w w []:=⟨Below.refl _ _,fun _ h=>by cases h⟩
theorem Keep.more (h:Keep w0 W L) (c:Array Value) (T:TypeId):Keep w0 (W.alloc (.cells c T)) ((W.heap.size,c,T)::L):=by
 have h2:=h.next (GB W (.cells c T))
 refine ⟨h2.below,fun x hx=>?_⟩
 rcases List.mem_cons.1 hx with rfl|hx
 ·exact yY W _
 ·exact h2.all x hx
theorem Keep.put {g:Nat} {c:Array Value} {T:TypeId} (h:Keep w0 W ((g,c,T)::L)) (hg:w0.heap.size≤g) (hne:∀ x ∈ L,x.1≠g) (k:Nat) (v:Value):Keep w0 (W.setCell ⟨g,k,none⟩ v) ((g,c.setIfInBounds k v,T)::L):=by
 refine ⟨h.below.setCell hg _,fun x hx=>?_⟩
 rcases List.mem_cons.1 hx with rfl|hx
 ·exact jW g k c T v (h.all _ (List.mem_cons_self ..))
 ·exact (Below.heap_setCell _ _ _ _ (hne x hx)).trans (h.all x (List.mem_cons_of_mem _ hx))
theorem Keep.lt (h:Keep w0 W L) {x:Blk} (hx:x ∈ L):x.1<W.heap.size:=(Array.getElem?_eq_some_iff.1 (h.all x hx)).1
end
theorem yiC (p:UInt8→Bool) (l:List UInt8) (k:Nat) (hk:k≤l.length) (ha:(l.take k).all p=true) (hs:k=l.length∨∃ h:k<l.length,p l[k]=false):(l.takeWhile p).length=k:=by
 induction l generalizing k with
 | nil=>simp at hk;simp [hk]
 | cons x l ih =>
  cases k with
  | zero =>
   rcases hs with hs|⟨h,hs⟩
   ·simp at hs
   ·have:p x=false:=hs
    simp [this]
  | succ k =>
   rw [List.take_succ_cons,List.all_cons,Bool.and_eq_true] at ha
   rw [List.takeWhile_cons,if_pos ha.1,List.length_cons,ih k (by simpa using hk) ha.2]
   rcases hs with hs|⟨h,hs⟩
   ·exact .inl (by simpa using hs)
   ·exact .inr ⟨by simpa using h,by simpa using hs⟩
theorem yg7 (p:UInt8→Bool) (l:List UInt8) (k:Nat) (h:k<l.length) (ha:(l.take k).all p=true) (hd:p l[k]=true):(l.take (k+1)).all p=true:=by
 rw [List.take_succ_eq_append_getElem h,List.all_append,ha];simp [hd]
end
set_option maxHeartbeats 3200000
section
open Go.RowKit Go.Lib Big
structure ResT (T:TypeId) (B:Nat) (w0 W:World):Prop where
 size:B+1≤W.heap.size
 below:Below w0.heap.size w0 W
 z:∃ z0 z1 z2 z3 z4 z5 z6 z7 z8:Value,W.heap[B]?=some (.cells #[z0,z1,z2,z3,z4,z5,z6,z7,z8] T (0,0))
section
variable {T : TypeId} {B : Nat} {w0 W W' : World}
theorem ResT.next (h:ResT T B w0 W) (hb:Below W.heap.size W W'):ResT T B w0 W':=by
 have hs:=h.size
 obtain ⟨z0,z1,z2,z3,z4,z5,z6,z7,z8,hz⟩:=h.z
 exact ⟨Nat.le_trans hs hb.size,h.below.trans (hb.mono h.below.size),z0,z1,z2,z3,z4,z5,z6,z7,z8,(hb.block _ (by omega)).trans hz⟩
theorem ResT.slots (h:ResT T B w0 W):∃ z0 z1 z2 z3 z4 z5 z6 z7 z8:Value,(W.cell? ⟨B,0,none⟩=some z0∧W.cell? ⟨B,1,none⟩=some z1∧W.cell? ⟨B,2,none⟩=some z2∧W.cell? ⟨B,3,none⟩=some z3∧W.cell? ⟨B,4,none⟩=some z4∧W.cell? ⟨B,5,none⟩=some z5∧W.cell? ⟨B,6,none⟩=some z6∧W.cell? ⟨B,7,none⟩=some z7∧W.cell? ⟨B,8,none⟩=some z8)∧(W.frozen? ⟨B,0,none⟩=false∧W.frozen? ⟨B,1,none⟩=false∧W.frozen? ⟨B,2,none⟩=false∧W.frozen? ⟨B,3,none⟩=false∧W.frozen? ⟨B,4,none⟩=false∧W.frozen? ⟨B,5,none⟩=false∧W.frozen? ⟨B,6,none⟩=false∧W.frozen? ⟨B,7,none⟩=false∧W.frozen? ⟨B,8,none⟩=false):=by
 obtain ⟨z0,z1,z2,z3,z4,z5,z6,z7,z8,hz⟩:=h.z
 exact ⟨z0,z1,z2,z3,z4,z5,z6,z7,z8,⟨zU hz 0,zU hz 1,zU hz 2,zU hz 3,zU hz 4,zU hz 5,zU hz 6,zU hz 7,zU hz 8⟩,⟨foh hz 0,foh hz 1,foh hz 2,foh hz 3,foh hz 4,foh hz 5,foh hz 6,foh hz 7,foh hz 8⟩⟩
end
theorem ResT.start (T:TypeId) (w:World) (a0 a1 a2 a3 a4 a5 a6 a7 a8:Value):ResT T w.heap.size w (w.alloc (.cells #[a0,a1,a2,a3,a4,a5,a6,a7,a8] T)) :=
 ⟨by simp,(Below.refl _ _).alloc (Nat.le_refl _) _,_,_,_,_,_,_,_,_,_,yY _ _⟩
def NoU (v:Value):Prop:=∀ n,v≠.int .u64 n
theorem nub (b:Bool):NoU (.bool b):=fun _ h=>by cases h
theorem nus (p:Option Addr) (n c:Nat):NoU (.slice p n c):=fun _ h=>by cases h
theorem nui (n:Int):NoU (.int .i64 n):=fun _ h=>by cases h
structure ResF (B:Nat) (w0 W:World):Prop where
 below:Below w0.heap.size w0 W
 z:∃ z0 z1 z2 z3 z4 z5 z6 z7 z8 z9 z10:Value,W.heap[B]?=some (.cells #[z0,z1,z2,z3,z4,z5,z6,z7,z8,z9,z10] 246 (0,0))∧NoU z0∧NoU z1∧NoU z2∧NoU z3∧NoU z4∧NoU z5∧NoU z6∧NoU z7∧NoU z8∧NoU z9∧NoU z10
section
variable {B : Nat} {w0 W W' : World}
theorem ResF.lt (h:ResF B w0 W):B<W.heap.size:=by
 obtain ⟨z0,z1,z2,z3,z4,z5,z6,z7,z8,z9,z10,hz,-⟩:=h.z
 exact (Array.getElem?_eq_some_iff.1 hz).1
theorem ResF.next (h:ResF B w0 W) (hb:Below W.heap.size W W'):ResF B w0 W':=by
 obtain ⟨z0,z1,z2,z3,z4,z5,z6,z7,z8,z9,z10,hz,hn⟩:=h.z
 exact ⟨h.below.trans (hb.mono h.below.size),z0,z1,z2,z3,z4,z5,z6,z7,z8,z9,z10,(hb.block _ h.lt).trans hz,hn⟩
theorem ResF.drew (h:ResF B w0 W):ResF B w0 W.drew:=⟨h.below.drew,h.z⟩
theorem ResF.slots (h:ResF B w0 W):∃ z0 z1 z2 z3 z4 z5 z6 z7 z8 z9 z10:Value,(W.cell? ⟨B,0,none⟩=some z0∧W.cell? ⟨B,1,none⟩=some z1∧W.cell? ⟨B,2,none⟩=some z2∧W.cell? ⟨B,3,none⟩=some z3∧W.cell? ⟨B,4,none⟩=some z4∧W.cell? ⟨B,5,none⟩=some z5∧W.cell? ⟨B,6,none⟩=some z6∧W.cell? ⟨B,7,none⟩=some z7∧W.cell? ⟨B,8,none⟩=some z8∧W.cell? ⟨B,9,none⟩=some z9∧W.cell? ⟨B,10,none⟩=some z10)∧(W.frozen? ⟨B,0,none⟩=false∧W.frozen? ⟨B,1,none⟩=false∧W.frozen? ⟨B,2,none⟩=false∧W.frozen? ⟨B,3,none⟩=false∧W.frozen? ⟨B,4,none⟩=false∧W.frozen? ⟨B,5,none⟩=false∧W.frozen? ⟨B,6,none⟩=false∧W.frozen? ⟨B,7,none⟩=false∧W.frozen? ⟨B,8,none⟩=false∧W.frozen? ⟨B,9,none⟩=false∧W.frozen? ⟨B,10,none⟩=false):=by
 obtain ⟨z0,z1,z2,z3,z4,z5,z6,z7,z8,z9,z10,hz,-⟩:=h.z
 exact ⟨z0,z1,z2,z3,z4,z5,z6,z7,z8,z9,z10,⟨zU hz 0,zU hz 1,zU hz 2,zU hz 3,zU hz 4,zU hz 5,zU hz 6,zU hz 7,zU hz 8,zU hz 9,zU hz 10⟩,⟨foh hz 0,foh hz 1,foh hz 2,foh hz 3,foh hz 4,foh hz 5,foh hz 6,foh hz 7,foh hz 8,foh hz 9,foh hz 10⟩⟩
theorem ResF.put (h:ResF B w0 W) (hB:w0.heap.size≤B) (a0 a1 a2 a3 a4 a5 a6 a7 a8 a9 a10:Value) (hn:NoU a0∧NoU a1∧NoU a2∧NoU a3∧NoU a4∧NoU a5∧NoU a6∧NoU a7∧NoU a8∧NoU a9∧NoU a10):ResF B w0 ((((((((((((W).setCell ⟨B,0,none⟩ a0).setCell ⟨B,1,none⟩ a1).setCell ⟨B,2,none⟩ a2).setCell ⟨B,3,none⟩ a3).setCell ⟨B,4,none⟩ a4).setCell ⟨B,5,none⟩ a5).setCell ⟨B,6,none⟩ a6).setCell ⟨B,7,none⟩ a7).setCell ⟨B,8,none⟩ a8).setCell ⟨B,9,none⟩ a9).setCell ⟨B,10,none⟩ a10)∧((((((((((((W).setCell ⟨B,0,none⟩ a0).setCell ⟨B,1,none⟩ a1).setCell ⟨B,2,none⟩ a2).setCell ⟨B,3,none⟩ a3).setCell ⟨B,4,none⟩ a4).setCell ⟨B,5,none⟩ a5).setCell ⟨B,6,none⟩ a6).setCell ⟨B,7,none⟩ a7).setCell ⟨B,8,none⟩ a8).setCell ⟨B,9,none⟩ a9).setCell ⟨B,10,none⟩ a10).heap[B]?=some (.cells #[a0,a1,a2,a3,a4,a5,a6,a7,a8,a9,a10] 246 (0,0)):=by
 obtain ⟨z0,z1,z2,z3,z4,z5,z6,z7,z8,z9,z10,hz,-⟩:=h.z
 have hh:((((((((((((W).setCell ⟨B,0,none⟩ a0).setCell ⟨B,1,none⟩ a1).setCell ⟨B,2,none⟩ a2).setCell ⟨B,3,none⟩ a3).setCell ⟨B,4,none⟩ a4).setCell ⟨B,5,none⟩ a5).setCell ⟨B,6,none⟩ a6).setCell ⟨B,7,none⟩ a7).setCell ⟨B,8,none⟩ a8).setCell ⟨B,9,none⟩ a9).setCell ⟨B,10,none⟩ a10).heap[B]?=some (.cells #[a0,a1,a2,a3,a4,a5,a6,a7,a8,a9,a10] 246 (0,0)):=by
  have h0:((W).setCell ⟨B,0,none⟩ a0).heap[B]?=some (.cells #[a0,z1,z2,z3,z4,z5,z6,z7,z8,z9,z10] 246 (0,0)):=jW B 0 _ 246 a0 hz
  have h1:(((W).setCell ⟨B,0,none⟩ a0).setCell ⟨B,1,none⟩ a1).heap[B]?=some (.cells #[a0,a1,z2,z3,z4,z5,z6,z7,z8,z9,z10] 246 (0,0)):=jW B 1 _ 246 a1 h0
  have h2:((((W).setCell ⟨B,0,none⟩ a0).setCell ⟨B,1,none⟩ a1).setCell ⟨B,2,none⟩ a2).heap[B]?=some (.cells #[a0,a1,a2,z3,z4,z5,z6,z7,z8,z9,z10] 246 (0,0)):=jW B 2 _ 246 a2 h1
  have h3:(((((W).setCell ⟨B,0,none⟩ a0).setCell ⟨B,1,none⟩ a1).setCell ⟨B,2,none⟩ a2).setCell ⟨B,3,none⟩ a3).heap[B]?=some (.cells #[a0,a1,a2,a3,z4,z5,z6,z7,z8,z9,z10] 246 (0,0)):=jW B 3 _ 246 a3 h2
  have h4:((((((W).setCell ⟨B,0,none⟩ a0).setCell ⟨B,1,none⟩ a1).setCell ⟨B,2,none⟩ a2).setCell ⟨B,3,none⟩ a3).setCell ⟨B,4,none⟩ a4).heap[B]?=some (.cells #[a0,a1,a2,a3,a4,z5,z6,z7,z8,z9,z10] 246 (0,0)):=jW B 4 _ 246 a4 h3
  have h5:(((((((W).setCell ⟨B,0,none⟩ a0).setCell ⟨B,1,none⟩ a1).setCell ⟨B,2,none⟩ a2).setCell ⟨B,3,none⟩ a3).setCell ⟨B,4,none⟩ a4).setCell ⟨B,5,none⟩ a5).heap[B]?=some (.cells #[a0,a1,a2,a3,a4,a5,z6,z7,z8,z9,z10] 246 (0,0)):=jW B 5 _ 246 a5 h4
  have h6:((((((((W).setCell ⟨B,0,none⟩ a0).setCell ⟨B,1,none⟩ a1).setCell ⟨B,2,none⟩ a2).setCell ⟨B,3,none⟩ a3).setCell ⟨B,4,none⟩ a4).setCell ⟨B,5,none⟩ a5).setCell ⟨B,6,none⟩ a6).heap[B]?=some (.cells #[a0,a1,a2,a3,a4,a5,a6,z7,z8,z9,z10] 246 (0,0)):=jW B 6 _ 246 a6 h5
  have h7:(((((((((W).setCell ⟨B,0,none⟩ a0).setCell ⟨B,1,none⟩ a1).setCell ⟨B,2,none⟩ a2).setCell ⟨B,3,none⟩ a3).setCell ⟨B,4,none⟩ a4).setCell ⟨B,5,none⟩ a5).setCell ⟨B,6,none⟩ a6).setCell ⟨B,7,none⟩ a7).heap[B]?=some (.cells #[a0,a1,a2,a3,a4,a5,a6,a7,z8,z9,z10] 246 (0,0)):=jW B 7 _ 246 a7 h6
  have h8:((((((((((W).setCell ⟨B,0,none⟩ a0).setCell ⟨B,1,none⟩ a1).setCell ⟨B,2,none⟩ a2).setCell ⟨B,3,none⟩ a3).setCell ⟨B,4,none⟩ a4).setCell ⟨B,5,none⟩ a5).setCell ⟨B,6,none⟩ a6).setCell ⟨B,7,none⟩ a7).setCell ⟨B,8,none⟩ a8).heap[B]?=some (.cells #[a0,a1,a2,a3,a4,a5,a6,a7,a8,z9,z10] 246 (0,0)):=jW B 8 _ 246 a8 h7
  have h9:(((((((((((W).setCell ⟨B,0,none⟩ a0).setCell ⟨B,1,none⟩ a1).setCell ⟨B,2,none⟩ a2).setCell ⟨B,3,none⟩ a3).setCell ⟨B,4,none⟩ a4).setCell ⟨B,5,none⟩ a5).setCell ⟨B,6,none⟩ a6).setCell ⟨B,7,none⟩ a7).setCell ⟨B,8,none⟩ a8).setCell ⟨B,9,none⟩ a9).heap[B]?=some (.cells #[a0,a1,a2,a3,a4,a5,a6,a7,a8,a9,z10] 246 (0,0)):=jW B 9 _ 246 a9 h8
  have h10:((((((((((((W).setCell ⟨B,0,none⟩ a0).setCell ⟨B,1,none⟩ a1).setCell ⟨B,2,none⟩ a2).setCell ⟨B,3,none⟩ a3).setCell ⟨B,4,none⟩ a4).setCell ⟨B,5,none⟩ a5).setCell ⟨B,6,none⟩ a6).setCell ⟨B,7,none⟩ a7).setCell ⟨B,8,none⟩ a8).setCell ⟨B,9,none⟩ a9).setCell ⟨B,10,none⟩ a10).heap[B]?=some (.cells #[a0,a1,a2,a3,a4,a5,a6,a7,a8,a9,a10] 246 (0,0)):=jW B 10 _ 246 a10 h9
  exact h10
 exact ⟨⟨(((((((((((h.below).setCell hB _).setCell hB _).setCell hB _).setCell hB _).setCell hB _).setCell hB _).setCell hB _).setCell hB _).setCell hB _).setCell hB _).setCell hB _,a0,a1,a2,a3,a4,a5,a6,a7,a8,a9,a10,hh,hn⟩,hh⟩
theorem ResF.start (w:World):ResF w.heap.size w (w.alloc (.cells #[.bool false,.slice none 0 0,.slice none 0 0,.int .i64 0,.int .i64 0,.int .i64 0,.int .i64 0,.int .i64 0,.int .i64 0,.int .i64 0,.int .i64 0] 246)) :=
 ⟨GB _ _,_,_,_,_,_,_,_,_,_,_,_,yY _ _,nub _,nus _ _ _,nus _ _ _,nui _,nui _,nui _,nui _,nui _,nui _,nui _,nui _⟩
end
def yq6 (w:World) (x:Value) (f:FacT) (K:Nat):Prop:=∃ b p n c q m d p0 p1 p2 p3 p4 p5 p6,x=.agg #[.bool b,.slice p n c,.slice q m d,.int .i64 p0,.int .i64 p1,.int .i64 p2,.int .i64 p3,.int .i64 p4,.int .i64 p5,.int .i64 p6,.int .i64 f.e]∧zO w (.agg #[.bool b,.slice p n c,.slice q m d]) f.v K∧[p0,p1,p2,p3,p4,p5,p6]=f.ps
theorem yq6.below {w w':World} {x:Value} {f:FacT} {K:Nat} (h:yq6 w x f K) (hb:Below w.heap.size w w'):yq6 w' x f K:=by
 obtain ⟨b,p,n,c,q,m,d,p0,p1,p2,p3,p4,p5,p6,h1,h2,h3⟩:=h
 exact ⟨b,p,n,c,q,m,d,p0,p1,p2,p3,p4,p5,p6,h1,h2.below hb,h3⟩
end
set_option maxHeartbeats 1600000
section
open Go.RowKit Go.Lib Big
theorem yh6 (l:List UInt8) (c:UInt8):ycR (l++[c])=if ycR l≤12 then ycR l*10+((c.toNat:Int)-48) else ycR l:=by
 unfold ycR;rw [List.foldl_append];rfl
theorem ywo (l:List UInt8) (h:l.all yI=true):0≤ycR l∧ycR l≤129:=by
 suffices ∀ (n:Nat) (l:List UInt8),l.length=n→l.all yI=true→0≤ycR l∧ycR l≤129 from this l.length l rfl h
 intro n
 induction n with
 | zero=>intro l hl _;rw [List.eq_nil_of_length_eq_zero hl];exact ⟨by decide,by decide⟩
 | succ n ih =>
  intro l hl hd
  obtain ⟨m,c,rfl⟩:∃ m c,l=m++[c]:=⟨l.dropLast,l.getLast (by intro h;rw [h] at hl;simp at hl),(List.dropLast_concat_getLast _).symm⟩
  rw [List.all_append,Bool.and_eq_true] at hd
  obtain ⟨h1,h2⟩:=ih m (by simpa using hl) hd.1
  have hc:yI c=true:=by simpa using hd.2
  unfold yI at hc
  simp at hc
  rw [yh6]
  split<;>omega
theorem yoR (p:UInt8→Bool) (l:List UInt8) (j:Nat) (hj:j≤(l.takeWhile p).length):(l.take j).all p=true:=by
 induction l generalizing j with
 | nil=>simp
 | cons x l ih =>
  cases j with
  | zero=>simp
  | succ j =>
   rw [List.takeWhile_cons] at hj
   by_cases hx:p x=true
   ·rw [if_pos hx,List.length_cons] at hj
    rw [List.take_succ_cons,List.all_cons,hx,ih j (by omega)];rfl
   ·rw [if_neg hx] at hj;simp at hj
structure ExpoAt (s:ByteArray) (st D:Nat):Prop where
 size:st+D≤s.size
 cnt:zJ (s.data.toList.drop st)=D
theorem ExpoAt.step {s:ByteArray} {st D k:Nat} (h:ExpoAt s st D) (h1:st≤k) (h2:k<st+D):48≤(s[k]'(by have:=h.size;omega)).toNat∧(s[k]'(by have:=h.size;omega)).toNat≤57 ∧
  ycR ((s.data.toList.drop st).take (k+1-st))=if ycR ((s.data.toList.drop st).take (k-st))≤12 then ycR ((s.data.toList.drop st).take (k-st))*10+(((s[k]'(by have:=h.size;omega)).toNat:Int)-48) else ycR ((s.data.toList.drop st).take (k-st)):=by
 have hs:=h.size
 have hk:k-st<(s.data.toList.drop st).length:=by simp;omega
 have hc:=h.cnt
 have uP:=yoR yI (s.data.toList.drop st) (k-st+1) (by unfold zJ at hc;omega)
 rw [List.take_succ_eq_append_getElem hk,List.all_append,Bool.and_eq_true] at uP
 have hd:yI ((s.data.toList.drop st)[k-st])=true:=by simpa using uP.2
 have he:(s.data.toList.drop st)[k-st]=s[k]'(by omega):=by
  rw [List.getElem_drop]
  have:st+(k-st)=k:=by omega
  simp only [this]
  rfl
 rw [he] at hd
 unfold yI at hd
 simp at hd
 refine ⟨hd.1,hd.2,?_⟩
 rw [show k+1-st=k-st+1 from by omega,List.take_succ_eq_append_getElem hk,yh6,he]
theorem ExpoAt.bd {s:ByteArray} {st D k:Nat} (h:ExpoAt s st D) (h2:k≤st+D):0≤ycR ((s.data.toList.drop st).take (k-st))∧ycR ((s.data.toList.drop st).take (k-st))≤129:=by
 apply ywo
 have hc:=h.cnt
 exact yoR yI _ _ (by unfold zJ at hc;omega)
end
section
open Go.RowKit Go.Lib Big
def yfY (w:World) (base:Nat) (e:TypeId) (size:Nat) (v:Value) (n:Nat) (xs:List Value):Prop :=
 w.ownsRow base e size v n xs∧∀ g k cap,v=.slice (some ⟨g,0,none⟩) k cap→∀ cur t f,w.heap[g]?=some (.cells cur t f)→∀ u ∈ cur.toList,NoU u
theorem yfY.nil (w:World) (base:Nat) (e:TypeId) (size:Nat):yfY w base e size (.slice none 0 0) 0 [] :=
 ⟨World.ownsRow_nil w base e size,fun g k cap h=>by cases h⟩
section
variable {P : Program}
end
def ykt (W:World) (cs:List Value) (f:FacT):Prop:=∃ b p n c q m d p0 p1 p2 p3 p4 p5 p6,cs=[.bool b,.slice p n c,.slice q m d,.int .i64 p0,.int .i64 p1,.int .i64 p2,.int .i64 p3,.int .i64 p4,.int .i64 p5,.int .i64 p6,.int .i64 f.e]∧zO W (.agg #[.bool b,.slice p n c,.slice q m d]) f.v 40∧[p0,p1,p2,p3,p4,p5,p6]=f.ps
structure FacsIn (W:World) (base:Nat) (v:Value) (css:List (List Value)) (fs:List FacT):Prop where
 row:yfY W base 246 11 v fs.length css.flatten
 len:css.length=fs.length
 each:∀ j (h:j<css.length) (h':j<fs.length),ykt W css[j] fs[j]
theorem yfY.below {W W':World} {base:Nat} {e:TypeId} {size:Nat} {v:Value} {n:Nat} {xs:List Value} (h:yfY W base e size v n xs) (hb:Below W.heap.size W W'):yfY W' base e size v n xs:=by
 obtain ⟨⟨h1,h2⟩,h3⟩:=h
 rcases h2 with h2|⟨g,cap,cur,rfl,hbg,hg,hr⟩
 ·refine ⟨⟨h1,.inl h2⟩,?_⟩
  intro g k cap hv
  rw [h2.1] at hv;cases hv
 ·have hlt:=(Array.getElem?_eq_some_iff.1 hg).1
  have hg':=(hb.block g hlt).trans hg
  refine ⟨⟨h1,.inr ⟨g,cap,cur,rfl,hbg,hg',hr⟩⟩,?_⟩
  intro g' k cap' hv cur' t f hh u hu
  cases hv
  rw [hg'] at hh;cases hh
  exact h3 _ _ _ rfl _ _ _ hg u hu
theorem yh7 {W W':World} {base:Nat} {e:TypeId} {size:Nat} {v:Value} {n:Nat} {xs:List Value} (h:yfY W base e size v n xs) (hg:W.grownBy W' v.ownBlock) {x:Value} {k:Nat} (hx:yH W x k):yH W' x k:=by
 obtain ⟨p,m,c',l,h1,h2,hr,h4⟩:=hx
 refine ⟨p,m,c',l,h1,h2,⟨hr.len,?_⟩,h4⟩
 rcases hr.cell with h0|⟨b,off,hp,hlt,hcl⟩
 ·exact .inl h0
 ·by_cases hm:m=0
  ·exact .inl hm
  refine .inr ⟨b,off,hp,Nat.lt_of_lt_of_le hlt hg.size,fun j hj=>?_⟩
  have hne:some b≠v.ownBlock:=by
   intro hb
   obtain ⟨⟨-,h5⟩,h6⟩:=h
   rcases h5 with ⟨rfl,-⟩|⟨g,cap,cur,rfl,-,hgg,-⟩
   ·cases hb
   ·simp only [Value.ownBlock,Option.some.injEq] at hb
    subst hb
    have h7:=hcl 0 (by omega)
    rw [zU hgg] at h7
    have:Value.int .u64 ((l.getD 0 0:Nat):Int) ∈ cur.toList:=by
     obtain ⟨hi,he⟩:=Array.getElem?_eq_some_iff.1 h7
     rw [← he];simp
    exact h6 _ _ _ rfl _ _ _ hgg _ this _ rfl
  rw [← hcl j hj]
  exact World.cell?_of_block (w:=W) (hg.block b hlt hne)
theorem ypG {W W':World} {base:Nat} {e:TypeId} {size:Nat} {v:Value} {n:Nat} {xs:List Value} (h:yfY W base e size v n xs) (hg:W.grownBy W' v.ownBlock) {x:Value} {q:Rat} {K:Nat} (hx:zO W x q K):zO W' x q K:=by
 obtain ⟨s,m,n,⟨u,v,rfl,hu,hv,hs⟩,hr⟩:=hx
 exact ⟨s,m,n,⟨u,v,rfl,yh7 h hg hu,yh7 h hg hv,hs⟩,hr⟩
theorem ykt.below {W W':World} {cs:List Value} {f:FacT} (h:ykt W cs f) (hb:Below W.heap.size W W'):ykt W' cs f:=by
 obtain ⟨b,p,n,c,q,m,d,p0,p1,p2,p3,p4,p5,p6,h1,h2,h3⟩:=h
 exact ⟨b,p,n,c,q,m,d,p0,p1,p2,p3,p4,p5,p6,h1,h2.below hb,h3⟩
theorem FacsIn.below {W W':World} {base:Nat} {v:Value} {css:List (List Value)} {fs:List FacT} (h:FacsIn W base v css fs) (hb:Below W.heap.size W W'):FacsIn W' base v css fs :=
 ⟨h.row.below hb,h.len,fun j h1 h2=>(h.each j h1 h2).below hb⟩
theorem FacsIn.nil (W:World) (base:Nat):FacsIn W base (.slice none 0 0) [] []:=⟨yfY.nil W base 246 11,rfl,fun j h=>by simp at h⟩
theorem FacsIn.more {W W':World} {base:Nat} {v v':Value} {css:List (List Value)} {fs:List FacT} {cs:List Value} {f:FacT} (h:FacsIn W base v css fs) (hc:ykt W cs f) (hr:yfY W' base 246 11 v' (fs.length+1) (css.flatten++cs)) (hg:W.grownBy W' v.ownBlock):FacsIn W' base v' (css++[cs]) (fs++[f]):=by
 have keep:∀ {cs f},ykt W cs f→ykt W' cs f:=by
  rintro cs f ⟨b,p,n,c,q,m,d,p0,p1,p2,p3,p4,p5,p6,h1,h2,h3⟩
  exact ⟨b,p,n,c,q,m,d,p0,p1,p2,p3,p4,p5,p6,h1,ypG h.row hg h2,h3⟩
 refine ⟨?_,by simp [h.len],?_⟩
 ·rw [List.flatten_append,List.length_append]
  simpa using hr
 ·intro j h1 h2
  by_cases hj:j<css.length
  ·have hj':j<fs.length:=by rw [← h.len];exact hj
   rw [List.getElem_append_left hj,List.getElem_append_left hj']
   exact keep (h.each j hj hj')
  ·have e1:j=css.length:=by simp at h1;omega
   subst e1
   have:(fs++[f])[css.length]=f:=by simp [h.len]
   rw [this]
   simp only [List.getElem_concat_length]
   exact keep hc
end
end Go.Proofs.YtgepehlpjpccaaaGreatDoor
