/- The document's two. -/
import Derived.Test.YtigicjakloiliaaGreatDoorRh
namespace Go.Proofs.YtigicjakloiliaaGreatDoor
open Go.RowKit Big
open Go.Lib
theorem Resa.other {B g:Nat} {w0 W:World} (h:Resa B w0 W) (hg:g≠B) (h0:w0.heap.size≤g) (k:Nat) (v:Value):Resa B w0 (W.setCell ⟨g,k,none⟩ v):=by
 refine ⟨by rw [World.size_setCell];exact h.size,h.below.setCell h0 _,?_⟩
 obtain ⟨z0,z1,z2,hz,hn⟩:=h.z
 exact ⟨z0,z1,z2,(Below.heap_setCell _ _ _ _ (fun e=>hg e.symm)).trans hz,hn⟩
theorem QAt.put3 {B:Nat} {w0 W:World} {x:Value} {r:Rat} (hq:QAt W x r) (h:Resa B w0 W) (hB:w0.heap.size≤B) (a:Bool) (p q:Option Addr) (n c m d:Nat):QAt (((W.setCell ⟨B,0,none⟩ (.bool a)).setCell ⟨B,1,none⟩ (.slice p n c)).setCell ⟨B,2,none⟩ (.slice q m d)) x r:=by
 obtain ⟨u,v,rfl,hu,hv⟩:=hq
 exact ⟨u,v,rfl,h.nat3 hB hu a p q n c m d,hv.imp (fun h2=>h.nat3 hB h2 a p q n c m d) fun h2=>⟨h.nat3 hB h2.1 a p q n c m d,h2.2⟩⟩
end Go.Proofs.YtigicjakloiliaaGreatDoor
