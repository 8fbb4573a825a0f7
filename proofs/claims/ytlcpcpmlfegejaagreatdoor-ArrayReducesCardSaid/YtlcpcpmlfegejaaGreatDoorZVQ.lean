/- The document's two. -/
import Derived.Test.YtlcpcpmlfegejaaGreatDoorGB
import Derived.Test.YtlcpcpmlfegejaaGreatDoorZ05
import Derived.Test.YtlcpcpmlfegejaaGreatDoorZRR
import Derived.Test.YtlcpcpmlfegejaaGreatDoorZVF
import Derived.OwnWalk
import Derived.Deep.RegionHeld3
import Derived.Deep.DeepCutAuto
set_option maxHeartbeats 3200000
set_option maxRecDepth 100000
namespace Go.Proofs.YtlcpcpmlfegejaaGreatDoor
open Go.RowKit Big
open Go.Lib
theorem Resa.other {B g:Nat} {w0 W:World} (h:Resa B w0 W) (hg:g≠B) (h0:w0.heap.size≤g) (k:Nat) (v:Value):Resa B w0 (W.setCell ⟨g,k,none⟩ v):=by
 refine ⟨by rw [World.size_setCell];exact h.size,h.below.setCell h0 _,?_⟩
 obtain ⟨z0,z1,z2,hz,hn⟩:=h.z
 exact ⟨z0,z1,z2,(Below.heap_setCell _ _ _ _ (fun e=>hg e.symm)).trans hz,hn⟩
def TwoPost (a b:Rat) (f:Bool) (w:World) (e:Ending) (w':World):Prop:=∃ b1 p n c p2 n2 c2 b2 q m d q2 m2 d2,e=.returned (.tuple #[.agg #[.bool b1,.slice p n c,.slice p2 n2 c2],.agg #[.bool b2,.slice q m d,.slice q2 m2 d2],.bool f])∧Below w.heap.size w w' ∧
 (f=true→QAt w' (.agg #[.bool b1,.slice p n c,.slice p2 n2 c2]) a∧QAt w' (.agg #[.bool b2,.slice q m d,.slice q2 m2 d2]) b)
theorem two_true_true (s t:ByteArray) (a b:Rat) (w:World) (h1:∀ W,Hid (Calls Tryz.prog 112 #[.string s] W (FlagPost a true W))) (h2:∀ W,Hid (Calls Tryz.prog 112 #[.string t] W (FlagPost b true W))) :
  Calls Tryz.prog 86 #[.string s,.string t] w (TwoPost a b true w):=by
 have hr1:=(Resa.start w).next (below_alloc9 _ (.cells #[.bool false,.slice none 0 0,.slice none 0 0] 100))
 have hr2:Resa (w.heap.size+1) w ((w.alloc (.cells #[.bool false,.slice none 0 0,.slice none 0 0] 100)).alloc (.cells #[.bool false,.slice none 0 0,.slice none 0 0] 100)) :=
  ⟨by simp,hr1.below,.bool false,.slice none 0 0,.slice none 0 0,by rw [show w.heap.size+1=(w.alloc (.cells #[.bool false,.slice none 0 0,.slice none 0 0] 100)).heap.size from by simp];exact heap_new _ _,noInt_bool _,noInt_slice _ _ _,noInt_slice _ _ _⟩
 have Hr1:=hiD hr1
 have Hr2:=hiD hr2
 clear hr1 hr2
 go_enter Tryz.func86,Tryz.ntmps86
 go_wp2_with fail
 refine (h1 _).out.mono ?_
 rintro e w1 ⟨b1,p,n,c,p2,n2,c2,rfl,hb1,hq1⟩
 have hR1:=hiD ((Hr1.out.next hb1).next (below_alloc9 w1 (.cells #[.bool b1,.slice p n c,.slice p2 n2 c2] 100)))
 have hR2:=hiD ((Hr2.out.next hb1).next (below_alloc9 w1 (.cells #[.bool b1,.slice p n c,.slice p2 n2 c2] 100)))
 have hQ1:=hiD (fun h=>(hq1 h).below (below_alloc9 w1 (.cells #[.bool b1,.slice p n c,.slice p2 n2 c2] 100)))
 have hB7:Hid ((w1.alloc (.cells #[.bool b1,.slice p n c,.slice p2 n2 c2] 100)).heap[w1.heap.size]?=some (.cells #[.bool b1,.slice p n c,.slice p2 n2 c2] 100 (0,0))):=hiD (heap_new _ _)
 have hlt1:Hid (w.heap.size+1<w1.heap.size):=hiD (by have:=hb1.size;simp at this;omega)
 clear hb1 hq1
 go_wp2_with fail
 refine (h2 _).out.mono ?_
 rintro e w2 ⟨b2,q,m,d,q2,m2,d2,rfl,hb2,hq2⟩
 have hS1:=hiD ((hR1.out.next hb2).next (below_alloc9 w2 (.cells #[.bool b2,.slice q m d,.slice q2 m2 d2] 100)))
 have hS2:=hiD ((hR2.out.next hb2).next (below_alloc9 w2 (.cells #[.bool b2,.slice q m d,.slice q2 m2 d2] 100)))
 have hT1:=hiD (fun h=>((hQ1.out h).below hb2).below (below_alloc9 w2 (.cells #[.bool b2,.slice q m d,.slice q2 m2 d2] 100)))
 have hT2:=hiD (fun h=>(hq2 h).below (below_alloc9 w2 (.cells #[.bool b2,.slice q m d,.slice q2 m2 d2] 100)))
 have h7:(w2.alloc (.cells #[.bool b2,.slice q m d,.slice q2 m2 d2] 100)).heap[w1.heap.size]?=some (.cells #[.bool b1,.slice p n c,.slice p2 n2 c2] 100 (0,0)):=by
  rw [heap_old _ _ _ (by have:=hb2.size;simp at this;omega),hb2.block _ (by simp)];exact hB7.out
 have h9:(w2.alloc (.cells #[.bool b2,.slice q m d,.slice q2 m2 d2] 100)).heap[w2.heap.size]?=some (.cells #[.bool b2,.slice q m d,.slice q2 m2 d2] 100 (0,0)):=heap_new _ _
 have x70:=ceh h7 0
 have x71:=ceh h7 1
 have x72:=ceh h7 2
 obtain ⟨y0,y1,y2,l0,l1,l2,f0,f1,f2⟩:=hS1.out.slots
 obtain ⟨z0,z1,z2,k0,k1,k2,g0,g1,g2⟩:=hS2.out.slots
 have x90:=ceh h9 0
 have x91:=ceh h9 1
 have x92:=ceh h9 2
 have hs1:w.heap.size+1<w1.heap.size:=hlt1.out
 have hs2:w1.heap.size<w2.heap.size:=by have:=hb2.size;simp at this;omega
 have n1:w2.heap.size≠w.heap.size:=by omega
 have n2':w.heap.size≠w2.heap.size:=by omega
 have n3:w2.heap.size≠w.heap.size+1:=by omega
 have n4:w.heap.size+1≠w2.heap.size:=by omega
 have n5:w1.heap.size≠w.heap.size:=by omega
 have n6:w.heap.size≠w1.heap.size:=by omega
 have n7:w1.heap.size≠w.heap.size+1:=by omega
 have n8:w.heap.size+1≠w1.heap.size:=by omega
 clear h7 h9 hb2 hq2
 go_wp2_with fail
 have hA:=hiD (hS1.out.put3 (Nat.le_refl _) b1 p p2 n c n2 c2)
 have hB:=hiD (((hS2.out.other (by omega) (Nat.le_refl _) 0 (.bool b1)).other (by omega) (Nat.le_refl _) 1 (.slice p n c)).other (by omega) (Nat.le_refl _) 2 (.slice p2 n2 c2))
 have hQ:Hid (TwoPost a b true w (.returned (.tuple #[.agg #[.bool b1,.slice p n c,.slice p2 n2 c2],.agg #[.bool b2,.slice q m d,.slice q2 m2 d2],.bool true])) ((((((((w2.alloc (.cells #[.bool b2,.slice q m d,.slice q2 m2 d2] 100)).setCell ⟨w.heap.size,0,none⟩ (.bool b1)).setCell ⟨w.heap.size,1,none⟩ (.slice p n c)).setCell ⟨w.heap.size,2,none⟩ (.slice p2 n2 c2)).setCell ⟨w.heap.size+1,0,none⟩ (.bool b2)).setCell ⟨w.heap.size+1,1,none⟩ (.slice q m d)).setCell ⟨w.heap.size+1,2,none⟩ (.slice q2 m2 d2)).drew)):=hiD (by
  refine ⟨_,_,_,_,_,_,_,_,_,_,_,_,_,_,rfl,((hB.out.put3 (by omega) b2 q q2 m d m2 d2).below).drew,?_⟩
  exact fun _=>⟨((hT1.out (by trivial)).put3 hS1.out (Nat.le_refl _) b1 p p2 n c n2 c2).put3 hB.out (by omega) b2 q q2 m d m2 d2 |>.below (Below.refl _ _).drew,((hT2.out (by trivial)).put3 hS1.out (Nat.le_refl _) b1 p p2 n c n2 c2).put3 hB.out (by omega) b2 q q2 m d m2 d2 |>.below (Below.refl _ _).drew⟩)
 go_region
 go_wp2_with fail
 refine bodyPost_ret (v:=.tuple #[.agg #[.bool b1,.slice p n c,.slice p2 n2 c2],.agg #[.bool b2,.slice q m d,.slice q2 m2 d2],.bool true]) ?h1 rfl ?h2
 case h1=>simp [results,Tryz.results86,go_sem,l0,l1,l2,k0,k1,k2]
 exact hQ.out
theorem two_true_false (s t:ByteArray) (a b:Rat) (w:World) (h1:∀ W,Hid (Calls Tryz.prog 112 #[.string s] W (FlagPost a true W))) (h2:∀ W,Hid (Calls Tryz.prog 112 #[.string t] W (FlagPost b false W))) :
  Calls Tryz.prog 86 #[.string s,.string t] w (TwoPost a b false w):=by
 have hr1:=(Resa.start w).next (below_alloc9 _ (.cells #[.bool false,.slice none 0 0,.slice none 0 0] 100))
 have hr2:Resa (w.heap.size+1) w ((w.alloc (.cells #[.bool false,.slice none 0 0,.slice none 0 0] 100)).alloc (.cells #[.bool false,.slice none 0 0,.slice none 0 0] 100)) :=
  ⟨by simp,hr1.below,.bool false,.slice none 0 0,.slice none 0 0,by rw [show w.heap.size+1=(w.alloc (.cells #[.bool false,.slice none 0 0,.slice none 0 0] 100)).heap.size from by simp];exact heap_new _ _,noInt_bool _,noInt_slice _ _ _,noInt_slice _ _ _⟩
 have Hr1:=hiD hr1
 have Hr2:=hiD hr2
 clear hr1 hr2
 go_enter Tryz.func86,Tryz.ntmps86
 go_wp2_with fail
 refine (h1 _).out.mono ?_
 rintro e w1 ⟨b1,p,n,c,p2,n2,c2,rfl,hb1,hq1⟩
 have hR1:=hiD ((Hr1.out.next hb1).next (below_alloc9 w1 (.cells #[.bool b1,.slice p n c,.slice p2 n2 c2] 100)))
 have hR2:=hiD ((Hr2.out.next hb1).next (below_alloc9 w1 (.cells #[.bool b1,.slice p n c,.slice p2 n2 c2] 100)))
 have hQ1:=hiD (fun h=>(hq1 h).below (below_alloc9 w1 (.cells #[.bool b1,.slice p n c,.slice p2 n2 c2] 100)))
 have hB7:Hid ((w1.alloc (.cells #[.bool b1,.slice p n c,.slice p2 n2 c2] 100)).heap[w1.heap.size]?=some (.cells #[.bool b1,.slice p n c,.slice p2 n2 c2] 100 (0,0))):=hiD (heap_new _ _)
 have hlt1:Hid (w.heap.size+1<w1.heap.size):=hiD (by have:=hb1.size;simp at this;omega)
 clear hb1 hq1
 go_wp2_with fail
 refine (h2 _).out.mono ?_
 rintro e w2 ⟨b2,q,m,d,q2,m2,d2,rfl,hb2,hq2⟩
 have hS1:=hiD ((hR1.out.next hb2).next (below_alloc9 w2 (.cells #[.bool b2,.slice q m d,.slice q2 m2 d2] 100)))
 have hS2:=hiD ((hR2.out.next hb2).next (below_alloc9 w2 (.cells #[.bool b2,.slice q m d,.slice q2 m2 d2] 100)))
 have hT1:=hiD (fun h=>((hQ1.out h).below hb2).below (below_alloc9 w2 (.cells #[.bool b2,.slice q m d,.slice q2 m2 d2] 100)))
 have hT2:=hiD (fun h=>(hq2 h).below (below_alloc9 w2 (.cells #[.bool b2,.slice q m d,.slice q2 m2 d2] 100)))
 have h7:(w2.alloc (.cells #[.bool b2,.slice q m d,.slice q2 m2 d2] 100)).heap[w1.heap.size]?=some (.cells #[.bool b1,.slice p n c,.slice p2 n2 c2] 100 (0,0)):=by
  rw [heap_old _ _ _ (by have:=hb2.size;simp at this;omega),hb2.block _ (by simp)];exact hB7.out
 have h9:(w2.alloc (.cells #[.bool b2,.slice q m d,.slice q2 m2 d2] 100)).heap[w2.heap.size]?=some (.cells #[.bool b2,.slice q m d,.slice q2 m2 d2] 100 (0,0)):=heap_new _ _
 have x70:=ceh h7 0
 have x71:=ceh h7 1
 have x72:=ceh h7 2
 obtain ⟨y0,y1,y2,l0,l1,l2,f0,f1,f2⟩:=hS1.out.slots
 obtain ⟨z0,z1,z2,k0,k1,k2,g0,g1,g2⟩:=hS2.out.slots
 have x90:=ceh h9 0
 have x91:=ceh h9 1
 have x92:=ceh h9 2
 have hs1:w.heap.size+1<w1.heap.size:=hlt1.out
 have hs2:w1.heap.size<w2.heap.size:=by have:=hb2.size;simp at this;omega
 have n1:w2.heap.size≠w.heap.size:=by omega
 have n2':w.heap.size≠w2.heap.size:=by omega
 have n3:w2.heap.size≠w.heap.size+1:=by omega
 have n4:w.heap.size+1≠w2.heap.size:=by omega
 have n5:w1.heap.size≠w.heap.size:=by omega
 have n6:w.heap.size≠w1.heap.size:=by omega
 have n7:w1.heap.size≠w.heap.size+1:=by omega
 have n8:w.heap.size+1≠w1.heap.size:=by omega
 clear h7 h9 hb2 hq2
 go_wp2_with fail
 have hA:=hiD (hS1.out.put3 (Nat.le_refl _) b1 p p2 n c n2 c2)
 have hB:=hiD (((hS2.out.other (by omega) (Nat.le_refl _) 0 (.bool b1)).other (by omega) (Nat.le_refl _) 1 (.slice p n c)).other (by omega) (Nat.le_refl _) 2 (.slice p2 n2 c2))
 have hQ:Hid (TwoPost a b false w (.returned (.tuple #[.agg #[.bool b1,.slice p n c,.slice p2 n2 c2],.agg #[.bool b2,.slice q m d,.slice q2 m2 d2],.bool false])) ((((((((w2.alloc (.cells #[.bool b2,.slice q m d,.slice q2 m2 d2] 100)).setCell ⟨w.heap.size,0,none⟩ (.bool b1)).setCell ⟨w.heap.size,1,none⟩ (.slice p n c)).setCell ⟨w.heap.size,2,none⟩ (.slice p2 n2 c2)).setCell ⟨w.heap.size+1,0,none⟩ (.bool b2)).setCell ⟨w.heap.size+1,1,none⟩ (.slice q m d)).setCell ⟨w.heap.size+1,2,none⟩ (.slice q2 m2 d2)).drew)):=hiD (by
  refine ⟨_,_,_,_,_,_,_,_,_,_,_,_,_,_,rfl,((hB.out.put3 (by omega) b2 q q2 m d m2 d2).below).drew,?_⟩
  exact fun h=>by cases h)
 go_region
 go_wp2_with fail
 refine bodyPost_ret (v:=.tuple #[.agg #[.bool b1,.slice p n c,.slice p2 n2 c2],.agg #[.bool b2,.slice q m d,.slice q2 m2 d2],.bool false]) ?h1 rfl ?h2
 case h1=>simp [results,Tryz.results86,go_sem,l0,l1,l2,k0,k1,k2]
 exact hQ.out
theorem two_false_true (s t:ByteArray) (a b:Rat) (w:World) (h1:∀ W,Hid (Calls Tryz.prog 112 #[.string s] W (FlagPost a false W))) (h2:∀ W,Hid (Calls Tryz.prog 112 #[.string t] W (FlagPost b true W))) :
  Calls Tryz.prog 86 #[.string s,.string t] w (TwoPost a b false w):=by
 have hr1:=(Resa.start w).next (below_alloc9 _ (.cells #[.bool false,.slice none 0 0,.slice none 0 0] 100))
 have hr2:Resa (w.heap.size+1) w ((w.alloc (.cells #[.bool false,.slice none 0 0,.slice none 0 0] 100)).alloc (.cells #[.bool false,.slice none 0 0,.slice none 0 0] 100)) :=
  ⟨by simp,hr1.below,.bool false,.slice none 0 0,.slice none 0 0,by rw [show w.heap.size+1=(w.alloc (.cells #[.bool false,.slice none 0 0,.slice none 0 0] 100)).heap.size from by simp];exact heap_new _ _,noInt_bool _,noInt_slice _ _ _,noInt_slice _ _ _⟩
 have Hr1:=hiD hr1
 have Hr2:=hiD hr2
 clear hr1 hr2
 go_enter Tryz.func86,Tryz.ntmps86
 go_wp2_with fail
 refine (h1 _).out.mono ?_
 rintro e w1 ⟨b1,p,n,c,p2,n2,c2,rfl,hb1,hq1⟩
 have hR1:=hiD ((Hr1.out.next hb1).next (below_alloc9 w1 (.cells #[.bool b1,.slice p n c,.slice p2 n2 c2] 100)))
 have hR2:=hiD ((Hr2.out.next hb1).next (below_alloc9 w1 (.cells #[.bool b1,.slice p n c,.slice p2 n2 c2] 100)))
 have hQ1:=hiD (fun h=>(hq1 h).below (below_alloc9 w1 (.cells #[.bool b1,.slice p n c,.slice p2 n2 c2] 100)))
 have hB7:Hid ((w1.alloc (.cells #[.bool b1,.slice p n c,.slice p2 n2 c2] 100)).heap[w1.heap.size]?=some (.cells #[.bool b1,.slice p n c,.slice p2 n2 c2] 100 (0,0))):=hiD (heap_new _ _)
 have hlt1:Hid (w.heap.size+1<w1.heap.size):=hiD (by have:=hb1.size;simp at this;omega)
 clear hb1 hq1
 go_wp2_with fail
 refine (h2 _).out.mono ?_
 rintro e w2 ⟨b2,q,m,d,q2,m2,d2,rfl,hb2,hq2⟩
 have hS1:=hiD ((hR1.out.next hb2).next (below_alloc9 w2 (.cells #[.bool b2,.slice q m d,.slice q2 m2 d2] 100)))
 have hS2:=hiD ((hR2.out.next hb2).next (below_alloc9 w2 (.cells #[.bool b2,.slice q m d,.slice q2 m2 d2] 100)))
 have hT1:=hiD (fun h=>((hQ1.out h).below hb2).below (below_alloc9 w2 (.cells #[.bool b2,.slice q m d,.slice q2 m2 d2] 100)))
 have hT2:=hiD (fun h=>(hq2 h).below (below_alloc9 w2 (.cells #[.bool b2,.slice q m d,.slice q2 m2 d2] 100)))
 have h7:(w2.alloc (.cells #[.bool b2,.slice q m d,.slice q2 m2 d2] 100)).heap[w1.heap.size]?=some (.cells #[.bool b1,.slice p n c,.slice p2 n2 c2] 100 (0,0)):=by
  rw [heap_old _ _ _ (by have:=hb2.size;simp at this;omega),hb2.block _ (by simp)];exact hB7.out
 have h9:(w2.alloc (.cells #[.bool b2,.slice q m d,.slice q2 m2 d2] 100)).heap[w2.heap.size]?=some (.cells #[.bool b2,.slice q m d,.slice q2 m2 d2] 100 (0,0)):=heap_new _ _
 have x70:=ceh h7 0
 have x71:=ceh h7 1
 have x72:=ceh h7 2
 obtain ⟨y0,y1,y2,l0,l1,l2,f0,f1,f2⟩:=hS1.out.slots
 obtain ⟨z0,z1,z2,k0,k1,k2,g0,g1,g2⟩:=hS2.out.slots
 have x90:=ceh h9 0
 have x91:=ceh h9 1
 have x92:=ceh h9 2
 have hs1:w.heap.size+1<w1.heap.size:=hlt1.out
 have hs2:w1.heap.size<w2.heap.size:=by have:=hb2.size;simp at this;omega
 have n1:w2.heap.size≠w.heap.size:=by omega
 have n2':w.heap.size≠w2.heap.size:=by omega
 have n3:w2.heap.size≠w.heap.size+1:=by omega
 have n4:w.heap.size+1≠w2.heap.size:=by omega
 have n5:w1.heap.size≠w.heap.size:=by omega
 have n6:w.heap.size≠w1.heap.size:=by omega
 have n7:w1.heap.size≠w.heap.size+1:=by omega
 have n8:w.heap.size+1≠w1.heap.size:=by omega
 clear h7 h9 hb2 hq2
 go_wp2_with fail
 have hA:=hiD (hS1.out.put3 (Nat.le_refl _) b1 p p2 n c n2 c2)
 have hB:=hiD (((hS2.out.other (by omega) (Nat.le_refl _) 0 (.bool b1)).other (by omega) (Nat.le_refl _) 1 (.slice p n c)).other (by omega) (Nat.le_refl _) 2 (.slice p2 n2 c2))
 have hQ:Hid (TwoPost a b false w (.returned (.tuple #[.agg #[.bool b1,.slice p n c,.slice p2 n2 c2],.agg #[.bool b2,.slice q m d,.slice q2 m2 d2],.bool false])) ((((((((w2.alloc (.cells #[.bool b2,.slice q m d,.slice q2 m2 d2] 100)).setCell ⟨w.heap.size,0,none⟩ (.bool b1)).setCell ⟨w.heap.size,1,none⟩ (.slice p n c)).setCell ⟨w.heap.size,2,none⟩ (.slice p2 n2 c2)).setCell ⟨w.heap.size+1,0,none⟩ (.bool b2)).setCell ⟨w.heap.size+1,1,none⟩ (.slice q m d)).setCell ⟨w.heap.size+1,2,none⟩ (.slice q2 m2 d2)).drew)):=hiD (by
  refine ⟨_,_,_,_,_,_,_,_,_,_,_,_,_,_,rfl,((hB.out.put3 (by omega) b2 q q2 m d m2 d2).below).drew,?_⟩
  exact fun h=>by cases h)
 go_region
 go_wp2_with fail
 refine bodyPost_ret (v:=.tuple #[.agg #[.bool b1,.slice p n c,.slice p2 n2 c2],.agg #[.bool b2,.slice q m d,.slice q2 m2 d2],.bool false]) ?h1 rfl ?h2
 case h1=>simp [results,Tryz.results86,go_sem,l0,l1,l2,k0,k1,k2]
 exact hQ.out
theorem two_false_false (s t:ByteArray) (a b:Rat) (w:World) (h1:∀ W,Hid (Calls Tryz.prog 112 #[.string s] W (FlagPost a false W))) (h2:∀ W,Hid (Calls Tryz.prog 112 #[.string t] W (FlagPost b false W))) :
  Calls Tryz.prog 86 #[.string s,.string t] w (TwoPost a b false w):=by
 have hr1:=(Resa.start w).next (below_alloc9 _ (.cells #[.bool false,.slice none 0 0,.slice none 0 0] 100))
 have hr2:Resa (w.heap.size+1) w ((w.alloc (.cells #[.bool false,.slice none 0 0,.slice none 0 0] 100)).alloc (.cells #[.bool false,.slice none 0 0,.slice none 0 0] 100)) :=
  ⟨by simp,hr1.below,.bool false,.slice none 0 0,.slice none 0 0,by rw [show w.heap.size+1=(w.alloc (.cells #[.bool false,.slice none 0 0,.slice none 0 0] 100)).heap.size from by simp];exact heap_new _ _,noInt_bool _,noInt_slice _ _ _,noInt_slice _ _ _⟩
 have Hr1:=hiD hr1
 have Hr2:=hiD hr2
 clear hr1 hr2
 go_enter Tryz.func86,Tryz.ntmps86
 go_wp2_with fail
 refine (h1 _).out.mono ?_
 rintro e w1 ⟨b1,p,n,c,p2,n2,c2,rfl,hb1,hq1⟩
 have hR1:=hiD ((Hr1.out.next hb1).next (below_alloc9 w1 (.cells #[.bool b1,.slice p n c,.slice p2 n2 c2] 100)))
 have hR2:=hiD ((Hr2.out.next hb1).next (below_alloc9 w1 (.cells #[.bool b1,.slice p n c,.slice p2 n2 c2] 100)))
 have hQ1:=hiD (fun h=>(hq1 h).below (below_alloc9 w1 (.cells #[.bool b1,.slice p n c,.slice p2 n2 c2] 100)))
 have hB7:Hid ((w1.alloc (.cells #[.bool b1,.slice p n c,.slice p2 n2 c2] 100)).heap[w1.heap.size]?=some (.cells #[.bool b1,.slice p n c,.slice p2 n2 c2] 100 (0,0))):=hiD (heap_new _ _)
 have hlt1:Hid (w.heap.size+1<w1.heap.size):=hiD (by have:=hb1.size;simp at this;omega)
 clear hb1 hq1
 go_wp2_with fail
 refine (h2 _).out.mono ?_
 rintro e w2 ⟨b2,q,m,d,q2,m2,d2,rfl,hb2,hq2⟩
 have hS1:=hiD ((hR1.out.next hb2).next (below_alloc9 w2 (.cells #[.bool b2,.slice q m d,.slice q2 m2 d2] 100)))
 have hS2:=hiD ((hR2.out.next hb2).next (below_alloc9 w2 (.cells #[.bool b2,.slice q m d,.slice q2 m2 d2] 100)))
 have hT1:=hiD (fun h=>((hQ1.out h).below hb2).below (below_alloc9 w2 (.cells #[.bool b2,.slice q m d,.slice q2 m2 d2] 100)))
 have hT2:=hiD (fun h=>(hq2 h).below (below_alloc9 w2 (.cells #[.bool b2,.slice q m d,.slice q2 m2 d2] 100)))
 have h7:(w2.alloc (.cells #[.bool b2,.slice q m d,.slice q2 m2 d2] 100)).heap[w1.heap.size]?=some (.cells #[.bool b1,.slice p n c,.slice p2 n2 c2] 100 (0,0)):=by
  rw [heap_old _ _ _ (by have:=hb2.size;simp at this;omega),hb2.block _ (by simp)];exact hB7.out
 have h9:(w2.alloc (.cells #[.bool b2,.slice q m d,.slice q2 m2 d2] 100)).heap[w2.heap.size]?=some (.cells #[.bool b2,.slice q m d,.slice q2 m2 d2] 100 (0,0)):=heap_new _ _
 have x70:=ceh h7 0
 have x71:=ceh h7 1
 have x72:=ceh h7 2
 obtain ⟨y0,y1,y2,l0,l1,l2,f0,f1,f2⟩:=hS1.out.slots
 obtain ⟨z0,z1,z2,k0,k1,k2,g0,g1,g2⟩:=hS2.out.slots
 have x90:=ceh h9 0
 have x91:=ceh h9 1
 have x92:=ceh h9 2
 have hs1:w.heap.size+1<w1.heap.size:=hlt1.out
 have hs2:w1.heap.size<w2.heap.size:=by have:=hb2.size;simp at this;omega
 have n1:w2.heap.size≠w.heap.size:=by omega
 have n2':w.heap.size≠w2.heap.size:=by omega
 have n3:w2.heap.size≠w.heap.size+1:=by omega
 have n4:w.heap.size+1≠w2.heap.size:=by omega
 have n5:w1.heap.size≠w.heap.size:=by omega
 have n6:w.heap.size≠w1.heap.size:=by omega
 have n7:w1.heap.size≠w.heap.size+1:=by omega
 have n8:w.heap.size+1≠w1.heap.size:=by omega
 clear h7 h9 hb2 hq2
 go_wp2_with fail
 have hA:=hiD (hS1.out.put3 (Nat.le_refl _) b1 p p2 n c n2 c2)
 have hB:=hiD (((hS2.out.other (by omega) (Nat.le_refl _) 0 (.bool b1)).other (by omega) (Nat.le_refl _) 1 (.slice p n c)).other (by omega) (Nat.le_refl _) 2 (.slice p2 n2 c2))
 have hQ:Hid (TwoPost a b false w (.returned (.tuple #[.agg #[.bool b1,.slice p n c,.slice p2 n2 c2],.agg #[.bool b2,.slice q m d,.slice q2 m2 d2],.bool false])) ((((((((w2.alloc (.cells #[.bool b2,.slice q m d,.slice q2 m2 d2] 100)).setCell ⟨w.heap.size,0,none⟩ (.bool b1)).setCell ⟨w.heap.size,1,none⟩ (.slice p n c)).setCell ⟨w.heap.size,2,none⟩ (.slice p2 n2 c2)).setCell ⟨w.heap.size+1,0,none⟩ (.bool b2)).setCell ⟨w.heap.size+1,1,none⟩ (.slice q m d)).setCell ⟨w.heap.size+1,2,none⟩ (.slice q2 m2 d2)).drew)):=hiD (by
  refine ⟨_,_,_,_,_,_,_,_,_,_,_,_,_,_,rfl,((hB.out.put3 (by omega) b2 q q2 m d m2 d2).below).drew,?_⟩
  exact fun h=>by cases h)
 go_region
 go_wp2_with fail
 refine bodyPost_ret (v:=.tuple #[.agg #[.bool b1,.slice p n c,.slice p2 n2 c2],.agg #[.bool b2,.slice q m d,.slice q2 m2 d2],.bool false]) ?h1 rfl ?h2
 case h1=>simp [results,Tryz.results86,go_sem,l0,l1,l2,k0,k1,k2]
 exact hQ.out
end Go.Proofs.YtlcpcpmlfegejaaGreatDoor
namespace Go.Proofs.YtlcpcpmlfegejaaGreatDoor
open Go.RowKit Big
open Go.Lib
theorem two_any (s t:ByteArray) (w:World):Calls Tryz.prog 86 #[.string s,.string t] w fun e w'=>match num s.data.toList,num t.data.toList with
  | some a,some b=>TwoPost a b true w e w'
  | _,_=>∃ a b,TwoPost a b false w e w':=by
 have gs:=fun W=>get_any s W
 have gt:=fun W=>get_any t W
 have rd:∀ (x:ByteArray) (W:World) (q:Rat),(∀ W,Calls Tryz.prog 112 #[.string x] W (GetPost none W))→Calls Tryz.prog 112 #[.string x] W (FlagPost q false W):=fun x W q h=>(h W).mono fun e w' ⟨q',b,p,n,c,p2,n2,c2,h1,h2,_⟩=>⟨b,p,n,c,p2,n2,c2,h1,h2,fun h=>by cases h⟩
 cases ha:num s.data.toList with
 | none =>
  rw [ha] at gs
  cases hb:num t.data.toList with
  | none=>rw [hb] at gt;exact (two_false_false s t 0 0 w (fun W=>hiD (rd s W 0 gs)) (fun W=>hiD (rd t W 0 gt))).mono fun e w' h=>⟨_,_,h⟩
  | some b=>rw [hb] at gt;exact (two_false_true s t 0 b w (fun W=>hiD (rd s W 0 gs)) (fun W=>hiD (gt W))).mono fun e w' h=>⟨_,_,h⟩
 | some a =>
  rw [ha] at gs
  cases hb:num t.data.toList with
  | none=>rw [hb] at gt;exact (two_true_false s t a 0 w (fun W=>hiD (gs W)) (fun W=>hiD (rd t W 0 gt))).mono fun e w' h=>⟨_,_,h⟩
  | some b=>rw [hb] at gt;exact two_true_true s t a b w (fun W=>hiD (gs W)) (fun W=>hiD (gt W))
theorem num_lt9 {l:List UInt8} {q:Rat} (h:num l=some q):QLt 5 q:=by
 have hs:=num_short h
 unfold short at hs
 have hb:∀ n:Nat,nDigits n≤40→n<B9^5:=by
  intro n hn
  have h1:=dval_lt (decDigits n) (dec_all n).1
  rw [(dec_all n).2,decDigits_length] at h1
  rw [B9_pow]
  exact Nat.lt_of_lt_of_le h1 (Nat.pow_le_pow_right (by omega) (by omega))
 exact ⟨hb _ hs.1,hb _ hs.2⟩
theorem QLt.quo {K L:Nat} {a b:Rat} (ha:QLt K a) (hb:QLt L b):QLt (K+L) (a/b):=by
 by_cases h:b.num.natAbs=0
 ·have hb0:b=0:=Rat.num_eq_zero.1 (by omega)
  have e:a/b=0:=by rw [hb0];grind
  rw [e]
  exact ⟨Nat.pow_pos B9_pos,Nat.one_lt_pow (by
                         have:=ha.2;have:=a.den_pos;intro h0;have hK:K=0:=by omega
                         subst hK;rw [Nat.pow_zero] at *;omega) (by rw [B9_eq];omega)⟩
 ·exact lt_of_ratv (quot_parts a b) (pow9_mul ha.1 hb.2) (pow9_mul ha.2 hb.1) (Nat.mul_pos a.den_pos (by omega))
end Go.Proofs.YtlcpcpmlfegejaaGreatDoor
set_option maxHeartbeats 3200000
set_option maxRecDepth 100000
namespace Go.Proofs.YtlcpcpmlfegejaaGreatDoor
open Go.RowKit Big
open Go.Lib
theorem sgn_same (q:Rat):sgnQ q=sgnR q:=by
 unfold sgnQ sgnR
 have h1:q.num<0↔q<0:=by rw [← Rat.not_le,← Rat.num_nonneg];omega
 have h2:q.num=0↔q=0:=Rat.num_eq_zero
 simp only [h1,h2]
theorem rcmp_no (s t:ByteArray) (a b:Rat) (w:World) (htwo:∀ W,Hid (Calls Tryz.prog 86 #[.string s,.string t] W (TwoPost a b false W))):Calls Tryz.prog 76 #[.string s,.string t] w (CmpTPost (0,false) w):=by
 go_enter Tryz.func76,Tryz.ntmps76
 go_wp2_with fail
 refine (htwo _).out.mono ?_
 rintro e w1 ⟨b1,p,n,c,p2,n2,c2,b2,q,m,d,q2,m2,d2,rfl,hb1,-⟩
 have HB:Hid (∀ o1 o2,Below w.heap.size w ((w1.alloc o1).alloc o2)):=hiD fun o1 o2=>(hb1.alloc hb1.size o1).alloc (by have:=hb1.size;simp;omega) o2
 clear hb1
 go_wp2_with fail
 go_ret2
 exact ⟨rfl,HB.out _ _⟩
theorem rcmp_yes (s t:ByteArray) (a b:Rat) (z:Int) (w:World) (hz0:sgnQ (a-b)=z) (hab:QLt 5 a) (hbb:QLt 5 b) (htwo:∀ W,Hid (Calls Tryz.prog 86 #[.string s,.string t] W (TwoPost a b true W))):Calls Tryz.prog 76 #[.string s,.string t] w (CmpTPost (z,true) w):=by
 have hop:∀ W x y,QAt W x a→QAt W y b→Hid (Calls Tryz.prog 119 #[x,y] W fun e w'=>e=.returned (.int .i64 z)∧Below W.heap.size W w'):=fun W x y hx hy=>hiD (by have h:=cmp_any x y a b 5 5 W (by omega) hab hbb hx hy;rw [hz0] at h;exact h)
 clear hab hbb hz0
 go_enter Tryz.func76,Tryz.ntmps76
 go_wp2_with fail
 refine (htwo _).out.mono ?_
 rintro e w1 ⟨b1,p,n,c,p2,n2,c2,b2,q,m,d,q2,m2,d2,rfl,hb1,hq⟩
 obtain ⟨hx,hz⟩:=hq rfl
 have HB:Hid (∀ o1 o2,Below w.heap.size w ((w1.alloc o1).alloc o2)):=hiD fun o1 o2=>(hb1.alloc hb1.size o1).alloc (by have:=hb1.size;simp;omega) o2
 have HX:Hid (∀ o1 o2,QAt ((w1.alloc o1).alloc o2) (.agg #[.bool b1,.slice p n c,.slice p2 n2 c2]) a∧QAt ((w1.alloc o1).alloc o2) (.agg #[.bool b2,.slice q m d,.slice q2 m2 d2]) b):=hiD fun o1 o2=>⟨(hx.below (below_alloc9 _ _)).below (below_alloc9 _ _),(hz.below (below_alloc9 _ _)).below (below_alloc9 _ _)⟩
 clear hb1 hq hx hz
 go_wp2_with fail
 refine (hop _ _ _ (HX.out _ _).1 (HX.out _ _).2).out.mono ?_
 rintro e w3 ⟨rfl,hb3⟩
 have Hb3:=hiD ((HB.out _ _).trans (hb3.mono (HB.out _ _).size))
 clear hb3
 go_wp2_with fail
 go_ret2
 exact ⟨rfl,Hb3.out⟩
theorem two_yes {s t:ByteArray} {a b:Rat} (ha:num s.data.toList=some a) (hb:num t.data.toList=some b) (W:World):Hid (Calls Tryz.prog 86 #[.string s,.string t] W (TwoPost a b true W)):=hiD (by
 have h:=two_any s t W
 rw [ha,hb] at h;exact h)
theorem two_not {s t:ByteArray} (hn:num s.data.toList=none∨num t.data.toList=none) (W:World):Hid (Calls Tryz.prog 86 #[.string s,.string t] W (TwoPost 0 0 false W)):=hiD (by
 have h:=two_any s t W
 have k:∀ e w',(∃ a b,TwoPost a b false W e w')→TwoPost 0 0 false W e w':=by
  rintro e w' ⟨a,b,b1,p,n,c,p2,n2,c2,b2,q,m,d,q2,m2,d2,h1,h2,_⟩
  exact ⟨b1,p,n,c,p2,n2,c2,b2,q,m,d,q2,m2,d2,h1,h2,fun h=>by cases h⟩
 refine h.mono fun e w' h=>?_
 rcases hn with h1|h1
 ·rw [h1] at h;exact k _ _ h
 ·rw [h1] at h
  cases h2:num s.data.toList with
  | none=>rw [h2] at h;exact k _ _ h
  | some a=>rw [h2] at h;exact k _ _ h)
theorem num_both (x y:List UInt8):(∃ a b,num x=some a∧num y=some b)∨(num x=none∨num y=none):=by
 cases hx:num x with
 | none=>exact .inr (.inl rfl)
 | some a=>cases hy:num y with
  | none=>exact .inr (.inr rfl)
  | some b=>exact .inl ⟨a,b,rfl,rfl⟩
theorem rcompare_q (s t:ByteArray) (w:World):Calls Tryz.prog 76 #[.string s,.string t] w (CmpTPost (cmpT s.data.toList t.data.toList) w):=by
 rcases num_both s.data.toList t.data.toList with ⟨a,b,ha,hb⟩|hn
 ·rw [cmpT_some ha hb];exact rcmp_yes s t a b _ w (sgn_same _) (num_lt9 ha) (num_lt9 hb) (two_yes ha hb)
 ·have e:cmpT s.data.toList t.data.toList=(0,false):=by
   unfold cmpT
   rcases hn with h|h
   ·rw [h]
   ·rw [h];cases num s.data.toList<;>rfl
  rw [e];exact rcmp_no s t 0 0 w (two_not hn)
end Go.Proofs.YtlcpcpmlfegejaaGreatDoor
namespace Go.Proofs.YtlcpcpmlfegejaaGreatDoor
open Go.RowKit Big
open Go.Lib Go.Shelf
theorem get_shape (s:ByteArray) (W:World):Calls Tryz.prog 112 #[.string s] W fun e w'=>∃ b p n c r m d,e=.returned (.tuple #[.agg #[.bool b,.slice p n c,.slice r m d],.bool (num s.data.toList).isSome])∧Below W.heap.size W w'∧∀ q,num s.data.toList=some q→QAt w' (.agg #[.bool b,.slice p n c,.slice r m d]) q:=by
 refine (get_any s W).mono fun e w' h=>?_
 unfold GetPost at h
 cases hq:num s.data.toList with
 | some q =>
  rw [hq] at h
  obtain ⟨b,p,n,c,p2,n2,c2,he,hb,hx⟩:=h
  exact ⟨b,p,n,c,p2,n2,c2,he,hb,fun q' h'=>by cases h';exact hx rfl⟩
 | none =>
  rw [hq] at h
  obtain ⟨q,b,p,n,c,p2,n2,c2,he,hb,hx⟩:=h
  exact ⟨b,p,n,c,p2,n2,c2,he,hb,fun q' h'=>by cases h'⟩
theorem sumQ_lt:∀ ss:List (List UInt8),QLt (6*ss.length+1) (sumQ (numsL ss)):=by
 intro ss
 induction ss with
 | nil=>exact ⟨by decide,by decide⟩
 | cons s ss ih =>
  rw [List.length_cons]
  cases hq:num s with
  | none =>
   have e:numsL (s::ss)=numsL ss:=by unfold numsL;rw [List.filterMap_cons,hq]
   rw [e];exact ih.mono (by omega)
  | some q =>
   have e:numsL (s::ss)=q::numsL ss:=by unfold numsL;rw [List.filterMap_cons,hq]
   rw [e]
   exact ((num_lt9 hq).add ih).mono (by omega)
theorem rtotal_any (p:Option Addr) (n c:Nat) (ss:List (List UInt8)) (w:World) (hl:ss.length=n) (hn:n≤1000) (h:RdSQ w p ss) :
  Calls Tryz.prog 71 #[.slice p n c] w fun e w'=>∃ s p n c r m d,e=.returned (.tuple #[.agg #[.bool s,.slice p n c,.slice r m d],.int .i64 ((numsL ss).length:Nat)])∧QAt w' (.agg #[.bool s,.slice p n c,.slice r m d]) (sumQ (numsL ss))∧Below w.heap.size w w' :=
 rtotal_walk p n c ss w hl hn h (hiD fun s W=>get_shape s W) (hiD fun i=>(sumQ_lt (ss.take i)).mono (by rw [List.length_take];omega)) (hiD fun l q h=>num_lt9 h)
end Go.Proofs.YtlcpcpmlfegejaaGreatDoor
