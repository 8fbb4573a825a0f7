/- The document's raise. -/
import Derived.Test.YtigicjakloiliaaGreatDoorRh
import Derived.Test.YtigicjakloiliaaGreatDoorSB
import Derived.Outline
set_option maxHeartbeats 3200000
set_option maxRecDepth 100000
namespace Go.Proofs.YtigicjakloiliaaGreatDoor
open Go.RowKit Big
open Go.Lib
structure Rz (B g:Nat) (c1 c2:Array Value) (w0 W:World):Prop where
 keep:Keep w0 W [(g,c2,38),(B,c1,38)]
 res:∃ z0 z1 z2,W.heap[B+1]?=some (.cells #[z0,z1,z2] 38 (0,0))∧NoInt z0∧NoInt z1∧NoInt z2
 lt:B+2≤g
section
variable {B g : Nat} {c1 c2 : Array Value} {w0 W W' : World}
theorem Rz.next (h:Rz B g c1 c2 w0 W) (hb:Below W.heap.size W W'):Rz B g c1 c2 w0 W':=by
 obtain ⟨z0,z1,z2,hz,hn⟩:=h.res
 exact ⟨h.keep.next hb,⟨z0,z1,z2,(hb.block _ (Array.getElem?_eq_some_iff.1 hz).1).trans hz,hn⟩,h.lt⟩
theorem Rz.drew (h:Rz B g c1 c2 w0 W):Rz B g c1 c2 w0 W.drew:=⟨h.keep.drew,h.res,h.lt⟩
theorem Rz.slots (h:Rz B g c1 c2 w0 W):∃ z0 z1 z2,W.cell? ⟨B+1,0,none⟩=some z0∧W.cell? ⟨B+1,1,none⟩=some z1∧W.cell? ⟨B+1,2,none⟩=some z2∧W.frozen? ⟨B+1,0,none⟩=false∧W.frozen? ⟨B+1,1,none⟩=false∧W.frozen? ⟨B+1,2,none⟩=false:=by
 obtain ⟨z0,z1,z2,hz,-⟩:=h.res
 exact ⟨z0,z1,z2,ceh hz 0,ceh hz 1,ceh hz 2,foh hz 0,foh hz 1,foh hz 2⟩
theorem Rz.put (h:Rz B g c1 c2 w0 W) (hB:w0.heap.size≤B) {z0 z1 z2:Value} (hc:c2=#[z0,z1,z2]) (a b c:Value):Rz B g c1 #[a,b,c] w0 (((W.setCell ⟨g,0,none⟩ a).setCell ⟨g,1,none⟩ b).setCell ⟨g,2,none⟩ c):=by
 subst hc
 obtain ⟨y0,y1,y2,hz,hn⟩:=h.res
 have hlt:=h.lt
 have hne:B+1≠g:=by omega
 refine ⟨h.keep.put3 (by omega) (fun x hx=>?_) a b c,⟨y0,y1,y2,?_,hn⟩,hlt⟩
 ·simp only [List.mem_cons,List.not_mem_nil,or_false] at hx
  subst hx
  show B≠g
  omega
 ·exact ((Below.heap_setCell _ _ _ _ hne).trans (Below.heap_setCell _ _ _ _ hne)).trans ((Below.heap_setCell _ _ _ _ hne).trans hz)
theorem Rz.sto (h:Rz B g c1 c2 w0 W) (hB:w0.heap.size≤B) (a:Bool) (p q:Option Addr) (n k m d:Nat):Rz B g c1 c2 w0 (((W.setCell ⟨B+1,0,none⟩ (.bool a)).setCell ⟨B+1,1,none⟩ (.slice p n k)).setCell ⟨B+1,2,none⟩ (.slice q m d)):=by
 obtain ⟨z0,z1,z2,hz,k0,k1,k2⟩:=h.res
 have hlt:=h.lt
 have one:∀ {W:World} (j:Nat) (v:Value),Keep w0 W [(g,c2,38),(B,c1,38)]→Keep w0 (W.setCell ⟨B+1,j,none⟩ v) [(g,c2,38),(B,c1,38)]:=fun j v hk=>⟨hk.below.setCell (by show _≤B+1;omega) _,fun x hx=>by
  refine (Below.heap_setCell _ _ _ _ ?_).trans (hk.all x hx)
  simp only [List.mem_cons,List.not_mem_nil,or_false] at hx
  rcases hx with rfl|rfl
  ·show g≠B+1;omega
  ·show B≠B+1;omega⟩
 exact ⟨one 2 _ (one 1 _ (one 0 _ h.keep)),⟨_,_,_,heap_set _ 2 _ 38 _ (heap_set _ 1 _ 38 _ (heap_set _ 0 _ 38 _ hz)),noInt_bool _,noInt_slice _ _ _,noInt_slice _ _ _⟩,h.lt⟩
theorem Rz.fin (h:Rz B g c1 c2 w0 W) (hB:w0.heap.size≤B) {sb:Bool} {p:Option Addr} {n c:Nat} {p2:Option Addr} {n2 c2':Nat} {q:Rat} (hq:QAt W (.agg #[.bool sb,.slice p n c,.slice p2 n2 c2']) q) :
  QPost q w0 (.returned (.agg #[.bool sb,.slice p n c,.slice p2 n2 c2'])) (((W.setCell ⟨B+1,0,none⟩ (.bool sb)).setCell ⟨B+1,1,none⟩ (.slice p n c)).setCell ⟨B+1,2,none⟩ (.slice p2 n2 c2')):=by
 obtain ⟨z0,z1,z2,hz,k0,k1,k2⟩:=h.res
 exact ⟨_,rfl,qat_set3 hz k0 k1 k2 hq sb p n c p2 n2 c2',((h.keep.below.setCell (by show _≤B+1;omega) _).setCell (by show _≤B+1;omega) _).setCell (by show _≤B+1;omega) _⟩
end
theorem raise_pos (x:Value) (q:Rat) (N:Nat) (hN:N≤12) (w:World) (hx:QAt w x q) (h81:Hid (∀ W,Calls Tryz.prog 81 #[.int .i64 1] W (QPostC 1 W)))
  (h47:Hid (∀ W u v i,i≤12→QAt W u (q^i)→QAt W v q→Calls Tryz.prog 47 #[u,v] W (QPostC (q^(i+1)) W))):Calls Tryz.prog 157 #[x,.int .i64 ((N:Int))] w (QPost (q^N) w):=by
 obtain ⟨x0,n0,c0,y0,m0,d0,rfl,-,-⟩:=hx.slices
 generalize decide (q.num<0)=s at hx ⊢
 have HX:=hiD hx
 have hNi:(N:Int)≤12:=by omega
 have hNj:(0:Int)≤N:=by omega
 clear hx 
 have hA:=hiD ((below_alloc9 w (.cells #[.bool s,.slice x0 n0 c0,.slice y0 m0 d0] 38)).trans ((below_alloc9 (w.alloc (.cells #[.bool s,.slice x0 n0 c0,.slice y0 m0 d0] 38)) (.cells #[.bool false,.slice none 0 0,.slice none 0 0] 38)).mono (by simp)))
 have K0:Hid (Keep w ((w.alloc (.cells #[.bool s,.slice x0 n0 c0,.slice y0 m0 d0] 38)).alloc (.cells #[.bool false,.slice none 0 0,.slice none 0 0] 38)) [(w.heap.size+1,#[.bool false,.slice none 0 0,.slice none 0 0],38),(w.heap.size,#[.bool s,.slice x0 n0 c0,.slice y0 m0 d0],38)]):=hiD (by
  have h0:=((Keep.nil w).more #[.bool s,.slice x0 n0 c0,.slice y0 m0 d0] 38).more #[.bool false,.slice none 0 0,.slice none 0 0] 38
  rw [show (w.alloc (.cells #[.bool s,.slice x0 n0 c0,.slice y0 m0 d0] 38)).heap.size=w.heap.size+1 from by simp] at h0
  exact h0)
 go_enter Tryz.func157,Tryz.ntmps157
 go_wp2_with fail
 refine (h81.out _).mono ?_
 rintro e w1 ⟨b1,x1,n1,c1,y1,m1,d1,rfl,hq,hb⟩
 have hz1:=hiD (((K0.out.next hb).more #[.bool b1,.slice x1 n1 c1,.slice y1 m1 d1] 38))
 have hst:Hid (∃ (i:Nat) (b:Bool) (p:Option Addr) (n c:Nat) (p2:Option Addr) (n2 c2:Nat),i≤N∧Value.int .i64 0=.int .i64 (i:Int)∧Hid (Rz w.heap.size w1.heap.size #[.bool s,.slice x0 n0 c0,.slice y0 m0 d0] #[.bool b,.slice p n c,.slice p2 n2 c2] w (w1.alloc (.cells #[.bool b1,.slice x1 n1 c1,.slice y1 m1 d1] 38))∧QAt (w1.alloc (.cells #[.bool b1,.slice x1 n1 c1,.slice y1 m1 d1] 38)) (.agg #[.bool s,.slice x0 n0 c0,.slice y0 m0 d0]) q∧QAt (w1.alloc (.cells #[.bool b1,.slice x1 n1 c1,.slice y1 m1 d1] 38)) (.agg #[.bool b,.slice p n c,.slice p2 n2 c2]) (q^i))):=hiD
  ⟨0,b1,x1,n1,c1,y1,m1,d1,Nat.zero_le _,rfl,hiD ⟨⟨hz1.out.sub (fun z hz=>by
   simp only [List.mem_cons,List.not_mem_nil,or_false] at hz
   rcases hz with rfl|rfl
   ·exact List.mem_cons_self ..
   ·exact List.mem_cons_of_mem _ (List.mem_cons_of_mem _ (List.mem_cons_self ..))),⟨_,_,_,hz1.out.one _ (List.mem_cons_of_mem _ (List.mem_cons_self ..)),noInt_bool _,noInt_slice _ _ _,noInt_slice _ _ _⟩,by have:=hb.size;simp at this;omega⟩,
   ((HX.out.below hA.out).below hb).below (below_alloc9 _ _),by rw [Rat.pow_zero];exact hq.below (below_alloc9 _ _)⟩⟩
 clear hz1 hq hb K0 hA HX
 go_wp2_with fail
 go_loopw [11] (fun iv wr=>∃ (i:Nat) (b:Bool) (p:Option Addr) (n c:Nat) (p2:Option Addr) (n2 c2:Nat),i≤N∧iv=.int .i64 (i:Int)∧Hid (Rz w.heap.size w1.heap.size #[.bool s,.slice x0 n0 c0,.slice y0 m0 d0] #[.bool b,.slice p n c,.slice p2 n2 c2] w wr∧QAt wr (.agg #[.bool s,.slice x0 n0 c0,.slice y0 m0 d0]) q∧QAt wr (.agg #[.bool b,.slice p n c,.slice p2 n2 c2]) (q^i))) (fun iv _=>N-(intOf iv).toNat)
 case atStart=>exact hst.out
 case round =>
  obtain ⟨i,b,p,n,c,p2,n2,c2,hi,rfl,hinv⟩:=hrel
  have hx5:=hinv.out.1.keep.one _ (List.mem_cons_self ..)
  have g0:=ceh hx5 0
  have g1:=ceh hx5 1
  have g2:=ceh hx5 2
  have e0:=foh hx5 0
  have e1:=foh hx5 1
  have e2:=foh hx5 2
  have hx6:=hinv.out.1.keep.one _ (List.mem_cons_of_mem _ (List.mem_cons_self ..))
  have a0:=ceh hx6 0
  have a1:=ceh hx6 1
  have a2:=ceh hx6 2
  clear hx5 hx6
  by_cases hlt:i<N
  ·have hlt':(i:Int)<N:=by omega
   have hc:=hiD (h47.out wr _ _ i (by omega) hinv.out.2.2 hinv.out.2.1)
   clear hlt
   go_wp2_with fail
   refine hc.out.mono ?_
   rintro e w2 ⟨b2,x2,n2',c2',y2,m2,d2,rfl,hq,hb⟩
   have hx5:=(hinv.out.1.next hb).keep.one _ (List.mem_cons_self ..)
   have g0:=ceh hx5 0
   have g1:=ceh hx5 1
   have g2:=ceh hx5 2
   have e0:=foh hx5 0
   have e1:=foh hx5 1
   have e2:=foh hx5 2
   have hn:=hiD (And.intro ((hinv.out.1.next hb).put (Nat.le_refl _) rfl (.bool b2) (.slice x2 n2' c2') (.slice y2 m2 d2)) (And.intro (qat_set3 hx5 (noInt_bool _) (noInt_slice _ _ _) (noInt_slice _ _ _) (hinv.out.2.1.below hb) b2 x2 n2' c2' y2 m2 d2) (qat_set3 hx5 (noInt_bool _) (noInt_slice _ _ _) (noInt_slice _ _ _) hq b2 x2 n2' c2' y2 m2 d2)))
   clear hx5 hq hb hc
   go_wp2_with fail
   go_roundw
   case rel=>exact ⟨i+1,b2,x2,n2',c2',y2,m2,d2,by omega,by go_num,hn⟩
   case measure=>simp [intOf];omega
  ·obtain rfl:i=N:=by omega
   obtain ⟨z0,z1,z2,k0,k1,k2,f0,f1,f2⟩:=hinv.out.1.slots
   have hfin:=hiD (hinv.out.1.fin (Nat.le_refl _) hinv.out.2.2)
   go_wp2_with fail
   refine bodyPost_ret (v:=.agg #[.bool b,.slice p n c,.slice p2 n2 c2]) ?h1 rfl ?h2
   case h1=>simp [results,Tryz.results157,go_sem,k0,k1,k2]
   exact hfin.out
theorem raise_neg (x:Value) (q:Rat) (N:Nat) (hN:N≤12) (hN1:1≤N) (w:World) (hx:QAt w x q) (h81:Hid (∀ W,Calls Tryz.prog 81 #[.int .i64 1] W (QPostC 1 W)))
  (h47:Hid (∀ W u v i,i≤12→QAt W u (q^i)→QAt W v q→Calls Tryz.prog 47 #[u,v] W (QPostC (q^(i+1)) W))) (h45:Hid (∀ W u v,QAt W u 1→QAt W v (q^N)→Calls Tryz.prog 45 #[u,v] W (QPostC (1/q^N) W))):Calls Tryz.prog 157 #[x,.int .i64 (-(N:Int))] w (QPost ((1:Rat)/q^N) w):=by
 obtain ⟨x0,n0,c0,y0,m0,d0,rfl,-,-⟩:=hx.slices
 generalize decide (q.num<0)=s at hx ⊢
 have HX:=hiD hx
 have hNi:(N:Int)≤12:=by omega
 have hNj:(1:Int)≤N:=by omega
 clear hx hN1
 have hA:=hiD ((below_alloc9 w (.cells #[.bool s,.slice x0 n0 c0,.slice y0 m0 d0] 38)).trans ((below_alloc9 (w.alloc (.cells #[.bool s,.slice x0 n0 c0,.slice y0 m0 d0] 38)) (.cells #[.bool false,.slice none 0 0,.slice none 0 0] 38)).mono (by simp)))
 have K0:Hid (Keep w ((w.alloc (.cells #[.bool s,.slice x0 n0 c0,.slice y0 m0 d0] 38)).alloc (.cells #[.bool false,.slice none 0 0,.slice none 0 0] 38)) [(w.heap.size+1,#[.bool false,.slice none 0 0,.slice none 0 0],38),(w.heap.size,#[.bool s,.slice x0 n0 c0,.slice y0 m0 d0],38)]):=hiD (by
  have h0:=((Keep.nil w).more #[.bool s,.slice x0 n0 c0,.slice y0 m0 d0] 38).more #[.bool false,.slice none 0 0,.slice none 0 0] 38
  rw [show (w.alloc (.cells #[.bool s,.slice x0 n0 c0,.slice y0 m0 d0] 38)).heap.size=w.heap.size+1 from by simp] at h0
  exact h0)
 go_enter Tryz.func157,Tryz.ntmps157
 go_wp2_with fail
 refine (h81.out _).mono ?_
 rintro e w1 ⟨b1,x1,n1,c1,y1,m1,d1,rfl,hq,hb⟩
 have hz1:=hiD (((K0.out.next hb).more #[.bool b1,.slice x1 n1 c1,.slice y1 m1 d1] 38))
 have hst:Hid (∃ (i:Nat) (b:Bool) (p:Option Addr) (n c:Nat) (p2:Option Addr) (n2 c2:Nat),i≤N∧Value.int .i64 0=.int .i64 (i:Int)∧Hid (Rz w.heap.size w1.heap.size #[.bool s,.slice x0 n0 c0,.slice y0 m0 d0] #[.bool b,.slice p n c,.slice p2 n2 c2] w (w1.alloc (.cells #[.bool b1,.slice x1 n1 c1,.slice y1 m1 d1] 38))∧QAt (w1.alloc (.cells #[.bool b1,.slice x1 n1 c1,.slice y1 m1 d1] 38)) (.agg #[.bool s,.slice x0 n0 c0,.slice y0 m0 d0]) q∧QAt (w1.alloc (.cells #[.bool b1,.slice x1 n1 c1,.slice y1 m1 d1] 38)) (.agg #[.bool b,.slice p n c,.slice p2 n2 c2]) (q^i))):=hiD
  ⟨0,b1,x1,n1,c1,y1,m1,d1,Nat.zero_le _,rfl,hiD ⟨⟨hz1.out.sub (fun z hz=>by
   simp only [List.mem_cons,List.not_mem_nil,or_false] at hz
   rcases hz with rfl|rfl
   ·exact List.mem_cons_self ..
   ·exact List.mem_cons_of_mem _ (List.mem_cons_of_mem _ (List.mem_cons_self ..))),⟨_,_,_,hz1.out.one _ (List.mem_cons_of_mem _ (List.mem_cons_self ..)),noInt_bool _,noInt_slice _ _ _,noInt_slice _ _ _⟩,by have:=hb.size;simp at this;omega⟩,
   ((HX.out.below hA.out).below hb).below (below_alloc9 _ _),by rw [Rat.pow_zero];exact hq.below (below_alloc9 _ _)⟩⟩
 clear hz1 hq hb K0 hA HX
 go_wp2_with fail
 go_loopw [11] (fun iv wr=>∃ (i:Nat) (b:Bool) (p:Option Addr) (n c:Nat) (p2:Option Addr) (n2 c2:Nat),i≤N∧iv=.int .i64 (i:Int)∧Hid (Rz w.heap.size w1.heap.size #[.bool s,.slice x0 n0 c0,.slice y0 m0 d0] #[.bool b,.slice p n c,.slice p2 n2 c2] w wr∧QAt wr (.agg #[.bool s,.slice x0 n0 c0,.slice y0 m0 d0]) q∧QAt wr (.agg #[.bool b,.slice p n c,.slice p2 n2 c2]) (q^i))) (fun iv _=>N-(intOf iv).toNat)
 case atStart=>exact hst.out
 case round =>
  obtain ⟨i,b,p,n,c,p2,n2,c2,hi,rfl,hinv⟩:=hrel
  have hx5:=hinv.out.1.keep.one _ (List.mem_cons_self ..)
  have g0:=ceh hx5 0
  have g1:=ceh hx5 1
  have g2:=ceh hx5 2
  have e0:=foh hx5 0
  have e1:=foh hx5 1
  have e2:=foh hx5 2
  have hx6:=hinv.out.1.keep.one _ (List.mem_cons_of_mem _ (List.mem_cons_self ..))
  have a0:=ceh hx6 0
  have a1:=ceh hx6 1
  have a2:=ceh hx6 2
  clear hx5 hx6
  by_cases hlt:i<N
  ·have hlt':(i:Int)<N:=by omega
   have hc:=hiD (h47.out wr _ _ i (by omega) hinv.out.2.2 hinv.out.2.1)
   clear hlt
   go_wp2_with fail
   refine hc.out.mono ?_
   rintro e w2 ⟨b2,x2,n2',c2',y2,m2,d2,rfl,hq,hb⟩
   have hx5:=(hinv.out.1.next hb).keep.one _ (List.mem_cons_self ..)
   have g0:=ceh hx5 0
   have g1:=ceh hx5 1
   have g2:=ceh hx5 2
   have e0:=foh hx5 0
   have e1:=foh hx5 1
   have e2:=foh hx5 2
   have hn:=hiD (And.intro ((hinv.out.1.next hb).put (Nat.le_refl _) rfl (.bool b2) (.slice x2 n2' c2') (.slice y2 m2 d2)) (And.intro (qat_set3 hx5 (noInt_bool _) (noInt_slice _ _ _) (noInt_slice _ _ _) (hinv.out.2.1.below hb) b2 x2 n2' c2' y2 m2 d2) (qat_set3 hx5 (noInt_bool _) (noInt_slice _ _ _) (noInt_slice _ _ _) hq b2 x2 n2' c2' y2 m2 d2)))
   clear hx5 hq hb hc
   go_wp2_with fail
   go_roundw
   case rel=>exact ⟨i+1,b2,x2,n2',c2',y2,m2,d2,by omega,by go_num,hn⟩
   case measure=>simp [intOf];omega
  ·obtain rfl:i=N:=by omega
   have KB:Hid (∀ W,Rz w.heap.size w1.heap.size #[.bool s,.slice x0 n0 c0,.slice y0 m0 d0] #[.bool b,.slice p n c,.slice p2 n2 c2] w W→QAt W (.agg #[.bool b,.slice p n c,.slice p2 n2 c2]) (q^i)→((fun w'=>Rz w.heap.size w1.heap.size #[.bool s,.slice x0 n0 c0,.slice y0 m0 d0] #[.bool b,.slice p n c,.slice p2 n2 c2] w w'∧QAt w' (.agg #[.bool b,.slice p n c,.slice p2 n2 c2]) (q^i)∧w'.cell? ⟨w1.heap.size,0,none⟩=some (.bool b)∧w'.cell? ⟨w1.heap.size,1,none⟩=some (.slice p n c)∧w'.cell? ⟨w1.heap.size,2,none⟩=some (.slice p2 n2 c2)) W)):=hiD fun W h hq=>⟨h,hq,ceh (h.keep.one _ (List.mem_cons_self ..)) 0,ceh (h.keep.one _ (List.mem_cons_self ..)) 1,ceh (h.keep.one _ (List.mem_cons_self ..)) 2⟩
   go_wp2_with fail
   refine wp_region_held_drew (S:=fun w'=>Rz w.heap.size w1.heap.size #[.bool s,.slice x0 n0 c0,.slice y0 m0 d0] #[.bool b,.slice p n c,.slice p2 n2 c2] w w'∧QAt w' (.agg #[.bool b,.slice p n c,.slice p2 n2 c2]) (q^i)∧w'.cell? ⟨w1.heap.size,0,none⟩=some (.bool b)∧w'.cell? ⟨w1.heap.size,1,none⟩=some (.slice p n c)∧w'.cell? ⟨w1.heap.size,2,none⟩=some (.slice p2 n2 c2)) (by kernel_rfl) (KB.out _ hinv.out.1.drew (hinv.out.2.2.below (Below.refl _ _).drew)) (fun hHeld=>?_)
   refine wpAnyH_take (i:=1) (v:=(.agg #[.bool b,.slice p n c,.slice p2 n2 c2])) rfl (by kernel_rfl) (by kernel_rfl) (by kernel_rfl) (fun _ _ _ h=>h) (Or.inl ⟨by rfl,by intro W hSw;clear hHeld;go_split_ands;go_simp⟩) (by assumption) ?_
   simp only [List.getElem_toArray,List.getElem_cons_zero,List.getElem_cons_succ,Act.put,List.setIfInBounds_toArray,List.set_cons_zero,List.set_cons_succ]
   refine wpAnyH_ready (rs:=[0]) (by kernel_rfl) (by simp) ?_
   refine AllReadyH.cons (i:=0) rfl (fun K hK=>?_) AllReadyH.nil
   go_simp
   refine (h81.out _).mono ?_
   rintro e v1 ⟨u0,u1,u2,u3,u4,u5,u6,rfl,hz1,hb1⟩
   go_simp
   refine hK.out _ _ (KB.out _ (hHeld.1.next hb1) (hHeld.2.1.below hb1)) (fun hHeld=>?_)
   clear hK K
   refine wpAnyH_ready (rs:=[2]) (by kernel_rfl) (by simp) ?_
   refine AllReadyH.cons (i:=2) rfl (fun K hK=>?_) AllReadyH.nil
   go_simp
   refine (h45.out _ _ _ hz1 hHeld.2.1).mono ?_
   rintro e v2 ⟨r0,r1,r2,r3,r4,r5,r6,rfl,hz2,hb2⟩
   go_simp
   refine hK.out _ _ (KB.out _ (hHeld.1.next hb2) (hHeld.2.1.below hb2)) (fun hHeld=>?_)
   clear hK K
   refine wpAnyH_ready (rs:=[3]) (by kernel_rfl) (by simp) ?_
   refine AllReadyH.cons (i:=3) rfl (fun K hK=>?_) AllReadyH.nil
   obtain ⟨z0,z1,z2,k0,k1,k2,f0,f1,f2⟩:=hHeld.1.slots
   have hfin:=hiD (hHeld.1.fin (Nat.le_refl _) hz2)
   go_simp
   obtain ⟨y0,y1,y2,hy,n0',n1',n2'⟩:=hHeld.1.res
   refine hK.out _ _ (KB.out _ (hHeld.1.sto (Nat.le_refl _) r0 r1 r4 r2 r3 r5 r6) (qat_set3 hy n0' n1' n2' hHeld.2.1 r0 r1 r2 r3 r4 r5 r6)) (fun hHeld=>?_)
   clear hK K
   refine wpAnyH_done (by kernel_rfl) ?_ _
   go_wp2_with fail
   refine bodyPost_ret (v:=.agg #[.bool r0,.slice r1 r2 r3,.slice r4 r5 r6]) ?h1 rfl ?h2
   case h1=>simp [results,Tryz.results157,go_sem,k0,k1,k2]
   exact hfin.out
end Go.Proofs.YtigicjakloiliaaGreatDoor
