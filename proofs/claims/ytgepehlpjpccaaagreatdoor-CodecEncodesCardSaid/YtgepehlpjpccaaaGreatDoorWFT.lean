/- Contracts. -/
import Derived.Test.YtgepehlpjpccaaaGreatDoorWFP
set_option maxHeartbeats 4000000
set_option maxRecDepth 100000
namespace Go.Proofs.YtgepehlpjpccaaaGreatDoor
section
open Go.RowKit Go.Maps Go.ChangeShapes
open Go.Lib
variable {base b n : Nat} {D : DataW Unit} {W W' : World}
theorem yzN:(Tryz.prog.info? 3).map (fun i=>(i.zero,i.size,i.bytes))=some (some (.int .i64 0),1,8):=by kernel_rfl
theorem ymR (w:World) (base:Nat) (hb:w.heap.size<base):(w.alloc (.map #[] 0)).ownsGroups (H:=Unit) Tryz.prog 79 base 3 .i64 w.heap.size 0 (.map []) :=
 ⟨#[],0,(MapKept.heap_alloc w _).1,⟨by simp,MapKept.stamped_empty 0,by simp⟩,Nat.le_refl _,rfl,hb,by simp,by simp⟩
theorem ybe (h:W.ownsGroups Tryz.prog 79 base 3 .i64 b n D) (hb:Be W W'):W'.ownsGroups Tryz.prog 79 base 3 .i64 b n D :=
 h.kept (yaJ hb none) (by simp) (fun _ _ _ x _=>by cases x.val.ownBlock<;>simp)
theorem yhy (h:W.ownsGroups Tryz.prog 79 base 3 .i64 b n D) {g k:Nat} (hg:g<base) (hb:b≠g) (v:Value):(W.setCell ⟨g,k,none⟩ v).ownsGroups Tryz.prog 79 base 3 .i64 b n D :=
 h.kept (row:=some g) ⟨rfl,rfl,rfl,by simp,fun i _ hi=>Below.heap_setCell _ _ _ _ (fun e=>hi (by rw [e]))⟩ (by intro e;cases e;exact hb rfl) (h.rowsAbove (fun j e=>by cases e;exact hg))
def yy6 (l:Lb) (b0 off len c:Nat) (w:World) (e:Ending) (w1:World):Prop :=
 Be w w1∧∃ (b base:Nat) (D:DataW Unit),e=.returned (.agg #[.slice (some ⟨b0,off,none⟩) len c,.map (some b)])∧Gm l (len-3) D∧w1.ownsGroups Tryz.prog 79 base 3 .i64 b (len-3) D
theorem yuC {K w7:World} {x:Value} {t:TypeId} {N:Nat} (hg:(K.alloc (.cells #[x] t)).grownBy w7 (some b)) (hN:K.heap.size=N) (hb:N≠b):∀ j u,[x][j]?=some u→w7.cell? ((⟨N,0,none⟩:Addr).add j)=some u:=fun j u hj=>by
 subst hN
 have h:=hg.block K.heap.size (by simp) (by intro e;cases e;exact hb rfl)
 rw [World.cell?_of_block (a:=(⟨K.heap.size,0,none⟩:Addr).add j) (w:=K.alloc (.cells #[x] t)) (by rw [show ((⟨K.heap.size,0,none⟩:Addr).add j).block=K.heap.size by unfold Addr.add;split<;>rfl];exact h)]
 exact cell_one_new _ _ _ j u hj
theorem yhz {w5 w6 w7 w8 w9:World} {v:Value} {zs:List Int} (h6:Be w5 w6) (hg7:w6.grownBy w7 (some b)) (ho:w7.ownsInts base 3 .i64 v zs) (hg8:w7.grownBy w8 v.ownBlock) (hg9:w8.grownBy w9 (some b)) {k:Nat} (hk:k<base) (hk5:k<w5.heap.size) (hkb:k≠b):w9.heap[k]?=w5.heap[k]?:=by
 have h1:=h6.block k hk5
 have h2:=hg7.block k (Nat.lt_of_lt_of_le hk5 h6.size) (by intro e;cases e;exact hkb rfl)
 have h3:=hg8.block k (Nat.lt_of_lt_of_le (Nat.lt_of_lt_of_le hk5 h6.size) hg7.size) (fun e=>by have:=(ho.1.lt k e.symm).1;omega)
 have h4:=hg9.block k (Nat.lt_of_lt_of_le (Nat.lt_of_lt_of_le (Nat.lt_of_lt_of_le hk5 h6.size) hg7.size) hg8.size) (by intro e;cases e;exact hkb rfl)
 exact h4.trans (h3.trans (h2.trans h1))
theorem yrl (b0 off len c:Nat) (l:Lb) (w:World) (hl:len≤20000) (h:Came w (some ⟨b0,off,none⟩) len c l) :
  Calls Tryz.prog 152 #[.slice (some ⟨b0,off,none⟩) len c] w (yy6 l b0 off len c w):=by
 have H:=h_ h
 have il:(len:Int)≤20000:=by omega
 have hmm:=@run_makeMap Tryz.prog
 obtain ⟨i0,hi,hz0,hz1,hz2⟩:=info_parts yzN
 obtain ⟨W0,HW0⟩:∃ W0,Hid (((w.alloc (.cells #[.slice none 0 0,.map none] 152)).alloc (.map #[] 0)).alloc (.cells #[.slice (some ⟨b0,off,none⟩) len c,.map (some (w.heap.size+1))] 152)=W0):=⟨_,h_ rfl⟩
 have GU:Hid (Be w W0):=h_ (by
  rw [← HW0.out]
  exact (((Below.refl _ w).alloc nl _).alloc (by simp) _).alloc (by simp;omega) _)
 have HS0:w.heap.size+3≤W0.heap.size:=by rw [← HW0.out];simp
 have HX0:Hid (W0.heap[w.heap.size]?=some (.cells #[.slice none 0 0,.map none] 152 (0,0))∧W0.heap[w.heap.size+1+1]?=some (.cells #[.slice (some ⟨b0,off,none⟩) len c,.map (some (w.heap.size+1))] 152 (0,0))):=h_ (by
  rw [← HW0.out]
  constructor
  ·exact (Below.heap_alloc _ _ _ (by simp;omega)).trans ((Below.heap_alloc _ _ _ (by simp)).trans (World.alloc_heap_new w _))
  ·have:=World.alloc_heap_new ((w.alloc (.cells #[.slice none 0 0,.map none] 152)).alloc (.map #[] 0)) (.cells #[.slice (some ⟨b0,off,none⟩) len c,.map (some (w.heap.size+1))] 152);rwa [World.size_alloc,World.size_alloc] at this)
 have HG0:Hid (W0.ownsGroups (H:=Unit) Tryz.prog 79 (w.heap.size+3) 3 .i64 (w.heap.size+1) 0 (.map [])):=h_ (by
  have h1:=ymR (w.alloc (.cells #[.slice none 0 0,.map none] 152)) (w.heap.size+3) (by simp)
  rw [World.size_alloc] at h1
  rw [← HW0.out]
  exact ybe h1 (bR.alloc nl _))
 clear h
 go_in
 go_wp2_with fail
 rw [HW0.out]
 clear hmm
 go_loopw [4] (fun pv wr=>∃ (m:Nat) (D:DataW Unit),m≤len-3∧pv=.int .i64 m∧Hid (wr.ownsGroups Tryz.prog 79 (w.heap.size+3) 3 .i64 (w.heap.size+1) m D)∧Hid (Gm l m D)∧Hid (Be w wr)∧w.heap.size+3≤wr.heap.size∧Hid (wr.heap[w.heap.size]?=some (.cells #[.slice none 0 0,.map none] 152 (0,0))∧wr.heap[w.heap.size+1+1]?=some (.cells #[.slice (some ⟨b0,off,none⟩) len c,.map (some (w.heap.size+1))] 152 (0,0)))) (fun pv _=>len-(Go.RowKit.intOf pv).toNat)
 case atStart=>exact ⟨0,_,Nat.zero_le _,rfl,HG0,h_ (Gm.start l),GU,HS0,HX0⟩
 case round =>
  obtain ⟨m,D,hm,rfl,yR,hG,HB,hwr,HX⟩:=hrel
  have c0:wr.cell? ⟨w.heap.size+1+1,0,none⟩=some (.slice (some ⟨b0,off,none⟩) len c):=by simp [World.cell?,HX.out.2]
  have c1:wr.cell? ⟨w.heap.size+1+1,1,none⟩=some (.map (some (w.heap.size+1))):=by simp [World.cell?,HX.out.2]
  by_cases hlt:m+4≤len
  ·have ilt:(m:Int)+4≤(len:Int):=by omega
   obtain ⟨x0,x1,x2,x3,HQ⟩:∃ x0 x1 x2 x3:Nat,Hid (yrD l m=.agg #[.int .u8 (x0:Int),.int .u8 (x1:Int),.int .u8 (x2:Int),.int .u8 (x3:Int)]):=⟨_,_,_,_,h_ rfl⟩
   have HKC:Hid (Calls Tryz.prog 191 #[.agg #[.slice (some ⟨b0,off,none⟩) len c,.map (some (w.heap.size+1))],.int .i64 (m:Int)] wr fun e w'=>Be wr w'∧e=.returned (.agg #[.int .u8 (x0:Int),.int .u8 (x1:Int),.int .u8 (x2:Int),.int .u8 (x3:Int)])):=h_ (by
    rw [← HQ.out]
    exact yp1 b0 off len c m (some (w.heap.size+1)) l wr hl hlt ⟨H.out.hl,H.out.hc,H.out.lies.below HB.out⟩)
   have yx1:Hid (keyOf Tryz.prog 79 (.agg #[.int .u8 (x0:Int),.int .u8 (x1:Int),.int .u8 (x2:Int),.int .u8 (x3:Int)])=some (.string (k4 l m))):=h_ (by rw [← HQ.out];exact ylT l m)
   have HWF:Hid ((Lit.int .i64 (m:Int)).wf=true):=h_ (WalkArith.wf_i64 (by omega))
   go_wp2_with fail
   refine (HKC.out).mono ?_
   rintro e w5 ⟨hb5,rfl⟩
   have HB5:=h_ hb5
   have hX5:w5.heap[w.heap.size+1+1]?=some (.cells #[.slice (some ⟨b0,off,none⟩) len c,.map (some (w.heap.size+1))] 152 (0,0)):=(hb5.block _ (by omega)).trans HX.out.2
   have hs5:wr.heap.size≤w5.heap.size:=hb5.size
   have d0:w5.cell? ⟨w.heap.size+1+1,0,none⟩=some (.slice (some ⟨b0,off,none⟩) len c):=by simp [World.cell?,hX5]
   have d1:w5.cell? ⟨w.heap.size+1+1,1,none⟩=some (.map (some (w.heap.size+1))):=by simp [World.cell?,hX5]
   have HB6:Hid (Be w5 (w5.alloc (.cells #[.int .u8 (x0:Int),.int .u8 (x1:Int),.int .u8 (x2:Int),.int .u8 (x3:Int)] 79))):=h_ (bR.alloc nl _)
   have HB7:Hid (Be w5 ((w5.alloc (.cells #[.int .u8 (x0:Int),.int .u8 (x1:Int),.int .u8 (x2:Int),.int .u8 (x3:Int)] 79)).alloc (.cells #[.int .i64 (m:Int)] 3))):=h_ (HB6.out.trans (((Below.refl _ (w5.alloc (.cells #[.int .u8 (x0:Int),.int .u8 (x1:Int),.int .u8 (x2:Int),.int .u8 (x3:Int)] 79))).alloc nl _).mono HB6.out.size))
   have yaN:Hid (((w5.alloc (.cells #[.int .u8 (x0:Int),.int .u8 (x1:Int),.int .u8 (x2:Int),.int .u8 (x3:Int)] 79)).alloc (.cells #[.int .i64 (m:Int)] 3)).ownsGroups Tryz.prog 79 (w.heap.size+3) 3 .i64 (w.heap.size+1) m D):=h_ (ybe (ybe yR.out HB5.out) HB7.out)
   have hs6:Hid (w.heap.size+3≤((w5.alloc (.cells #[.int .u8 (x0:Int),.int .u8 (x1:Int),.int .u8 (x2:Int),.int .u8 (x3:Int)] 79)).alloc (.cells #[.int .i64 (m:Int)] 3)).heap.size):=h_ (Nat.le_trans hwr (Nat.le_trans hs5 HB7.out.size))
   have hNEW:Hid (∀ j u,[Value.int .i64 (m:Int)][j]?=some u→((w5.alloc (.cells #[.int .u8 (x0:Int),.int .u8 (x1:Int),.int .u8 (x2:Int),.int .u8 (x3:Int)] 79)).alloc (.cells #[.int .i64 (m:Int)] 3)).cell? ((⟨(w5.alloc (.cells #[.int .u8 (x0:Int),.int .u8 (x1:Int),.int .u8 (x2:Int),.int .u8 (x3:Int)] 79)).heap.size,0,none⟩:Addr).add j)=some u):=h_ (cell_one_new _ _ _)
   have e1:(w5.alloc (.cells #[.int .u8 (x0:Int),.int .u8 (x1:Int),.int .u8 (x2:Int),.int .u8 (x3:Int)] 79)).cell? ⟨w.heap.size+1+1,1,none⟩=some (.map (some (w.heap.size+1))):=(World.cell?_of_block (a:=⟨w.heap.size+1+1,1,none⟩) (HB6.out.block (w.heap.size+1+1) (by omega))).trans d1
   have hm1:m≤20000:=by omega
   have hbN:w5.heap.size+1≠w.heap.size+1:=by omega
   clear hb5
   go_wp2_with (first
    | (refine yku (H:=Unit) _ (o:=⟨some 25,_,_,_,_,_⟩) rfl (.tmp 20) (.tmp 21) 150 rfl 79 194 3 .i64 yxf Tryz.underlying150 yji (w.heap.size+3) (w.heap.size+1) m D rfl yaN.out (by unfold maxLen;omega) _ (.string (k4 l m)) rfl yx1.out ?_;intro v zs st w7 hg7 hat hoi hzl hsz yd6;have hNEW7:=h_ (yuC hg7 (World.size_alloc _ _) hbN);have HZL:=h_ hzl;have hb7:Hid (w.heap.size+3≤w7.heap.size):=h_ (by rw [hsz];exact hs6.out);clear hzl)
    | (at_builtin;refine wpList_append_own_at _ rfl (.tmp 22) (.tmp 24) 194 rfl (w.heap.size+3) 3 i0 (.int .i64 0) 1 8 Tryz.underlying194 hi hz0 hz1 hz2 rfl (by decide) _ _ _ rfl hoi.1 ⟨w5.heap.size+1,0,none⟩ 1 1 [.int .i64 (m:Int)] rfl rfl hNEW7.out (ints_oneCell .i64 [(m:Int)]) (by have:=HZL.out;unfold maxLen;omega) (by have:=HZL.out;omega) hb7.out ?_;intro v' w8 hown' yZ yvn ynZ)
    | (refine yfn (H:=Unit) _ (o:=⟨none,_,_,_,_,_⟩) rfl (.tmp 20) (.tmp 27) (.tmp 26) 150 rfl yd6 rfl rfl rfl yZ (hoi.appended hown' HWF.out) (by have:=HZL.out;simp;omega) (ynZ.imp id (fun h=>⟨_,h,Nat.le_of_eq hsz.symm⟩)) ?_;intro w9 yfe hg9))
   have HO9:=h_ yfe
   have HG9:=h_ (hG.out.put (hG.out.group hoi hat) (hoi.appended hown' HWF.out))
   have hB7:Be w w7:=((tr HB.out HB5.out).trans (HB7.out.mono (Nat.le_trans HB.out.size hs5))).grown hg7 (by have:=hs6.out;omega) (fun k e=>by cases e;omega)
   have HB9:=h_ (hB7.groups hoi yZ hg9 (by have:=hb7.out;omega) (by omega) (by omega))
   have hs9:w.heap.size+3≤w9.heap.size:=Nat.le_trans hb7.out (Nat.le_trans yZ.size hg9.size)
   have HX9:Hid (w9.heap[w.heap.size]?=some (.cells #[.slice none 0 0,.map none] 152 (0,0))∧w9.heap[w.heap.size+1+1]?=some (.cells #[.slice (some ⟨b0,off,none⟩) len c,.map (some (w.heap.size+1))] 152 (0,0))):=h_ ⟨((yhz HB7.out hg7 hoi yZ hg9 (by omega) (by omega) (by omega)).trans (HB5.out.block _ (by omega))).trans HX.out.1,((yhz HB7.out hg7 hoi yZ hg9 (by omega) (by omega) (by omega)).trans (HB5.out.block _ (by omega))).trans HX.out.2⟩
   clear yfe hB7 hg9 ynZ yvn yZ hown' yd6 hsz hoi hat hg7
   go_wp2
   go_roundw
   case rel=>exact ⟨m+1,_,by omega,by go_num,HO9,HG9,HB9,hs9,HX9⟩
   case measure=>simp [Go.RowKit.intOf];omega
  ·obtain rfl:m=len-3:=by omega
   have ilt:¬ ((len-3:Nat):Int)+4≤(len:Int):=by omega
   have r0:wr.cell? ⟨w.heap.size,0,none⟩=some (.slice none 0 0):=by simp [World.cell?,HX.out.1]
   have r1:wr.cell? ⟨w.heap.size,1,none⟩=some (.map none):=by simp [World.cell?,HX.out.1]
   have z0:wr.frozen? ⟨w.heap.size,0,none⟩=false:=by simp [World.frozen?,HX.out.1]
   have z1:wr.frozen? ⟨w.heap.size,1,none⟩=false:=by simp [World.frozen?,HX.out.1]
   have vB:∀ (W:World) (y0 y1 s1 s2:Value),W.heap[w.heap.size]?=some (.cells #[y0,y1] 152 (0,0))→((W.setCell ⟨w.heap.size,0,none⟩ s1).setCell ⟨w.heap.size,1,none⟩ s2).heap[w.heap.size]?=some (.cells #[s1,s2] 152 (0,0)):=fun W y0 y1 s1 s2 h0=>by
    have h1:=setRow_heap W w.heap.size _ (#[y0,y1].setIfInBounds 0 s1) 152 (0,0) h0
    rw [← setCell_eq_setRow W w.heap.size 0 _ 152 (0,0) _ h0] at h1
    have h2:=setRow_heap _ w.heap.size _ ((#[y0,y1].setIfInBounds 0 s1).setIfInBounds 1 s2) 152 (0,0) h1
    rw [← setCell_eq_setRow _ w.heap.size 1 _ 152 (0,0) _ h1] at h2
    exact h2
   have yk3:Hid (yy6 l b0 off len c w (.returned (.agg #[.slice (some ⟨b0,off,none⟩) len c,.map (some (w.heap.size+1))])) ((wr.setCell ⟨w.heap.size,0,none⟩ (.slice (some ⟨b0,off,none⟩) len c)).setCell ⟨w.heap.size,1,none⟩ (.map (some (w.heap.size+1))))):=h_
    ⟨(HB.out.setCell (p:=⟨w.heap.size,0,none⟩) nl _).setCell (p:=⟨w.heap.size,1,none⟩) nl _,w.heap.size+1,w.heap.size+3,D,rfl,hG.out,yhy (yhy yR.out (by omega) (by omega) _) (by omega) (by omega) _⟩
   have ydi:=h_ (vB wr _ _ (.slice (some ⟨b0,off,none⟩) len c) (.map (some (w.heap.size+1))) HX.out.1)
   clear vB
   go_wp2
   refine bodyPost_ret (results_cell_row rfl _ _ w.heap.size 152 _ (0,0) _ rfl ydi.out rfl rfl rfl) rfl ?_
   exact yk3.out
end
section
open Go.RowKit Go.Maps Go.ChangeShapes Go.Shelf
open Go.Lib
variable {base b n : Nat} {D : DataW Unit} {W W' w : World}
theorem ymS {key:Value} {kl:Lit} (h:w.ownsGroups Tryz.prog 79 base 3 .i64 b n D) (hn:n<maxLen) (yeY:keyOf Tryz.prog 79 key=some kl) :
  ∃ v zs,D.atKey kl .nil=rowDatum .i64 v zs∧w.ownsInts base 3 .i64 v zs∧zs.length≤n∧∀ W,Be w W→(Instr.lookup 150 (.map (some b)) key false).run Tryz.prog W=.ok v W:=by
 have K:=Keyed.of_law yxf
 have look:∀ {es:Array MapEntry} {clock:Nat} {R:Value→Option (DataW Unit × List MemPlace)} (W:World),W.heap[b]?=some (.map es clock)→Go.WideElems.Fit Tryz.prog 79 R es clock→∀ v,(Instr.lookup 150 (.map (some b)) key false).run Tryz.prog W=.ok v W→((∀ x ∈ es.toList,x.key≠key)∧v=.slice none 0 0)∨∃ e0 ∈ es.toList,e0.key=key∧v=e0.val:=by
  intro es clock R W hb F v hv
  rcases Maps.fit_look false K Tryz.underlying150 (yji W) hb F yeY with ⟨jY,hno,_⟩|⟨e0,y,hm0,h3,jY,_⟩
  ·rw [hv] at jY
   exact .inl ⟨hno,by simpa using jY⟩
  ·rw [hv] at jY
   exact .inr ⟨e0,hm0,h3,by simpa using jY⟩
 obtain ⟨v,zs,jY,hat,ho,hl,_⟩:=h.at K Tryz.underlying150 (yji w) hn yeY
 refine ⟨v,zs,hat,ho,hl,fun W hW=>?_⟩
 have hO:=ybe h hW
 obtain ⟨v2,_,vV,_⟩:=hO.at K Tryz.underlying150 (yji W) hn yeY
 obtain ⟨es,clock,hb,F,_⟩:=h
 obtain ⟨es2,clock2,hb2,F2,_⟩:=hO
 have hb3:=(hW.block b (Array.getElem?_eq_some_iff.1 hb).1).trans hb
 obtain ⟨rfl,rfl⟩:es=es2∧clock=clock2:=by rw [hb2] at hb3;simp only [Option.some.injEq,Obj.map.injEq] at hb3;exact ⟨hb3.1.symm,hb3.2.symm⟩
 have h1:=look w hb F v jY
 have h2:=look W hb2 F2 v2 vV
 have e:v2=v:=by
  rcases h1 with ⟨hno,rfl⟩|⟨e0,hm0,hk0,rfl⟩<;>rcases h2 with ⟨hno2,rfl⟩|⟨e1,hm1,hk1,rfl⟩
  ·rfl
  ·exact absurd hk1 (hno e1 hm1)
  ·exact absurd hk0 (hno2 e0 hm0)
  ·have hpw:es.toList.Pairwise (fun a b=>a.key≠b.key):=List.pairwise_map.1 F.stamped.2.2
   obtain ⟨i,hi,hxe⟩:=List.getElem_of_mem hm1
   obtain ⟨i0,hi0,yk5⟩:=List.getElem_of_mem hm0
   by_cases e:i=i0
   ·subst e;rw [← hxe,← yk5]
   ·exfalso
    rcases Nat.lt_or_gt_of_ne e with hlt|hlt
    ·exact (List.pairwise_iff_getElem.1 hpw i i0 hi hi0 hlt) (by rw [hxe,yk5,hk1,hk0])
    ·exact (List.pairwise_iff_getElem.1 hpw i0 i hi0 hi hlt) (by rw [hxe,yk5,hk1,hk0])
 rw [← e]
 exact vV
structure PRow (l:Lb) (len:Nat) (x:Lb) (q:Oa) (N c:Nat) (ps:Nat→Nat) (W:World):Prop where
 hN:N≤len
 row:ykK W q N ps
 le:∀ j,j<N→ps j≤20000
 up:∀ i j,i≤j→j<N→ps i≤ps j
 all:∀ y,y ∈ pls l (len-3) x→∃ j,j<N∧ps j=y
 cap:N≤c
 nil:q=none→c=0∧N=0
theorem ywU {l:Lb} {len:Nat} {x:Lb} {v:Value} {zs:List Int} (hl:len≤20000) (ho:W.ownsInts base 3 .i64 v zs) (hz:zs=plI l (len-3) x):∃ q N c ps,v=.slice q N c∧PRow l len x q N c ps W:=by
 obtain ⟨hln,hv⟩:=ho.1
 subst hz
 have hlen:(plI l (len-3) x).length=(pls l (len-3) x).length:=by rw [plI,List.length_map]
 have hup:=yyu l (len-3) x
 have hps:∀ j,j<(pls l (len-3) x).length→(pls l (len-3) x).getD j 0=(pls l (len-3) x)[j]!:=fun j hj=>by simp [List.getD,hj]
 have yeX:∀ j (hj:j<(pls l (len-3) x).length),(pls l (len-3) x).getD j 0=(pls l (len-3) x)[j]:=fun j hj=>by simp [List.getD,hj]
 have hle:∀ j,j<(pls l (len-3) x).length→(pls l (len-3) x).getD j 0≤20000:=fun j hj=>by
  rw [yeX j hj]
  have:=(yp2.1 (List.getElem_mem hj)).1
  omega
 have hmono:∀ i j,i≤j→j<(pls l (len-3) x).length→(pls l (len-3) x).getD i 0≤(pls l (len-3) x).getD j 0:=fun i j h1 h2=>by
  rw [yeX i (by omega),yeX j h2]
  by_cases e:i=j
  ·subst e;exact Nat.le_refl _
  ·exact Nat.le_of_lt (List.pairwise_iff_getElem.1 hup i j (by omega) h2 (by omega))
 have GV:∀ y,y ∈ pls l (len-3) x→∃ j,j<(pls l (len-3) x).length∧(pls l (len-3) x).getD j 0=y:=fun y hy=>by
  obtain ⟨j,hj,e⟩:=List.getElem_of_mem hy
  exact ⟨j,hj,by rw [yeX j hj];exact e⟩
 have hN:=ywS l (len-3) x
 rcases hv with ⟨rfl,h0⟩|⟨g,cap,cur,rfl,hg,hh,hcap,_,_,ht⟩
 ·rw [hlen] at h0
  exact ⟨none,0,0,fun j=>(pls l (len-3) x).getD j 0,rfl,by omega,fun j hj=>absurd hj (Nat.not_lt_zero j),fun j hj=>absurd hj (Nat.not_lt_zero j),fun i j _ hj=>absurd hj (Nat.not_lt_zero j),fun y hy=>by obtain ⟨j,hj,_⟩:=GV y hy;omega,Nat.le_refl _,fun _=>⟨rfl,rfl⟩⟩
 ·rw [hlen] at hcap ⊢
  refine ⟨_,_,cap,fun j=>(pls l (len-3) x).getD j 0,rfl,by omega,fun j hj=>?_,hle,hmono,GV,hcap,fun e=>by cases e⟩
  refine ⟨g,rfl,(Array.getElem?_eq_some_iff.1 hh).1,?_⟩
  have:=ho.1.cellAt j (by rw [hlen];omega)
  rw [this,yeX j hj,List.getElem?_map,plI,List.getElem?_map,List.getElem?_eq_getElem hj]
  rfl
end
section
open Go.RowKit
open Go.Lib
def ydq (l:Lb) (a n d:Nat) (w:World) (e:Ending) (w':World):Prop:=Be w w' ∧
 ((∃ n2 d2:Nat,NextAt l a n d n2 d2∧e=.returned (.tuple #[.int .i64 (n2:Int),.int .i64 (d2:Int)]))∨(ycF l a n d∧e=.returned (.tuple #[.int .i64 0,.int .i64 0])))
def ydM (l:Lb) (a:Nat) (w:World) (e:Ending) (w':World):Prop:=Be w w' ∧
 (((jH l a a).1<4∧e=.returned (.tuple #[.int .i64 0,.int .i64 0]))∨(4≤(jH l a a).1∧e=.returned (.tuple #[.int .i64 ((jH l a a).1:Int),.int .i64 ((jH l a a).2:Int)])))
theorem ykv (b0 off len c a yF:Nat) (mo:Option Nat) (l:Lb) (w:World) (hl:len≤20000) (h3:a<len) (hm:Hid (yF=min 131 (len-a))) (hll:Hid (l.length=len))
  (jB:∀ W,Be w W→∀ n d,ye7 l a n d→n<yF→Calls Tryz.prog 192 #[.agg #[.slice (some ⟨b0,off,none⟩) len c,.map mo],.int .i64 (a:Int),.int .i64 (n:Int),.int .i64 (d:Int),.int .i64 (yF:Int)] W (ydq l a n d W)) :
  Calls Tryz.prog 153 #[.agg #[.slice (some ⟨b0,off,none⟩) len c,.map mo],.int .i64 (a:Int)] w (ydM l a w):=by
 have HNX:=h_ jB
 have il:(len:Int)≤20000:=by omega
 have ia:(a:Int)<(len:Int):=by omega
 have im:(yF:Int)≤131:=by rw [hm.out];omega
 have im0:0≤(yF:Int):=by omega
 have yjs:(if (len:Int)-(a:Int)<131 then (len:Int)-(a:Int) else 131)=(yF:Int):=by rw [hm.out];split<;>omega
 have ynI:(if 131<(len:Int)-(a:Int) then (131:Int) else (len:Int)-(a:Int))=(yF:Int):=by rw [hm.out];split<;>omega
 have hmin3:min ((len:Int)-(a:Int)) 131=(yF:Int):=by rw [hm.out];omega
 have hmin4:min (131:Int) ((len:Int)-(a:Int))=(yF:Int):=by rw [hm.out];omega
 have HBX:Hid (Be w (w.alloc (.cells #[.slice (some ⟨b0,off,none⟩) len c,.map mo] 152))):=h_ ((Below.refl _ w).alloc nl _)
 have ydV:Hid ((w.alloc (.cells #[.slice (some ⟨b0,off,none⟩) len c,.map mo] 152)).heap[w.heap.size]?=some (.cells #[.slice (some ⟨b0,off,none⟩) len c,.map mo] 152 (0,0))):=h_ (World.alloc_heap_new w _)
 have hs1:w.heap.size<(w.alloc (.cells #[.slice (some ⟨b0,off,none⟩) len c,.map mo] 152)).heap.size:=by simp
 have HFULL:Hid (∀ n d,yF≤n→ycF l a n d):=h_ (fun n d h=>ymQ (by rw [hll.out];omega) (by rw [hll.out,← hm.out];exact h))
 clear jB
 go_in
 go_wp2_with fail
 revert HBX ydV hs1
 generalize w.alloc (.cells #[.slice (some ⟨b0,off,none⟩) len c,.map mo] 152)=W0
 intro HBX ydV hs1
 go_loopw [7,8] (fun nv dv wr=>∃ n d:Nat,nv=.int .i64 n∧dv=.int .i64 d∧n≤131∧Hid (ye7 l a n d)∧Hid (Be W0 wr)) (fun nv _ _=>131-(Go.RowKit.intOf nv).toNat)
 case atStart=>exact ⟨3,0,rfl,rfl,by decide,h_ (.inl ⟨rfl,rfl⟩),h_ bR⟩
 case round =>
  obtain ⟨n,d,rfl,rfl,ysi,HS,HB⟩:=hrel
  have HBw:=h_ (HBX.out.trans (HB.out.mono (Nat.le_of_lt hs1)))
  have hni:(n:Int)≤131:=by omega
  have hdn:d≤a:=by rcases HS.out with h|h<;>omega
  have hdi:(d:Int)≤20000:=by omega
  have yaI:Hid (ycF l a n d→(d=0∧(jH l a a).1<4)∨(1≤d∧4≤n∧jH l a a=(n,d))):=h_ (fun h=>HS.out.done h)
  have c0:wr.cell? ⟨w.heap.size,0,none⟩=some (.slice (some ⟨b0,off,none⟩) len c):=by
   have h:=(HB.out.block w.heap.size hs1).trans ydV.out
   simp [World.cell?,h]
  have c1:wr.cell? ⟨w.heap.size,1,none⟩=some (.map mo):=by
   have h:=(HB.out.block w.heap.size hs1).trans ydV.out
   simp [World.cell?,h]
  by_cases hnm:n<yF
  ·have inm:(n:Int)<(yF:Int):=by omega
   have HC:=h_ (HNX.out wr HBw.out n d HS.out hnm)
   go_wp2_with fail
   refine (HC.out).mono ?_
   rintro e w2 ⟨hb2,⟨n2,d2,hN,rfl⟩|⟨hN,rfl⟩⟩
   ·have jQ:=th HB hb2
    have HS2:=h_ (HS.out.next hN)
    have h5:=hN.more
    have h6:n2≤131:=by rw [← hN.run];exact ynD _ _ _
    have h7:4≤n2:=by rcases HS.out with h|h<;>omega
    have i2:¬ (n2:Int)=0:=by omega
    have i2l:(n2:Int)≤131:=by omega
    have i2b:((n2:Int)==0)=false:=by rw [beq_eq_false_iff_ne];exact i2
    clear hN hb2
    go_wp2
    go_roundw
    case rel=>exact ⟨n2,d2,rfl,rfl,h6,HS2,jQ⟩
    case measure=>simp [Go.RowKit.intOf];omega
   ·have jQ:=th HBw hb2
    have hE:=yaI.out hN
    clear hb2 hN
    rcases hE with ⟨rfl,hb4⟩|⟨h1,h2,h3⟩
    ·go_wp2
     go_ret2
     exact ⟨jQ.out,.inl ⟨hb4,rfl⟩⟩
    ·have id:¬ (d:Int)=0:=by omega
     have yD:Hid (ydM l a w (.returned (.tuple #[.int .i64 (n:Int),.int .i64 (d:Int)])) w2):=h_ ⟨jQ.out,.inr ⟨by rw [h3];exact h2,by rw [h3]⟩⟩
     clear h3
     go_wp2
     go_ret2
     exact yD.out
  ·have inm:¬ (n:Int)<(yF:Int):=by omega
   have hE:=yaI.out (HFULL.out n d (by omega))
   rcases hE with ⟨rfl,hb4⟩|⟨h1,h2,h3⟩
   ·go_wp2
    go_ret2
    exact ⟨HBw.out,.inl ⟨hb4,rfl⟩⟩
   ·have id:¬ (d:Int)=0:=by omega
    have yD:Hid (ydM l a w (.returned (.tuple #[.int .i64 (n:Int),.int .i64 (d:Int)])) wr):=h_ ⟨HBw.out,.inr ⟨by rw [h3];exact h2,by rw [h3]⟩⟩
    clear h3
    go_wp2
    go_ret2
    exact yD.out
end
section
open Go.RowKit Go.Maps Go.ChangeShapes Go.Shelf
open Go.Lib
attribute [local go_sem] Oper.semAt_some
structure Nx (w:World) (b0 off len c b a n yF o:Nat) (r0 r1:Value) (W:World):Prop where
 below:Be w W
 x:W.heap[w.heap.size]?=some (.cells #[.slice (some ⟨b0,off,none⟩) len c,.map (some b)] 152 (0,0))
 a:W.heap[w.heap.size+1]?=some (.cells #[.int .i64 (a:Int)] 3 (0,0))
 n:W.heap[w.heap.size+1+1]?=some (.cells #[.int .i64 (n:Int)] 3 (0,0))
 m:W.heap[w.heap.size+1+1+1]?=some (.cells #[.int .i64 (yF:Int)] 3 (0,0))
 r0:W.heap[w.heap.size+1+1+1+1]?=some (.cells #[r0] 3 (0,0))
 r1:W.heap[w.heap.size+1+1+1+1+1]?=some (.cells #[r1] 3 (0,0))
 o:W.heap[w.heap.size+1+1+1+1+1+1]?=some (.cells #[.int .i64 (o:Int)] 3 (0,0))
section
variable {w W W' : World} {b0 off len c b a n yF o : Nat} {r0 r1 : Value}
theorem Nx.sz (h:Nx w b0 off len c b a n yF o r0 r1 W):w.heap.size+7≤W.heap.size:=(Array.getElem?_eq_some_iff.1 h.o).1
theorem Nx.keep (h:Nx w b0 off len c b a n yF o r0 r1 W) (hk:∀ k,k<W.heap.size→(∃ cs t m,W.heap[k]?=some (.cells cs t m))→W'.heap[k]?=W.heap[k]?) (hb:Be w W'):Nx w b0 off len c b a n yF o r0 r1 W':=by
 have hs:=h.sz
 exact ⟨hb,(hk _ (by omega) ⟨_,_,_,h.x⟩).trans h.x,(hk _ (by omega) ⟨_,_,_,h.a⟩).trans h.a,(hk _ (by omega) ⟨_,_,_,h.n⟩).trans h.n,(hk _ (by omega) ⟨_,_,_,h.m⟩).trans h.m,(hk _ (by omega) ⟨_,_,_,h.r0⟩).trans h.r0,(hk _ (by omega) ⟨_,_,_,h.r1⟩).trans h.r1,(hk _ (by omega) ⟨_,_,_,h.o⟩).trans h.o⟩
theorem Nx.next (h:Nx w b0 off len c b a n yF o r0 r1 W) (hb:Be W W'):Nx w b0 off len c b a n yF o r0 r1 W' :=
 h.keep (fun k hk _=>hb.block k hk) (tr h.below hb)
theorem Nx.own (h:Nx w b0 off len c b a n yF o r0 r1 W) {row:Option Nat} (hg:W.grownBy W' row) (hr:∀ r,row=some r→w.heap.size≤r∧∃ o:Obj,W.heap[r]?=some o∧o.isCells=false):Nx w b0 off len c b a n yF o r0 r1 W' :=
 h.keep (fun _ _ ⟨_,_,_,e⟩=>grownBy_keeps_cells hg (fun r e=>(hr r e).2) e rfl) (h.below.grown hg h.below.size (fun k e=>(hr k e).1))
end
theorem ybp {W W':World} (h:Be W W'):KeepsOthers W W':=KeepsOthers.of_grownBy (yaJ h none) (fun _ _ e _=>by cases e)
theorem yuD (w:World) (b0 off len c b a n yF o:Nat):Nx w b0 off len c b a n yF o (.int .i64 0) (.int .i64 0) (((((((w.alloc (.cells #[.slice (some ⟨b0,off,none⟩) len c,.map (some b)] 152)).alloc (.cells #[.int .i64 (a:Int)] 3)).alloc (.cells #[.int .i64 (n:Int)] 3)).alloc (.cells #[.int .i64 (yF:Int)] 3)).alloc (.cells #[.int .i64 0] 3)).alloc (.cells #[.int .i64 0] 3)).alloc (.cells #[.int .i64 (o:Int)] 3)):=by
 refine ⟨((((((((Below.refl _ w).alloc nl _).alloc ?_ _).alloc ?_ _).alloc ?_ _).alloc ?_ _).alloc ?_ _).alloc ?_ _),?_,?_,?_,?_,?_,?_,?_⟩
 all_goals (simp only [World.alloc,Array.getElem?_push,Array.size_push])
 all_goals (first|omega|(repeat' (first|rw [if_pos (by omega)] | rw [if_neg (by omega)] | rfl)))
theorem PRow.below {l:Lb} {len:Nat} {x:Lb} {q:Oa} {N c:Nat} {ps:Nat→Nat} {W W':World} (h:PRow l len x q N c ps W) (hb:Be W W'):PRow l len x q N c ps W' :=
 ⟨h.hN,h.row.below hb,h.le,h.up,h.all,h.cap,h.nil⟩
theorem PRow.rowN {l:Lb} {len:Nat} {x:Lb} {q:Oa} {N c i:Nat} {ps:Nat→Nat} {w W:World} (h:PRow l len x q N c ps w) (hb:Be w W) (hi:i≤N):ynF w.heap.size W q i ps:=fun j hj=>by
 obtain ⟨g,h1,h2,h3⟩:=h.row j (by omega)
 exact ⟨g,h1,h2,(hb.cell (p:=⟨g,j,none⟩) h2).trans h3⟩
theorem Nx.put {w W:World} {b0 off len c b a n yF o:Nat} {r0 r1 v v':Value} (h:Nx w b0 off len c b a n yF o r0 r1 W) :
  Nx w b0 off len c b a n yF o v v' ((W.setCell ⟨w.heap.size+1+1+1+1,0,none⟩ v).setCell ⟨w.heap.size+1+1+1+1+1,0,none⟩ v'):=by
 have hs:∀ (V:World) (k g:Nat) (u:Value),k≠g→(V.setCell ⟨g,0,none⟩ u).heap[k]?=V.heap[k]?:=fun V k g u hne=>Below.heap_setCell V ⟨g,0,none⟩ u _ hne
 have h0:=uB (v:=v) h.r0
 have h1:(W.setCell ⟨w.heap.size+1+1+1+1,0,none⟩ v).heap[w.heap.size+1+1+1+1+1]?=some (.cells #[r1] 3 (0,0)):=(hs _ _ _ _ (by omega)).trans h.r1
 have two:∀ k,k≠w.heap.size+1+1+1+1→k≠w.heap.size+1+1+1+1+1→((W.setCell ⟨w.heap.size+1+1+1+1,0,none⟩ v).setCell ⟨w.heap.size+1+1+1+1+1,0,none⟩ v').heap[k]?=W.heap[k]?:=fun k h1 h2=>(hs _ _ _ _ h2).trans (hs _ _ _ _ h1)
 exact ⟨(h.below.setCell (p:=⟨w.heap.size+1+1+1+1,0,none⟩) (by show w.heap.size≤w.heap.size+1+1+1+1;omega) _).setCell (p:=⟨w.heap.size+1+1+1+1+1,0,none⟩) (by show w.heap.size≤w.heap.size+1+1+1+1+1;omega) _,
  (two _ (by omega) (by omega)).trans h.x,(two _ (by omega) (by omega)).trans h.a,(two _ (by omega) (by omega)).trans h.n,(two _ (by omega) (by omega)).trans h.m,(hs _ _ _ _ (by omega)).trans h0,uB h1,(two _ (by omega) (by omega)).trans h.o⟩
theorem yni {w V:World} {b0 off len c b a n yF o D9:Nat} {r0 r1:Value} (h:Nx w b0 off len c b a n yF o r0 r1 V) (hD:w.heap.size≤D9) (hK:V.heap[D9]?=some (.deferred (some []))):Nx w b0 off len c b a n yF o r0 r1 (V.putObj D9 (.deferred none)) :=
 h.own (grownBy_putObj' V D9 (.deferred none)) (fun r e=>by cases e;exact ⟨hD,_,hK,rfl⟩)
def ynj (w:World) (b0 off len c b a n yF o:Nat) (l:Lb) (ps:Nat→Nat) (i:Nat) (c9:Code) (pre:List (Pl i)) (W:World):Prop :=
 ∃ (pre0:List (Pl i)) (x:Pl i),pre=pre0++[x]∧(∀ y ∈ pre0,rn l a (a+(n-3)-ps (i-1-y.1))≤n) ∧
  (
   (c9=.ret∧n-3≤ps (i-1-x.1)∧n<rn l a (a+(n-3)-ps (i-1-x.1))∧Nx w b0 off len c b a n yF o (.int .i64 (rn l a (a+(n-3)-ps (i-1-x.1)):Int)) (.int .i64 ((a+(n-3)-ps (i-1-x.1):Nat):Int)) W) ∨
   (c9=.exit 0∧ps (i-1-x.1)<n-3∧Nx w b0 off len c b a n yF o (.int .i64 0) (.int .i64 0) W))
theorem yp4 {l:Lb} {a n i:Nat} {ps:Nat→Nat} {pre:List (Pl i)} (h:∀ y ∈ pre,rn l a (a+(n-3)-ps (i-1-y.1))≤n) {r:Nat} (hr:pre.map (·.1)=List.range r):ydd l a n i ps r:=fun j h1 h2=>by
 have hm:i-1-j ∈ pre.map (·.1):=by rw [hr,List.mem_range];omega
 obtain ⟨y,hy,e⟩:=List.mem_map.1 hm
 have:=h y hy
 rwa [e,show i-1-(i-1-j)=j by omega] at this
end
section
open Go.RowKit Go.Maps Go.ChangeShapes Go.Shelf
open Go.Lib
attribute [local go_sem] Oper.semAt_some
theorem yuE (b0 off len c a n d yF b base:Nat) (D:DataW Unit) (l:Lb) (w:World) (hl:len≤20000) (ha:a<len) (hm:Hid (yF=min 131 (len-a))) (h:Came w (some ⟨b0,off,none⟩) len c l) (hG:Gm l (len-3) D) (hO:w.ownsGroups Tryz.prog 79 base 3 .i64 b (len-3) D) (hst:ye7 l a n d) (hn:n<yF) :
  Calls Tryz.prog 192 #[.agg #[.slice (some ⟨b0,off,none⟩) len c,.map (some b)],.int .i64 (a:Int),.int .i64 (n:Int),.int .i64 (d:Int),.int .i64 (yF:Int)] w (ydq l a n d w):=by
 have H:=h_ h
 have hn3:3≤n:=by rcases hst with h|h<;>omega
 have hda:d≤a:=by rcases hst with h|h<;>omega
 have ysi:n<131:=by have:=hm.out;omega
 have ycd:a+n+1≤len:=by have:=hm.out;omega
 obtain ⟨o,HO⟩:=ey (n-3)
 obtain ⟨p,HP⟩:=ey (a+(n-3))
 obtain ⟨t,HT⟩:=ey (a+(n-3)-d)
 have ho1:(n:Int)+1-4=(o:Int):=by rw [HO.out];omega
 have ho2:(a:Int)+(o:Int)=(p:Int):=by rw [HP.out,HO.out];omega
 have ho3:(p:Int)-(d:Int)=(t:Int):=by rw [HP.out,HT.out];omega
 have hp4:p+4≤len:=by rw [HP.out];omega
 have ia:(a:Int)≤20000:=by omega
 have in1:(n:Int)≤131:=by omega
 have in3:3≤(n:Int):=by omega
 have io:(o:Int)≤131:=by rw [HO.out];omega
 have ip:(p:Int)≤20000:=by omega
 have id1:(d:Int)≤20000:=by omega
 have it:(t:Int)≤20000:=by rw [HT.out];omega
 have hwr:IntKind.i64.wrap (p:Int)=(p:Int):=IntWalk.i64_in _ (by omega)
 -- the look-up
 obtain ⟨x0,x1,x2,x3,HQ⟩:∃ x0 x1 x2 x3:Nat,Hid (yrD l p=.agg #[.int .u8 (x0:Int),.int .u8 (x1:Int),.int .u8 (x2:Int),.int .u8 (x3:Int)]):=⟨_,_,_,_,h_ rfl⟩
 obtain ⟨v,zs,hat,hoi,hzl,yso⟩:=ymS hO (by unfold maxLen;omega) (ylT l p)
 rw [HQ.out] at yso
 obtain ⟨q,N,c1,ps,rfl,vB⟩:=ywU hl hoi (hG.group hoi hat)
 have ydi:=h_ vB
 obtain ⟨W0,HW0⟩:∃ W0,Hid ((((((((w.alloc (.cells #[.slice (some ⟨b0,off,none⟩) len c,.map (some b)] 152)).alloc (.cells #[.int .i64 (a:Int)] 3)).alloc (.cells #[.int .i64 (n:Int)] 3)).alloc (.cells #[.int .i64 (yF:Int)] 3)).alloc (.cells #[.int .i64 0] 3)).alloc (.cells #[.int .i64 0] 3)).alloc (.cells #[.int .i64 (o:Int)] 3))=W0):=⟨_,h_ rfl⟩
 have HN0:Hid (Nx w b0 off len c b a n yF o (.int .i64 0) (.int .i64 0) W0):=h_ (by rw [← HW0.out];exact yuD w b0 off len c b a n yF o)
 have ydW:Hid (∀ W,Be W0 W→Be W0 W∧W.cell? ⟨w.heap.size,0,none⟩=some (.slice (some ⟨b0,off,none⟩) len c)∧W.cell? ⟨w.heap.size,1,none⟩=some (.map (some b))∧W.cell? ⟨w.heap.size+1,0,none⟩=some (.int .i64 (a:Int))∧W.cell? ⟨w.heap.size+1+1+1+1+1+1,0,none⟩=some (.int .i64 (o:Int))∧(Instr.lookup 150 (.map (some b)) (.agg #[.int .u8 (x0:Int),.int .u8 (x1:Int),.int .u8 (x2:Int),.int .u8 (x3:Int)]) false).run Tryz.prog W=.ok (.slice q N c1) W):=h_ (fun W hW=>by
  have hx:=HN0.out.next hW
  exact ⟨hW,by simp [World.cell?,hx.x],by simp [World.cell?,hx.x],by simp [World.cell?,hx.a],by simp [World.cell?,hx.o],yso W hx.below⟩)
 have yx1:Hid (∀ W,Be W0 W→Calls Tryz.prog 191 #[.agg #[.slice (some ⟨b0,off,none⟩) len c,.map (some b)],.int .i64 (p:Int)] W fun e w'=>Be W w'∧e=.returned (.agg #[.int .u8 (x0:Int),.int .u8 (x1:Int),.int .u8 (x2:Int),.int .u8 (x3:Int)])):=h_ (fun W hW=>by
  rw [← HQ.out]
  exact yp1 b0 off len c p (some b) l W hl hp4 ⟨H.out.hl,H.out.hc,H.out.lies.below (HN0.out.next hW).below⟩)
 have HSE:Hid (∀ W,Be w W→Calls Tryz.prog 223 #[.slice q N c1,.int .i64 (t:Int)] W (yew N ps t W)):=h_ (fun W hW =>
  ypc q N c1 t ps W (by have:=ydi.out.hN;omega) (by omega) (h_ ydi.out.le) (h_ ydi.out.up) (h_ (ydi.out.below hW).row))
 clear h hG hO hat hoi hzl yso vB hst
 refine (callsIn_wide (n:=9)).1 ?_
 refine callsIn_of_wp_marks Tryz.func192 rfl trivial ?_ rfl
 simp only [Tryz.ntmps192,List.size_toArray,List.length_cons,List.length_nil,Nat.reduceAdd,Nat.reduceSub,Array.replicate_succ,Array.replicate_zero,List.push_toArray,List.append_toArray,List.nil_append,List.cons_append]
 gi_wp2
 rw [HW0.out]
 refine wpIn_wide.2 ?_
 refine wp_region_noPanic ?_
 refine wp_region_held_drew (S:=fun W=>Be W0 W∧W.cell? ⟨w.heap.size,0,none⟩=some (.slice (some ⟨b0,off,none⟩) len c)∧W.cell? ⟨w.heap.size,1,none⟩=some (.map (some b))∧W.cell? ⟨w.heap.size+1,0,none⟩=some (.int .i64 (a:Int))∧W.cell? ⟨w.heap.size+1+1+1+1+1+1,0,none⟩=some (.int .i64 (o:Int))∧(Instr.lookup 150 (.map (some b)) (.agg #[.int .u8 (x0:Int),.int .u8 (x1:Int),.int .u8 (x2:Int),.int .u8 (x3:Int)]) false).run Tryz.prog W=.ok (.slice q N c1) W) (by kernel_rfl) (ydW.out _ ⟨rfl,rfl,rfl,Nat.le_refl _,fun _ _=>rfl⟩) (fun hHeld=>?_)
 refine tk (i:=0) (v:=_) rfl (Or.inl ⟨by rfl,by intro W' hSw;obtain ⟨e0,e1,e2,e3,e4,e5⟩:=hSw;go_simp;with_reducible rfl⟩) ?_
 simp only [sl]
 refine tk (i:=1) (v:=_) rfl (Or.inl ⟨by rfl,by intro W' hSw;obtain ⟨e0,e1,e2,e3,e4,e5⟩:=hSw;go_simp;with_reducible rfl⟩) ?_
 simp only [sl]
 refine tk (i:=2) (v:=_) rfl (Or.inl ⟨by rfl,by intro W' hSw;obtain ⟨e0,e1,e2,e3,e4,e5⟩:=hSw;go_simp;with_reducible rfl⟩) ?_
 simp only [sl]
 refine tk (i:=3) (v:=_) rfl (Or.inl ⟨by rfl,by intro W' hSw;obtain ⟨e0,e1,e2,e3,e4,e5⟩:=hSw;go_simp;with_reducible rfl⟩) ?_
 simp only [sl]
 refine tk (i:=4) (v:=_) rfl (Or.inl ⟨by rfl,by intro W' hSw;obtain ⟨e0,e1,e2,e3,e4,e5⟩:=hSw;go_simp;with_reducible rfl⟩) ?_
 simp only [sl]
 refine tk (i:=5) (v:=_) rfl (Or.inl ⟨by rfl,by intro W' hSw;obtain ⟨e0,e1,e2,e3,e4,e5⟩:=hSw;go_simp;with_reducible rfl⟩) ?_
 simp only [sl]
 refine oN (i:=6) rfl fun K hK=>?_
 go_simp
 refine (yx1.out _ hHeld.1).mono ?_
 rintro e w1 ⟨hb1,rfl⟩
 have yX:Hid (Be W0 w1):=h_ (hHeld.1.trans hb1)
 refine hK.out _ _ (ydW.out _ yX.out) (fun hHeld2=>?_)
 clear hK K hb1 hHeld
 refine tk (i:=7) (v:=_) rfl (Or.inl ⟨by rfl,by intro W' hSw;obtain ⟨e0,e1,e2,e3,e4,e5⟩:=hSw;go_simp;with_reducible rfl⟩) ?_
 simp only [sl]
 refine tk (i:=8) (v:=_) rfl (Or.inl ⟨by rfl,by intro W' hSw;obtain ⟨e0,e1,e2,e3,e4,e5⟩:=hSw;go_simp;with_reducible rfl⟩) ?_
 simp only [sl]
 refine wpAnyH_done (by kernel_rfl) ?_ _
 refine NoPanic.normal ?_
 clear hHeld2 hwr
 have HN1:=h_ (HN0.out.next yX.out)
 have aB1:=HN1.out.a
 have oB1:=HN1.out.o
 have ca:w1.cell? ⟨w.heap.size+1,0,none⟩=some (.int .i64 (a:Int)):=by simp [World.cell?,aB1]
 have co:w1.cell? ⟨w.heap.size+1+1+1+1+1+1,0,none⟩=some (.int .i64 (o:Int)):=by simp [World.cell?,oB1]
 clear aB1 oB1
 gi_wp2_with (refine ⟨trivial,?_⟩;gi_at_call 223;refine (callsIn_wide.2 (HSE.out _ HN1.out.below)).mono ?_;rintro e w2 ⟨hb2,i,bb,hiN,hlo,hhi,rfl⟩;have hic:i≤c1:=Nat.le_trans hiN ydi.out.cap)
 have HN2:=h_ (HN1.out.next hb2)
 have HSR:Hid (Srch l a n d N i ps):=h_ ⟨hn3,hda,by rw [← HP.out,H.out.hl];exact ydi.out.all,ydi.out.up,hiN,by rw [← HT.out];exact hlo,by rw [← HT.out];exact hhi⟩
 have iiN:(i:Int)≤20000:=by have:=ydi.out.hN;omega
 have iic:(i:Int)≤(c1:Int):=by have:=ydi.out.cap;omega
 clear hb2 hlo hhi ca co
 gi_wp2_with (refine ⟨trivial,?_⟩;gi_at_call 224;refine (ywQ _ _ _ _ _).mono ?_;rintro e w3 ⟨rfl,rfl⟩)
 obtain ⟨W3,hW3⟩:∃ W3,w2.alloc (.cells #[.slice q i c1] 194)=W3:=⟨_,rfl⟩
 have hs3:W3.heap.size=w2.heap.size+1:=by rw [← hW3];simp
 have hbe:Be w2 W3:=by rw [← hW3];exact bR.alloc nl _
 have hI3:Nx w b0 off len c b a n yF o (.int .i64 0) (.int .i64 0) W3:=HN2.out.next hbe
 have hBb:W3.cell? ⟨w2.heap.size,0,none⟩=some (.slice q i c1):=by
  have:=World.alloc_heap_new w2 (.cells #[.slice q i c1] 194)
  rw [hW3] at this
  simp [World.cell?,this]
 have hsz3:=hI3.sz
 have hi1000:i≤20000:=by omega
 rw [hW3]
 refine wpIn_rangeFunc_ownF rfl (by omega) (gf:=250) (lb:=#[.pointer (some ⟨w2.heap.size,0,none⟩)]) rfl trivial (enters_of Tryz.func250 (by kernel_rfl) rfl)
  (ypd _ (by omega) w2.heap.size w.heap.size i c1 q ps hi1000 (h_ (fun j hj=>ydi.out.le j (by omega))) W3 (by omega) (by omega) hBb (ydi.out.rowN hI3.below hiN)) vF.trans
  (fun W lo o o' hlo ho hc hw=>⟨(Below.refl _ W).grown (grownBy_putObj' W lo o') (by have:=(Array.getElem?_eq_some_iff.1 ho).1;omega) (fun k e=>by cases e;omega),World.putObj_heap_other (by omega),World.putObj_heap_other (by omega)⟩) bR (fun _=>rfl)
  (fun pre W=>Nx w b0 off len c b a n yF o (.int .i64 0) (.int .i64 0) W∧Hid (∀ y ∈ pre,rn l a (a+(n-3)-ps (i-1-y.1))≤n)∧w2.heap.size<W.heap.size)
  (fun c9 pre W=>ynj w b0 off len c b a n yF o l ps i c9 pre W)
  (fun s W W' row h hg hr=>⟨h.1.own hg (fun r e=>⟨by have:=(hr r e).1;omega,(hr r e).2⟩),h.2.1,Nat.lt_of_lt_of_le h.2.2 hg.size⟩)
  (fun c9 s W W' row h hg hr=>by
   obtain ⟨pre0,x,e,hp,h⟩:=h
   refine ⟨pre0,x,e,hp,?_⟩
   rcases h with ⟨h1,h2,h3,h4⟩|⟨h1,h2,h3⟩
   ·exact .inl ⟨h1,h2,h3,h4.own hg (fun r e=>⟨by have:=(hr r e).1;omega,(hr r e).2⟩)⟩
   ·exact .inr ⟨h1,h2,h3.own hg (fun r e=>⟨by have:=(hr r e).1;omega,(hr r e).2⟩)⟩)
  ⟨hI3,h_ (by intro y hy;cases hy),by omega⟩ ?a1 ?assign ?body ?done ?stop
 case assign =>
  intro lo x W K hK
  gi_wp2
  exact hK
 case body =>
  rintro lo pre x W ⟨hI,yk6,hBW⟩ ynP
  have HI:=h_ hI
  obtain ⟨ix,HIX⟩:=ey (i-1-x.1)
  obtain ⟨y,HY⟩:=ey (ps ix)
  have e1:i-1-x.1=ix:=HIX.out.symm
  have e2:ps ix=y:=HY.out.symm
  simp only [e1,e2]
  have hxi:=x.2
  have hixi:ix<i:=by rw [HIX.out];omega
  have hyt:y<a+(n-3)-d:=by rw [HY.out];exact HSR.out.lo ix hixi
  have iy:(y:Int)≤20000:=by omega
  have cx0:W.cell? ⟨w.heap.size,0,none⟩=some (.slice (some ⟨b0,off,none⟩) len c):=by simp [World.cell?,hI.x]
  have cx1:W.cell? ⟨w.heap.size,1,none⟩=some (.map (some b)):=by simp [World.cell?,hI.x]
  have ca:W.cell? ⟨w.heap.size+1,0,none⟩=some (.int .i64 (a:Int)):=by simp [World.cell?,hI.a]
  have cm:W.cell? ⟨w.heap.size+1+1+1,0,none⟩=some (.int .i64 (yF:Int)):=by simp [World.cell?,hI.m]
  have co:W.cell? ⟨w.heap.size+1+1+1+1+1+1,0,none⟩=some (.int .i64 (o:Int)):=by simp [World.cell?,hI.o]
  clear hI hxi e1 e2
  by_cases hyo:y<o
  ·have i1:(y:Int)-(o:Int)<0:=by omega
   have yD:Hid (KeepsOthers W W∧ynj w b0 off len c b a n yF o l ps i (.exit 0) (pre++[x]) W):=h_ ⟨ybp bR,pre,x,rfl,yk6.out,.inr ⟨rfl,by rw [← HIX.out,← HY.out,← HO.out];exact hyo,HI.out⟩⟩
   gi_wp2
   exact yD.out
  ·obtain ⟨f,HF⟩:=ey (y-o)
   obtain ⟨d2,HD2⟩:=ey (a+(n-3)-y)
   have hf:(y:Int)-(o:Int)=(f:Int):=by rw [HF.out];omega
   have hfa:(a:Int)-(f:Int)=(d2:Int):=by rw [HD2.out,HF.out];have:=HO.out;omega
   have hd2a:d2≤a:=by rw [HD2.out];have:=HO.out;omega
   have hd21:1≤d2:=by rw [HD2.out];omega
   have id2:(d2:Int)≤20000:=by omega
   have if1:(f:Int)≤20000:=by rw [HF.out];omega
   have hf0:¬ (f:Int)<0:=by omega
   obtain ⟨r,HR⟩:=ey (rn l a d2)
   have hr131:(r:Int)≤131:=by have:=ynD l a d2;rw [HR.out];omega
   have HSM:Hid (Calls Tryz.prog 225 #[.agg #[.slice (some ⟨b0,off,none⟩) len c,.map (some b)],.int .i64 (f:Int),.int .i64 (a:Int),.int .i64 (yF:Int)] W fun e w'=>Be W w'∧e=.returned (.int .i64 (r:Int))):=h_ (by
    have h:=yuz b0 off len c a d2 yF (some b) l W hl hd21 hd2a ha hm ⟨H.out.hl,H.out.hc,H.out.lies.below HI.out.below⟩
    rw [show a-d2=f by rw [HD2.out,HF.out];have:=HO.out;omega] at h
    rwa [← HR.out] at h)
   have hw2:IntKind.i64.wrap (d2:Int)=(d2:Int):=IntWalk.i64_in _ (by omega)
   by_cases hrn:n<r
   ·have irn:(n:Int)<(r:Int):=by omega
    gi_wp2_with (refine ⟨trivial,?_⟩;gi_at_call 225;refine (CallsIn.inRound _ (callsIn_wide.2 HSM.out)).mono ?_;rintro e w5 ⟨hb5,rfl⟩;have HI5:=h_ (HI.out.next hb5);have HB5:=h_ hb5;have cn5:w5.cell? ⟨w.heap.size+1+1,0,none⟩=some (.int .i64 (n:Int)):=by simp [World.cell?,HI5.out.n])
    have ca5:w5.drew.cell? ⟨w.heap.size+1,0,none⟩=some (.int .i64 (a:Int)):=by
     show w5.cell? ⟨w.heap.size+1,0,none⟩=_
     simp [World.cell?,HI5.out.a]
    have HID:Hid (Nx w b0 off len c b a n yF o (.int .i64 0) (.int .i64 0) w5.drew):=h_ (HI5.out.next ⟨rfl,rfl,rfl,Nat.le_refl _,fun _ _=>rfl⟩)
    have c4:w5.drew.cell? ⟨w.heap.size+1+1+1+1,0,none⟩=some (.int .i64 0):=by
     show w5.cell? ⟨w.heap.size+1+1+1+1,0,none⟩=_
     simp [World.cell?,HI5.out.r0]
    have z4:w5.drew.frozen? ⟨w.heap.size+1+1+1+1,0,none⟩=false:=by
     show w5.frozen? ⟨w.heap.size+1+1+1+1,0,none⟩=_
     simp [World.frozen?,HI5.out.r0]
    obtain ⟨W6,hW6⟩:∃ W6,w5.drew.setCell ⟨w.heap.size+1+1+1+1,0,none⟩ (.int .i64 (r:Int))=W6:=⟨_,rfl⟩
    have b5:W6.heap[w.heap.size+1+1+1+1+1]?=some (.cells #[.int .i64 0] 3 (0,0)):=by rw [← hW6];exact (Below.heap_setCell w5.drew ⟨w.heap.size+1+1+1+1,0,none⟩ _ _ (by show w.heap.size+1+1+1+1+1≠w.heap.size+1+1+1+1;omega)).trans HID.out.r1
    have ca6:W6.cell? ⟨w.heap.size+1,0,none⟩=some (.int .i64 (a:Int)):=by
     have h6:W6.heap[w.heap.size+1]?=some (.cells #[.int .i64 (a:Int)] 3 (0,0)):=by rw [← hW6];exact (Below.heap_setCell w5.drew ⟨w.heap.size+1+1+1+1,0,none⟩ _ _ (by show w.heap.size+1≠w.heap.size+1+1+1+1;omega)).trans HID.out.a
     simp [World.cell?,h6]
    have c5:W6.cell? ⟨w.heap.size+1+1+1+1+1,0,none⟩=some (.int .i64 0):=by simp [World.cell?,b5]
    have z5:W6.frozen? ⟨w.heap.size+1+1+1+1+1,0,none⟩=false:=by simp [World.frozen?,b5]
    obtain ⟨W7,hW7⟩:∃ W7,W6.setCell ⟨w.heap.size+1+1+1+1+1,0,none⟩ (.int .i64 (d2:Int))=W7:=⟨_,rfl⟩
    have ca7:W7.cell? ⟨w.heap.size+1,0,none⟩=some (.int .i64 (a:Int)):=by
     rw [← hW7];exact (World.cell?_setCell_other _ _ _ _ (fun x=>by simp only [Addr.mk.injEq] at x;have:=x.1;omega)).trans ca6
    have GB:Hid (KeepsOthers W W7∧ynj w b0 off len c b a n yF o l ps i .ret (pre++[x]) W7):=h_ (by
     refine ⟨(ybp HB5.out).trans ((KeepsOthers.drew _).trans (by rw [← hW7,← hW6];exact (KeepsOthers.setCell _ _ _).trans (KeepsOthers.setCell _ _ _))),pre,x,rfl,yk6.out,.inl ⟨rfl,?_,?_,?_⟩⟩
     ·rw [← HIX.out,← HY.out,← HO.out];omega
     ·rw [← HIX.out,← HY.out,← HD2.out,← HR.out];exact hrn
     ·rw [← HIX.out,← HY.out,← HD2.out,← HR.out,← hW7,← hW6];exact HID.out.put)
    clear b5 cn5
    refine yc2 (S:=fun W'=>W'.cell? ⟨w.heap.size+1,0,none⟩=some (.int .i64 (a:Int))) (by kernel_rfl) (by kernel_rfl) (fun ⟨_,_,h⟩=>h) ca5 (fun hHeld=>?_)
    refine tk (i:=0) (v:=_) rfl (Or.inl ⟨by rfl,by intro W' hSw;obtain e0:=hSw;go_simp;with_reducible rfl⟩) ?_
    simp only [sl]
    refine tk (i:=1) (v:=_) rfl (Or.inl ⟨by rfl,by intro W' hSw;obtain e0:=hSw;go_simp;with_reducible rfl⟩) ?_
    simp only [sl]
    refine tk (i:=2) (v:=_) rfl (Or.inl ⟨by rfl,by intro W' hSw;obtain e0:=hSw;go_simp;with_reducible rfl⟩) ?_
    simp only [sl]
    refine tk (i:=3) (v:=_) rfl (Or.inl ⟨by rfl,by intro W' hSw;obtain e0:=hSw;go_simp;with_reducible rfl⟩) ?_
    simp only [sl]
    refine oN (i:=4) rfl fun K hK=>?_
    go_simp
    try rw [hW6]
    refine hK.out _ _ ca6 (fun hHeld=>?_)
    clear hK K
    refine oN (i:=5) rfl fun K hK=>?_
    go_simp
    try rw [hW7]
    refine hK.out _ _ ca7 (fun hHeld=>?_)
    clear hK K
    refine wpAnyH_done (by kernel_rfl) ?_ _
    gi_wp2
    exact GB.out
   ·have irn:¬ (n:Int)<(r:Int):=by omega
    gi_wp2_with (refine ⟨trivial,?_⟩;gi_at_call 225;refine (CallsIn.inRound _ (callsIn_wide.2 HSM.out)).mono ?_;rintro e w5 ⟨hb5,rfl⟩;have HI5:=h_ (HI.out.next hb5);have HB5:=h_ hb5;have cn5:w5.cell? ⟨w.heap.size+1+1,0,none⟩=some (.int .i64 (n:Int)):=by simp [World.cell?,HI5.out.n])
    have hP2:Hid (∀ z ∈ pre++[x],rn l a (a+(n-3)-ps (i-1-z.1))≤n):=h_ (fun z hz=>by
     rcases List.mem_append.1 hz with hz|hz
     ·exact yk6.out z hz
     ·obtain rfl:=List.mem_singleton.1 hz
      rw [← HIX.out,← HY.out,← HD2.out,← HR.out];omega)
    exact ⟨ybp HB5.out,⟨HB5.out.mono HI.out.below.size,HB5.out.block _ hBW,HB5.out.block _ hBW⟩,HI5.out,hP2,Nat.lt_of_lt_of_le hBW HB5.out.size⟩
 case done =>
  rintro D9 xs W hD hS ⟨hI,yk6,hBW⟩ hK
  have hno:ycF l a n d:=ydd.done HSR.out (yp4 yk6.out hS)
  have hwD:w.heap.size≤D9:=by omega
  have hP:=hI.put (v:=.int .i64 0) (v':=.int .i64 0)
  have d4:W.cell? ⟨w.heap.size+1+1+1+1,0,none⟩=some (.int .i64 0):=by simp [World.cell?,hI.r0]
  have y4:W.frozen? ⟨w.heap.size+1+1+1+1,0,none⟩=false:=by simp [World.frozen?,hI.r0]
  obtain ⟨V6,hV6⟩:∃ V6,W.setCell ⟨w.heap.size+1+1+1+1,0,none⟩ (.int .i64 0)=V6:=⟨_,rfl⟩
  have b5:V6.heap[w.heap.size+1+1+1+1+1]?=some (.cells #[.int .i64 0] 3 (0,0)):=by rw [← hV6];exact (Below.heap_setCell W ⟨w.heap.size+1+1+1+1,0,none⟩ _ _ (by show w.heap.size+1+1+1+1+1≠w.heap.size+1+1+1+1;omega)).trans hI.r1
  have d5:(W.setCell ⟨w.heap.size+1+1+1+1,0,none⟩ (.int .i64 0)).cell? ⟨w.heap.size+1+1+1+1+1,0,none⟩=some (.int .i64 0):=by rw [hV6];simp [World.cell?,b5]
  have y5:(W.setCell ⟨w.heap.size+1+1+1+1,0,none⟩ (.int .i64 0)).frozen? ⟨w.heap.size+1+1+1+1+1,0,none⟩=false:=by rw [hV6];simp [World.frozen?,b5]
  clear hV6 b5
  obtain ⟨V,hV⟩:∃ V,(W.setCell ⟨w.heap.size+1+1+1+1,0,none⟩ (.int .i64 0)).setCell ⟨w.heap.size+1+1+1+1+1,0,none⟩ (.int .i64 0)=V:=⟨_,rfl⟩
  have hKV:V.heap[D9]?=some (.deferred (some [])):=by rw [← hV];exact (KeepsOthers.setCell _ _ _).same D9 _ ((KeepsOthers.setCell _ _ _).same D9 _ hK rfl) rfl
  rw [hV] at hP
  have hE:=yni hP hwD hKV
  have k4:(V.putObj D9 (.deferred none)).cell? ⟨w.heap.size+1+1+1+1,0,none⟩=some (.int .i64 0):=by simp [World.cell?,hE.r0]
  have k5:(V.putObj D9 (.deferred none)).cell? ⟨w.heap.size+1+1+1+1+1,0,none⟩=some (.int .i64 0):=by simp [World.cell?,hE.r1]
  have HF9:Hid (ydq l a n d w (.returned (.tuple #[.int .i64 0,.int .i64 0])) (V.putObj D9 (.deferred none))):=h_ ⟨hE.below,.inr ⟨hno,rfl⟩⟩
  have HKV:=h_ hKV
  have HV:=h_ hV
  clear hno hE hP hI hK hKV hV
  gi_wp2
  rw [HV.out]
  refine ⟨by simp,.inl ⟨_,_,rfl,run_takeDeferred HKV.out,?_⟩⟩
  refine ⟨.tuple #[.int .i64 0,.int .i64 0],?_,HF9.out⟩
  simp [results,Tryz.f192,go_sem,k4,k5]
 case stop =>
  rintro D9 c9 pre W hD hSp ⟨pre0,x,yk1,yk6,hStop⟩ hK
  have hwD:w.heap.size≤D9:=by omega
  have hx:x.1=pre0.length∧pre0.map (·.1)=List.range pre0.length:=by
   rw [yk1] at hSp
   simp only [List.map_append,List.map_cons,List.map_nil,List.length_append,List.length_cons,List.length_nil,Nat.zero_add] at hSp
   rw [List.range_succ] at hSp
   have h9:=List.append_inj hSp (by simp)
   exact ⟨by simpa using h9.2,h9.1⟩
  have hsn:=yp4 yk6 hx.2
  have hri:pre0.length<i:=by rw [← hx.1];exact x.2
  rw [hx.1] at hStop
  rcases hStop with ⟨rfl,hk1,hk2,hI⟩|⟨rfl,hk1,hI⟩
  ·have yjC:=ydd.found HSR.out hsn hri hk1 hk2
   obtain ⟨n2,HN2'⟩:=ey (rn l a (a+(n-3)-ps (i-1-pre0.length)))
   obtain ⟨d2,HD2'⟩:=ey (a+(n-3)-ps (i-1-pre0.length))
   rw [← HD2'.out] at hI yjC HN2'
   rw [← HN2'.out] at hI yjC
   have hE:=yni hI hwD hK
   have k4:(W.putObj D9 (.deferred none)).cell? ⟨w.heap.size+1+1+1+1,0,none⟩=some (.int .i64 (n2:Int)):=by simp [World.cell?,hE.r0]
   have k5:(W.putObj D9 (.deferred none)).cell? ⟨w.heap.size+1+1+1+1+1,0,none⟩=some (.int .i64 (d2:Int)):=by simp [World.cell?,hE.r1]
   have HF9:Hid (ydq l a n d w (.returned (.tuple #[.int .i64 (n2:Int),.int .i64 (d2:Int)])) (W.putObj D9 (.deferred none))):=h_ ⟨hE.below,.inl ⟨n2,d2,yjC,rfl⟩⟩
   clear hk1 hk2 yjC hI hE
   gi_wp2
   refine ⟨by simp,.inl ⟨_,_,rfl,run_takeDeferred hK,?_⟩⟩
   refine ⟨.tuple #[.int .i64 (n2:Int),.int .i64 (d2:Int)],?_,HF9.out⟩
   simp [results,Tryz.f192,go_sem,k4,k5]
  ·have hno:ycF l a n d:=ydd.cut HSR.out hsn hri hk1
   clear hk1
   have hP:=hI.put (v:=.int .i64 0) (v':=.int .i64 0)
   have d4:W.cell? ⟨w.heap.size+1+1+1+1,0,none⟩=some (.int .i64 0):=by simp [World.cell?,hI.r0]
   have y4:W.frozen? ⟨w.heap.size+1+1+1+1,0,none⟩=false:=by simp [World.frozen?,hI.r0]
   obtain ⟨V6,hV6⟩:∃ V6,W.setCell ⟨w.heap.size+1+1+1+1,0,none⟩ (.int .i64 0)=V6:=⟨_,rfl⟩
   have b5:V6.heap[w.heap.size+1+1+1+1+1]?=some (.cells #[.int .i64 0] 3 (0,0)):=by rw [← hV6];exact (Below.heap_setCell W ⟨w.heap.size+1+1+1+1,0,none⟩ _ _ (by show w.heap.size+1+1+1+1+1≠w.heap.size+1+1+1+1;omega)).trans hI.r1
   have d5:(W.setCell ⟨w.heap.size+1+1+1+1,0,none⟩ (.int .i64 0)).cell? ⟨w.heap.size+1+1+1+1+1,0,none⟩=some (.int .i64 0):=by rw [hV6];simp [World.cell?,b5]
   have y5:(W.setCell ⟨w.heap.size+1+1+1+1,0,none⟩ (.int .i64 0)).frozen? ⟨w.heap.size+1+1+1+1+1,0,none⟩=false:=by rw [hV6];simp [World.frozen?,b5]
   clear hV6 b5
   obtain ⟨V,hV⟩:∃ V,(W.setCell ⟨w.heap.size+1+1+1+1,0,none⟩ (.int .i64 0)).setCell ⟨w.heap.size+1+1+1+1+1,0,none⟩ (.int .i64 0)=V:=⟨_,rfl⟩
   have hKV:V.heap[D9]?=some (.deferred (some [])):=by rw [← hV];exact (KeepsOthers.setCell _ _ _).same D9 _ ((KeepsOthers.setCell _ _ _).same D9 _ hK rfl) rfl
   rw [hV] at hP
   have hE:=yni hP hwD hKV
   have k4:(V.putObj D9 (.deferred none)).cell? ⟨w.heap.size+1+1+1+1,0,none⟩=some (.int .i64 0):=by simp [World.cell?,hE.r0]
   have k5:(V.putObj D9 (.deferred none)).cell? ⟨w.heap.size+1+1+1+1+1,0,none⟩=some (.int .i64 0):=by simp [World.cell?,hE.r1]
   have HF9:Hid (ydq l a n d w (.returned (.tuple #[.int .i64 0,.int .i64 0])) (V.putObj D9 (.deferred none))):=h_ ⟨hE.below,.inr ⟨hno,rfl⟩⟩
   have HKV:=h_ hKV
   have HV:=h_ hV
   clear hno hE hP hI hK hKV hV
   gi_wp2
   rw [HV.out]
   refine ⟨by simp,.inl ⟨_,_,rfl,run_takeDeferred HKV.out,?_⟩⟩
   refine ⟨.tuple #[.int .i64 0,.int .i64 0],?_,HF9.out⟩
   simp [results,Tryz.f192,go_sem,k4,k5]
end
end Go.Proofs.YtgepehlpjpccaaaGreatDoor
