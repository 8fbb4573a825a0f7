/- Contracts. -/
import Derived.Test.YtgepehlpjpccaaaGreatDoorWFP
namespace Go.Proofs.YtgepehlpjpccaaaGreatDoor
set_option maxHeartbeats 4000000
set_option maxRecDepth 100000
section
open Go.RowKit Go.Maps Go.ChangeShapes
open Go.Lib
variable {base b n : Nat} {D : DataW Unit} {W W' : World}
theorem yxK:(Tryz.prog.info? 3).map (fun i=>(i.zero,i.size,i.bytes))=some (some (.int .i64 0),1,8):=by kernel_rfl
theorem yl8 (w:World) (base:Nat) (hb:w.heap.size<base):(w.alloc (.map #[] 0)).ownsGroups (H:=Unit) Tryz.prog 79 base 3 .i64 w.heap.size 0 (.map []) :=
 ⟨#[],0,(MapKept.heap_alloc w _).1,⟨by simp,MapKept.stamped_empty 0,by simp⟩,Nat.le_refl _,rfl,hb,by simp,by simp⟩
theorem yaY (h:W.ownsGroups Tryz.prog 79 base 3 .i64 b n D) (hb:Below W.heap.size W W'):W'.ownsGroups Tryz.prog 79 base 3 .i64 b n D :=
 h.kept (yak hb none) (by simp) (fun _ _ _ x _=>by cases x.val.ownBlock<;>simp)
theorem ygX (h:W.ownsGroups Tryz.prog 79 base 3 .i64 b n D) {g k:Nat} (hg:g<base) (hb:b≠g) (v:Value):(W.setCell ⟨g,k,none⟩ v).ownsGroups Tryz.prog 79 base 3 .i64 b n D :=
 h.kept (row:=some g) ⟨rfl,rfl,rfl,by simp,fun i _ hi=>Below.heap_setCell _ _ _ _ (fun e=>hi (by rw [e]))⟩ (by intro e;cases e;exact hb rfl) (h.rowsAbove (fun j e=>by cases e;exact hg))
def yxa (l:List UInt8) (b0 off len c:Nat) (w:World) (e:Ending) (w1:World):Prop :=
 Below w.heap.size w w1∧∃ (b base:Nat) (D:DataW Unit),e=.returned (.agg #[.slice (some ⟨b0,off,none⟩) len c,.map (some b)])∧Gm l (len-3) D∧w1.ownsGroups Tryz.prog 79 base 3 .i64 b (len-3) D
theorem ysZ {K w7:World} {x:Value} {t:TypeId} {N:Nat} (hg:(K.alloc (.cells #[x] t)).grownBy w7 (some b)) (hN:K.heap.size=N) (hb:N≠b):∀ j u,[x][j]?=some u→w7.cell? ((⟨N,0,none⟩:Addr).add j)=some u:=fun j u hj=>by
 subst hN
 have h:=hg.block K.heap.size (by simp) (by intro e;cases e;exact hb rfl)
 rw [World.cell?_of_block (a:=(⟨K.heap.size,0,none⟩:Addr).add j) (w:=K.alloc (.cells #[x] t)) (by rw [show ((⟨K.heap.size,0,none⟩:Addr).add j).block=K.heap.size by unfold Addr.add;split<;>rfl];exact h)]
 exact cell_one_new _ _ _ j u hj
theorem ygY {w5 w6 w7 w8 w9:World} {v:Value} {zs:List Int} (h6:Below w5.heap.size w5 w6) (hg7:w6.grownBy w7 (some b)) (ho:w7.ownsInts base 3 .i64 v zs) (hg8:w7.grownBy w8 v.ownBlock) (hg9:w8.grownBy w9 (some b)) {k:Nat} (hk:k<base) (hk5:k<w5.heap.size) (hkb:k≠b):w9.heap[k]?=w5.heap[k]?:=by
 have h1:=h6.block k hk5
 have h2:=hg7.block k (Nat.lt_of_lt_of_le hk5 h6.size) (by intro e;cases e;exact hkb rfl)
 have h3:=hg8.block k (Nat.lt_of_lt_of_le (Nat.lt_of_lt_of_le hk5 h6.size) hg7.size) (fun e=>by have:=(ho.1.lt k e.symm).1;omega)
 have h4:=hg9.block k (Nat.lt_of_lt_of_le (Nat.lt_of_lt_of_le (Nat.lt_of_lt_of_le hk5 h6.size) hg7.size) hg8.size) (by intro e;cases e;exact hkb rfl)
 exact h4.trans (h3.trans (h2.trans h1))
theorem yp8 (b0 off len c:Nat) (l:List UInt8) (w:World) (hl:len≤20000) (h:Came w (some ⟨b0,off,none⟩) len c l) :
  Calls Tryz.prog 152 #[.slice (some ⟨b0,off,none⟩) len c] w (yxa l b0 off len c w):=by
 have H:=Lib.hid h
 have il:(len:Int)≤20000:=by omega
 have hmm:=@run_makeMap Tryz.prog
 obtain ⟨i0,hi,hz0,hz1,hz2⟩:=info_parts yxK
 obtain ⟨W0,HW0⟩:∃ W0,Hid (((w.alloc (.cells #[.slice none 0 0,.map none] 152)).alloc (.map #[] 0)).alloc (.cells #[.slice (some ⟨b0,off,none⟩) len c,.map (some (w.heap.size+1))] 152)=W0):=⟨_,Lib.hid rfl⟩
 have HB0:Hid (Below w.heap.size w W0):=Lib.hid (by
  rw [← HW0.out]
  exact (((Below.refl _ w).alloc (Nat.le_refl _) _).alloc (by simp) _).alloc (by simp;omega) _)
 have HS0:w.heap.size+3≤W0.heap.size:=by rw [← HW0.out];simp
 have HX0:Hid (W0.heap[w.heap.size]?=some (.cells #[.slice none 0 0,.map none] 152 (0,0))∧W0.heap[w.heap.size+1+1]?=some (.cells #[.slice (some ⟨b0,off,none⟩) len c,.map (some (w.heap.size+1))] 152 (0,0))):=Lib.hid (by
  rw [← HW0.out]
  constructor
  ·exact (Below.heap_alloc _ _ _ (by simp;omega)).trans ((Below.heap_alloc _ _ _ (by simp)).trans (World.alloc_heap_new w _))
  ·have:=World.alloc_heap_new ((w.alloc (.cells #[.slice none 0 0,.map none] 152)).alloc (.map #[] 0)) (.cells #[.slice (some ⟨b0,off,none⟩) len c,.map (some (w.heap.size+1))] 152);rwa [World.size_alloc,World.size_alloc] at this)
 have HG0:Hid (W0.ownsGroups (H:=Unit) Tryz.prog 79 (w.heap.size+3) 3 .i64 (w.heap.size+1) 0 (.map [])):=Lib.hid (by
  have h1:=yl8 (w.alloc (.cells #[.slice none 0 0,.map none] 152)) (w.heap.size+3) (by simp)
  rw [World.size_alloc] at h1
  rw [← HW0.out]
  exact yaY h1 ((Below.refl _ _).alloc (Nat.le_refl _) _))
 clear h
 go_enter Tryz.func152,Tryz.ntmps152
 go_wp2_with fail
 rw [HW0.out]
 clear hmm
 go_loopw [4] (fun pv wr=>∃ (m:Nat) (D:DataW Unit),m≤len-3∧pv=.int .i64 m∧Hid (wr.ownsGroups Tryz.prog 79 (w.heap.size+3) 3 .i64 (w.heap.size+1) m D)∧Hid (Gm l m D)∧Hid (Below w.heap.size w wr)∧w.heap.size+3≤wr.heap.size∧Hid (wr.heap[w.heap.size]?=some (.cells #[.slice none 0 0,.map none] 152 (0,0))∧wr.heap[w.heap.size+1+1]?=some (.cells #[.slice (some ⟨b0,off,none⟩) len c,.map (some (w.heap.size+1))] 152 (0,0)))) (fun pv _=>len-(Go.RowKit.intOf pv).toNat)
 case atStart=>exact ⟨0,_,Nat.zero_le _,rfl,HG0,Lib.hid (Gm.start l),HB0,HS0,HX0⟩
 case round =>
  obtain ⟨m,D,hm,rfl,yW,hG,HB,hwr,HX⟩:=hrel
  have c0:wr.cell? ⟨w.heap.size+1+1,0,none⟩=some (.slice (some ⟨b0,off,none⟩) len c):=by simp [World.cell?,HX.out.2]
  have c1:wr.cell? ⟨w.heap.size+1+1,1,none⟩=some (.map (some (w.heap.size+1))):=by simp [World.cell?,HX.out.2]
  by_cases hlt:m+4≤len
  ·have ilt:(m:Int)+4≤(len:Int):=by omega
   obtain ⟨x0,x1,x2,x3,HQ⟩:∃ x0 x1 x2 x3:Nat,Hid (yqp l m=.agg #[.int .u8 (x0:Int),.int .u8 (x1:Int),.int .u8 (x2:Int),.int .u8 (x3:Int)]):=⟨_,_,_,_,Lib.hid rfl⟩
   have HKC:Hid (Calls Tryz.prog 191 #[.agg #[.slice (some ⟨b0,off,none⟩) len c,.map (some (w.heap.size+1))],.int .i64 (m:Int)] wr fun e w'=>Below wr.heap.size wr w'∧e=.returned (.agg #[.int .u8 (x0:Int),.int .u8 (x1:Int),.int .u8 (x2:Int),.int .u8 (x3:Int)])):=Lib.hid (by
    rw [← HQ.out]
    exact ypb b0 off len c m (some (w.heap.size+1)) l wr hl hlt ⟨H.out.hl,H.out.hc,H.out.lies.below HB.out⟩)
   have ywf:Hid (keyOf Tryz.prog 79 (.agg #[.int .u8 (x0:Int),.int .u8 (x1:Int),.int .u8 (x2:Int),.int .u8 (x3:Int)])=some (.string (k4 l m))):=Lib.hid (by rw [← HQ.out];exact ylg l m)
   have HWF:Hid ((Lit.int .i64 (m:Int)).wf=true):=Lib.hid (WalkArith.wf_i64 (by omega))
   go_wp2_with fail
   refine (HKC.out).mono ?_
   rintro e w5 ⟨hb5,rfl⟩
   have HB5:=Lib.hid hb5
   have hX5:w5.heap[w.heap.size+1+1]?=some (.cells #[.slice (some ⟨b0,off,none⟩) len c,.map (some (w.heap.size+1))] 152 (0,0)):=(hb5.block _ (by omega)).trans HX.out.2
   have hs5:wr.heap.size≤w5.heap.size:=hb5.size
   have d0:w5.cell? ⟨w.heap.size+1+1,0,none⟩=some (.slice (some ⟨b0,off,none⟩) len c):=by simp [World.cell?,hX5]
   have d1:w5.cell? ⟨w.heap.size+1+1,1,none⟩=some (.map (some (w.heap.size+1))):=by simp [World.cell?,hX5]
   have HB6:Hid (Below w5.heap.size w5 (w5.alloc (.cells #[.int .u8 (x0:Int),.int .u8 (x1:Int),.int .u8 (x2:Int),.int .u8 (x3:Int)] 79))):=Lib.hid ((Below.refl _ _).alloc (Nat.le_refl _) _)
   have HB7:Hid (Below w5.heap.size w5 ((w5.alloc (.cells #[.int .u8 (x0:Int),.int .u8 (x1:Int),.int .u8 (x2:Int),.int .u8 (x3:Int)] 79)).alloc (.cells #[.int .i64 (m:Int)] 3))):=Lib.hid (HB6.out.trans (((Below.refl _ (w5.alloc (.cells #[.int .u8 (x0:Int),.int .u8 (x1:Int),.int .u8 (x2:Int),.int .u8 (x3:Int)] 79))).alloc (Nat.le_refl _) _).mono HB6.out.size))
   have ybi:Hid (((w5.alloc (.cells #[.int .u8 (x0:Int),.int .u8 (x1:Int),.int .u8 (x2:Int),.int .u8 (x3:Int)] 79)).alloc (.cells #[.int .i64 (m:Int)] 3)).ownsGroups Tryz.prog 79 (w.heap.size+3) 3 .i64 (w.heap.size+1) m D):=Lib.hid (yaY (yaY yW.out HB5.out) HB7.out)
   have hs6:Hid (w.heap.size+3≤((w5.alloc (.cells #[.int .u8 (x0:Int),.int .u8 (x1:Int),.int .u8 (x2:Int),.int .u8 (x3:Int)] 79)).alloc (.cells #[.int .i64 (m:Int)] 3)).heap.size):=Lib.hid (Nat.le_trans hwr (Nat.le_trans hs5 HB7.out.size))
   have hNEW:Hid (∀ j u,[Value.int .i64 (m:Int)][j]?=some u→((w5.alloc (.cells #[.int .u8 (x0:Int),.int .u8 (x1:Int),.int .u8 (x2:Int),.int .u8 (x3:Int)] 79)).alloc (.cells #[.int .i64 (m:Int)] 3)).cell? ((⟨(w5.alloc (.cells #[.int .u8 (x0:Int),.int .u8 (x1:Int),.int .u8 (x2:Int),.int .u8 (x3:Int)] 79)).heap.size,0,none⟩:Addr).add j)=some u):=Lib.hid (cell_one_new _ _ _)
   have e1:(w5.alloc (.cells #[.int .u8 (x0:Int),.int .u8 (x1:Int),.int .u8 (x2:Int),.int .u8 (x3:Int)] 79)).cell? ⟨w.heap.size+1+1,1,none⟩=some (.map (some (w.heap.size+1))):=(World.cell?_of_block (a:=⟨w.heap.size+1+1,1,none⟩) (HB6.out.block (w.heap.size+1+1) (by omega))).trans d1
   have hm1:m≤20000:=by omega
   have hbN:w5.heap.size+1≠w.heap.size+1:=by omega
   clear hb5
   go_wp2_with (first
    | (refine yj5 (H:=Unit) _ (o:=⟨some 25,_,_,_,_,_⟩) rfl (.tmp 20) (.tmp 21) 150 rfl 79 194 3 .i64 yvx Tryz.underlying150 yiG (w.heap.size+3) (w.heap.size+1) m D rfl ybi.out (by unfold maxLen;omega) _ (.string (k4 l m)) rfl ywf.out ?_;intro v zs st w7 hg7 hat hoi hzl hsz ydN;have hNEW7:=Lib.hid (ysZ hg7 (World.size_alloc _ _) hbN);have HZL:=Lib.hid hzl;have hb7:Hid (w.heap.size+3≤w7.heap.size):=Lib.hid (by rw [hsz];exact hs6.out);clear hzl)
    | (at_builtin;refine wpList_append_own_at _ rfl (.tmp 22) (.tmp 24) 194 rfl (w.heap.size+3) 3 i0 (.int .i64 0) 1 8 Tryz.underlying194 hi hz0 hz1 hz2 rfl (by decide) _ _ _ rfl hoi.1 ⟨w5.heap.size+1,0,none⟩ 1 1 [.int .i64 (m:Int)] rfl rfl hNEW7.out (ints_oneCell .i64 [(m:Int)]) (by have:=HZL.out;unfold maxLen;omega) (by have:=HZL.out;omega) hb7.out ?_;intro v' w8 hown' zC hnil yna)
    | (refine yeN (H:=Unit) _ (o:=⟨none,_,_,_,_,_⟩) rfl (.tmp 20) (.tmp 27) (.tmp 26) 150 rfl ydN rfl rfl rfl zC (hoi.appended hown' HWF.out) (by have:=HZL.out;simp;omega) (yna.imp id (fun h=>⟨_,h,Nat.le_of_eq hsz.symm⟩)) ?_;intro w9 hown9 hg9))
   have HO9:=Lib.hid hown9
   have HG9:=Lib.hid (hG.out.put (hG.out.group hoi hat) (hoi.appended hown' HWF.out))
   have hB7:Below w.heap.size w w7:=((HB.out.trans (HB5.out.mono HB.out.size)).trans (HB7.out.mono (Nat.le_trans HB.out.size hs5))).grown hg7 (by have:=hs6.out;omega) (fun k e=>by cases e;omega)
   have HB9:=Lib.hid (hB7.groups hoi zC hg9 (by have:=hb7.out;omega) (by omega) (by omega))
   have hs9:w.heap.size+3≤w9.heap.size:=Nat.le_trans hb7.out (Nat.le_trans zC.size hg9.size)
   have HX9:Hid (w9.heap[w.heap.size]?=some (.cells #[.slice none 0 0,.map none] 152 (0,0))∧w9.heap[w.heap.size+1+1]?=some (.cells #[.slice (some ⟨b0,off,none⟩) len c,.map (some (w.heap.size+1))] 152 (0,0))):=Lib.hid ⟨((ygY HB7.out hg7 hoi zC hg9 (by omega) (by omega) (by omega)).trans (HB5.out.block _ (by omega))).trans HX.out.1,((ygY HB7.out hg7 hoi zC hg9 (by omega) (by omega) (by omega)).trans (HB5.out.block _ (by omega))).trans HX.out.2⟩
   clear hown9 hB7 hg9 yna hnil zC hown' ydN hsz hoi hat hg7
   go_wp2_with fail
   go_roundw
   case rel=>exact ⟨m+1,_,by omega,by go_num,HO9,HG9,HB9,hs9,HX9⟩
   case measure=>simp [Go.RowKit.intOf];omega
  ·obtain rfl:m=len-3:=by omega
   have ilt:¬ ((len-3:Nat):Int)+4≤(len:Int):=by omega
   have r0:wr.cell? ⟨w.heap.size,0,none⟩=some (.slice none 0 0):=by simp [World.cell?,HX.out.1]
   have r1:wr.cell? ⟨w.heap.size,1,none⟩=some (.map none):=by simp [World.cell?,HX.out.1]
   have z0:wr.frozen? ⟨w.heap.size,0,none⟩=false:=by simp [World.frozen?,HX.out.1]
   have z1:wr.frozen? ⟨w.heap.size,1,none⟩=false:=by simp [World.frozen?,HX.out.1]
   have jG:∀ (W:World) (y0 y1 s1 s2:Value),W.heap[w.heap.size]?=some (.cells #[y0,y1] 152 (0,0))→((W.setCell ⟨w.heap.size,0,none⟩ s1).setCell ⟨w.heap.size,1,none⟩ s2).heap[w.heap.size]?=some (.cells #[s1,s2] 152 (0,0)):=fun W y0 y1 s1 s2 h0=>by
    have h1:=setRow_heap W w.heap.size _ (#[y0,y1].setIfInBounds 0 s1) 152 (0,0) h0
    rw [← setCell_eq_setRow W w.heap.size 0 _ 152 (0,0) _ h0] at h1
    have h2:=setRow_heap _ w.heap.size _ ((#[y0,y1].setIfInBounds 0 s1).setIfInBounds 1 s2) 152 (0,0) h1
    rw [← setCell_eq_setRow _ w.heap.size 1 _ 152 (0,0) _ h1] at h2
    exact h2
   have ykA:Hid (yxa l b0 off len c w (.returned (.agg #[.slice (some ⟨b0,off,none⟩) len c,.map (some (w.heap.size+1))])) ((wr.setCell ⟨w.heap.size,0,none⟩ (.slice (some ⟨b0,off,none⟩) len c)).setCell ⟨w.heap.size,1,none⟩ (.map (some (w.heap.size+1))))):=Lib.hid
    ⟨(HB.out.setCell (p:=⟨w.heap.size,0,none⟩) (Nat.le_refl _) _).setCell (p:=⟨w.heap.size,1,none⟩) (Nat.le_refl _) _,w.heap.size+1,w.heap.size+3,D,rfl,hG.out,ygX (ygX yW.out (by omega) (by omega) _) (by omega) (by omega) _⟩
   have ycT:=Lib.hid (jG wr _ _ (.slice (some ⟨b0,off,none⟩) len c) (.map (some (w.heap.size+1))) HX.out.1)
   clear jG
   go_wp2_with fail
   refine bodyPost_ret (results_cell_row rfl _ _ w.heap.size 152 _ (0,0) _ rfl ycT.out rfl rfl rfl) rfl ?_
   exact ykA.out
end
section
open Go.RowKit Go.Maps Go.ChangeShapes Go.Shelf
open Go.Lib
variable {base b n : Nat} {D : DataW Unit} {W W' w : World}
theorem yl9 {key:Value} {kl:Lit} (h:w.ownsGroups Tryz.prog 79 base 3 .i64 b n D) (hn:n<maxLen) (ydv:keyOf Tryz.prog 79 key=some kl) :
  ∃ v zs,D.atKey kl .nil=rowDatum .i64 v zs∧w.ownsInts base 3 .i64 v zs∧zs.length≤n∧∀ W,Below w.heap.size w W→(Instr.lookup 150 (.map (some b)) key false).run Tryz.prog W=.ok v W:=by
 have K:=Keyed.of_law yvx
 have look:∀ {es:Array MapEntry} {clock:Nat} {R:Value→Option (DataW Unit × List MemPlace)} (W:World),W.heap[b]?=some (.map es clock)→Go.WideElems.Fit Tryz.prog 79 R es clock→∀ v,(Instr.lookup 150 (.map (some b)) key false).run Tryz.prog W=.ok v W→((∀ x ∈ es.toList,x.key≠key)∧v=.slice none 0 0)∨∃ e0 ∈ es.toList,e0.key=key∧v=e0.val:=by
  intro es clock R W hb F v hv
  rcases Maps.fit_look false K Tryz.underlying150 (yiG W) hb F ydv with ⟨zL,hno,_⟩|⟨e0,y,hm0,h3,zL,_⟩
  ·rw [hv] at zL
   exact .inl ⟨hno,by simpa using zL⟩
  ·rw [hv] at zL
   exact .inr ⟨e0,hm0,h3,by simpa using zL⟩
 obtain ⟨v,zs,zL,hat,ho,hl,_⟩:=h.at K Tryz.underlying150 (yiG w) hn ydv
 refine ⟨v,zs,hat,ho,hl,fun W hW=>?_⟩
 have hO:=yaY h hW
 obtain ⟨v2,_,zP,_⟩:=hO.at K Tryz.underlying150 (yiG W) hn ydv
 obtain ⟨es,clock,hb,F,_⟩:=h
 obtain ⟨es2,clock2,hb2,F2,_⟩:=hO
 have hb3:=(hW.block b (Array.getElem?_eq_some_iff.1 hb).1).trans hb
 obtain ⟨rfl,rfl⟩:es=es2∧clock=clock2:=by rw [hb2] at hb3;simp only [Option.some.injEq,Obj.map.injEq] at hb3;exact ⟨hb3.1.symm,hb3.2.symm⟩
 have h1:=look w hb F v zL
 have h2:=look W hb2 F2 v2 zP
 have e:v2=v:=by
  rcases h1 with ⟨hno,rfl⟩|⟨e0,hm0,hk0,rfl⟩<;>rcases h2 with ⟨hno2,rfl⟩|⟨e1,hm1,hk1,rfl⟩
  ·rfl
  ·exact absurd hk1 (hno e1 hm1)
  ·exact absurd hk0 (hno2 e0 hm0)
  ·have hpw:es.toList.Pairwise (fun a b=>a.key≠b.key):=List.pairwise_map.1 F.stamped.2.2
   obtain ⟨i,hi,hxe⟩:=List.getElem_of_mem hm1
   obtain ⟨i0,hi0,ykC⟩:=List.getElem_of_mem hm0
   by_cases e:i=i0
   ·subst e;rw [← hxe,← ykC]
   ·exfalso
    rcases Nat.lt_or_gt_of_ne e with hlt|hlt
    ·exact (List.pairwise_iff_getElem.1 hpw i i0 hi hi0 hlt) (by rw [hxe,ykC,hk1,hk0])
    ·exact (List.pairwise_iff_getElem.1 hpw i0 i hi0 hi hlt) (by rw [hxe,ykC,hk1,hk0])
 rw [← e]
 exact zP
structure PRow (l:List UInt8) (len:Nat) (x:List UInt8) (q:Option Addr) (N c:Nat) (ps:Nat→Nat) (W:World):Prop where
 hN:N≤len
 row:yke W q N ps
 le:∀ j,j<N→ps j≤20000
 up:∀ i j,i≤j→j<N→ps i≤ps j
 all:∀ y,y ∈ pls l (len-3) x→∃ j,j<N∧ps j=y
 cap:N≤c
 nil:q=none→c=0∧N=0
theorem yu5 {l:List UInt8} {len:Nat} {x:List UInt8} {v:Value} {zs:List Int} (hl:len≤20000) (ho:W.ownsInts base 3 .i64 v zs) (hz:zs=plI l (len-3) x):∃ q N c ps,v=.slice q N c∧PRow l len x q N c ps W:=by
 obtain ⟨hln,hv⟩:=ho.1
 subst hz
 have hlen:(plI l (len-3) x).length=(pls l (len-3) x).length:=by rw [plI,List.length_map]
 have hup:=ywD l (len-3) x
 have hps:∀ j,j<(pls l (len-3) x).length→(pls l (len-3) x).getD j 0=(pls l (len-3) x)[j]!:=fun j hj=>by simp [List.getD,hj]
 have yeu:∀ j (hj:j<(pls l (len-3) x).length),(pls l (len-3) x).getD j 0=(pls l (len-3) x)[j]:=fun j hj=>by simp [List.getD,hj]
 have hle:∀ j,j<(pls l (len-3) x).length→(pls l (len-3) x).getD j 0≤20000:=fun j hj=>by
  rw [yeu j hj]
  have:=(ypc.1 (List.getElem_mem hj)).1
  omega
 have hmono:∀ i j,i≤j→j<(pls l (len-3) x).length→(pls l (len-3) x).getD i 0≤(pls l (len-3) x).getD j 0:=fun i j h1 h2=>by
  rw [yeu i (by omega),yeu j h2]
  by_cases e:i=j
  ·subst e;exact Nat.le_refl _
  ·exact Nat.le_of_lt (List.pairwise_iff_getElem.1 hup i j (by omega) h2 (by omega))
 have uP:∀ y,y ∈ pls l (len-3) x→∃ j,j<(pls l (len-3) x).length∧(pls l (len-3) x).getD j 0=y:=fun y hy=>by
  obtain ⟨j,hj,e⟩:=List.getElem_of_mem hy
  exact ⟨j,hj,by rw [yeu j hj];exact e⟩
 have hN:=yu3 l (len-3) x
 rcases hv with ⟨rfl,h0⟩|⟨g,cap,cur,rfl,hg,hh,hcap,_,_,ht⟩
 ·rw [hlen] at h0
  exact ⟨none,0,0,fun j=>(pls l (len-3) x).getD j 0,rfl,by omega,fun j hj=>absurd hj (Nat.not_lt_zero j),fun j hj=>absurd hj (Nat.not_lt_zero j),fun i j _ hj=>absurd hj (Nat.not_lt_zero j),fun y hy=>by obtain ⟨j,hj,_⟩:=uP y hy;omega,Nat.le_refl _,fun _=>⟨rfl,rfl⟩⟩
 ·rw [hlen] at hcap ⊢
  refine ⟨_,_,cap,fun j=>(pls l (len-3) x).getD j 0,rfl,by omega,fun j hj=>?_,hle,hmono,uP,hcap,fun e=>by cases e⟩
  refine ⟨g,rfl,(Array.getElem?_eq_some_iff.1 hh).1,?_⟩
  have:=ho.1.cellAt j (by rw [hlen];omega)
  rw [this,yeu j hj,List.getElem?_map,plI,List.getElem?_map,List.getElem?_eq_getElem hj]
  rfl
end
section
open Go.RowKit
open Go.Lib
def yc0 (l:List UInt8) (a n d:Nat) (w:World) (e:Ending) (w':World):Prop:=Below w.heap.size w w' ∧
 ((∃ n2 d2:Nat,NextAt l a n d n2 d2∧e=.returned (.tuple #[.int .i64 (n2:Int),.int .i64 (d2:Int)]))∨(yce l a n d∧e=.returned (.tuple #[.int .i64 0,.int .i64 0])))
def ydn (l:List UInt8) (a:Nat) (w:World) (e:Ending) (w':World):Prop:=Below w.heap.size w w' ∧
 (((vB l a a).1<4∧e=.returned (.tuple #[.int .i64 0,.int .i64 0]))∨(4≤(vB l a a).1∧e=.returned (.tuple #[.int .i64 ((vB l a a).1:Int),.int .i64 ((vB l a a).2:Int)])))
theorem yj6 (b0 off len c a yC:Nat) (mo:Option Nat) (l:List UInt8) (w:World) (hl:len≤20000) (h3:a<len) (hm:Hid (yC=min 131 (len-a))) (hll:Hid (l.length=len))
  (zH:∀ W,Below w.heap.size w W→∀ n d,yeE l a n d→n<yC→Calls Tryz.prog 192 #[.agg #[.slice (some ⟨b0,off,none⟩) len c,.map mo],.int .i64 (a:Int),.int .i64 (n:Int),.int .i64 (d:Int),.int .i64 (yC:Int)] W (yc0 l a n d W)) :
  Calls Tryz.prog 153 #[.agg #[.slice (some ⟨b0,off,none⟩) len c,.map mo],.int .i64 (a:Int)] w (ydn l a w):=by
 have HNX:=Lib.hid zH
 have il:(len:Int)≤20000:=by omega
 have ia:(a:Int)<(len:Int):=by omega
 have im:(yC:Int)≤131:=by rw [hm.out];omega
 have im0:0≤(yC:Int):=by omega
 have yqC:(if (len:Int)-(a:Int)<131 then (len:Int)-(a:Int) else 131)=(yC:Int):=by rw [hm.out];split<;>omega
 have yrd:(if 131<(len:Int)-(a:Int) then (131:Int) else (len:Int)-(a:Int))=(yC:Int):=by rw [hm.out];split<;>omega
 have hmin3:min ((len:Int)-(a:Int)) 131=(yC:Int):=by rw [hm.out];omega
 have hmin4:min (131:Int) ((len:Int)-(a:Int))=(yC:Int):=by rw [hm.out];omega
 have HBX:Hid (Below w.heap.size w (w.alloc (.cells #[.slice (some ⟨b0,off,none⟩) len c,.map mo] 152))):=Lib.hid ((Below.refl _ w).alloc (Nat.le_refl _) _)
 have ydA:Hid ((w.alloc (.cells #[.slice (some ⟨b0,off,none⟩) len c,.map mo] 152)).heap[w.heap.size]?=some (.cells #[.slice (some ⟨b0,off,none⟩) len c,.map mo] 152 (0,0))):=Lib.hid (World.alloc_heap_new w _)
 have hs1:w.heap.size<(w.alloc (.cells #[.slice (some ⟨b0,off,none⟩) len c,.map mo] 152)).heap.size:=by simp
 have HFULL:Hid (∀ n d,yC≤n→yce l a n d):=Lib.hid (fun n d h=>yl7 (by rw [hll.out];omega) (by rw [hll.out,← hm.out];exact h))
 clear zH
 go_enter Tryz.func153,Tryz.ntmps153
 go_wp2_with fail
 revert HBX ydA hs1
 generalize w.alloc (.cells #[.slice (some ⟨b0,off,none⟩) len c,.map mo] 152)=W0
 intro HBX ydA hs1
 go_loopw [7,8] (fun nv dv wr=>∃ n d:Nat,nv=.int .i64 n∧dv=.int .i64 d∧n≤131∧Hid (yeE l a n d)∧Hid (Below W0.heap.size W0 wr)) (fun nv _ _=>131-(Go.RowKit.intOf nv).toNat)
 case atStart=>exact ⟨3,0,rfl,rfl,by decide,Lib.hid (.inl ⟨rfl,rfl⟩),Lib.hid (Below.refl _ _)⟩
 case round =>
  obtain ⟨n,d,rfl,rfl,hn131,HS,HB⟩:=hrel
  have HBw:=Lib.hid (HBX.out.trans (HB.out.mono (Nat.le_of_lt hs1)))
  have hni:(n:Int)≤131:=by omega
  have hdn:d≤a:=by rcases HS.out with h|h<;>omega
  have hdi:(d:Int)≤20000:=by omega
  have yai:Hid (yce l a n d→(d=0∧(vB l a a).1<4)∨(1≤d∧4≤n∧vB l a a=(n,d))):=Lib.hid (fun h=>HS.out.done h)
  have c0:wr.cell? ⟨w.heap.size,0,none⟩=some (.slice (some ⟨b0,off,none⟩) len c):=by
   have h:=(HB.out.block w.heap.size hs1).trans ydA.out
   simp [World.cell?,h]
  have c1:wr.cell? ⟨w.heap.size,1,none⟩=some (.map mo):=by
   have h:=(HB.out.block w.heap.size hs1).trans ydA.out
   simp [World.cell?,h]
  by_cases hnm:n<yC
  ·have inm:(n:Int)<(yC:Int):=by omega
   have HC:=Lib.hid (HNX.out wr HBw.out n d HS.out hnm)
   go_wp2_with fail
   refine (HC.out).mono ?_
   rintro e w2 ⟨hb2,⟨n2,d2,hN,rfl⟩|⟨hN,rfl⟩⟩
   ·have uV:=Lib.hid (HB.out.trans (hb2.mono HB.out.size))
    have HS2:=Lib.hid (HS.out.next hN)
    have h5:=hN.more
    have h6:n2≤131:=by rw [← hN.run];exact ymX _ _ _
    have h7:4≤n2:=by rcases HS.out with h|h<;>omega
    have i2:¬ (n2:Int)=0:=by omega
    have i2l:(n2:Int)≤131:=by omega
    have i2b:((n2:Int)==0)=false:=by rw [beq_eq_false_iff_ne];exact i2
    clear hN hb2
    go_wp2_with fail
    go_roundw
    case rel=>exact ⟨n2,d2,rfl,rfl,h6,HS2,uV⟩
    case measure=>simp [Go.RowKit.intOf];omega
   ·have uV:=Lib.hid (HBw.out.trans (hb2.mono HBw.out.size))
    have hE:=yai.out hN
    clear hb2 hN
    rcases hE with ⟨rfl,hb4⟩|⟨h1,h2,h3⟩
    ·go_wp2_with fail
     go_ret2
     exact ⟨uV.out,.inl ⟨hb4,rfl⟩⟩
    ·have id:¬ (d:Int)=0:=by omega
     have yD:Hid (ydn l a w (.returned (.tuple #[.int .i64 (n:Int),.int .i64 (d:Int)])) w2):=Lib.hid ⟨uV.out,.inr ⟨by rw [h3];exact h2,by rw [h3]⟩⟩
     clear h3
     go_wp2_with fail
     go_ret2
     exact yD.out
  ·have inm:¬ (n:Int)<(yC:Int):=by omega
   have hE:=yai.out (HFULL.out n d (by omega))
   rcases hE with ⟨rfl,hb4⟩|⟨h1,h2,h3⟩
   ·go_wp2_with fail
    go_ret2
    exact ⟨HBw.out,.inl ⟨hb4,rfl⟩⟩
   ·have id:¬ (d:Int)=0:=by omega
    have yD:Hid (ydn l a w (.returned (.tuple #[.int .i64 (n:Int),.int .i64 (d:Int)])) wr):=Lib.hid ⟨HBw.out,.inr ⟨by rw [h3];exact h2,by rw [h3]⟩⟩
    clear h3
    go_wp2_with fail
    go_ret2
    exact yD.out
end
section
open Go.RowKit Go.Maps Go.ChangeShapes Go.Shelf
open Go.Lib
attribute [local go_sem] Oper.semAt_some
structure Nx (w:World) (b0 off len c b a n yC o:Nat) (r0 r1:Value) (W:World):Prop where
 below:Below w.heap.size w W
 x:W.heap[w.heap.size]?=some (.cells #[.slice (some ⟨b0,off,none⟩) len c,.map (some b)] 152 (0,0))
 a:W.heap[w.heap.size+1]?=some (.cells #[.int .i64 (a:Int)] 3 (0,0))
 n:W.heap[w.heap.size+1+1]?=some (.cells #[.int .i64 (n:Int)] 3 (0,0))
 m:W.heap[w.heap.size+1+1+1]?=some (.cells #[.int .i64 (yC:Int)] 3 (0,0))
 r0:W.heap[w.heap.size+1+1+1+1]?=some (.cells #[r0] 3 (0,0))
 r1:W.heap[w.heap.size+1+1+1+1+1]?=some (.cells #[r1] 3 (0,0))
 o:W.heap[w.heap.size+1+1+1+1+1+1]?=some (.cells #[.int .i64 (o:Int)] 3 (0,0))
section
variable {w W W' : World} {b0 off len c b a n yC o : Nat} {r0 r1 : Value}
theorem Nx.sz (h:Nx w b0 off len c b a n yC o r0 r1 W):w.heap.size+7≤W.heap.size:=(Array.getElem?_eq_some_iff.1 h.o).1
theorem Nx.keep (h:Nx w b0 off len c b a n yC o r0 r1 W) (hk:∀ k,k<W.heap.size→(∃ cs t m,W.heap[k]?=some (.cells cs t m))→W'.heap[k]?=W.heap[k]?) (hb:Below w.heap.size w W'):Nx w b0 off len c b a n yC o r0 r1 W':=by
 have hs:=h.sz
 exact ⟨hb,(hk _ (by omega) ⟨_,_,_,h.x⟩).trans h.x,(hk _ (by omega) ⟨_,_,_,h.a⟩).trans h.a,(hk _ (by omega) ⟨_,_,_,h.n⟩).trans h.n,(hk _ (by omega) ⟨_,_,_,h.m⟩).trans h.m,(hk _ (by omega) ⟨_,_,_,h.r0⟩).trans h.r0,(hk _ (by omega) ⟨_,_,_,h.r1⟩).trans h.r1,(hk _ (by omega) ⟨_,_,_,h.o⟩).trans h.o⟩
theorem Nx.next (h:Nx w b0 off len c b a n yC o r0 r1 W) (hb:Below W.heap.size W W'):Nx w b0 off len c b a n yC o r0 r1 W' :=
 h.keep (fun k hk _=>hb.block k hk) (h.below.trans (hb.mono h.below.size))
theorem Nx.own (h:Nx w b0 off len c b a n yC o r0 r1 W) {row:Option Nat} (hg:W.grownBy W' row) (hr:∀ r,row=some r→w.heap.size≤r∧∃ o:Obj,W.heap[r]?=some o∧o.isCells=false):Nx w b0 off len c b a n yC o r0 r1 W' :=
 h.keep (fun _ _ ⟨_,_,_,e⟩=>grownBy_keeps_cells hg (fun r e=>(hr r e).2) e rfl) (h.below.grown hg h.below.size (fun k e=>(hr k e).1))
end
theorem ya5 {W W':World} (h:Below W.heap.size W W'):KeepsOthers W W':=KeepsOthers.of_grownBy (yak h none) (fun _ _ e _=>by cases e)
theorem ys1 (w:World) (b0 off len c b a n yC o:Nat):Nx w b0 off len c b a n yC o (.int .i64 0) (.int .i64 0) (((((((w.alloc (.cells #[.slice (some ⟨b0,off,none⟩) len c,.map (some b)] 152)).alloc (.cells #[.int .i64 (a:Int)] 3)).alloc (.cells #[.int .i64 (n:Int)] 3)).alloc (.cells #[.int .i64 (yC:Int)] 3)).alloc (.cells #[.int .i64 0] 3)).alloc (.cells #[.int .i64 0] 3)).alloc (.cells #[.int .i64 (o:Int)] 3)):=by
 refine ⟨((((((((Below.refl _ w).alloc (Nat.le_refl _) _).alloc ?_ _).alloc ?_ _).alloc ?_ _).alloc ?_ _).alloc ?_ _).alloc ?_ _),?_,?_,?_,?_,?_,?_,?_⟩
 all_goals (simp only [World.alloc,Array.getElem?_push,Array.size_push])
 all_goals (first|omega|(repeat' (first|rw [if_pos (by omega)] | rw [if_neg (by omega)] | rfl)))
theorem PRow.below {l:List UInt8} {len:Nat} {x:List UInt8} {q:Option Addr} {N c:Nat} {ps:Nat→Nat} {W W':World} (h:PRow l len x q N c ps W) (hb:Below W.heap.size W W'):PRow l len x q N c ps W' :=
 ⟨h.hN,h.row.below hb,h.le,h.up,h.all,h.cap,h.nil⟩
theorem PRow.rowN {l:List UInt8} {len:Nat} {x:List UInt8} {q:Option Addr} {N c i:Nat} {ps:Nat→Nat} {w W:World} (h:PRow l len x q N c ps w) (hb:Below w.heap.size w W) (hi:i≤N):ym1 w.heap.size W q i ps:=fun j hj=>by
 obtain ⟨g,h1,h2,h3⟩:=h.row j (by omega)
 exact ⟨g,h1,h2,(hb.cell (p:=⟨g,j,none⟩) h2).trans h3⟩
theorem Nx.put {w W:World} {b0 off len c b a n yC o:Nat} {r0 r1 v v':Value} (h:Nx w b0 off len c b a n yC o r0 r1 W) :
  Nx w b0 off len c b a n yC o v v' ((W.setCell ⟨w.heap.size+1+1+1+1,0,none⟩ v).setCell ⟨w.heap.size+1+1+1+1+1,0,none⟩ v'):=by
 have hs:∀ (V:World) (k g:Nat) (u:Value),k≠g→(V.setCell ⟨g,0,none⟩ u).heap[k]?=V.heap[k]?:=fun V k g u hne=>Below.heap_setCell V ⟨g,0,none⟩ u _ hne
 have h0:=vL (v:=v) h.r0
 have h1:(W.setCell ⟨w.heap.size+1+1+1+1,0,none⟩ v).heap[w.heap.size+1+1+1+1+1]?=some (.cells #[r1] 3 (0,0)):=(hs _ _ _ _ (by omega)).trans h.r1
 have two:∀ k,k≠w.heap.size+1+1+1+1→k≠w.heap.size+1+1+1+1+1→((W.setCell ⟨w.heap.size+1+1+1+1,0,none⟩ v).setCell ⟨w.heap.size+1+1+1+1+1,0,none⟩ v').heap[k]?=W.heap[k]?:=fun k h1 h2=>(hs _ _ _ _ h2).trans (hs _ _ _ _ h1)
 exact ⟨(h.below.setCell (p:=⟨w.heap.size+1+1+1+1,0,none⟩) (by show w.heap.size≤w.heap.size+1+1+1+1;omega) _).setCell (p:=⟨w.heap.size+1+1+1+1+1,0,none⟩) (by show w.heap.size≤w.heap.size+1+1+1+1+1;omega) _,
  (two _ (by omega) (by omega)).trans h.x,(two _ (by omega) (by omega)).trans h.a,(two _ (by omega) (by omega)).trans h.n,(two _ (by omega) (by omega)).trans h.m,(hs _ _ _ _ (by omega)).trans h0,vL h1,(two _ (by omega) (by omega)).trans h.o⟩
theorem ymx {w V:World} {b0 off len c b a n yC o D9:Nat} {r0 r1:Value} (h:Nx w b0 off len c b a n yC o r0 r1 V) (hD:w.heap.size≤D9) (hK:V.heap[D9]?=some (.deferred (some []))):Nx w b0 off len c b a n yC o r0 r1 (V.putObj D9 (.deferred none)) :=
 h.own (grownBy_putObj' V D9 (.deferred none)) (fun r e=>by cases e;exact ⟨hD,_,hK,rfl⟩)
def ymy (w:World) (b0 off len c b a n yC o:Nat) (l:List UInt8) (ps:Nat→Nat) (i:Nat) (c9:Code) (pre:List (Pl i)) (W:World):Prop :=
 ∃ (pre0:List (Pl i)) (x:Pl i),pre=pre0++[x]∧(∀ y ∈ pre0,rn l a (a+(n-3)-ps (i-1-y.1))≤n) ∧
  (
   (c9=.ret∧n-3≤ps (i-1-x.1)∧n<rn l a (a+(n-3)-ps (i-1-x.1))∧Nx w b0 off len c b a n yC o (.int .i64 (rn l a (a+(n-3)-ps (i-1-x.1)):Int)) (.int .i64 ((a+(n-3)-ps (i-1-x.1):Nat):Int)) W) ∨
   (c9=.exit 0∧ps (i-1-x.1)<n-3∧Nx w b0 off len c b a n yC o (.int .i64 0) (.int .i64 0) W))
theorem ype {l:List UInt8} {a n i:Nat} {ps:Nat→Nat} {pre:List (Pl i)} (h:∀ y ∈ pre,rn l a (a+(n-3)-ps (i-1-y.1))≤n) {r:Nat} (hr:pre.map (·.1)=List.range r):ycS l a n i ps r:=fun j h1 h2=>by
 have hm:i-1-j ∈ pre.map (·.1):=by rw [hr,List.mem_range];omega
 obtain ⟨y,hy,e⟩:=List.mem_map.1 hm
 have:=h y hy
 rwa [e,show i-1-(i-1-j)=j by omega] at this
end
end Go.Proofs.YtgepehlpjpccaaaGreatDoor
