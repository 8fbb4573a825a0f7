/- Contracts. -/
import Derived.Test.YtgepehlpjpccaaaGreatDoorWFS
namespace Go.Proofs.YtgepehlpjpccaaaGreatDoor
open Go.RowKit Go.Maps Go.ChangeShapes Go.Shelf
open Go.Lib
set_option maxHeartbeats 4000000
set_option maxRecDepth 100000
section
attribute [local go_sem] Oper.semAt_some
theorem ys2 (b0 off len c a n d yC b base:Nat) (D:DataW Unit) (l:List UInt8) (w:World) (hl:len≤20000) (ha:a<len) (hm:Hid (yC=min 131 (len-a))) (h:Came w (some ⟨b0,off,none⟩) len c l) (hG:Gm l (len-3) D) (hO:w.ownsGroups Tryz.prog 79 base 3 .i64 b (len-3) D) (hst:yeE l a n d) (hn:n<yC) :
  Calls Tryz.prog 192 #[.agg #[.slice (some ⟨b0,off,none⟩) len c,.map (some b)],.int .i64 (a:Int),.int .i64 (n:Int),.int .i64 (d:Int),.int .i64 (yC:Int)] w (yc0 l a n d w):=by
 have H:=Lib.hid h
 have hn3:3≤n:=by rcases hst with h|h<;>omega
 have hda:d≤a:=by rcases hst with h|h<;>omega
 have hn131:n<131:=by have:=hm.out;omega
 have ydw:a+n+1≤len:=by have:=hm.out;omega
 obtain ⟨o,HO⟩:∃ o,Hid (o=n-3):=⟨_,rfl⟩
 obtain ⟨p,HP⟩:∃ p,Hid (p=a+(n-3)):=⟨_,rfl⟩
 obtain ⟨t,HT⟩:∃ t,Hid (t=a+(n-3)-d):=⟨_,rfl⟩
 have ho1:(n:Int)+1-4=(o:Int):=by rw [HO.out];omega
 have ho2:(a:Int)+(o:Int)=(p:Int):=by rw [HP.out,HO.out];omega
 have ho3:(p:Int)-(d:Int)=(t:Int):=by rw [HP.out,HT.out];omega
 have hp4:p+4≤len:=by rw [HP.out];omega
 have ia:(a:Int)≤20000:=by omega
 have in1:(n:Int)≤131:=by omega
 have in3:3≤(n:Int):=by omega
 have io:(o:Int)≤131:=by rw [HO.out];omega
 have ip:(p:Int)≤20000:=by omega
 have id1:(d:Int)≤20000:=by omega
 have it:(t:Int)≤20000:=by rw [HT.out];omega
 have hwr:IntKind.i64.wrap (p:Int)=(p:Int):=IntWalk.i64_in _ (by omega)
 -- the look-up
 obtain ⟨x0,x1,x2,x3,HQ⟩:∃ x0 x1 x2 x3:Nat,Hid (yqp l p=.agg #[.int .u8 (x0:Int),.int .u8 (x1:Int),.int .u8 (x2:Int),.int .u8 (x3:Int)]):=⟨_,_,_,_,Lib.hid rfl⟩
 obtain ⟨v,zs,hat,hoi,hzl,yrm⟩:=yl9 hO (by unfold maxLen;omega) (ylg l p)
 rw [HQ.out] at yrm
 obtain ⟨q,N,c1,ps,rfl,jG⟩:=yu5 hl hoi (hG.group hoi hat)
 have ycT:=Lib.hid jG
 obtain ⟨W0,HW0⟩:∃ W0,Hid ((((((((w.alloc (.cells #[.slice (some ⟨b0,off,none⟩) len c,.map (some b)] 152)).alloc (.cells #[.int .i64 (a:Int)] 3)).alloc (.cells #[.int .i64 (n:Int)] 3)).alloc (.cells #[.int .i64 (yC:Int)] 3)).alloc (.cells #[.int .i64 0] 3)).alloc (.cells #[.int .i64 0] 3)).alloc (.cells #[.int .i64 (o:Int)] 3))=W0):=⟨_,Lib.hid rfl⟩
 have HN0:Hid (Nx w b0 off len c b a n yC o (.int .i64 0) (.int .i64 0) W0):=Lib.hid (by rw [← HW0.out];exact ys1 w b0 off len c b a n yC o)
 have GP:Hid (∀ W,Below W0.heap.size W0 W→Below W0.heap.size W0 W∧W.cell? ⟨w.heap.size,0,none⟩=some (.slice (some ⟨b0,off,none⟩) len c)∧W.cell? ⟨w.heap.size,1,none⟩=some (.map (some b))∧W.cell? ⟨w.heap.size+1,0,none⟩=some (.int .i64 (a:Int))∧W.cell? ⟨w.heap.size+1+1+1+1+1+1,0,none⟩=some (.int .i64 (o:Int))∧(Instr.lookup 150 (.map (some b)) (.agg #[.int .u8 (x0:Int),.int .u8 (x1:Int),.int .u8 (x2:Int),.int .u8 (x3:Int)]) false).run Tryz.prog W=.ok (.slice q N c1) W):=Lib.hid (fun W hW=>by
  have hx:=HN0.out.next hW
  exact ⟨hW,by simp [World.cell?,hx.x],by simp [World.cell?,hx.x],by simp [World.cell?,hx.a],by simp [World.cell?,hx.o],yrm W hx.below⟩)
 have ywf:Hid (∀ W,Below W0.heap.size W0 W→Calls Tryz.prog 191 #[.agg #[.slice (some ⟨b0,off,none⟩) len c,.map (some b)],.int .i64 (p:Int)] W fun e w'=>Below W.heap.size W w'∧e=.returned (.agg #[.int .u8 (x0:Int),.int .u8 (x1:Int),.int .u8 (x2:Int),.int .u8 (x3:Int)])):=Lib.hid (fun W hW=>by
  rw [← HQ.out]
  exact ypb b0 off len c p (some b) l W hl hp4 ⟨H.out.hl,H.out.hc,H.out.lies.below (HN0.out.next hW).below⟩)
 have HSE:Hid (∀ W,Below w.heap.size w W→Calls Tryz.prog 223 #[.slice q N c1,.int .i64 (t:Int)] W (yd7 N ps t W)):=Lib.hid (fun W hW =>
  yoh q N c1 t ps W (by have:=ycT.out.hN;omega) (by omega) (Lib.hid ycT.out.le) (Lib.hid ycT.out.up) (Lib.hid (ycT.out.below hW).row))
 clear h hG hO hat hoi hzl yrm jG hst
 refine (callsIn_wide (n:=9)).1 ?_
 refine callsIn_of_wp_marks Tryz.func192 rfl trivial ?_ rfl
 simp only [Tryz.ntmps192,List.size_toArray,List.length_cons,List.length_nil,Nat.reduceAdd,Nat.reduceSub,Array.replicate_succ,Array.replicate_zero,List.push_toArray,List.append_toArray,List.nil_append,List.cons_append]
 gi_wp2
 rw [HW0.out]
 refine wpIn_wide.2 ?_
 refine wp_region_noPanic ?_
 refine wp_region_held_drew (S:=fun W=>Below W0.heap.size W0 W∧W.cell? ⟨w.heap.size,0,none⟩=some (.slice (some ⟨b0,off,none⟩) len c)∧W.cell? ⟨w.heap.size,1,none⟩=some (.map (some b))∧W.cell? ⟨w.heap.size+1,0,none⟩=some (.int .i64 (a:Int))∧W.cell? ⟨w.heap.size+1+1+1+1+1+1,0,none⟩=some (.int .i64 (o:Int))∧(Instr.lookup 150 (.map (some b)) (.agg #[.int .u8 (x0:Int),.int .u8 (x1:Int),.int .u8 (x2:Int),.int .u8 (x3:Int)]) false).run Tryz.prog W=.ok (.slice q N c1) W) (by kernel_rfl) (GP.out _ ⟨rfl,rfl,rfl,Nat.le_refl _,fun _ _=>rfl⟩) (fun hHeld=>?_)
 refine wpAnyH_take (i:=0) (v:=?v1) rfl (by kernel_rfl) (by kernel_rfl) (by kernel_rfl) (fun _ _ _ h=>h) (Or.inl ⟨by rfl,?hy1⟩) (by assumption) ?rest1
 case hy1 =>
  intro W' hSw
  obtain ⟨e0,e1,e2,e3,e4,e5⟩:=hSw
  go_simp
  with_reducible rfl
 simp only [List.getElem_toArray,List.getElem_cons_zero,Act.put,List.setIfInBounds_toArray,List.set_cons_zero,List.set_cons_succ]
 refine wpAnyH_take (i:=1) (v:=?v2) rfl (by kernel_rfl) (by kernel_rfl) (by kernel_rfl) (fun _ _ _ h=>h) (Or.inl ⟨by rfl,?hy2⟩) (by assumption) ?rest2
 case hy2 =>
  intro W' hSw
  obtain ⟨e0,e1,e2,e3,e4,e5⟩:=hSw
  go_simp
  with_reducible rfl
 simp only [List.getElem_toArray,List.getElem_cons_zero,List.getElem_cons_succ,Act.put,List.setIfInBounds_toArray,List.set_cons_zero,List.set_cons_succ]
 refine wpAnyH_take (i:=2) (v:=?v3) rfl (by kernel_rfl) (by kernel_rfl) (by kernel_rfl) (fun _ _ _ h=>h) (Or.inl ⟨by rfl,?hy3⟩) (by assumption) ?rest3
 case hy3 =>
  intro W' hSw
  obtain ⟨e0,e1,e2,e3,e4,e5⟩:=hSw
  go_simp
  with_reducible rfl
 simp only [List.getElem_toArray,List.getElem_cons_zero,List.getElem_cons_succ,Act.put,List.setIfInBounds_toArray,List.set_cons_zero,List.set_cons_succ]
 refine wpAnyH_take (i:=3) (v:=?v4) rfl (by kernel_rfl) (by kernel_rfl) (by kernel_rfl) (fun _ _ _ h=>h) (Or.inl ⟨by rfl,?hy4⟩) (by assumption) ?rest4
 case hy4 =>
  intro W' hSw
  obtain ⟨e0,e1,e2,e3,e4,e5⟩:=hSw
  go_simp
  with_reducible rfl
 simp only [List.getElem_toArray,List.getElem_cons_zero,List.getElem_cons_succ,Act.put,List.setIfInBounds_toArray,List.set_cons_zero,List.set_cons_succ]
 refine wpAnyH_take (i:=4) (v:=?v5) rfl (by kernel_rfl) (by kernel_rfl) (by kernel_rfl) (fun _ _ _ h=>h) (Or.inl ⟨by rfl,?hy5⟩) (by assumption) ?rest5
 case hy5 =>
  intro W' hSw
  obtain ⟨e0,e1,e2,e3,e4,e5⟩:=hSw
  go_simp
  with_reducible rfl
 simp only [List.getElem_toArray,List.getElem_cons_zero,List.getElem_cons_succ,Act.put,List.setIfInBounds_toArray,List.set_cons_zero,List.set_cons_succ]
 refine wpAnyH_take (i:=5) (v:=?v6) rfl (by kernel_rfl) (by kernel_rfl) (by kernel_rfl) (fun _ _ _ h=>h) (Or.inl ⟨by rfl,?hy6⟩) (by assumption) ?rest6
 case hy6 =>
  intro W' hSw
  obtain ⟨e0,e1,e2,e3,e4,e5⟩:=hSw
  go_simp
  with_reducible rfl
 simp only [List.getElem_toArray,List.getElem_cons_zero,List.getElem_cons_succ,Act.put,List.setIfInBounds_toArray,List.set_cons_zero,List.set_cons_succ]
 refine wpAnyH_ready (rs:=[6]) (by kernel_rfl) (by simp) ?_
 refine AllReadyH.cons (i:=6) rfl (fun K hK=>?_) AllReadyH.nil
 go_simp
 refine (ywf.out _ hHeld.1).mono ?_
 rintro e w1 ⟨hb1,rfl⟩
 have zG:Hid (Below W0.heap.size W0 w1):=Lib.hid (hHeld.1.trans hb1)
 refine hK.out _ _ (GP.out _ zG.out) (fun hHeld2=>?_)
 clear hK K hb1 hHeld
 refine wpAnyH_take (i:=7) (v:=?v7) rfl (by kernel_rfl) (by kernel_rfl) (by kernel_rfl) (fun _ _ _ h=>h) (Or.inl ⟨by rfl,?hy7⟩) (by assumption) ?rest7
 case hy7 =>
  intro W' hSw
  obtain ⟨e0,e1,e2,e3,e4,e5⟩:=hSw
  go_simp
  with_reducible rfl
 simp only [List.getElem_toArray,List.getElem_cons_zero,List.getElem_cons_succ,Act.put,List.setIfInBounds_toArray,List.set_cons_zero,List.set_cons_succ]
 refine wpAnyH_take (i:=8) (v:=?v8) rfl (by kernel_rfl) (by kernel_rfl) (by kernel_rfl) (fun _ _ _ h=>h) (Or.inl ⟨by rfl,?hy8⟩) (by assumption) ?rest8
 case hy8 =>
  intro W' hSw
  obtain ⟨e0,e1,e2,e3,e4,e5⟩:=hSw
  go_simp
  with_reducible rfl
 simp only [List.getElem_toArray,List.getElem_cons_zero,List.getElem_cons_succ,Act.put,List.setIfInBounds_toArray,List.set_cons_zero,List.set_cons_succ]
 refine wpAnyH_done (by kernel_rfl) ?_ _
 refine NoPanic.normal ?_
 clear hHeld2 hwr
 have HN1:=Lib.hid (HN0.out.next zG.out)
 have aB1:=HN1.out.a
 have oB1:=HN1.out.o
 have ca:w1.cell? ⟨w.heap.size+1,0,none⟩=some (.int .i64 (a:Int)):=by simp [World.cell?,aB1]
 have co:w1.cell? ⟨w.heap.size+1+1+1+1+1+1,0,none⟩=some (.int .i64 (o:Int)):=by simp [World.cell?,oB1]
 clear aB1 oB1
 gi_wp2_with (refine ⟨trivial,?_⟩;gi_at_call 223;refine (callsIn_wide.2 (HSE.out _ HN1.out.below)).mono ?_;rintro e w2 ⟨hb2,i,bb,hiN,hlo,hhi,rfl⟩;have hic:i≤c1:=Nat.le_trans hiN ycT.out.cap)
 have HN2:=Lib.hid (HN1.out.next hb2)
 have HSR:Hid (Srch l a n d N i ps):=Lib.hid ⟨hn3,hda,by rw [← HP.out,H.out.hl];exact ycT.out.all,ycT.out.up,hiN,by rw [← HT.out];exact hlo,by rw [← HT.out];exact hhi⟩
 have iiN:(i:Int)≤20000:=by have:=ycT.out.hN;omega
 have iic:(i:Int)≤(c1:Int):=by have:=ycT.out.cap;omega
 clear hb2 hlo hhi ca co
 gi_wp2_with (refine ⟨trivial,?_⟩;gi_at_call 224;refine (yu1 _ _ _ _ _).mono ?_;rintro e w3 ⟨rfl,rfl⟩)
 obtain ⟨W3,hW3⟩:∃ W3,w2.alloc (.cells #[.slice q i c1] 194)=W3:=⟨_,rfl⟩
 have hs3:W3.heap.size=w2.heap.size+1:=by rw [← hW3];simp
 have hbe:Below w2.heap.size w2 W3:=by rw [← hW3];exact (Below.refl _ _).alloc (Nat.le_refl _) _
 have hI3:Nx w b0 off len c b a n yC o (.int .i64 0) (.int .i64 0) W3:=HN2.out.next hbe
 have hBb:W3.cell? ⟨w2.heap.size,0,none⟩=some (.slice q i c1):=by
  have:=World.alloc_heap_new w2 (.cells #[.slice q i c1] 194)
  rw [hW3] at this
  simp [World.cell?,this]
 have hsz3:=hI3.sz
 have hi1000:i≤20000:=by omega
 rw [hW3]
 refine wpIn_rangeFunc_ownF rfl (by omega) (gf:=250) (lb:=#[.pointer (some ⟨w2.heap.size,0,none⟩)]) rfl trivial (enters_of Tryz.func250 (by kernel_rfl) rfl)
  (yoi _ (by omega) w2.heap.size w.heap.size i c1 q ps hi1000 (Lib.hid (fun j hj=>ycT.out.le j (by omega))) W3 (by omega) (by omega) hBb (ycT.out.rowN hI3.below hiN)) jO.trans
  (fun W lo o o' hlo ho hc hw=>⟨(Below.refl _ W).grown (grownBy_putObj' W lo o') (by have:=(Array.getElem?_eq_some_iff.1 ho).1;omega) (fun k e=>by cases e;omega),World.putObj_heap_other (by omega),World.putObj_heap_other (by omega)⟩) (Below.refl _ _) (fun _=>rfl)
  (fun pre W=>Nx w b0 off len c b a n yC o (.int .i64 0) (.int .i64 0) W∧Hid (∀ y ∈ pre,rn l a (a+(n-3)-ps (i-1-y.1))≤n)∧w2.heap.size<W.heap.size)
  (fun c9 pre W=>ymy w b0 off len c b a n yC o l ps i c9 pre W)
  (fun s W W' row h hg hr=>⟨h.1.own hg (fun r e=>⟨by have:=(hr r e).1;omega,(hr r e).2⟩),h.2.1,Nat.lt_of_lt_of_le h.2.2 hg.size⟩)
  (fun c9 s W W' row h hg hr=>by
   obtain ⟨pre0,x,e,hp,h⟩:=h
   refine ⟨pre0,x,e,hp,?_⟩
   rcases h with ⟨h1,h2,h3,h4⟩|⟨h1,h2,h3⟩
   ·exact .inl ⟨h1,h2,h3,h4.own hg (fun r e=>⟨by have:=(hr r e).1;omega,(hr r e).2⟩)⟩
   ·exact .inr ⟨h1,h2,h3.own hg (fun r e=>⟨by have:=(hr r e).1;omega,(hr r e).2⟩)⟩)
  ⟨hI3,Lib.hid (by intro y hy;cases hy),by omega⟩ ?a1 ?assign ?body ?done ?stop
 case assign =>
  intro lo x W K hK
  gi_wp2
  exact hK
 case body =>
  rintro lo pre x W ⟨hI,ykD,hBW⟩ yfI
  have HI:=Lib.hid hI
  obtain ⟨ix,HIX⟩:∃ ix,Hid (ix=i-1-x.1):=⟨_,rfl⟩
  obtain ⟨y,HY⟩:∃ y,Hid (y=ps ix):=⟨_,rfl⟩
  have e1:i-1-x.1=ix:=HIX.out.symm
  have e2:ps ix=y:=HY.out.symm
  simp only [e1,e2]
  have hxi:=x.2
  have hixi:ix<i:=by rw [HIX.out];omega
  have hyt:y<a+(n-3)-d:=by rw [HY.out];exact HSR.out.lo ix hixi
  have iy:(y:Int)≤20000:=by omega
  have cx0:W.cell? ⟨w.heap.size,0,none⟩=some (.slice (some ⟨b0,off,none⟩) len c):=by simp [World.cell?,hI.x]
  have cx1:W.cell? ⟨w.heap.size,1,none⟩=some (.map (some b)):=by simp [World.cell?,hI.x]
  have ca:W.cell? ⟨w.heap.size+1,0,none⟩=some (.int .i64 (a:Int)):=by simp [World.cell?,hI.a]
  have cm:W.cell? ⟨w.heap.size+1+1+1,0,none⟩=some (.int .i64 (yC:Int)):=by simp [World.cell?,hI.m]
  have co:W.cell? ⟨w.heap.size+1+1+1+1+1+1,0,none⟩=some (.int .i64 (o:Int)):=by simp [World.cell?,hI.o]
  clear hI hxi e1 e2
  by_cases hyo:y<o
  ·have i1:(y:Int)-(o:Int)<0:=by omega
   have yD:Hid (KeepsOthers W W∧ymy w b0 off len c b a n yC o l ps i (.exit 0) (pre++[x]) W):=Lib.hid ⟨ya5 (Below.refl _ _),pre,x,rfl,ykD.out,.inr ⟨rfl,by rw [← HIX.out,← HY.out,← HO.out];exact hyo,HI.out⟩⟩
   gi_wp2
   exact yD.out
  ·obtain ⟨f,HF⟩:∃ f,Hid (f=y-o):=⟨_,rfl⟩
   obtain ⟨d2,HD2⟩:∃ d2,Hid (d2=a+(n-3)-y):=⟨_,rfl⟩
   have hf:(y:Int)-(o:Int)=(f:Int):=by rw [HF.out];omega
   have hfa:(a:Int)-(f:Int)=(d2:Int):=by rw [HD2.out,HF.out];have:=HO.out;omega
   have hd2a:d2≤a:=by rw [HD2.out];have:=HO.out;omega
   have hd21:1≤d2:=by rw [HD2.out];omega
   have id2:(d2:Int)≤20000:=by omega
   have if1:(f:Int)≤20000:=by rw [HF.out];omega
   have hf0:¬ (f:Int)<0:=by omega
   obtain ⟨r,HR⟩:∃ r,Hid (r=rn l a d2):=⟨_,rfl⟩
   have hr131:(r:Int)≤131:=by have:=ymX l a d2;rw [HR.out];omega
   have HSM:Hid (Calls Tryz.prog 225 #[.agg #[.slice (some ⟨b0,off,none⟩) len c,.map (some b)],.int .i64 (f:Int),.int .i64 (a:Int),.int .i64 (yC:Int)] W fun e w'=>Below W.heap.size W w'∧e=.returned (.int .i64 (r:Int))):=Lib.hid (by
    have h:=ysW b0 off len c a d2 yC (some b) l W hl hd21 hd2a ha hm ⟨H.out.hl,H.out.hc,H.out.lies.below HI.out.below⟩
    rw [show a-d2=f by rw [HD2.out,HF.out];have:=HO.out;omega] at h
    rwa [← HR.out] at h)
   have hw2:IntKind.i64.wrap (d2:Int)=(d2:Int):=IntWalk.i64_in _ (by omega)
   by_cases hrn:n<r
   ·have irn:(n:Int)<(r:Int):=by omega
    gi_wp2_with (refine ⟨trivial,?_⟩;gi_at_call 225;refine (CallsIn.inRound _ (callsIn_wide.2 HSM.out)).mono ?_;rintro e w5 ⟨hb5,rfl⟩;have HI5:=Lib.hid (HI.out.next hb5);have HB5:=Lib.hid hb5;have cn5:w5.cell? ⟨w.heap.size+1+1,0,none⟩=some (.int .i64 (n:Int)):=by simp [World.cell?,HI5.out.n])
    have ca5:w5.drew.cell? ⟨w.heap.size+1,0,none⟩=some (.int .i64 (a:Int)):=by
     show w5.cell? ⟨w.heap.size+1,0,none⟩=_
     simp [World.cell?,HI5.out.a]
    have HID:Hid (Nx w b0 off len c b a n yC o (.int .i64 0) (.int .i64 0) w5.drew):=Lib.hid (HI5.out.next ⟨rfl,rfl,rfl,Nat.le_refl _,fun _ _=>rfl⟩)
    have c4:w5.drew.cell? ⟨w.heap.size+1+1+1+1,0,none⟩=some (.int .i64 0):=by
     show w5.cell? ⟨w.heap.size+1+1+1+1,0,none⟩=_
     simp [World.cell?,HI5.out.r0]
    have z4:w5.drew.frozen? ⟨w.heap.size+1+1+1+1,0,none⟩=false:=by
     show w5.frozen? ⟨w.heap.size+1+1+1+1,0,none⟩=_
     simp [World.frozen?,HI5.out.r0]
    obtain ⟨W6,hW6⟩:∃ W6,w5.drew.setCell ⟨w.heap.size+1+1+1+1,0,none⟩ (.int .i64 (r:Int))=W6:=⟨_,rfl⟩
    have b5:W6.heap[w.heap.size+1+1+1+1+1]?=some (.cells #[.int .i64 0] 3 (0,0)):=by rw [← hW6];exact (Below.heap_setCell w5.drew ⟨w.heap.size+1+1+1+1,0,none⟩ _ _ (by show w.heap.size+1+1+1+1+1≠w.heap.size+1+1+1+1;omega)).trans HID.out.r1
    have ca6:W6.cell? ⟨w.heap.size+1,0,none⟩=some (.int .i64 (a:Int)):=by
     have h6:W6.heap[w.heap.size+1]?=some (.cells #[.int .i64 (a:Int)] 3 (0,0)):=by rw [← hW6];exact (Below.heap_setCell w5.drew ⟨w.heap.size+1+1+1+1,0,none⟩ _ _ (by show w.heap.size+1≠w.heap.size+1+1+1+1;omega)).trans HID.out.a
     simp [World.cell?,h6]
    have c5:W6.cell? ⟨w.heap.size+1+1+1+1+1,0,none⟩=some (.int .i64 0):=by simp [World.cell?,b5]
    have z5:W6.frozen? ⟨w.heap.size+1+1+1+1+1,0,none⟩=false:=by simp [World.frozen?,b5]
    obtain ⟨W7,hW7⟩:∃ W7,W6.setCell ⟨w.heap.size+1+1+1+1+1,0,none⟩ (.int .i64 (d2:Int))=W7:=⟨_,rfl⟩
    have ca7:W7.cell? ⟨w.heap.size+1,0,none⟩=some (.int .i64 (a:Int)):=by
     rw [← hW7];exact (World.cell?_setCell_other _ _ _ _ (fun x=>by simp only [Addr.mk.injEq] at x;have:=x.1;omega)).trans ca6
    have uW:Hid (KeepsOthers W W7∧ymy w b0 off len c b a n yC o l ps i .ret (pre++[x]) W7):=Lib.hid (by
     refine ⟨(ya5 HB5.out).trans ((KeepsOthers.drew _).trans (by rw [← hW7,← hW6];exact (KeepsOthers.setCell _ _ _).trans (KeepsOthers.setCell _ _ _))),pre,x,rfl,ykD.out,.inl ⟨rfl,?_,?_,?_⟩⟩
     ·rw [← HIX.out,← HY.out,← HO.out];omega
     ·rw [← HIX.out,← HY.out,← HD2.out,← HR.out];exact hrn
     ·rw [← HIX.out,← HY.out,← HD2.out,← HR.out,← hW7,← hW6];exact HID.out.put)
    clear b5 cn5
    refine yaw (S:=fun W'=>W'.cell? ⟨w.heap.size+1,0,none⟩=some (.int .i64 (a:Int))) (by kernel_rfl) (by kernel_rfl) (fun ⟨_,_,h⟩=>h) ca5 (fun hHeld=>?_)
    refine wpAnyH_take (i:=0) (v:=?v9) rfl (by kernel_rfl) (by kernel_rfl) (by kernel_rfl) (fun _ _ _ h=>h) (Or.inl ⟨by rfl,?hy9⟩) (by assumption) ?rest9
    case hy9 =>
     intro W' hSw
     obtain e0:=hSw
     go_simp
     with_reducible rfl
    simp only [List.getElem_toArray,List.getElem_cons_zero,Act.put,List.setIfInBounds_toArray,List.set_cons_zero,List.set_cons_succ]
    refine wpAnyH_take (i:=1) (v:=?v10) rfl (by kernel_rfl) (by kernel_rfl) (by kernel_rfl) (fun _ _ _ h=>h) (Or.inl ⟨by rfl,?hy10⟩) (by assumption) ?rest10
    case hy10=>
     intro W' hSw
     obtain e0:=hSw
     go_simp
     with_reducible rfl
    simp only [List.getElem_toArray,List.getElem_cons_zero,List.getElem_cons_succ,Act.put,List.setIfInBounds_toArray,List.set_cons_zero,List.set_cons_succ]
    refine wpAnyH_take (i:=2) (v:=?v11) rfl (by kernel_rfl) (by kernel_rfl) (by kernel_rfl) (fun _ _ _ h=>h) (Or.inl ⟨by rfl,?hy11⟩) (by assumption) ?rest11
    case hy11=>
     intro W' hSw
     obtain e0:=hSw
     go_simp
     with_reducible rfl
    simp only [List.getElem_toArray,List.getElem_cons_zero,List.getElem_cons_succ,Act.put,List.setIfInBounds_toArray,List.set_cons_zero,List.set_cons_succ]
    refine wpAnyH_take (i:=3) (v:=?v12) rfl (by kernel_rfl) (by kernel_rfl) (by kernel_rfl) (fun _ _ _ h=>h) (Or.inl ⟨by rfl,?hy12⟩) (by assumption) ?rest12
    case hy12=>
     intro W' hSw
     obtain e0:=hSw
     go_simp
     with_reducible rfl
    simp only [List.getElem_toArray,List.getElem_cons_zero,List.getElem_cons_succ,Act.put,List.setIfInBounds_toArray,List.set_cons_zero,List.set_cons_succ]
    refine wpAnyH_ready (rs:=[4]) (by kernel_rfl) (by simp) ?_
    refine AllReadyH.cons (i:=4) rfl (fun K hK=>?_) AllReadyH.nil
    go_simp
    try rw [hW6]
    refine hK.out _ _ ca6 (fun hHeld=>?_)
    clear hK K
    refine wpAnyH_ready (rs:=[5]) (by kernel_rfl) (by simp) ?_
    refine AllReadyH.cons (i:=5) rfl (fun K hK=>?_) AllReadyH.nil
    go_simp
    try rw [hW7]
    refine hK.out _ _ ca7 (fun hHeld=>?_)
    clear hK K
    refine wpAnyH_done (by kernel_rfl) ?_ _
    gi_wp2
    exact uW.out
   ·have irn:¬ (n:Int)<(r:Int):=by omega
    gi_wp2_with (refine ⟨trivial,?_⟩;gi_at_call 225;refine (CallsIn.inRound _ (callsIn_wide.2 HSM.out)).mono ?_;rintro e w5 ⟨hb5,rfl⟩;have HI5:=Lib.hid (HI.out.next hb5);have HB5:=Lib.hid hb5;have cn5:w5.cell? ⟨w.heap.size+1+1,0,none⟩=some (.int .i64 (n:Int)):=by simp [World.cell?,HI5.out.n])
    have hP2:Hid (∀ z ∈ pre++[x],rn l a (a+(n-3)-ps (i-1-z.1))≤n):=Lib.hid (fun z hz=>by
     rcases List.mem_append.1 hz with hz|hz
     ·exact ykD.out z hz
     ·obtain rfl:=List.mem_singleton.1 hz
      rw [← HIX.out,← HY.out,← HD2.out,← HR.out];omega)
    exact ⟨ya5 HB5.out,⟨HB5.out.mono HI.out.below.size,HB5.out.block _ hBW,HB5.out.block _ hBW⟩,HI5.out,hP2,Nat.lt_of_lt_of_le hBW HB5.out.size⟩
 case done =>
  rintro D9 xs W hD hS ⟨hI,ykD,hBW⟩ hK
  have hno:yce l a n d:=ycS.done HSR.out (ype ykD.out hS)
  have hwD:w.heap.size≤D9:=by omega
  have hP:=hI.put (v:=.int .i64 0) (v':=.int .i64 0)
  have d4:W.cell? ⟨w.heap.size+1+1+1+1,0,none⟩=some (.int .i64 0):=by simp [World.cell?,hI.r0]
  have y4:W.frozen? ⟨w.heap.size+1+1+1+1,0,none⟩=false:=by simp [World.frozen?,hI.r0]
  obtain ⟨V6,hV6⟩:∃ V6,W.setCell ⟨w.heap.size+1+1+1+1,0,none⟩ (.int .i64 0)=V6:=⟨_,rfl⟩
  have b5:V6.heap[w.heap.size+1+1+1+1+1]?=some (.cells #[.int .i64 0] 3 (0,0)):=by rw [← hV6];exact (Below.heap_setCell W ⟨w.heap.size+1+1+1+1,0,none⟩ _ _ (by show w.heap.size+1+1+1+1+1≠w.heap.size+1+1+1+1;omega)).trans hI.r1
  have d5:(W.setCell ⟨w.heap.size+1+1+1+1,0,none⟩ (.int .i64 0)).cell? ⟨w.heap.size+1+1+1+1+1,0,none⟩=some (.int .i64 0):=by rw [hV6];simp [World.cell?,b5]
  have y5:(W.setCell ⟨w.heap.size+1+1+1+1,0,none⟩ (.int .i64 0)).frozen? ⟨w.heap.size+1+1+1+1+1,0,none⟩=false:=by rw [hV6];simp [World.frozen?,b5]
  clear hV6 b5
  obtain ⟨V,hV⟩:∃ V,(W.setCell ⟨w.heap.size+1+1+1+1,0,none⟩ (.int .i64 0)).setCell ⟨w.heap.size+1+1+1+1+1,0,none⟩ (.int .i64 0)=V:=⟨_,rfl⟩
  have hKV:V.heap[D9]?=some (.deferred (some [])):=by rw [← hV];exact (KeepsOthers.setCell _ _ _).same D9 _ ((KeepsOthers.setCell _ _ _).same D9 _ hK rfl) rfl
  rw [hV] at hP
  have hE:=ymx hP hwD hKV
  have k4:(V.putObj D9 (.deferred none)).cell? ⟨w.heap.size+1+1+1+1,0,none⟩=some (.int .i64 0):=by simp [World.cell?,hE.r0]
  have k5:(V.putObj D9 (.deferred none)).cell? ⟨w.heap.size+1+1+1+1+1,0,none⟩=some (.int .i64 0):=by simp [World.cell?,hE.r1]
  have HF9:Hid (yc0 l a n d w (.returned (.tuple #[.int .i64 0,.int .i64 0])) (V.putObj D9 (.deferred none))):=Lib.hid ⟨hE.below,.inr ⟨hno,rfl⟩⟩
  have HKV:=Lib.hid hKV
  have HV:=Lib.hid hV
  clear hno hE hP hI hK hKV hV
  gi_wp2
  rw [HV.out]
  refine ⟨by simp,.inl ⟨_,_,rfl,run_takeDeferred HKV.out,?_⟩⟩
  refine ⟨.tuple #[.int .i64 0,.int .i64 0],?_,HF9.out⟩
  simp [results,Tryz.f192,go_sem,k4,k5]
 case stop =>
  rintro D9 c9 pre W hD hSp ⟨pre0,x,yky,ykD,hStop⟩ hK
  have hwD:w.heap.size≤D9:=by omega
  have hx:x.1=pre0.length∧pre0.map (·.1)=List.range pre0.length:=by
   rw [yky] at hSp
   simp only [List.map_append,List.map_cons,List.map_nil,List.length_append,List.length_cons,List.length_nil,Nat.zero_add] at hSp
   rw [List.range_succ] at hSp
   have h9:=List.append_inj hSp (by simp)
   exact ⟨by simpa using h9.2,h9.1⟩
  have hsn:=ype ykD hx.2
  have hri:pre0.length<i:=by rw [← hx.1];exact x.2
  rw [hx.1] at hStop
  rcases hStop with ⟨rfl,hk1,hk2,hI⟩|⟨rfl,hk1,hI⟩
  ·have yi3:=ycS.found HSR.out hsn hri hk1 hk2
   obtain ⟨n2,HN2'⟩:∃ n2,Hid (n2=rn l a (a+(n-3)-ps (i-1-pre0.length))):=⟨_,rfl⟩
   obtain ⟨d2,HD2'⟩:∃ d2,Hid (d2=a+(n-3)-ps (i-1-pre0.length)):=⟨_,rfl⟩
   rw [← HD2'.out] at hI yi3 HN2'
   rw [← HN2'.out] at hI yi3
   have hE:=ymx hI hwD hK
   have k4:(W.putObj D9 (.deferred none)).cell? ⟨w.heap.size+1+1+1+1,0,none⟩=some (.int .i64 (n2:Int)):=by simp [World.cell?,hE.r0]
   have k5:(W.putObj D9 (.deferred none)).cell? ⟨w.heap.size+1+1+1+1+1,0,none⟩=some (.int .i64 (d2:Int)):=by simp [World.cell?,hE.r1]
   have HF9:Hid (yc0 l a n d w (.returned (.tuple #[.int .i64 (n2:Int),.int .i64 (d2:Int)])) (W.putObj D9 (.deferred none))):=Lib.hid ⟨hE.below,.inl ⟨n2,d2,yi3,rfl⟩⟩
   clear hk1 hk2 yi3 hI hE
   gi_wp2
   refine ⟨by simp,.inl ⟨_,_,rfl,run_takeDeferred hK,?_⟩⟩
   refine ⟨.tuple #[.int .i64 (n2:Int),.int .i64 (d2:Int)],?_,HF9.out⟩
   simp [results,Tryz.f192,go_sem,k4,k5]
  ·have hno:yce l a n d:=ycS.cut HSR.out hsn hri hk1
   clear hk1
   have hP:=hI.put (v:=.int .i64 0) (v':=.int .i64 0)
   have d4:W.cell? ⟨w.heap.size+1+1+1+1,0,none⟩=some (.int .i64 0):=by simp [World.cell?,hI.r0]
   have y4:W.frozen? ⟨w.heap.size+1+1+1+1,0,none⟩=false:=by simp [World.frozen?,hI.r0]
   obtain ⟨V6,hV6⟩:∃ V6,W.setCell ⟨w.heap.size+1+1+1+1,0,none⟩ (.int .i64 0)=V6:=⟨_,rfl⟩
   have b5:V6.heap[w.heap.size+1+1+1+1+1]?=some (.cells #[.int .i64 0] 3 (0,0)):=by rw [← hV6];exact (Below.heap_setCell W ⟨w.heap.size+1+1+1+1,0,none⟩ _ _ (by show w.heap.size+1+1+1+1+1≠w.heap.size+1+1+1+1;omega)).trans hI.r1
   have d5:(W.setCell ⟨w.heap.size+1+1+1+1,0,none⟩ (.int .i64 0)).cell? ⟨w.heap.size+1+1+1+1+1,0,none⟩=some (.int .i64 0):=by rw [hV6];simp [World.cell?,b5]
   have y5:(W.setCell ⟨w.heap.size+1+1+1+1,0,none⟩ (.int .i64 0)).frozen? ⟨w.heap.size+1+1+1+1+1,0,none⟩=false:=by rw [hV6];simp [World.frozen?,b5]
   clear hV6 b5
   obtain ⟨V,hV⟩:∃ V,(W.setCell ⟨w.heap.size+1+1+1+1,0,none⟩ (.int .i64 0)).setCell ⟨w.heap.size+1+1+1+1+1,0,none⟩ (.int .i64 0)=V:=⟨_,rfl⟩
   have hKV:V.heap[D9]?=some (.deferred (some [])):=by rw [← hV];exact (KeepsOthers.setCell _ _ _).same D9 _ ((KeepsOthers.setCell _ _ _).same D9 _ hK rfl) rfl
   rw [hV] at hP
   have hE:=ymx hP hwD hKV
   have k4:(V.putObj D9 (.deferred none)).cell? ⟨w.heap.size+1+1+1+1,0,none⟩=some (.int .i64 0):=by simp [World.cell?,hE.r0]
   have k5:(V.putObj D9 (.deferred none)).cell? ⟨w.heap.size+1+1+1+1+1,0,none⟩=some (.int .i64 0):=by simp [World.cell?,hE.r1]
   have HF9:Hid (yc0 l a n d w (.returned (.tuple #[.int .i64 0,.int .i64 0])) (V.putObj D9 (.deferred none))):=Lib.hid ⟨hE.below,.inr ⟨hno,rfl⟩⟩
   have HKV:=Lib.hid hKV
   have HV:=Lib.hid hV
   clear hno hE hP hI hK hKV hV
   gi_wp2
   rw [HV.out]
   refine ⟨by simp,.inl ⟨_,_,rfl,run_takeDeferred HKV.out,?_⟩⟩
   refine ⟨.tuple #[.int .i64 0,.int .i64 0],?_,HF9.out⟩
   simp [results,Tryz.f192,go_sem,k4,k5]
end
end Go.Proofs.YtgepehlpjpccaaaGreatDoor
