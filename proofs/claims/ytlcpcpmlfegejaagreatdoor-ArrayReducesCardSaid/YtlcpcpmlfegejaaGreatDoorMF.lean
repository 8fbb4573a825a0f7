/- The function that along hands to build: its walk. -/
import Derived.Test.YtlcpcpmlfegejaaGreatDoorME
import Derived.Deep.RegionHeld3
set_option maxHeartbeats 8000000
set_option maxRecDepth 100000
namespace Go.Proofs.YtlcpcpmlfegejaaGreatDoor.Arr
open Go.RowKit Go.Shelf
open Go.Lib
attribute [local go_sem] Oper.semAt_some
theorem op_append_p {w:World} {o:Oper} {a:Act} {K:Act→World→Prop} {Q:Exit→Act→World→Prop} (s x:Operand)
  (ho:o.op=.call { callee:=.builtin .append,args:=#[s,x],argTypes:=#[58,58] })
  (V m cap g:Nat) (y:C7) (hs:a.eval s=.slice (some ⟨V,0,none⟩) m cap) (hx:a.eval x=.slice (some ⟨g,0,none⟩) 1 1) (hrow:SRow w V cap) (hm:m<cap) (hg:∀ c,c<3→w.cell? ⟨g,c,none⟩=(encC y)[c]?)
  (h:∀ w',SRow w' V cap→AtC w' V m y→w.grownBy w' (some V)→KeepsOthers w w'→(∀ j z,j≠m→AtC w V j z→AtC w' V j z)→K (a.put o.dst (.slice (some ⟨V,0,none⟩) (m+1) cap)) w'):o.wp Tryz.prog a w K Q:=by
 obtain ⟨w',hr,h1,h2,h3,h4,h5⟩:=run_append_p w o.type V m cap g y hrow hm hg
 unfold Oper.wp execOp
 simp only [ho,resolve,invoke,builtin,Sem.run_bind,Sem.run_pure,Result.andThen_ok,List.map_toArray,List.map_cons,List.map_nil,hs,hx,hr]
 exact h w' h1 h2 h3 h4 h5
theorem GR.own {R:Nat→Prop} {A B C:World} {k:Nat} (h:GR R A B) (g:B.grownBy C (some k)) (hk:R k):GR R A C :=
 ⟨g.os.trans h.os,g.tape.trans h.tape,g.output.trans h.output,Nat.le_trans h.size g.size,fun i hi hn=>(g.block i (Nat.lt_of_lt_of_le hi h.size) (by intro e;cases e;exact hn hk)).trans (h.block i hi hn)⟩
theorem along1_any (w1 W:World) (V cap E N n c d k a dist g AX AB PT DB EB RB:Nat) (red:Int) (p q:Option Addr) (s ix ps:List Nat) (l:List (List UInt8)) (F pf:FuncId) (pcap:Array Value)
  (hn:n≤4) (hs:Hid (s.length=n)) (ha:a<n) (hl:Hid (l.length=N)) (hN:Hid (N=prod s)) (hN1:N≤1000) (hcap:Hid (cap=s.getD a 0)) (hcap1:Hid (cap≤1000)) (hdist:Hid (dist=prod (s.drop (a+1))))
  (HV:Hid (∀ j,j<N→isV (l.getD j [])=true)) (hps:Hid (ps.length≤cap∧∀ x ∈ ps,x<cap)) (hV:Hid (w1.heap.size=V))
  (hAX:Hid (w1.heap[AX]?=some (.cells #[.int .i64 (a:Int)] 3 (0,0)))) (hAB:Hid (w1.heap[AB]?=some (.cells #[.slice p n c,.slice q N d] 31 (0,0)))) (hPT:Hid (w1.heap[PT]?=some (.cells #[.func (.func pf) #[] pcap] 72 (0,0))))
  (hDB:Hid (w1.heap[DB]?=some (.cells #[.int .i64 (dist:Int)] 3 (0,0)))) (hEB:Hid (w1.heap[EB]?=some (.cells #[.slice (some ⟨E,0,none⟩) N N] 58 (0,0)))) (hRB:Hid (w1.heap[RB]?=some (.cells #[.func (.func F) #[] #[]] 55 (0,0))))
  (hP:Hid (RdN w1 p s)) (hQ:Hid (RdS w1 q l)) (hE:Hid (ExI w1 E N N l)) (hT:Hid (Tab w1)) (hF:Hid (RedFn F red))
  (hpent:∀ args w,(callFunc pf args).run Tryz.prog w=.ok (.enter pf args) w)
  (hpart:Hid (∀ W,Below w1.heap.size w1 W→V+2≤W.heap.size→Calls Tryz.prog pf (#[.int .i64 ((ix.getD a 0:Nat):Int)]++pcap) W fun e W'=>Below W.heap.size W W'∧∃ g lb,e=.returned (.func (.func g) #[] lb)∧ItOk V g lb ps W'))
  (hOk:Hid (OkA w1 V cap W)) (hg:Hid (W.heap[g]?=some (.cells (ixC ix) 3 (0,0)))) (hgV:Hid (V+2≤g)) (hixb:Hid (∀ x ∈ ix,x≤1024)) (hix:Hid (IsIx (s.set a k) ix)) :
  Calls Tryz.prog 81 #[.slice (some ⟨g,0,none⟩) n n,.pointer (some ⟨AX,0,none⟩),.pointer (some ⟨AB,0,none⟩),.pointer (some ⟨V+1,0,none⟩),.pointer (some ⟨PT,0,none⟩),.pointer (some ⟨DB,0,none⟩),.pointer (some ⟨EB,0,none⟩),.pointer (some ⟨RB,0,none⟩)] W
   fun e W'=>e=.returned (.string ⟨List.toArray (redT red (numsL (alL s l a ix ps)))⟩)∧GR (fun r=>r=V∨r=V+1) W W'∧KeepsOthers W W'∧OkA w1 V cap W':=by
 have hni:(n:Int)≤4:=by omega
 have hai:(a:Int)<(n:Int):=by omega
 have hNi:(N:Int)≤1000:=by omega
 have HAN:=Lib.hid ha
 have HIL:Hid (ix.length=n):=Lib.hid (by rw [hix.out.1,List.length_set,hs.out])
 have HBX:Hid (∀ W',Below w1.heap.size w1 W'→W'.cell? ⟨AX,0,none⟩=some (.int .i64 (a:Int))∧W'.cell? ⟨AB,0,none⟩=some (.slice p n c)∧W'.cell? ⟨AB,1,none⟩=some (.slice q N d)∧W'.cell? ⟨PT,0,none⟩=some (.func (.func pf) #[] pcap)∧W'.cell? ⟨DB,0,none⟩=some (.int .i64 (dist:Int))∧W'.cell? ⟨EB,0,none⟩=some (.slice (some ⟨E,0,none⟩) N N)∧W'.cell? ⟨RB,0,none⟩=some (.func (.func F) #[] #[])):=Lib.hid (fun W' hb=>by
  have blk:∀ {b:Nat} {o:Obj},w1.heap[b]?=some o→W'.heap[b]?=some o:=fun {b o} h=>(hb.block b (Array.getElem?_eq_some_iff.1 h).1).trans h
  exact ⟨ceh (blk hAX.out) 0,ceh (blk hAB.out) 0,ceh (blk hAB.out) 1,ceh (blk hPT.out) 0,ceh (blk hDB.out) 0,ceh (blk hEB.out) 0,ceh (blk hRB.out) 0⟩)
 have HRG:Hid (RdN W (some ⟨g,0,none⟩) ix):=Lib.hid (rdn_ix hg.out hixb.out)
 have HCL:=Lib.hid (clone_row ⟨g,0,none⟩ n n ix W HIL hn (by omega) hixb HRG.out)
 obtain ⟨K,HK⟩:∃ K,Hid (ix.getD a 0=K):=⟨_,Lib.hid rfl⟩
 rw [HK.out] at hpart
 obtain ⟨T,HT⟩:∃ T,Hid (redT red (numsL (alL s l a ix ps))=T):=⟨_,Lib.hid rfl⟩
 rw [HT.out]
 have HWs:=Lib.hid (KeepsOthers.refl W)
 obtain ⟨x0,-⟩:=HBX.out W hOk.out.below
 clear ha
 refine (callsIn_wide (n:=9)).1 ?_
 refine callsIn_of_wp_marks Tryz.func81 rfl trivial ?_ rfl
 simp only [Tryz.ntmps81,List.size_toArray,List.length_cons,List.length_nil,Nat.reduceAdd,Nat.reduceSub,Array.replicate_succ,Array.replicate_zero,List.push_toArray,List.append_toArray,List.nil_append,List.cons_append]
 refine wpIn_wide.2 ?_
 go_wp2_with fail
 refine HCL.out.mono ?_
 rintro e wa ⟨hba,fb,fd,rfl,hra,hfd,hfb,cur,hcur⟩
 have HBA:=Lib.hid hba
 have HFB:=Lib.hid hfb
 have HRA:=Lib.hid hra
 have HCUR:Hid (∃ cur,wa.heap[fb]?=some (.cells cur 3 (0,0))):=Lib.hid ⟨_,hcur⟩
 have HBW:Hid (Below w1.heap.size w1 wa):=Lib.hid (hOk.out.below.trans (hba.mono hOk.out.below.size))
 obtain ⟨x0,-⟩:=HBX.out wa HBW.out
 have c0:wa.cell? ⟨fb,a,none⟩=some (.int .i64 (K:Int)):=by
  obtain ⟨b',off',x,e1,-,h3,HX⟩:=hra.at (k:=a) (by rw [HIL.out];exact HAN.out)
  cases e1
  rw [Nat.zero_add] at h3
  rw [h3,HX.out,HK.out]
 have f0:wa.frozen? ⟨fb,a,none⟩=false:=foh hcur _
 have HVB:Hid (w1.heap.size≤V∧V+2≤fb):=Lib.hid ⟨by rw [hV.out];exact Nat.le_refl _,by
  have h1:=(Array.getElem?_eq_some_iff.1 hg.out).1
  have:=hgV.out;omega⟩
 obtain ⟨wb,HWB⟩:∃ wb,Hid (wa.setCell ⟨fb,a,none⟩ (.int .i64 0)=wb):=⟨_,Lib.hid rfl⟩
 have HBB:Hid (Below w1.heap.size w1 wb):=Lib.hid (by rw [← HWB.out];exact setCell_below HBW.out (by have:=HVB.out;omega))
 have HGB:Hid (W.grownBy wa none∧wa.grownBy wb (some fb)):=Lib.hid ⟨gb_of_below hba none,by rw [← HWB.out];exact gb_set _ _ _ _⟩
 have HRB:Hid (RdN wb (some ⟨fb,0,none⟩) (ix.set a 0)):=Lib.hid (by
  have h:=rdn_set (v:=0) hra (by rw [HIL.out];exact HAN.out) (by omega)
  rw [Nat.zero_add] at h
  rw [← HWB.out];exact h)
 have HST:=Lib.hid (start_any p c fd n a k fb s ix wb hn hs HAN.out hix.out (by rw [← hN.out];omega) (hP.out.below HBB.out) HRB.out)
 obtain ⟨-,x1,-⟩:=HBX.out wb HBB.out
 rw [← HWB.out] at x1
 clear hba hra hfb hcur
 go_wp2_with fail
 rw [HWB.out]
 refine HST.out.mono ?_
 rintro e w' ⟨rfl,z,rfl,hz⟩
 have HZ:=Lib.hid hz
 clear hz x0 x1 c0 f0
 obtain ⟨SB,HSB⟩:∃ SB,Hid (wb.heap.size=SB):=⟨_,Lib.hid rfl⟩
 obtain ⟨wc,HWC⟩:∃ wc,Hid (wb.alloc (.cells #[.int .i64 z] 3)=wc):=⟨_,Lib.hid rfl⟩
 have HBC:Hid (Below w1.heap.size w1 wc):=Lib.hid (by rw [← HWC.out];exact HBB.out.alloc HBB.out.size _)
 have HGC:Hid (wb.grownBy wc none):=Lib.hid (by rw [← HWC.out];exact World.grownBy_alloc _ _ none)
 have HSBC:Hid (wc.heap[SB]?=some (.cells #[.int .i64 z] 3 (0,0))):=Lib.hid (by rw [← HWC.out,← HSB.out];exact World.alloc_heap_new _ _)
 have HFW:Hid (W.heap.size≤fb∧fb<SB∧g<W.heap.size):=Lib.hid ⟨HFB.out,by
  obtain ⟨cur,hc⟩:=HCUR.out
  have h1:=(Array.getElem?_eq_some_iff.1 hc).1
  rw [← HSB.out,← HWB.out]
  simpa using h1,(Array.getElem?_eq_some_iff.1 hg.out).1⟩
 have HOC:Hid (OkA w1 V cap wc):=Lib.hid (((hOk.out.next HGB.out.1 HVB.out.1 (fun k e=>by cases e)).next HGB.out.2 HVB.out.1 (fun k e=>by cases e;exact HVB.out.2)).next HGC.out HVB.out.1 (fun k e=>by cases e))
 obtain ⟨j0,hj0,hbx⟩:=HOC.out.box
 have b0:wc.cell? ⟨V+1,0,none⟩=some (.slice (some ⟨V,0,none⟩) j0 cap):=ceh hbx 0
 have b1:wc.frozen? ⟨V+1,0,none⟩=false:=foh hbx 0
 have hsz:=slice_zero V j0 cap
 have hji:(j0:Int)≤(cap:Int):=by omega
 have HJ0:=Lib.hid hbx
 rw [← HWC.out] at b0 b1
 clear hbx
 go_wp2_with fail
 rw [HWC.out,HSB.out]
 obtain ⟨wd,HWD⟩:∃ wd,Hid (wc.setCell ⟨V+1,0,none⟩ (.slice (some ⟨V,0,none⟩) 0 cap)=wd):=⟨_,Lib.hid rfl⟩
 have HGD:Hid (wc.grownBy wd (some (V+1))):=Lib.hid (by rw [← HWD.out];exact gb_set _ _ _ _)
 have HSBV:Hid (V+2≤SB∧W.heap.size≤SB):=Lib.hid (by have h1:=HFW.out;have h2:=HVB.out;omega)
 have HAL:Hid (AlI w1 W V cap SB z [] wd):=Lib.hid (by
  refine ⟨?_,PresI.nil (srow_other HOC.out.row HGD.out (by intro e;injection e with e;omega)),?_,?_,?_,?_⟩
  ·rw [← HWD.out];exact setCell_below HBC.out (by have:=HVB.out;omega)
  ·rw [← HWD.out]
   have:=heap_set wc (V+1) 0 (.slice (some ⟨V,0,none⟩) 0 cap) _ _ HJ0.out
   exact this
  ·exact (HGD.out.block SB (Array.getElem?_eq_some_iff.1 HSBC.out).1 (by intro e;injection e with e;have:=HSBV.out;omega)).trans HSBC.out
  ·exact (((GR.of_below HBA.out (fun r=>r=V∨r=V+1)).new HGB.out.2 (fun k e=>by cases e;exact HFW.out.1)).new HGC.out (fun k e=>by cases e)).own HGD.out (.inr rfl)
  ·have k1:KeepsOthers wa wb:=by rw [← HWB.out];exact KeepsOthers.setCell _ _ _
   have k2:KeepsOthers wb wc:=by rw [← HWC.out];exact KeepsOthers.alloc _ _
   have k3:KeepsOthers wc wd:=by rw [← HWD.out];exact KeepsOthers.setCell _ _ _
   exact (((KeepsOthers.of_grownBy HGB.out.1 (fun j o h _=>by cases h)).trans k1).trans k2).trans k3)
 have HGD2:Hid (wd.heap[g]?=some (.cells (ixC ix) 3 (0,0))):=Lib.hid (by
  have h1:=HFW.out
  have h2:=HVB.out
  have h3:=hgV.out
  exact (HGD.out.block g (by have:=HGC.out.size;have:=HGB.out.1.size;have:=HGB.out.2.size;omega) (by intro e;injection e with e;omega)).trans ((HGC.out.block g (by have:=HGB.out.1.size;have:=HGB.out.2.size;omega) (by intro e;cases e)).trans ((HGB.out.2.block g (by have:=HGB.out.1.size;omega) (by intro e;injection e with e;omega)).trans ((HGB.out.1.block g h1.2.2 (by intro e;cases e)).trans hg.out))))
 have HKA:Hid ((ix.getD a 0:Nat)=K∧wd.drew.cell? ⟨g,a,none⟩=some (.int .i64 (K:Int))):=Lib.hid ⟨HK.out,by
  show wd.cell? ⟨g,a,none⟩=_
  rw [ceh HGD2.out,← Array.getElem?_toList,ixC_list,List.getElem?_map,List.getElem?_eq_getElem (by rw [HIL.out];exact HAN.out)]
  rw [← HK.out,List.getD_eq_getElem?_getD,List.getElem?_eq_getElem (by rw [HIL.out];exact HAN.out)];rfl⟩
 have HBD:Hid (Below w1.heap.size w1 wd.drew):=Lib.hid HAL.out.below.drew
 have HSZD:Hid (V+2≤wd.drew.heap.size):=Lib.hid (by have h1:=(Array.getElem?_eq_some_iff.1 HAL.out.sb).1;have h2:=HSBV.out;show V+2≤wd.heap.size;omega)
 obtain ⟨y0,-,-,y3,-⟩:=HBX.out wd.drew HBD.out
 have y5:=HKA.out.2
 rw [HWD.out]
 have hPent:=hpent
 clear b0 b1 hsz
 refine wp_region_noPanic ?_
 refine wp_region_held_drew (S:=fun W'=>Below w1.heap.size w1 W'∧W'.cell? ⟨AX,0,none⟩=some (.int .i64 (a:Int))∧W'.cell? ⟨PT,0,none⟩=some (.func (.func pf) #[] pcap)∧W'.cell? ⟨g,a,none⟩=some (.int .i64 (K:Int))) (by kernel_rfl) ⟨HBD.out,y0,y3,y5⟩ (fun hHeld=>?_)
 refine wpAnyH_take (i:=0) (v:=?v0) rfl (by kernel_rfl) (by kernel_rfl) (by kernel_rfl) (fun _ _ _ h=>h) (Or.inl ⟨by rfl,?hv0⟩) (by assumption) ?rv0
 case hv0 =>
  intro W' hSw
  obtain ⟨-,e0,e3,e5⟩:=hSw
  go_simp
  with_reducible rfl
 simp only [List.getElem_toArray,List.getElem_cons_zero,Act.put,List.setIfInBounds_toArray,List.set_cons_zero,List.set_cons_succ]
 refine wpAnyH_take (i:=1) (v:=?v1) rfl (by kernel_rfl) (by kernel_rfl) (by kernel_rfl) (fun _ _ _ h=>h) (Or.inl ⟨by rfl,?hv1⟩) (by assumption) ?rv1
 case hv1 =>
  intro W' hSw
  obtain ⟨-,e0,e3,e5⟩:=hSw
  go_simp
  with_reducible rfl
 simp only [List.getElem_toArray,List.getElem_cons_zero,List.getElem_cons_succ,Act.put,List.setIfInBounds_toArray,List.set_cons_zero,List.set_cons_succ]
 refine wpAnyH_take (i:=2) (v:=?v2) rfl (by kernel_rfl) (by kernel_rfl) (by kernel_rfl) (fun _ _ _ h=>h) (Or.inl ⟨by rfl,?hv2⟩) (by assumption) ?rv2
 case hv2 =>
  intro W' hSw
  obtain ⟨-,e0,e3,e5⟩:=hSw
  go_simp
  with_reducible rfl
 simp only [List.getElem_toArray,List.getElem_cons_zero,List.getElem_cons_succ,Act.put,List.setIfInBounds_toArray,List.set_cons_zero,List.set_cons_succ]
 refine wpAnyH_take (i:=3) (v:=?v3) rfl (by kernel_rfl) (by kernel_rfl) (by kernel_rfl) (fun _ _ _ h=>h) (Or.inl ⟨by rfl,?hv3⟩) (by assumption) ?rv3
 case hv3 =>
  intro W' hSw
  obtain ⟨-,e0,e3,e5⟩:=hSw
  go_simp
  with_reducible rfl
 simp only [List.getElem_toArray,List.getElem_cons_zero,List.getElem_cons_succ,Act.put,List.setIfInBounds_toArray,List.set_cons_zero,List.set_cons_succ]
 refine wpAnyH_take (i:=4) (v:=?v4) rfl (by kernel_rfl) (by kernel_rfl) (by kernel_rfl) (fun _ _ _ h=>h) (Or.inl ⟨by rfl,?hv4⟩) (by assumption) ?rv4
 case hv4 =>
  intro W' hSw
  obtain ⟨-,e0,e3,e5⟩:=hSw
  go_simp
  with_reducible rfl
 simp only [List.getElem_toArray,List.getElem_cons_zero,List.getElem_cons_succ,Act.put,List.setIfInBounds_toArray,List.set_cons_zero,List.set_cons_succ]
 refine wpAnyH_ready (rs:=[5]) (by kernel_rfl) (by simp) ?_
 refine AllReadyH.cons (i:=5) rfl (fun K1 hK1=>?_) AllReadyH.nil
 go_simp
 refine (hpart.out _ HBD.out HSZD.out).mono ?_
 rintro e we ⟨hbe,it,ilb,rfl,hit⟩
 have HIT:=Lib.hid hit
 have HGE:Hid (wd.grownBy we none):=Lib.hid ((⟨rfl,rfl,rfl,Nat.le_refl _,fun _ _ _=>rfl⟩:wd.grownBy wd.drew none).trans (gb_of_below hbe none))
 have HAE:Hid (AlI w1 W V cap SB z [] we):=Lib.hid (HAL.out.next HGE.out HVB.out.1 (fun k e=>by cases e))
 have HSE:Hid (Below w1.heap.size w1 we∧we.cell? ⟨AX,0,none⟩=some (.int .i64 (a:Int))∧we.cell? ⟨PT,0,none⟩=some (.func (.func pf) #[] pcap)∧we.cell? ⟨g,a,none⟩=some (.int .i64 (K:Int))):=Lib.hid (by
  obtain ⟨e0,-,-,e3,-⟩:=HBX.out we HAE.out.below
  exact ⟨HAE.out.below,e0,e3,(hbe.cell (p:=⟨g,a,none⟩) (Array.getElem?_eq_some_iff.1 HGD2.out).1).trans HKA.out.2⟩)
 clear hbe hit y0 y3 y5
 refine hK1 _ _ HSE.out (fun hHeld2=>?_)
 clear hK1 K1 hHeld
 refine wpAnyH_done (by kernel_rfl) ?_ _
 refine NoPanic.normal ?_
 go_wp2_with fail
 have HSBE:Hid (SB<we.heap.size∧V+2≤we.heap.size∧W.heap.size≤we.heap.size):=Lib.hid (by
  have h1:=(Array.getElem?_eq_some_iff.1 HAE.out.sb).1
  have:=HSBV.out
  omega)
 refine (wpIn_wide (n:=9)).1 ?_
 obtain ⟨hient,At,hAt0,hAtS,hAtP,hseq⟩:=HIT.out
 refine wpIn_rangeFunc_cells rfl (by omega) (gf:=it) (lb:=ilb) rfl trivial hient (hseq _ (by omega))
  (fun x A l o o' ho hc hat=>hAtP A l o o' ho hc hat) (Below.refl _ _) (fun _=>rfl)
  (fun pre W'=>AlI w1 W V cap SB z (numsL (alL s l a ix pre)) W')
  (fun pre A B r h hg hr=>h.next hg HVB.out.1 (fun k e=>by have:=hr k e;have:=HSBE.out;omega))
  HAE.out ?a1 ?assign ?body ?done
 case assign =>
  intro lo x W' K2 hK2
  gi_wp2
  exact hK2
 case body =>
  rintro lr pre x Wb hI hAt hpre
  have hxm:x ∈ ps:=hpre.subset (by simp)
  have hxc:x<cap:=hps.out.2 x hxm
  have hpl:pre.length<cap:=by have h1:=hpre.length_le;have:=hps.out.1;rw [List.length_append] at h1;simp at h1;omega
  obtain ⟨Z,HZZ⟩:∃ Z,Hid (plc s (ix.set a 0) 0=Z):=⟨_,Lib.hid rfl⟩
  have hzz:z=((Z:Nat):Int):=by rw [← HZZ.out];exact HZ.out (by rw [← hcap.out];omega)
  subst hzz
  obtain ⟨M,HM⟩:∃ M,Hid (x*dist=M):=⟨_,Lib.hid rfl⟩
  obtain ⟨Q,HQP⟩:∃ Q,Hid (plc s (ix.set a x) 0=Q):=⟨_,Lib.hid rfl⟩
  have hQN:Q<N:=by
   rw [← HQP.out,hN.out]
   exact plc_in hix.out (by rw [hs.out];exact HAN.out) (by rw [← hcap.out];exact hxc)
  have hsum:Z+M=Q:=by
   rw [← HZZ.out,← HM.out,← HQP.out,hdist.out]
   exact (plc_set s ix a x 0 (by rw [HIL.out,hs.out]) (by rw [hs.out];exact HAN.out)).symm
  obtain ⟨bq,oq,t,rfl,hbl,hcell,HTX⟩:=hQ.out.at (k:=Q) (by rw [hl.out];exact hQN)
  have HI:=Lib.hid hI
  have HAT:=Lib.hid hAt
  have HSNOC:Hid (numsL (alL s l a ix (pre++[x]))=numsL (alL s l a ix pre)++(num t).toList):=Lib.hid (by rw [alL_snoc,numsL_snoc,HQP.out,← HTX.out])
  have HVT:Hid (isV t=true):=Lib.hid (by rw [HTX.out];exact HV.out Q hQN)
  have HQN:=Lib.hid hQN
  have HLEN:Hid ((numsL (alL s l a ix pre)).length<cap):=Lib.hid (by have:=numsL_le (alL s l a ix pre);unfold alL at this;rw [List.length_map] at this;unfold alL;omega)
  obtain ⟨-,-,q1,-,q4,q5,-⟩:=HBX.out Wb HI.out.below
  have s0:Wb.cell? ⟨SB,0,none⟩=some (.int .i64 ((Z:Nat):Int)):=ceh HI.out.sb 0
  have s1:Wb.cell? ⟨bq,oq+Q,none⟩=some (.string ⟨List.toArray t⟩):=(HI.out.below.cell (p:=⟨bq,oq+Q,none⟩) hbl).trans hcell
  have i0:(0:Int)≤(Q:Int):=by omega
  have i1:(Q:Int)<(N:Int):=by omega
  have i2:(0:Int)≤(M:Int):=by omega
  have i3:(M:Int)≤1000:=by omega
  have i4:(0:Int)≤(Z:Int):=by omega
  have i5:(Z:Int)≤1000:=by omega
  have hmul:(x:Int)*(dist:Int)=(M:Int):=by rw [← HM.out];exact (Int.natCast_mul x dist).symm
  have hadd:(Z:Int)+(M:Int)=(Q:Int):=by omega
  clear hI hAt hpre hxm hxc hpl hsum hQN hcell hbl
  by_cases ht:t=[]
  ·subst ht
   have HEND:Hid (KeepsOthers Wb Wb∧At Wb∧AlI w1 W V cap SB (Z:Int) (numsL (alL s l a ix (pre++[x]))) Wb):=Lib.hid ⟨KeepsOthers.refl _,HAT.out,by rw [HSNOC.out,num_nil];simpa using HI.out⟩
   gi_wp2
   exact HEND.out
  ·have ht1:(t==[])=false:=by simpa using ht
   have ht2:t.isEmpty=false:=by simpa using ht
   obtain ⟨qx,hqx⟩:∃ qx,num t=some qx:=by
    rcases isV_cases HVT.out with h|h
    ·exact absurd h ht
    ·exact h
   clear ht
   gi_wp2
   obtain ⟨y,hy1,hy2⟩:=hE.out.nums Q HQN.out qx (by rw [← HTX.out];exact hqx)
   have HY2:=Lib.hid hy2
   obtain ⟨ys,yp,yn,yc,yr,ym,yd⟩:=y
   have HSB:Hid (∀ W',Below w1.heap.size w1 W'→W'.cell? ⟨EB,0,none⟩=some (.slice (some ⟨E,0,none⟩) N N)∧W'.cell? ⟨E,Q*3,none⟩=some (.bool ys)∧W'.cell? ⟨E,Q*3+1,none⟩=some (.slice yp yn yc)∧W'.cell? ⟨E,Q*3+2,none⟩=some (.slice yr ym yd)):=Lib.hid (fun W' hb=>by
    obtain ⟨-,-,-,-,-,e5,-⟩:=HBX.out W' hb
    have h:=hy1.below hE.out.row hb
    exact ⟨e5,(h 0 (by omega)).1,(h 1 (by omega)).1,(h 2 (by omega)).1⟩)
   have HBD2:Hid (Below w1.heap.size w1 Wb.drew):=Lib.hid HI.out.below.drew
   obtain ⟨m,HMQ⟩:∃ m,Hid ((numsL (alL s l a ix pre)).length=m):=⟨_,Lib.hid rfl⟩
   have HLM:Hid (m<cap):=Lib.hid (by rw [← HMQ.out];exact HLEN.out)
   obtain ⟨U,HUA⟩:∃ U,Hid ((Wb.alloc (.cells #[.bool ys,.slice yp yn yc,.slice yr ym yd] 62)).drew=U):=⟨_,Lib.hid rfl⟩
   obtain ⟨gU,HGU⟩:∃ gU,Hid (Wb.heap.size=gU):=⟨_,Lib.hid rfl⟩
   have hd1:Wb.grownBy (Wb.alloc (.cells #[.bool ys,.slice yp yn yc,.slice yr ym yd] 62)) none:=World.grownBy_alloc _ _ none
   have hd2:(Wb.alloc (.cells #[.bool ys,.slice yp yn yc,.slice yr ym yd] 62)).grownBy U none:=by rw [← HUA.out];exact ⟨rfl,rfl,rfl,Nat.le_refl _,fun _ _ _=>rfl⟩
   have HIU:Hid (AlI w1 W V cap SB (Z:Int) (numsL (alL s l a ix pre)) U):=Lib.hid ((HI.out.next hd1 HVB.out.1 (fun k e=>by cases e)).next hd2 HVB.out.1 (fun k e=>by cases e))
   have HATU:Hid (At U):=Lib.hid (hAtS _ _ _ (hAtS _ _ _ HAT.out hd1 (fun r e=>by cases e)) hd2 (fun r e=>by cases e))
   have HNEW:Hid (∀ c,c<3→U.cell? ⟨gU,c,none⟩=(encC (ys,yp,yn,yc,yr,ym,yd))[c]?):=Lib.hid (fun c hc=>by
    have hh:U.heap[gU]?=some (.cells #[.bool ys,.slice yp yn yc,.slice yr ym yd] 62 (0,0)):=by rw [← HUA.out,← HGU.out];exact World.alloc_heap_new Wb _
    rw [ceh hh,List.getElem?_toArray];rfl)
   have g1:Wb.drew.cell? ⟨V+1,0,none⟩=some (.slice (some ⟨V,0,none⟩) m cap):=by rw [← HMQ.out];exact ceh HI.out.pb 0
   have g2:U.cell? ⟨V+1,0,none⟩=some (.slice (some ⟨V,0,none⟩) m cap):=by rw [← HMQ.out];exact ceh HIU.out.pb 0
   clear hy1 hy2 hd1 hd2 q1 q4 q5 s0 s1
   refine region_round (S:=fun W'=>W'.cell? ⟨EB,0,none⟩=some (.slice (some ⟨E,0,none⟩) N N)∧W'.cell? ⟨E,Q*3,none⟩=some (.bool ys)∧W'.cell? ⟨E,Q*3+1,none⟩=some (.slice yp yn yc)∧W'.cell? ⟨E,Q*3+2,none⟩=some (.slice yr ym yd)) (by kernel_rfl) (by kernel_rfl) (fun ⟨_,_,h⟩=>h) (HSB.out _ HBD2.out) (fun hHeld=>?_)
   refine wpAnyH_take (i:=1) (v:=?u1) rfl (by kernel_rfl) (by kernel_rfl) (by kernel_rfl) (fun _ _ _ h=>h) (Or.inl ⟨by rfl,?hu1⟩) (by assumption) ?ru1
   case hu1 =>
    intro W' hSw
    obtain ⟨e0,e1,e2,e3⟩:=hSw
    go_simp
    with_reducible rfl
   simp only [List.getElem_toArray,List.getElem_cons_zero,List.getElem_cons_succ,Act.put,List.setIfInBounds_toArray,List.set_cons_zero,List.set_cons_succ]
   refine wpAnyH_take (i:=2) (v:=?u2) rfl (by kernel_rfl) (by kernel_rfl) (by kernel_rfl) (fun _ _ _ h=>h) (Or.inl ⟨by rfl,?hu2⟩) (by assumption) ?ru2
   case hu2 =>
    intro W' hSw
    obtain ⟨e0,e1,e2,e3⟩:=hSw
    go_simp
    with_reducible rfl
   simp only [List.getElem_toArray,List.getElem_cons_zero,List.getElem_cons_succ,Act.put,List.setIfInBounds_toArray,List.set_cons_zero,List.set_cons_succ]
   refine wpAnyH_take (i:=3) (v:=?u3) rfl (by kernel_rfl) (by kernel_rfl) (by kernel_rfl) (fun _ _ _ h=>h) (Or.inl ⟨by rfl,?hu3⟩) (by assumption) ?ru3
   case hu3 =>
    intro W' hSw
    obtain ⟨e0,e1,e2,e3⟩:=hSw
    go_simp
    with_reducible rfl
   simp only [List.getElem_toArray,List.getElem_cons_zero,List.getElem_cons_succ,Act.put,List.setIfInBounds_toArray,List.set_cons_zero,List.set_cons_succ]
   refine wpAnyH_take (i:=4) (v:=?u4) rfl (by kernel_rfl) (by kernel_rfl) (by kernel_rfl) (fun _ _ _ h=>h) (Or.inl ⟨by rfl,?hu4⟩) (by assumption) ?ru4
   case hu4 =>
    intro W' hSw
    obtain ⟨e0,e1,e2,e3⟩:=hSw
    go_simp
    with_reducible rfl
   simp only [List.getElem_toArray,List.getElem_cons_zero,List.getElem_cons_succ,Act.put,List.setIfInBounds_toArray,List.set_cons_zero,List.set_cons_succ]
   refine wpAnyH_ready (rs:=[0,5]) (by kernel_rfl) (by simp) ?_
   refine AllReadyH.cons (i:=0) rfl (fun K0 hK0=>?_) (AllReadyH.cons (i:=5) rfl (fun K0 hK0=>?_) AllReadyH.nil)
   ·go_simp
    refine hK0 _ _ (HSB.out _ HBD2.out) (fun hH1=>?_)
    clear hK0 K0
    refine wpAnyH_ready (rs:=[5]) (by kernel_rfl) (by simp) ?_
    refine AllReadyH.cons (i:=5) rfl (fun K0 hK0=>?_) AllReadyH.nil
    go_simp
    rw [HUA.out,HGU.out]
    refine hK0 _ _ (HSB.out _ HIU.out.below) (fun hH2=>?_)
    clear hK0 K0
    refine wpAnyH_ready (rs:=[6]) (by kernel_rfl) (by simp) ?_
    refine AllReadyH.cons (i:=6) rfl (fun K0 hK0=>?_) AllReadyH.nil
    rw [if_pos (by rfl)]
    refine op_append_p (.tmp 43) (.tmp 48) rfl V m cap gU (ys,yp,yn,yc,yr,ym,yd) rfl rfl HIU.out.pres.row HLM.out HNEW.out ?_
    intro w9 hr9 ha9 hg9 hk9 ho9
    obtain ⟨w10,HW10⟩:∃ w10,Hid (w9.setCell ⟨V+1,0,none⟩ (.slice (some ⟨V,0,none⟩) (m+1) cap)=w10):=⟨_,Lib.hid rfl⟩
    have hb9:w9.heap[V+1]?=some (.cells #[.slice (some ⟨V,0,none⟩) m cap] 58 (0,0)):=(hg9.block (V+1) (Array.getElem?_eq_some_iff.1 HIU.out.pb).1 (by intro e;injection e with e;omega)).trans (by rw [← HMQ.out];exact HIU.out.pb)
    have k1:w9.cell? ⟨V+1,0,none⟩=some (.slice (some ⟨V,0,none⟩) m cap):=ceh hb9 0
    have z1:w9.frozen? ⟨V+1,0,none⟩=false:=foh hb9 0
    have hg10:w9.grownBy w10 (some (V+1)):=by rw [← HW10.out];exact gb_set _ _ _ _
    have HB9:Hid (Below w1.heap.size w1 w9):=Lib.hid (HIU.out.below.grown hg9 HIU.out.below.size (fun k e=>by cases e;exact HVB.out.1))
    have HB10:Hid (Below w1.heap.size w1 w10):=Lib.hid (HB9.out.grown hg10 HB9.out.size (fun k e=>by cases e;have:=HVB.out.1;omega))
    have HFIN:Hid (KeepsOthers Wb w10∧At w10∧AlI w1 W V cap SB (Z:Int) (numsL (alL s l a ix (pre++[x]))) w10):=Lib.hid (by
     have hk10:KeepsOthers w9 w10:=by rw [← HW10.out];exact KeepsOthers.setCell _ _ _
     have hkU:KeepsOthers Wb U:=(KeepsOthers.alloc Wb _).trans (by rw [← HUA.out];exact KeepsOthers.drew _)
     refine ⟨(hkU.trans hk9).trans hk10,hAtS _ _ _ (hAtS _ _ _ (HATU.out) hg9 (fun r e=>by cases e;exact .inl rfl)) hg10 (fun r e=>by cases e;exact .inr (.inl rfl)),?_⟩
     have hp9:PresI w1 w9 V cap (numsL (alL s l a ix (pre++[x]))):=by
      rw [HSNOC.out,hqx]
      refine HIU.out.pres.more HLEN.out hr9 ?_ HY2.out ?_
      ·rw [HMQ.out];exact ha9
      ·rw [HMQ.out];exact ho9
     have hlen9:(numsL (alL s l a ix (pre++[x]))).length=m+1:=by rw [HSNOC.out,hqx,List.length_append,HMQ.out];rfl
     refine ⟨HB10.out,hp9.next hg10 (by intro e;injection e with e;omega),?_,?_,(HIU.out.old.own hg9 (.inl rfl)).own hg10 (.inr rfl),(HIU.out.keeps.trans hk9).trans hk10⟩
     ·rw [hlen9,← HW10.out]
      have:=heap_set w9 (V+1) 0 (.slice (some ⟨V,0,none⟩) (m+1) cap) _ _ hb9
      exact this
     ·have e1:=HSBV.out
      exact (hg10.block SB (Nat.lt_of_lt_of_le (Array.getElem?_eq_some_iff.1 HIU.out.sb).1 hg9.size) (by intro e;injection e with e;omega)).trans ((hg9.block SB (Array.getElem?_eq_some_iff.1 HIU.out.sb).1 (by intro e;injection e with e;omega)).trans HIU.out.sb))
    clear hr9 ha9 hg9 hk9 ho9 hb9 hg10
    refine hK0 _ _ (HSB.out _ HB9.out) (fun hH3=>?_)
    clear hK0 K0
    refine wpAnyH_ready (rs:=[7]) (by kernel_rfl) (by simp) ?_
    refine AllReadyH.cons (i:=7) rfl (fun K0 hK0=>?_) AllReadyH.nil
    go_simp
    try rw [HW10.out]
    refine hK0 _ _ (HSB.out _ HB10.out) (fun hH4=>?_)
    clear hK0 K0
    refine wpAnyH_done (by kernel_rfl) ?_ _
    gi_wp2
    exact HFIN.out
   ·go_simp
    rw [HUA.out,HGU.out]
    refine hK0 _ _ (HSB.out _ HIU.out.below) (fun hH1=>?_)
    clear hK0 K0
    refine wpAnyH_ready (rs:=[0]) (by kernel_rfl) (by simp) ?_
    refine AllReadyH.cons (i:=0) rfl (fun K0 hK0=>?_) AllReadyH.nil
    go_simp
    refine hK0 _ _ (HSB.out _ HIU.out.below) (fun hH2=>?_)
    clear hK0 K0
    refine wpAnyH_ready (rs:=[6]) (by kernel_rfl) (by simp) ?_
    refine AllReadyH.cons (i:=6) rfl (fun K0 hK0=>?_) AllReadyH.nil
    rw [if_pos (by rfl)]
    refine op_append_p (.tmp 43) (.tmp 48) rfl V m cap gU (ys,yp,yn,yc,yr,ym,yd) rfl rfl HIU.out.pres.row HLM.out HNEW.out ?_
    intro w9 hr9 ha9 hg9 hk9 ho9
    obtain ⟨w10,HW10⟩:∃ w10,Hid (w9.setCell ⟨V+1,0,none⟩ (.slice (some ⟨V,0,none⟩) (m+1) cap)=w10):=⟨_,Lib.hid rfl⟩
    have hb9:w9.heap[V+1]?=some (.cells #[.slice (some ⟨V,0,none⟩) m cap] 58 (0,0)):=(hg9.block (V+1) (Array.getElem?_eq_some_iff.1 HIU.out.pb).1 (by intro e;injection e with e;omega)).trans (by rw [← HMQ.out];exact HIU.out.pb)
    have k1:w9.cell? ⟨V+1,0,none⟩=some (.slice (some ⟨V,0,none⟩) m cap):=ceh hb9 0
    have z1:w9.frozen? ⟨V+1,0,none⟩=false:=foh hb9 0
    have hg10:w9.grownBy w10 (some (V+1)):=by rw [← HW10.out];exact gb_set _ _ _ _
    have HB9:Hid (Below w1.heap.size w1 w9):=Lib.hid (HIU.out.below.grown hg9 HIU.out.below.size (fun k e=>by cases e;exact HVB.out.1))
    have HB10:Hid (Below w1.heap.size w1 w10):=Lib.hid (HB9.out.grown hg10 HB9.out.size (fun k e=>by cases e;have:=HVB.out.1;omega))
    have HFIN:Hid (KeepsOthers Wb w10∧At w10∧AlI w1 W V cap SB (Z:Int) (numsL (alL s l a ix (pre++[x]))) w10):=Lib.hid (by
     have hk10:KeepsOthers w9 w10:=by rw [← HW10.out];exact KeepsOthers.setCell _ _ _
     have hkU:KeepsOthers Wb U:=(KeepsOthers.alloc Wb _).trans (by rw [← HUA.out];exact KeepsOthers.drew _)
     refine ⟨(hkU.trans hk9).trans hk10,hAtS _ _ _ (hAtS _ _ _ (HATU.out) hg9 (fun r e=>by cases e;exact .inl rfl)) hg10 (fun r e=>by cases e;exact .inr (.inl rfl)),?_⟩
     have hp9:PresI w1 w9 V cap (numsL (alL s l a ix (pre++[x]))):=by
      rw [HSNOC.out,hqx]
      refine HIU.out.pres.more HLEN.out hr9 ?_ HY2.out ?_
      ·rw [HMQ.out];exact ha9
      ·rw [HMQ.out];exact ho9
     have hlen9:(numsL (alL s l a ix (pre++[x]))).length=m+1:=by rw [HSNOC.out,hqx,List.length_append,HMQ.out];rfl
     refine ⟨HB10.out,hp9.next hg10 (by intro e;injection e with e;omega),?_,?_,(HIU.out.old.own hg9 (.inl rfl)).own hg10 (.inr rfl),(HIU.out.keeps.trans hk9).trans hk10⟩
     ·rw [hlen9,← HW10.out]
      have:=heap_set w9 (V+1) 0 (.slice (some ⟨V,0,none⟩) (m+1) cap) _ _ hb9
      exact this
     ·have e1:=HSBV.out
      exact (hg10.block SB (Nat.lt_of_lt_of_le (Array.getElem?_eq_some_iff.1 HIU.out.sb).1 hg9.size) (by intro e;injection e with e;omega)).trans ((hg9.block SB (Array.getElem?_eq_some_iff.1 HIU.out.sb).1 (by intro e;injection e with e;omega)).trans HIU.out.sb))
    clear hr9 ha9 hg9 hk9 ho9 hb9 hg10
    refine hK0 _ _ (HSB.out _ HB9.out) (fun hH3=>?_)
    clear hK0 K0
    refine wpAnyH_ready (rs:=[7]) (by kernel_rfl) (by simp) ?_
    refine AllReadyH.cons (i:=7) rfl (fun K0 hK0=>?_) AllReadyH.nil
    go_simp
    try rw [HW10.out]
    refine hK0 _ _ (HSB.out _ HB10.out) (fun hH4=>?_)
    clear hK0 K0
    refine wpAnyH_done (by kernel_rfl) ?_ _
    gi_wp2
    exact HFIN.out
 case done =>
  rintro D9 xs Wd hD hS hI hDK
  subst hS
  (try simp only [Exit.inBlock,Exit.then])
  have HDK:=Lib.hid hDK
  have HDD:=Lib.hid hD
  have HI:=Lib.hid hI
  have hle:=HI.out.pres.le
  have HCALL:=Lib.hid (hF.out.2 _ _ _ _ Wd (HI.out.pres.sl HI.out.below (by have:=hcap1.out;omega)) (hT.out.below HI.out.below))
  rw [HT.out] at HCALL
  obtain ⟨M,HM⟩:∃ M,Hid ((numsL (alL s l a ix xs)).length=M):=⟨_,Lib.hid rfl⟩
  have p0:Wd.cell? ⟨V+1,0,none⟩=some (.slice (some ⟨V,0,none⟩) M cap):=by rw [← HM.out];exact ceh HI.out.pb 0
  rw [HM.out] at HCALL
  obtain ⟨-,-,-,-,-,-,p7⟩:=HBX.out Wd HI.out.below
  have hent:=hF.out.1
  clear hD hDK hI hle
  go_wp2_with fail
  refine HCALL.out.mono ?_
  rintro e wz ⟨rfl,hbz⟩
  have HDZ:Hid (wz.heap[D9]?=some (.deferred (some []))):=Lib.hid ((hbz.block D9 (Array.getElem?_eq_some_iff.1 HDK.out).1).trans HDK.out)
  have HFIN:Hid (GR (fun r=>r=V∨r=V+1) W (wz.putObj D9 (.deferred none))∧KeepsOthers W (wz.putObj D9 (.deferred none))∧OkA w1 V cap (wz.putObj D9 (.deferred none))):=Lib.hid (by
   have h1:=(HI.out.next (gb_of_below hbz none) HVB.out.1 (fun k e=>by cases e)).next (grownBy_putObj' wz D9 (.deferred none)) HVB.out.1 (fun k e=>by cases e;have:=HSBE.out;have:=HDD.out;omega)
   exact ⟨h1.old,h1.keeps,h1.below,h1.pres.row,_,h1.pres.le,h1.pb⟩)
  clear hbz p0 p7
  go_wp2_with fail
  refine ⟨by simp,.inl ⟨_,_,rfl,run_takeDeferred HDZ.out,?_⟩⟩
  refine ⟨.string ⟨List.toArray T⟩,?_,rfl,HFIN.out⟩
  simp [results,Tryz.f81,go_sem]
end Go.Proofs.YtlcpcpmlfegejaaGreatDoor.Arr
