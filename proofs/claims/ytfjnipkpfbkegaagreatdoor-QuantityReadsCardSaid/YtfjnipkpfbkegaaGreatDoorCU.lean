/- Contracts. -/
import Derived.Test.YtfjnipkpfbkegaaGreatDoorGZg
import Derived.Test.YtfjnipkpfbkegaaGreatDoorCards
import Derived.Test.YtfjnipkpfbkegaaGreatDoorTie
import Derived.LaidMore
import Derived.Stop.LaidErr
import Derived.Deep.DeepHandedRow
import Derived.Lib.SmallJoins
set_option maxHeartbeats 0
set_option maxRecDepth 100000
namespace Go.Proofs.YtfjnipkpfbkegaaGreatDoor
section
open Go.RowKit Big
open Go.Lib
def ykw (w wr:World) (BB g3:Nat) (fs:List (Int × FacR)) (k:Nat):Prop:=∃ (b1:Bool) (x1:Option Addr) (n1 c1:Nat) (y1:Option Addr) (m1 d1:Nat) (b2:Bool) (x2:Option Addr) (n2 c2:Nat) (y2:Option Addr) (m2 d2:Nat) (p0 p1 p2 p3 p4 p5 p6:Int),Keep w wr [(g3,#[.bool b1,.slice x1 n1 c1,.slice y1 m1 d1,.bool b2,.slice x2 n2 c2,.slice y2 m2 d2,.int .i64 p0,.int .i64 p1,.int .i64 p2,.int .i64 p3,.int .i64 p4,.int .i64 p5,.int .i64 p6],52),(BB,#[.bool false,.slice none 0 0,.slice none 0 0,.bool false,.slice none 0 0,.slice none 0 0,.int .i64 0,.int .i64 0,.int .i64 0,.int .i64 0,.int .i64 0,.int .i64 0,.int .i64 0],52)]∧[p0,p1,p2,p3,p4,p5,p6]=(jV 1 jG (fs.take k)).2∧zH wr (.agg #[.bool b1,.slice x1 n1 c1,.slice y1 m1 d1]) (jV 1 jG (fs.take k)).1∧zH wr (.agg #[.bool b2,.slice x2 n2 c2,.slice y2 m2 d2]) (GU 0 (fs.take k))
def yrg (w wx:World) (gf g3 BB:Nat) (F Z:Array Value) (q o:Rat) (v1:Bool) (vx:Option Addr) (vn vc:Nat) (vy:Option Addr) (vm vd:Nat) (q0 q1 q2 q3 q4 q5 q6:Int):Prop:=∃ (c1:Bool) (cx:Option Addr) (cn cc:Nat) (cy:Option Addr) (cm cd:Nat),Keep w wx [(g3,#[.bool c1,.slice cx cn cc,.slice cy cm cd,.bool v1,.slice vx vn vc,.slice vy vm vd,.int .i64 q0,.int .i64 q1,.int .i64 q2,.int .i64 q3,.int .i64 q4,.int .i64 q5,.int .i64 q6],52),(gf,F,48),(BB,Z,52)]∧zH wx (.agg #[.bool c1,.slice cx cn cc,.slice cy cm cd]) q∧zH wx (.agg #[.bool v1,.slice vx vn vc,.slice vy vm vd]) o
theorem yhy (v:Value) (css:List (List Value)) (fs:List (Int × FacR)) (base:Nat) (w:World) (hok:ynC fs) (hfs:FacsR w base v css fs) (h12:fs.length≤12) (hp:fs.all (fun x=>zP x.2.e)=true):Calls Tryz.prog 18 #[v] w (yhc (jV 1 jG fs).1 (GU 0 fs) (jV 1 jG fs).2 w):=by
 have HFS:=yA hfs
 have HOK:=yA hok
 have HP:=yA hp
 obtain ⟨po,cap,hv⟩:∃ po cap,v=.slice po fs.length cap:=by
  rcases hfs.row.1.2 with ⟨h1,h2⟩|⟨g,cap,cur,h1,-⟩
  ·exact ⟨none,0,by rw [h1,h2]⟩
  ·exact ⟨_,_,h1⟩
 subst hv
 have hl12:(fs.length:Int)≤12:=by omega
 have HK0:Hid (Keep w (w.alloc (.cells #[.bool false,.slice none 0 0,.slice none 0 0,.bool false,.slice none 0 0,.slice none 0 0,.int .i64 0,.int .i64 0,.int .i64 0,.int .i64 0,.int .i64 0,.int .i64 0,.int .i64 0] 52)) [(w.heap.size,#[.bool false,.slice none 0 0,.slice none 0 0,.bool false,.slice none 0 0,.slice none 0 0,.int .i64 0,.int .i64 0,.int .i64 0,.int .i64 0,.int .i64 0,.int .i64 0,.int .i64 0],52)]):=yA ((Keep.nil w).more #[.bool false,.slice none 0 0,.slice none 0 0,.bool false,.slice none 0 0,.slice none 0 0,.int .i64 0,.int .i64 0,.int .i64 0,.int .i64 0,.int .i64 0,.int .i64 0,.int .i64 0] 52)
 have HI1:Hid (∀ W,Calls Tryz.prog 37 #[.int .i64 1] W (yaM 1 W)):=yA fun W=>(yaK 1 W (by omega) (by omega)).mono fun e w' h=>vD.c h
 clear hfs hok hp
 go_enter Tryz.func18,Tryz.ntmps18
 go_wp2_with fail
 refine (HI1.out _).mono ?_
 rintro e w2 ⟨b1,x1,n1,c1,y1,m1,d1,rfl,hq2,hb2⟩
 have HBN:Hid (BX 52 13 (w2.alloc (.cells #[.bool false,.slice none 0 0,.slice none 0 0,.bool false,.slice none 0 0,.slice none 0 0,.int .i64 0,.int .i64 0,.int .i64 0,.int .i64 0,.int .i64 0,.int .i64 0,.int .i64 0] 52)) w2.heap.size):=yA (yij (cs:=[.bool false,.slice none 0 0,.slice none 0 0,.bool false,.slice none 0 0,.slice none 0 0,.int .i64 0,.int .i64 0,.int .i64 0,.int .i64 0,.int .i64 0,.int .i64 0,.int .i64 0]) (yV _ _) rfl (yex _ _ _ _ _ _ _ _ _ _ _ _ _ _ _ _ _ _ _ _ _))
 have HK2:=yA (HK0.out.next hb2)
 have HQ2:=yA hq2
 clear hb2 hq2 HK0
 go_wp2_with (refine zO rfl 52 13 (.tmp 3) (.tmp 11) rfl w2.heap.size [.bool b1,.slice x1 n1 c1,.slice y1 m1 d1,.bool false,.slice none 0 0,.slice none 0 0,.int .i64 0,.int .i64 0,.int .i64 0,.int .i64 0,.int .i64 0,.int .i64 0,.int .i64 0] rfl rfl HBN.out rfl (by kernel_rfl) (yex _ _ _ _ _ _ _ _ _ _ _ _ _ _ _ _ _ _ _ _ _) (by simp [Value.oneCell']) ?_)
 intro W4 h4 st4
 obtain ⟨g3,HG3⟩:∃ g,Hid (w2.heap.size=g):=⟨_,yA rfl⟩
 obtain ⟨BB,HBB⟩:∃ g,Hid (w.heap.size=g):=⟨_,yA rfl⟩
 have HLT:Hid (BB<g3):=yA (by rw [← HG3.out,← HBB.out];exact HK2.out.lt (x:=(w.heap.size,#[.bool false,.slice none 0 0,.slice none 0 0,.bool false,.slice none 0 0,.slice none 0 0,.int .i64 0,.int .i64 0,.int .i64 0,.int .i64 0,.int .i64 0,.int .i64 0,.int .i64 0],52)) (List.mem_cons_self ..))
 have HST:Hid (ykw w W4 BB g3 fs 0):=yA (by
  have hk:=st4.keep w [(w.heap.size,#[.bool false,.slice none 0 0,.slice none 0 0,.bool false,.slice none 0 0,.slice none 0 0,.int .i64 0,.int .i64 0,.int .i64 0,.int .i64 0,.int .i64 0,.int .i64 0,.int .i64 0],52)] HK2.out.below.size (fun x hx=>by
   rw [List.mem_singleton.1 hx]
   have:=HLT.out
   rw [← HG3.out,← HBB.out] at this
   dsimp only;omega) (HK2.out.next (zK w2 (.cells #[.bool false,.slice none 0 0,.slice none 0 0,.bool false,.slice none 0 0,.slice none 0 0,.int .i64 0,.int .i64 0,.int .i64 0,.int .i64 0,.int .i64 0,.int .i64 0,.int .i64 0] 52)))
  rw [← HBB.out,← HG3.out]
  refine ⟨b1,x1,n1,c1,y1,m1,d1,false,none,0,0,none,0,0,0,0,0,0,0,0,0,⟨hk.below,fun x hx=>?_⟩,rfl,st4.nums _ _ (HQ2.out.below (zK _ _)),zH.zero _⟩
  rcases List.mem_cons.1 hx with rfl|hx
  ·exact h4
  ·exact hk.all x hx)
 rw [HG3.out,HBB.out]
 clear h4 st4 HBN HK2 HQ2 HI1
 go_wp2_with fail
 go_loopw [14] (fun i wr=>∃ k:Nat,k≤fs.length∧i=.int .i64 (k:Int)∧Hid (ykw w wr BB g3 fs k)) (fun i _=>fs.length-(intOf i).toNat)
 case atStart=>exact ⟨0,Nat.zero_le _,rfl,HST⟩
 case round =>
  obtain ⟨k,hk,rfl,yI⟩:=hrel
  clear HST
  obtain ⟨ub,ux,un,uc,uy,um,ud,v1,vx,vn,vc,vy,vm,vd,q0,q1,q2,q3,q4,q5,q6,hkp,hps,hq,ho⟩:=yI.out
  have HKP:=yA hkp
  have HPS:=yA hps
  have HQ:=yA hq
  have HO:=yA ho
  clear hkp hps hq ho yI
  by_cases hlt:k<fs.length
  ·have yfS:(k:Int)<fs.length:=by omega
   have HFR:=yA (HFS.out.below HKP.out.below)
   obtain ⟨g,cap',qb,qx,qn,qc,qy,qm,qd,SW,so,sb,pre,a0,a1,a2,a3,a4,a5,a6,off,z,p,isw,ex,ra,hv,hg,hra,hf,hqf⟩:=HFR.out.cells hlt
   cases hv
   obtain ⟨d,HDD⟩:∃ d,Hid (fs[k].1=d):=⟨_,yA rfl⟩
   rw [HDD.out] at hra
   have HRA:=yA hra
   have Hf:=yA hf
   have HQF:=yA hqf
   have HBF:Hid (BX 48 21 (wr.alloc (.cells #[.int .i64 0,.bool false,.slice none 0 0,.slice none 0 0,.string ⟨#[]⟩,.int .i64 0,.int .i64 0,.bool false,.int .i64 0,.int .i64 0,.int .i64 0,.int .i64 0,.int .i64 0,.int .i64 0,.int .i64 0,.bool false,.int .i64 0,.int .i64 0,.bool false,.int .i64 0,.bool false] 48)) wr.heap.size):=yA (uT (yV _ _))
   clear hra hf hqf
   go_wp2_with (first|(refine wpList_load_mid rfl 48 (.tmp 16) rfl g (k*21) rfl [.int .i64 d,.bool qb,.slice qx qn qc,.slice qy qm qd,.string SW,.int .i64 so,.int .i64 sb,.bool pre,.int .i64 a0,.int .i64 a1,.int .i64 a2,.int .i64 a3,.int .i64 a4,.int .i64 a5,.int .i64 a6,.bool off,.int .i64 z,.int .i64 p,.bool isw,.int .i64 ex,.bool ra] _ HRA.out Tryz.underlying48 rfl (by kernel_rfl) ?_)|(refine zO rfl 48 21 (.tmp 5) (.tmp 17) rfl wr.heap.size [.int .i64 d,.bool qb,.slice qx qn qc,.slice qy qm qd,.string SW,.int .i64 so,.int .i64 sb,.bool pre,.int .i64 a0,.int .i64 a1,.int .i64 a2,.int .i64 a3,.int .i64 a4,.int .i64 a5,.int .i64 a6,.bool off,.int .i64 z,.int .i64 p,.bool isw,.int .i64 ex,.bool ra] rfl rfl HBF.out rfl (by kernel_rfl) (GC _ _ _ _ _ _ _ _ _ _ _ _ _ _ _ _ _ _ _ _ _ _ _ _ _) (by simp [Value.oneCell']) ?_))
   intro W8 h8 st8
   obtain ⟨gf,HGF⟩:∃ g,Hid (wr.heap.size=g):=⟨_,yA rfl⟩
   have yrm:=yA (HKP.out.lt (x:=(g3,#[.bool ub,.slice ux un uc,.slice uy um ud,.bool v1,.slice vx vn vc,.slice vy vm vd,.int .i64 q0,.int .i64 q1,.int .i64 q2,.int .i64 q3,.int .i64 q4,.int .i64 q5,.int .i64 q6],52)) (List.mem_cons_self ..))
   have HBL:=yA (HKP.out.lt (x:=(BB,#[.bool false,.slice none 0 0,.slice none 0 0,.bool false,.slice none 0 0,.slice none 0 0,.int .i64 0,.int .i64 0,.int .i64 0,.int .i64 0,.int .i64 0,.int .i64 0,.int .i64 0],52)) (by simp))
   have HK8:Hid (Keep w W8 [(g3,#[.bool ub,.slice ux un uc,.slice uy um ud,.bool v1,.slice vx vn vc,.slice vy vm vd,.int .i64 q0,.int .i64 q1,.int .i64 q2,.int .i64 q3,.int .i64 q4,.int .i64 q5,.int .i64 q6],52),(gf,#[.int .i64 d,.bool qb,.slice qx qn qc,.slice qy qm qd,.string SW,.int .i64 so,.int .i64 sb,.bool pre,.int .i64 a0,.int .i64 a1,.int .i64 a2,.int .i64 a3,.int .i64 a4,.int .i64 a5,.int .i64 a6,.bool off,.int .i64 z,.int .i64 p,.bool isw,.int .i64 ex,.bool ra],48),(BB,#[.bool false,.slice none 0 0,.slice none 0 0,.bool false,.slice none 0 0,.slice none 0 0,.int .i64 0,.int .i64 0,.int .i64 0,.int .i64 0,.int .i64 0,.int .i64 0,.int .i64 0],52)]):=yA (by
    have hk:=st8.keep w _ HKP.out.below.size (fun x hx=>by
     have:=yrm.out
     have:=HBL.out
     rcases List.mem_cons.1 hx with rfl|hx
     ·dsimp only at *;omega
     ·rw [List.mem_singleton.1 hx];dsimp only at *;omega) (HKP.out.next (zK wr (.cells #[.int .i64 0,.bool false,.slice none 0 0,.slice none 0 0,.string ⟨#[]⟩,.int .i64 0,.int .i64 0,.bool false,.int .i64 0,.int .i64 0,.int .i64 0,.int .i64 0,.int .i64 0,.int .i64 0,.int .i64 0,.bool false,.int .i64 0,.int .i64 0,.bool false,.int .i64 0,.bool false] 48)))
    refine ⟨hk.below,fun x hx=>?_⟩
    rcases List.mem_cons.1 hx with rfl|hx
    ·exact hk.all _ (List.mem_cons_self ..)
    rcases List.mem_cons.1 hx with rfl|hx
    ·rw [← HGF.out];exact h8
    ·exact hk.all x (List.mem_cons_of_mem _ hx))
   have HW8:=yA (st8.keep wr [] (Nat.le_refl _) (fun x hx=>by cases hx) ⟨zK wr (.cells #[.int .i64 0,.bool false,.slice none 0 0,.slice none 0 0,.string ⟨#[]⟩,.int .i64 0,.int .i64 0,.bool false,.int .i64 0,.int .i64 0,.int .i64 0,.int .i64 0,.int .i64 0,.int .i64 0,.int .i64 0,.bool false,.int .i64 0,.int .i64 0,.bool false,.int .i64 0,.bool false] 48),fun x hx=>by cases hx⟩).below
   have HQ8:=yA (HQ.out.below HW8.out)
   have HO8:=yA (HO.out.below HW8.out)
   have HF8:=yA (HQF.out.below HW8.out)
   have HNG:Hid (g3<gf∧BB<g3):=yA ⟨by rw [← HGF.out];exact yrm.out,HLT.out⟩
   have HNW:Hid (w.heap.size≤g3):=yA (by have h:=HLT.out;rw [← HBB.out] at h;omega)
   rw [HGF.out]
   clear h8 st8 HBF HRA HKP HFR HQ HO HQF HGF yrm HBL HW8
   have hc:=HK8.out.one _ (List.mem_cons_of_mem _ (List.mem_cons_self ..))
   have f0:=yB hc 0
   have f1:=yB hc 1
   have f2:=yB hc 2
   have f3:=yB hc 3
   have f19:=yB hc 19
   simp only [List.getElem?_toArray,List.getElem?_cons_succ,List.getElem?_cons_zero] at f0 f1 f2 f3 f19
   clear hc
   have HEX:Hid (fs[k].2.e=ex):=yA (by rw [Hf.out])
   have HNB:Hid (-12≤d*ex∧d*ex≤12):=yA (by
    rw [← HDD.out,← HEX.out]
    exact yiR (HOK.out.2 _ (List.getElem_mem hlt)) (List.all_eq_true.1 HP.out _ (List.getElem_mem hlt)))
   have hwn:IntKind.i64.wrap (d*ex)=d*ex:=IntWalk.i64_in _ (by have:=HNB.out;omega)
   go_upto_region 6 with fail
   obtain ⟨N,HN⟩:∃ N,Hid (d*ex=N):=⟨_,yA rfl⟩
   obtain ⟨Q,HQD⟩:∃ Q,Hid ((jV 1 jG (fs.take k)).1=Q):=⟨_,yA rfl⟩
   obtain ⟨F,HFD⟩:∃ F,Hid (fs[k].2.q=F):=⟨_,yA rfl⟩
   rw [HFD.out] at HF8
   rw [HQD.out] at HQ8
   rw [HN.out] at hwn HNB ⊢
   have HF5:Hid (uK 5 F):=yA (by rw [← HFD.out];exact (HOK.out.1 _ (List.getElem_mem hlt)).1)
   have HQ7:Hid (uK 745 Q):=yA (by
    have hm:∀ x ∈ fs.take k,x ∈ fs:=fun x hx=>List.mem_of_mem_take hx
    rw [← HQD.out]
    exact (yiQ (fs.take k) 1 jG 1 ydl (fun x hx=>(HOK.out.1 x (hm x hx)).1) (fun x hx=>HOK.out.2 x (hm x hx)) (fun x hx=>List.all_eq_true.1 HP.out x (hm x hx))).mono (by rw [List.length_take];omega))
   have H39:Hid (∀ W,Below W8.heap.size W8 W→Calls Tryz.prog 39 #[.agg #[.bool qb,.slice qx qn qc,.slice qy qm qd],.int .i64 N] W (yaM (F^N) W)):=yA (fun W hb=>ynw HF5.out N HNB.out W _ (HF8.out.below hb))
   have H38:Hid (∀ W x,Below W8.heap.size W8 W→zH W x (F^N)→Calls Tryz.prog 38 #[.agg #[.bool ub,.slice ux un uc,.slice uy um ud],x] W (yaM (Q*F^N) W)):=yA (fun W x hb hx=>(yfm _ _ _ _ 745 62 W (by omega) HQ7.out (yjq HF5.out N HNB.out) (HQ8.out.below hb) hx).mono fun e w' h=>vD.c h)
   have HA8:Hid (∀ W,Below W8.heap.size W8 W→W.cell? ⟨g3,0,none⟩=some (.bool ub)∧W.cell? ⟨g3,1,none⟩=some (.slice ux un uc)∧W.cell? ⟨g3,2,none⟩=some (.slice uy um ud)∧W.frozen? ⟨g3,0,none⟩=false∧W.frozen? ⟨g3,1,none⟩=false∧W.frozen? ⟨g3,2,none⟩=false):=yA (fun W hb=>by
    have hk:=HK8.out.next hb
    have hg:=hk.one _ (List.mem_cons_self ..)
    exact ⟨yB hg 0,yB hg 1,yB hg 2,vB hg 0,vB hg 1,vB hg 2⟩)
   have HREL:Hid (∀ W (c1:Bool) (cx:Option Addr) (cn cc:Nat) (cy:Option Addr) (cm cd:Nat),Below W8.heap.size W8 W→zH W (.agg #[.bool c1,.slice cx cn cc,.slice cy cm cd]) (Q*F^N)→yrg w (ya0 W g3 0 [.bool c1,.slice cx cn cc,.slice cy cm cd]) gf g3 BB #[.int .i64 d,.bool qb,.slice qx qn qc,.slice qy qm qd,.string SW,.int .i64 so,.int .i64 sb,.bool pre,.int .i64 a0,.int .i64 a1,.int .i64 a2,.int .i64 a3,.int .i64 a4,.int .i64 a5,.int .i64 a6,.bool off,.int .i64 z,.int .i64 p,.bool isw,.int .i64 ex,.bool ra] #[.bool false,.slice none 0 0,.slice none 0 0,.bool false,.slice none 0 0,.slice none 0 0,.int .i64 0,.int .i64 0,.int .i64 0,.int .i64 0,.int .i64 0,.int .i64 0,.int .i64 0] (Q*F^N) (GU 0 (fs.take k)) v1 vx vn vc vy vm vd q0 q1 q2 q3 q4 q5 q6):=yA (fun W c1 cx cn cc cy cm cd hb hq=>by
    have hk:=HK8.out.next hb
    have h:=yhq (k:=0) (c':=#[.bool c1,.slice cx cn cc,.slice cy cm cd,.bool v1,.slice vx vn vc,.slice vy vm vd,.int .i64 q0,.int .i64 q1,.int .i64 q2,.int .i64 q3,.int .i64 q4,.int .i64 q5,.int .i64 q6]) [.bool c1,.slice cx cn cc,.slice cy cm cd] hk (yij (cs:=[.bool ub,.slice ux un uc,.slice uy um ud,.bool v1,.slice vx vn vc,.slice vy vm vd,.int .i64 q0,.int .i64 q1,.int .i64 q2,.int .i64 q3,.int .i64 q4,.int .i64 q5,.int .i64 q6]) (hk.one _ (List.mem_cons_self ..)) rfl (yex _ _ _ _ _ _ _ _ _ _ _ _ _ _ _ _ _ _ _ _ _)) HNW.out (fun x hx=>by
     have:=HNG.out
     rcases List.mem_cons.1 hx with rfl|hx
     ·dsimp only;omega
     ·rw [List.mem_singleton.1 hx];dsimp only;omega) yrh rfl
    exact ⟨c1,cx,cn,cc,cy,cm,cd,h.1,h.2.nums _ _ hq,h.2.nums _ _ (HO8.out.below hb)⟩)
   have HG8:Hid (∀ W,Below W8.heap.size W8 W→W.cell? ⟨gf,1,none⟩=some (.bool qb)∧W.cell? ⟨gf,2,none⟩=some (.slice qx qn qc)∧W.cell? ⟨gf,3,none⟩=some (.slice qy qm qd)):=yA (fun W hb=>by
    have hf:=(HK8.out.next hb).one _ (List.mem_cons_of_mem _ (List.mem_cons_self ..))
    exact ⟨yB hf 1,yB hf 2,yB hf 3⟩)
   go_cut [6] (fun s6 wx=>s6=.int .i64 N∧Hid (yrg w wx gf g3 BB #[.int .i64 d,.bool qb,.slice qx qn qc,.slice qy qm qd,.string SW,.int .i64 so,.int .i64 sb,.bool pre,.int .i64 a0,.int .i64 a1,.int .i64 a2,.int .i64 a3,.int .i64 a4,.int .i64 a5,.int .i64 a6,.bool off,.int .i64 z,.int .i64 p,.bool isw,.int .i64 ex,.bool ra] #[.bool false,.slice none 0 0,.slice none 0 0,.bool false,.slice none 0 0,.slice none 0 0,.int .i64 0,.int .i64 0,.int .i64 0,.int .i64 0,.int .i64 0,.int .i64 0,.int .i64 0] (Q*F^N) (GU 0 (fs.take k)) v1 vx vn vc vy vm vd q0 q1 q2 q3 q4 q5 q6))
   case first =>
    obtain ⟨i0,i1,i2,-⟩:=HA8.out W8 (Below.refl _ _)
    obtain ⟨r0,r1,r2⟩:=HG8.out W8 (Below.refl _ _)
    go_region_with
     (first|(go_at_call 39;refine (H39.out _ (Below.refl _ _).drew).mono ?_;rintro e wA ⟨a1,ax,an,ac,ay,am,ad,rfl,hqA,hbA⟩;have hA:Hid (Below W8.heap.size W8 wA):=yA ((Below.refl _ _).drew.trans (hbA.mono (by first|exact Nat.le_refl _|simp)));have hQA:=yA hqA;clear hqA hbA;obtain ⟨j0,j1,j2,-⟩:=HA8.out _ hA.out)|(go_at_call 38;refine (H38.out _ _ hA.out hQA.out).mono ?_;rintro e wB ⟨c1,cx,cn,cc,cy,cm,cd,rfl,hqB,hbB⟩;have hB:Hid (Below W8.heap.size W8 wB):=yA (hA.out.trans (hbB.mono hA.out.size));have hQB:=yA hqB;clear hqB hbB;obtain ⟨l0,l1,l2,e0,e1,e2⟩:=HA8.out _ hB.out))
    all_goals
     go_wp2_with fail
     go_meet
     case rel=>exact ⟨rfl,yA (HREL.out wB c1 cx cn cc cy cm cd hB.out hQB.out)⟩
   case rest =>
    obtain ⟨rfl,hm⟩:=hcut
    have HM:=yA hm.out
    clear hm H39 H38 HA8 HREL HG8 HK8 HQ8 HO8 HF8 HF5 HQ7 f0 f1 f2 f3 f19 hwn
    obtain ⟨c1,cx,cn,cc,cy,cm,cd,hkm,hqm,hom⟩:=HM.out
    have HKM:=yA hkm
    have HQM:=yA hqm
    have HOM:=yA hom
    clear hkm hqm hom HM
    have HRS:Hid (wc.rangeAt gf 4 [.string SW,.int .i64 so,.int .i64 sb,.bool pre,.int .i64 a0,.int .i64 a1,.int .i64 a2,.int .i64 a3,.int .i64 a4,.int .i64 a5,.int .i64 a6,.bool off,.int .i64 z,.int .i64 p]):=yA (by
     intro i x hx
     have hi:i<14:=by
      have:=(List.getElem?_eq_some_iff.1 hx).1
      simpa using this
     rw [yB (HKM.out.one _ (List.mem_cons_of_mem _ (List.mem_cons_self ..))) (4+i)]
     rw [← hx]
     rcases (show i=0∨i=1∨i=2∨i=3∨i=4∨i=5∨i=6∨i=7∨i=8∨i=9∨i=10∨i=11∨i=12∨i=13 by omega) with rfl|rfl|rfl|rfl|rfl|rfl|rfl|rfl|rfl|rfl|rfl|rfl|rfl|rfl<;>rfl)
    have HBS:Hid (BX 46 14 (wc.alloc (.cells #[.string ⟨#[]⟩,.int .i64 0,.int .i64 0,.bool false,.int .i64 0,.int .i64 0,.int .i64 0,.int .i64 0,.int .i64 0,.int .i64 0,.int .i64 0,.bool false,.int .i64 0,.int .i64 0] 46)) wc.heap.size):=yA (ye1 (yV _ _))
    go_wp2_with (first|(refine wpList_load_mid rfl 46 (.tmp 31) rfl gf 4 rfl [.string SW,.int .i64 so,.int .i64 sb,.bool pre,.int .i64 a0,.int .i64 a1,.int .i64 a2,.int .i64 a3,.int .i64 a4,.int .i64 a5,.int .i64 a6,.bool off,.int .i64 z,.int .i64 p] _ HRS.out Tryz.underlying46 rfl (by kernel_rfl) ?_)|(refine zO rfl 46 14 (.tmp 7) (.tmp 32) rfl wc.heap.size [.string SW,.int .i64 so,.int .i64 sb,.bool pre,.int .i64 a0,.int .i64 a1,.int .i64 a2,.int .i64 a3,.int .i64 a4,.int .i64 a5,.int .i64 a6,.bool off,.int .i64 z,.int .i64 p] rfl rfl HBS.out rfl (by kernel_rfl) (yin _ _ _ _ _ _ _ _ _ _ _ _ _ _) (by simp [Value.oneCell']) ?_))
    intro W9 h9 st9
    obtain ⟨gs,HGS⟩:∃ g,Hid (wc.heap.size=g):=⟨_,yA rfl⟩
    have HGL:=yA (HKM.out.lt (x:=(g3,#[.bool c1,.slice cx cn cc,.slice cy cm cd,.bool v1,.slice vx vn vc,.slice vy vm vd,.int .i64 q0,.int .i64 q1,.int .i64 q2,.int .i64 q3,.int .i64 q4,.int .i64 q5,.int .i64 q6],52)) (List.mem_cons_self ..))
    have HNS:Hid (g3<gs):=yA (by rw [← HGS.out];exact HGL.out)
    have yrn:Hid (Keep w W9 [(g3,ckc c1 cx cn cc cy cm cd v1 vx vn vc vy vm vd q0 q1 q2 q3 q4 q5 q6 a0 a1 a2 a3 a4 a5 a6 N 0,52),(gs,#[.string SW,.int .i64 so,.int .i64 sb,.bool pre,.int .i64 a0,.int .i64 a1,.int .i64 a2,.int .i64 a3,.int .i64 a4,.int .i64 a5,.int .i64 a6,.bool off,.int .i64 z,.int .i64 p],46),(BB,#[.bool false,.slice none 0 0,.slice none 0 0,.bool false,.slice none 0 0,.slice none 0 0,.int .i64 0,.int .i64 0,.int .i64 0,.int .i64 0,.int .i64 0,.int .i64 0,.int .i64 0],52)]∧zH W9 (.agg #[.bool c1,.slice cx cn cc,.slice cy cm cd]) (Q*F^N)∧zH W9 (.agg #[.bool v1,.slice vx vn vc,.slice vy vm vd]) (GU 0 (fs.take k))):=yA (by
     have hL:∀ x ∈ ([(g3,#[.bool c1,.slice cx cn cc,.slice cy cm cd,.bool v1,.slice vx vn vc,.slice vy vm vd,.int .i64 q0,.int .i64 q1,.int .i64 q2,.int .i64 q3,.int .i64 q4,.int .i64 q5,.int .i64 q6],52),(BB,#[.bool false,.slice none 0 0,.slice none 0 0,.bool false,.slice none 0 0,.slice none 0 0,.int .i64 0,.int .i64 0,.int .i64 0,.int .i64 0,.int .i64 0,.int .i64 0,.int .i64 0],52)]:List Blk),x.1≠wc.heap.size:=fun x hx=>by
      have:=HNG.out
      have:=HGL.out
      rcases List.mem_cons.1 hx with rfl|hx
      ·dsimp only at *;omega
      ·rw [List.mem_singleton.1 hx];dsimp only at *;omega
     have hk:=st9.keep w _ HKM.out.below.size hL ((HKM.out.sub (M:=[(g3,#[.bool c1,.slice cx cn cc,.slice cy cm cd,.bool v1,.slice vx vn vc,.slice vy vm vd,.int .i64 q0,.int .i64 q1,.int .i64 q2,.int .i64 q3,.int .i64 q4,.int .i64 q5,.int .i64 q6],52),(BB,#[.bool false,.slice none 0 0,.slice none 0 0,.bool false,.slice none 0 0,.slice none 0 0,.int .i64 0,.int .i64 0,.int .i64 0,.int .i64 0,.int .i64 0,.int .i64 0,.int .i64 0],52)]) (fun x hx=>by
      rcases List.mem_cons.1 hx with rfl|hx
      ·exact (List.mem_cons_self ..)
      ·rw [List.mem_singleton.1 hx];exact (List.mem_cons_of_mem _ (List.mem_cons_of_mem _ (List.mem_cons_self ..))))).next (zK wc (.cells #[.string ⟨#[]⟩,.int .i64 0,.int .i64 0,.bool false,.int .i64 0,.int .i64 0,.int .i64 0,.int .i64 0,.int .i64 0,.int .i64 0,.int .i64 0,.bool false,.int .i64 0,.int .i64 0] 46)))
     refine ⟨⟨hk.below,fun x hx=>?_⟩,st9.nums _ _ (HQM.out.below (zK _ _)),st9.nums _ _ (HOM.out.below (zK _ _))⟩
     rcases List.mem_cons.1 hx with rfl|hx
     ·exact hk.one _ (List.mem_cons_self ..)
     rcases List.mem_cons.1 hx with rfl|hx
     ·rw [← HGS.out];exact h9
     ·exact hk.all x (List.mem_cons_of_mem _ hx))
    rw [HGS.out]
    clear h9 st9 HBS HRS HKM HQM HOM HGL HGS
    have s:=yrn.out.1.one _ (List.mem_cons_of_mem _ (List.mem_cons_self ..))
    have s4:=yB s 4
    have s5:=yB s 5
    have s6:=yB s 6
    have s7:=yB s 7
    have s8:=yB s 8
    have s9:=yB s 9
    have s10:=yB s 10
    simp only [List.getElem?_toArray,List.getElem?_cons_succ,List.getElem?_cons_zero] at s4 s5 s6 s7 s8 s9 s10
    clear s
    have HX:=yA (yot a0 a1 a2 a3 a4 a5 a6)
    have HSO:=(HOK.out.1 _ (List.getElem_mem hlt)).2
    have HWR:Hid (∀ j<7,IntKind.i64.wrap ([a0,a1,a2,a3,a4,a5,a6].getD j 0*N)=[a0,a1,a2,a3,a4,a5,a6].getD j 0*N∧IntKind.i64.wrap ([q0,q1,q2,q3,q4,q5,q6].getD j 0+[a0,a1,a2,a3,a4,a5,a6].getD j 0*N)=[q0,q1,q2,q3,q4,q5,q6].getD j 0+[a0,a1,a2,a3,a4,a5,a6].getD j 0*N):=yA (fun j hj=>by
     refine ypl (k:=0+(fs.take k).length) ?_ (by rw [List.length_take];omega) ⟨rfl,?_⟩ HNB.out j hj
     ·rw [HPS.out]
      have hm:∀ x ∈ fs.take k,x ∈ fs:=fun x hx=>List.mem_of_mem_take hx
      refine yqE (fs.take k) 0 1 jG ⟨rfl,fun p hp=>?_⟩ ⟨fun x hx=>HOK.out.1 x (hm x hx),fun x hx=>HOK.out.2 x (hm x hx)⟩ (List.all_eq_true.2 fun x hx=>List.all_eq_true.1 HP.out x (hm x hx))
      have:p=0:=by simpa [jG] using hp
      omega
     ·have h:=HSO.2.1
      rw [Hf.out] at h
      exact h)
    have HZP:Hid ((-1000000000≤z∧z≤1000000000)∧(-1000000000≤p∧p≤1000000000)):=yA (by
     have h:=HSO.2.2
     rw [Hf.out] at h
     exact h)
    clear HSO
    have HNE:Hid (∀ x ∈ ([(gs,#[.string SW,.int .i64 so,.int .i64 sb,.bool pre,.int .i64 a0,.int .i64 a1,.int .i64 a2,.int .i64 a3,.int .i64 a4,.int .i64 a5,.int .i64 a6,.bool off,.int .i64 z,.int .i64 p],46),(BB,#[.bool false,.slice none 0 0,.slice none 0 0,.bool false,.slice none 0 0,.slice none 0 0,.int .i64 0,.int .i64 0,.int .i64 0,.int .i64 0,.int .i64 0,.int .i64 0,.int .i64 0],52)]:List Blk),x.1≠g3):=yA (fun x hx=>by
     have:=HNG.out
     have:=HNS.out
     rcases List.mem_cons.1 hx with rfl|hx
     ·dsimp only;omega
     ·rw [List.mem_singleton.1 hx];dsimp only;omega)
    have yeA:=yA (ymS hlt HPS.out (a0:=a0) (a1:=a1) (a2:=a2) (a3:=a3) (a4:=a4) (a5:=a5) (a6:=a6) (N:=N) (z:=z) (p:=p) (off:=off) (by rw [Hf.out]) (by rw [Hf.out]) (by rw [Hf.out]) (by rw [Hf.out]) (by rw [HDD.out,HEX.out,HN.out]))
    rw [HQD.out,HFD.out] at yeA
    clear Hf HEX HDD HN HQD HFD HNS
    go_wp2_with fail
    go_loopw [48] (fun iv wr=>∃ j:Nat,j≤7∧iv=.int .i64 (j:Int)∧Hid (Keep w wr [(g3,ckc c1 cx cn cc cy cm cd v1 vx vn vc vy vm vd q0 q1 q2 q3 q4 q5 q6 a0 a1 a2 a3 a4 a5 a6 N j,52),(gs,#[.string SW,.int .i64 so,.int .i64 sb,.bool pre,.int .i64 a0,.int .i64 a1,.int .i64 a2,.int .i64 a3,.int .i64 a4,.int .i64 a5,.int .i64 a6,.bool off,.int .i64 z,.int .i64 p],46),(BB,#[.bool false,.slice none 0 0,.slice none 0 0,.bool false,.slice none 0 0,.slice none 0 0,.int .i64 0,.int .i64 0,.int .i64 0,.int .i64 0,.int .i64 0,.int .i64 0,.int .i64 0],52)]∧zH wr (.agg #[.bool c1,.slice cx cn cc,.slice cy cm cd]) (Q*F^N)∧zH wr (.agg #[.bool v1,.slice vx vn vc,.slice vy vm vd]) (GU 0 (fs.take k)))) (fun iv _=>7-(intOf iv).toNat)
    case atStart=>exact ⟨0,by omega,rfl,yrn⟩
    case round =>
     obtain ⟨j,hj,rfl,hin⟩:=hrel
     clear yrn
     by_cases hlj:j<7
     ·have hlj':(j:Int)<7:=by omega
      have hj0:(0:Int)≤(j:Int):=by omega
      have hix:=HX.out j hlj
      have k1:wr.cell? ⟨g3,6+j,none⟩=some (.int .i64 ([q0,q1,q2,q3,q4,q5,q6].getD j 0)):=by rw [yB (hin.out.1.one _ (List.mem_cons_self ..)) (6+j)];exact yqF j hlj
      have e1:=vB (hin.out.1.one _ (List.mem_cons_self ..)) (6+j)
      obtain ⟨m1,m2⟩:=HWR.out j hlj
      have yc2:=yA (yqG (b1:=c1) (x1:=cx) (n1:=cn) (c1:=cc) (y1:=cy) (m1:=cm) (d1:=cd) (b2:=v1) (x2:=vx) (n2:=vn) (c2:=vc) (y2:=vy) (m2:=vm) (d2:=vd) (u0:=q0) (u1:=q1) (u2:=q2) (u3:=q3) (u4:=q4) (u5:=q5) (u6:=q6) (v0:=a0) (v1:=a1) (v2:=a2) (v3:=a3) (v4:=a4) (v5:=a5) (v6:=a6) (n:=N) j hlj)
      generalize [q0,q1,q2,q3,q4,q5,q6].getD j 0=uk at k1 m2 yc2
      generalize [a0,a1,a2,a3,a4,a5,a6].getD j 0=vk at hix m1 m2 yc2
      have hj1:Hid (j+1≤7):=yA hlj
      have hnx:Hid (Keep w (wr.setCell ⟨g3,6+j,none⟩ (.int .i64 (uk+vk*N))) [(g3,ckc c1 cx cn cc cy cm cd v1 vx vn vc vy vm vd q0 q1 q2 q3 q4 q5 q6 a0 a1 a2 a3 a4 a5 a6 N (j+1),52),(gs,#[.string SW,.int .i64 so,.int .i64 sb,.bool pre,.int .i64 a0,.int .i64 a1,.int .i64 a2,.int .i64 a3,.int .i64 a4,.int .i64 a5,.int .i64 a6,.bool off,.int .i64 z,.int .i64 p],46),(BB,#[.bool false,.slice none 0 0,.slice none 0 0,.bool false,.slice none 0 0,.slice none 0 0,.int .i64 0,.int .i64 0,.int .i64 0,.int .i64 0,.int .i64 0,.int .i64 0,.int .i64 0],52)]∧zH (wr.setCell ⟨g3,6+j,none⟩ (.int .i64 (uk+vk*N))) (.agg #[.bool c1,.slice cx cn cc,.slice cy cm cd]) (Q*F^N)∧zH (wr.setCell ⟨g3,6+j,none⟩ (.int .i64 (uk+vk*N))) (.agg #[.bool v1,.slice vx vn vc,.slice vy vm vd]) (GU 0 (fs.take k))):=yA (by
       have h:=yhq (k:=6+j) (c':=ckc c1 cx cn cc cy cm cd v1 vx vn vc vy vm vd q0 q1 q2 q3 q4 q5 q6 a0 a1 a2 a3 a4 a5 a6 N (j+1)) [.int .i64 (uk+vk*N)] hin.out.1 (yrT (hin.out.1.one _ (List.mem_cons_self ..))) HNW.out HNE.out (fun v hv=>by rw [List.mem_singleton.1 hv];exact yD _) yc2.out
       exact ⟨h.1,h.2.nums _ _ hin.out.2.1,h.2.nums _ _ hin.out.2.2⟩)
      clear hlj hj yc2 hin
      go_wp2_with fail
      go_roundw
      case rel=>exact ⟨j+1,hj1.out,by go_num,hnx⟩
      case measure=>(simp [intOf])<;>omega
     ·obtain rfl:j=7:=by omega
      obtain ⟨hk7,hq7,ho7⟩:=hin.out
      rw [ymR] at hk7
      have HK7:=yA hk7
      have HQ7:=yA hq7
      have HO7:=yA ho7
      clear hk7 hq7 ho7 hin hlj hj s4 s5 s6 s7 s8 s9 s10
      have s:=HK7.out.one _ (List.mem_cons_of_mem _ (List.mem_cons_self ..))
      have s11:=yB s 11
      have s12:=yB s 12
      have s13:=yB s 13
      simp only [List.getElem?_toArray,List.getElem?_cons_succ,List.getElem?_cons_zero] at s11 s12 s13
      clear s
      have hlt1:Hid (k+1≤fs.length):=yA hlt
      cases off with
      | false =>
       have yro:Hid (ykw w wr BB g3 fs (k+1)):=yA ⟨c1,cx,cn,cc,cy,cm,cd,v1,vx,vn,vc,vy,vm,vd,_,_,_,_,_,_,_,HK7.out.sub (fun x hx=>by
        rcases List.mem_cons.1 hx with rfl|hx
        ·exact (List.mem_cons_self ..)
        ·rw [List.mem_singleton.1 hx];exact (List.mem_cons_of_mem _ (List.mem_cons_of_mem _ (List.mem_cons_self ..)))),yeA.out.2.1,by rw [yeA.out.1];exact HQ7.out,by rw [yeA.out.2.2];exact HO7.out⟩
       go_wp2_with fail
       go_roundw
       case rel=>exact ⟨k+1,hlt1.out,by go_num,yro⟩
       case measure=>(simp [intOf])<;>omega
      | true =>
       go_wp2_with fail
       refine (yaL z p _ HZP.out.1 HZP.out.2).mono ?_
       intro e w5 h5
       obtain ⟨g1,gx,gn,gc,gy,gm,gd,rfl,hqg,hbg⟩:=h5.c
       have HK5:=yA (HK7.out.next hbg)
       have h:=yhq (k:=3) (c':=#[.bool c1,.slice cx cn cc,.slice cy cm cd,.bool g1,.slice gx gn gc,.slice gy gm gd,.int .i64 (q0+a0*N),.int .i64 (q1+a1*N),.int .i64 (q2+a2*N),.int .i64 (q3+a3*N),.int .i64 (q4+a4*N),.int .i64 (q5+a5*N),.int .i64 (q6+a6*N)]) [.bool g1,.slice gx gn gc,.slice gy gm gd] HK5.out (yij (cs:=[.bool c1,.slice cx cn cc,.slice cy cm cd,.bool v1,.slice vx vn vc,.slice vy vm vd,.int .i64 (q0+a0*N),.int .i64 (q1+a1*N),.int .i64 (q2+a2*N),.int .i64 (q3+a3*N),.int .i64 (q4+a4*N),.int .i64 (q5+a5*N),.int .i64 (q6+a6*N)]) (HK5.out.one _ (List.mem_cons_self ..)) rfl (yex _ _ _ _ _ _ _ _ _ _ _ _ _ _ _ _ _ _ _ _ _)) HNW.out HNE.out yrh rfl
       have yro:Hid (ykw w (ya0 w5 g3 3 [.bool g1,.slice gx gn gc,.slice gy gm gd]) BB g3 fs (k+1)):=yA ⟨c1,cx,cn,cc,cy,cm,cd,g1,gx,gn,gc,gy,gm,gd,_,_,_,_,_,_,_,h.1.sub (fun x hx=>by
        rcases List.mem_cons.1 hx with rfl|hx
        ·exact (List.mem_cons_self ..)
        ·rw [List.mem_singleton.1 hx];exact (List.mem_cons_of_mem _ (List.mem_cons_of_mem _ (List.mem_cons_self ..)))),yeA.out.2.1,by rw [yeA.out.1];exact h.2.nums _ _ (HQ7.out.below hbg),by rw [yeA.out.2.2];exact h.2.nums _ _ hqg⟩
       have hg:=HK5.out.one _ (List.mem_cons_self ..)
       have t3:=yB hg 3
       have t4:=yB hg 4
       have t5:=yB hg 5
       have e3:=vB hg 3
       have e4:=vB hg 4
       have e5:=vB hg 5
       simp only [List.getElem?_toArray,List.getElem?_cons_succ,List.getElem?_cons_zero] at t3 t4 t5
       clear hg h hqg hbg HK5 HK7 HQ7 HO7 s11 s12 s13
       go_wp2_with fail
       go_roundw
       case rel=>exact ⟨k+1,hlt1.out,by go_num,yro⟩
       case measure=>(simp [intOf])<;>omega
  ·have hke:k=fs.length:=by omega
   subst hke
   have HPS1:Hid ([q0,q1,q2,q3,q4,q5,q6]=(jV 1 jG fs).2):=yA (by have h:=HPS.out;rwa [List.take_length] at h)
   have HQ1:Hid (zH wr (.agg #[.bool ub,.slice ux un uc,.slice uy um ud]) (jV 1 jG fs).1):=yA (by have h:=HQ.out;rwa [List.take_length] at h)
   have HO1:Hid (zH wr (.agg #[.bool v1,.slice vx vn vc,.slice vy vm vd]) (GU 0 fs)):=yA (by have h:=HO.out;rwa [List.take_length] at h)
   have HRG:Hid (wr.rangeAt g3 0 [.bool ub,.slice ux un uc,.slice uy um ud,.bool v1,.slice vx vn vc,.slice vy vm vd,.int .i64 q0,.int .i64 q1,.int .i64 q2,.int .i64 q3,.int .i64 q4,.int .i64 q5,.int .i64 q6]):=yA (fun i x hx=>by rw [Nat.zero_add,yB (HKP.out.one _ (List.mem_cons_self ..))];simpa using hx)
   have HBZ:Hid (BX 52 13 wr BB):=yA (yij (cs:=[.bool false,.slice none 0 0,.slice none 0 0,.bool false,.slice none 0 0,.slice none 0 0,.int .i64 0,.int .i64 0,.int .i64 0,.int .i64 0,.int .i64 0,.int .i64 0,.int .i64 0]) (HKP.out.one _ (List.mem_cons_of_mem _ (List.mem_cons_self ..))) rfl (yex _ _ _ _ _ _ _ _ _ _ _ _ _ _ _ _ _ _ _ _ _))
   have HBW:Hid (w.heap.size≤BB):=yA (by rw [HBB.out];exact Nat.le_refl _)
   clear HPS HQ HO hk
   go_wp2_with (first|(refine wpList_load_mid rfl 52 (.tmp 3) rfl g3 0 rfl [.bool ub,.slice ux un uc,.slice uy um ud,.bool v1,.slice vx vn vc,.slice vy vm vd,.int .i64 q0,.int .i64 q1,.int .i64 q2,.int .i64 q3,.int .i64 q4,.int .i64 q5,.int .i64 q6] _ HRG.out Tryz.underlying52 rfl (by kernel_rfl) ?_)|(refine zO rfl 52 13 (.tmp 2) (.tmp 72) rfl BB [.bool ub,.slice ux un uc,.slice uy um ud,.bool v1,.slice vx vn vc,.slice vy vm vd,.int .i64 q0,.int .i64 q1,.int .i64 q2,.int .i64 q3,.int .i64 q4,.int .i64 q5,.int .i64 q6] rfl rfl HBZ.out rfl (by kernel_rfl) (yex _ _ _ _ _ _ _ _ _ _ _ _ _ _ _ _ _ _ _ _ _) (by simp [Value.oneCell']) ?_))
   intro W9 h9 st9
   go_wp2_with fail
   refine bodyPost_ret (v:=.agg #[.bool ub,.slice ux un uc,.slice uy um ud,.bool v1,.slice vx vn vc,.slice vy vm vd,.int .i64 q0,.int .i64 q1,.int .i64 q2,.int .i64 q3,.int .i64 q4,.int .i64 q5,.int .i64 q6]) (yhE Tryz.results18 rfl (vL (cs:=[.bool ub,.slice ux un uc,.slice uy um ud,.bool v1,.slice vx vn vc,.slice vy vm vd,.int .i64 q0,.int .i64 q1,.int .i64 q2,.int .i64 q3,.int .i64 q4,.int .i64 q5,.int .i64 q6]) h9 Tryz.underlying52 rfl (by kernel_rfl))) rfl ?_
   exact ⟨ub,ux,un,uc,uy,um,ud,v1,vx,vn,vc,vy,vm,vd,q0,q1,q2,q3,q4,q5,q6,rfl,HPS1.out,st9.nums _ _ HQ1.out,st9.nums _ _ HO1.out,(st9.keep w [] HBW.out (fun x hx=>by cases hx) ⟨HKP.out.below,fun x hx=>by cases hx⟩).below⟩
theorem ymo (s:ByteArray) (w:World) (htab:Tab w):Calls Tryz.prog 3 #[.string s] w fun e w'=>e=.returned (.bool true)∧Below w.heap.size w w' :=
 ypk s w htab (yA fun fs W base v css hok hfs h12 hp=>yhy v css fs base W hok hfs h12 hp)
end
section
open Go.ChangeMaps Go.ChangeShapes Go.WideShapes Go.ChangeAt Go.RowKit
section
variable {H : Type} {enc : TypeId × Value → H} {P : Program}
theorem ygk {f:Func} {s:ChangeSpec} {apart fresh handsOn again:Bool} {W W':World} {args:Array Value} {v:Value} {ds gs:List (DataW H)} {before pa pv:List MemPlace}
  (hW:DataW.Whole enc P f.params.toList s.vars apart W args.toList ds gs before)
  (yP:∀ (b:Nat) (sp:Nat→Bool) (hd:Bool),DataW.TrodAll enc P W' b sp hd f.resultTypes.toList (v.resultList f.resultTypes.size) (s.fn H (ds++gs)).results [])
  (yok:∀ sp:Nat→Bool,(∀ p ∈ before,sp p.block=true)→DataW.TrodAll enc P W' 0 sp true f.params.toList args.toList (s.fn H (ds++gs)).args pa)
  (hvars:∀ sp:Nat→Bool,(∀ p ∈ before,sp p.block=true)→DataW.TrodVars enc P W' sp s.vars (s.fn H (ds++gs)).vars pv)
  (hps:before=pa++pv) (hb:Below W.heap.size W W')
  (hok:∀ (j:Nat) (t:TypeId) (r:Value),f.resultTypes[j]?=some t→(v.resultList f.resultTypes.size)[j]?=some r→Value.okWide P W' .any 0 t r) :
  s.post enc P f apart fresh handsOn again W args v W':=by
 have hlt:∀ p ∈ before,p.block<W.heap.size:=fun p hp=>hW.lt p hp
 have yrp:∀ p ∈ before,(fun b=>decide (b<W.heap.size)) p.block=true:=fun p hp=>by simpa using hlt p hp
 refine ⟨ds,gs,before,[],pa,pv,hW,yP _ _ _,yok _ yrp,hvars _ yrp,World.keptBut_mono (fun p hp=>⟨hp,?_⟩) (hb.frame (· ∈ before)),fun _=>?_⟩
 ·rw [hps,List.mem_append] at hp
  exact Or.inr hp
 ·obtain ⟨_,_,_,_,_,hz,hn⟩:=hW
  refine ⟨hok,_,_,([]++pa)++pv,⟨[]++pa,pv,trodAll_append (yok _ (fun _ _=>rfl)) (yP _ _ _),hvars _ (fun _ _=>rfl),rfl,?_,?_⟩,?_⟩
  ·intro b off hp
   have hin:MemPlace.cell b off ∈ before:=by rw [hps];simpa using hp
   rw [hb.frozen (hlt _ hin)]
   exact hz b off hin
  ·intro ha
   have:=hn ha
   rw [hps] at this
   simpa using this
  ·intro p hp _
   rw [hps]
   simpa using hp
end
theorem ytj:ownKnob Tryz.prog.godebug=none:=by kernel_rfl
theorem yoU:Tryz.prog.cellsOf 174=20:=by kernel_rfl
theorem yoV:Tryz.prog.cellsOf 100=1:=by kernel_rfl
theorem ytk : Tryz.prog.globalNamed "internal/strconv.uint64pow10" = some 0 := by kernel_rfl
theorem yoW:(Tryz.prog.globals[0]?).map (·.type)=some 174:=by kernel_rfl
end
section
open Go.ChangeMaps Go.ChangeShapes Go.WideShapes Go.ChangeAt Go.RowKit
theorem ymp {P:Program} {f:FuncId} {fn:Func} {s:ChangeSpec} {c:OpenClaim}
  (h0:(c.wf (OpenSpec.ofChange s))=true)
  (h1:(laidOutB P)=true)
  (h2:(mapsRowed P)=true)
  (h3:(fn.params.all (P.readableRec ·))=true)
  (h4:(namedTie P c.named s.vars)=true)
  (h5:((c.stops==[]))=true)
  (h6:((P.stops==[]))=true)
  (h7:((c.knobs==[]))=true)
  (h8:((P.stopKnobs==[]))=true)
  (h9:((c.inPlace==P.inPlace f))=true)
  (h10:((c.unfollowed==P.unfollowed f))=true)
  (h11:((c.recurses==P.recurses f))=true)
  (h12:((c.named==P.varsNamed f))=true)
  (h13:((c.maps==(fn.params.toList++s.plain.varTypes P).any (P.mapsRec ·)))=true)
  (h14:((c.ifaces==(fn.params.toList++s.plain.varTypes P).any (P.ifacesRec ·)))=true)
  (h15:((c.mapsOut==P.mapsAmong fn.resultTypes.toList))=true)
  (h16:((c.loops==(fn.params.toList++s.plain.varTypes P).any (P.loopsFrom ·)))=true)
  (h17:((c.wideKeys==(fn.params.toList++s.plain.varTypes P++fn.resultTypes.toList).any (P.wideKeysFrom ·)))=true)
  (h18:(s.vars.all (P.varReadable ·))=true)
  (h19:(fn.resultTypes.all (fun t=>P.readableRec t&&decide (t<P.types.size)))=true)
  (h20:((c.ifacesOut==fn.resultTypes.toList.any (P.ifacesRec ·)))=true)
  (h21:((c.loopsOut==fn.resultTypes.toList.any (P.loopsFrom ·)))=true)
  (h22:((c.plainKeys==P.plainKeys))=true)
  (h23:(c.shortTexts.isNone)=true)
  (h24:(P.stopsHeard)=true)
  (h25:(P.mayEnter)=true)
  (h26:((c.lifted==P.liftsFinal))=true)
  (h27:((P.make==some c.make))=true)
  (h28:((c.kinds==(if c.domain.isEmpty then [] else fn.params.toList.map fun t=>match P.underlying t with|some (.int k)=>some k|_=>none)))=true)
  (h29:((c.pinned==c.pinnedBy))=true)
  (h30:((c.veiled==(fn.params.toList++s.plain.varTypes P++fn.resultTypes.toList).any (P.veiledRec ·)))=true)
  (h31:(c.veiledFits P fn.params.toList (fn.params.toList++s.plain.varTypes P++fn.resultTypes.toList))=true):joinedFacts P f fn s c=true:=by
 unfold joinedFacts
 simp only [Bool.and_eq_true]
 exact ⟨⟨⟨⟨⟨⟨⟨⟨⟨⟨⟨⟨⟨⟨⟨⟨⟨⟨⟨⟨⟨⟨⟨⟨⟨⟨⟨⟨⟨⟨⟨h0,h1⟩,h2⟩,h3⟩,h4⟩,h5⟩,h6⟩,h7⟩,h8⟩,h9⟩,h10⟩,h11⟩,h12⟩,h13⟩,h14⟩,h15⟩,h16⟩,h17⟩,h18⟩,h19⟩,h20⟩,h21⟩,h22⟩,h23⟩,h24⟩,h25⟩,h26⟩,h27⟩,h28⟩,h29⟩,h30⟩,h31⟩
theorem ymq : Tryz.pinned.checked.prog.mainIs = some (true, "80bef529a85f1e531201c02dcd21bafcbed3c8c98c1c3a49300210dc570425ff".toList) := by kernel_rfl
end
section
open Go.ChangeMaps Go.ChangeShapes Go.WideShapes Go.ChangeAt Go.RowKit Go.Joins
theorem ymr:Tryz.prog.readableRec 9=true:=by kernel_rfl
theorem yoX:9<Tryz.prog.types.size:=of_decide_eq_true (by kernel_rfl)
theorem yql:laidOutB Tryz.prog=true:=by kernel_rfl
section
variable {H : Type} {enc : TypeId × Value → H} {P : Program}
theorem ygl (hl:laidOutB P=true) {W W':World} (hb:Below W.heap.size W W') (sp:Nat→Bool) :
  ∀ (ts:List TypeId) (vs:List Value) (ds:List (DataW H)) (ps:List MemPlace),(∀ t ∈ ts,P.readableRec t=true)→(∀ t ∈ ts,t<P.types.size) →
   DataW.TrodAll enc P W 0 (fun _=>true) true ts vs ds ps→(∀ x ∈ ps,x.block<W.heap.size)→(∀ x ∈ ps,sp x.block=true)→DataW.TrodAll enc P W' 0 sp true ts vs ds ps:=by
 intro ts
 induction ts with
 | nil =>
  intro vs ds ps _ _ h _ _
  obtain ⟨rfl,rfl,rfl⟩:=trodAll_nil h
  exact trodAll_mk0
 | cons t ts ih =>
  intro vs ds ps hr vU h hlt hsp
  obtain ⟨v,vs',d,ds',p,q,rfl,rfl,rfl,h0,h1⟩:=trodAll_cons h
  exact trodAll_cons_mk (WideElems.Trod_stays hl (hr t (by simp)) (vU t (by simp)) h0 (fun x hx=>hb.same (hlt x (by simp [hx]))) (fun x hx=>hsp x (by simp [hx])))
   (ih vs' ds' q (fun t ht=>hr t (by simp [ht])) (fun t ht=>vU t (by simp [ht])) h1 (fun x hx=>hlt x (by simp [hx])) (fun x hx=>hsp x (by simp [hx])))
variable {w : World} {base b0 : Nat} {spare : Nat → Bool} {held : Bool} {r : Reach} {v : Value} {d : DataW H} {p : List MemPlace}
end
end
end Go.Proofs.YtfjnipkpfbkegaaGreatDoor
