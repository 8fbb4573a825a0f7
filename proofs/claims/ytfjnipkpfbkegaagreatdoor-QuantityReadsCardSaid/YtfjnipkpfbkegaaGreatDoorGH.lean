/- Contracts. -/
import Derived.Test.YtfjnipkpfbkegaaGreatDoorXUR
set_option maxHeartbeats 4000000
set_option maxRecDepth 100000
namespace Go.Proofs.YtfjnipkpfbkegaaGreatDoor
open Go.RowKit Big
open Go.Lib
theorem ydp (s:ByteArray) (w:World) (hs:(s.size:Int)≤100000):Calls Tryz.prog 64 #[.string s] w (ycs (jU s.data.toList) w):=by
 have HSY:Hid (∀ W,Calls Tryz.prog 91 #[] W fun e w'=>∃ g,e=.returned (.slice (some ⟨g,0,none⟩) 20 20)∧W.heap.size≤g∧w'.heap[g]?=some (.cells ycA.toArray 46 (0,0))∧Below W.heap.size W w'):=yA (fun W=>(ykg W).mono fun e w' ⟨he,hw⟩=>⟨_,he,Nat.le_refl _,by rw [hw];exact yV W _,by rw [hw];exact zK W _⟩)
 obtain ⟨B,HBE⟩:∃ B,Hid (w.heap.size=B):=⟨_,yA rfl⟩
 have HBL:Hid (w.heap.size≤B):=yA (Nat.le_of_eq HBE.out)
 have yp1:Hid (w.heap.size≤B+1):=yA (by have:=HBL.out;omega)
 have HK0:Hid (Keep w ((w.alloc (.cells #[.string ⟨#[]⟩,.int .i64 0,.int .i64 0,.bool false,.int .i64 0,.int .i64 0,.int .i64 0,.int .i64 0,.int .i64 0,.int .i64 0,.int .i64 0,.bool false,.int .i64 0,.int .i64 0] 46)).alloc (.cells #[.bool false,.slice none 0 0,.slice none 0 0] 44)) [(B+1,#[.bool false,.slice none 0 0,.slice none 0 0],44),(B,#[.string ⟨#[]⟩,.int .i64 0,.int .i64 0,.bool false,.int .i64 0,.int .i64 0,.int .i64 0,.int .i64 0,.int .i64 0,.int .i64 0,.int .i64 0,.bool false,.int .i64 0,.int .i64 0],46)]):=yA (by rw [← HBE.out];exact Keep.two w _ _ _ _)
 obtain ⟨l,HLL⟩:∃ l,Hid (s.data.toList=l):=⟨_,yA rfl⟩
 have HLS:Hid (s.toList=l):=yA (by rw [Lib.toList_data];exact HLL.out)
 rw [HLL.out]
 go_enter Tryz.func64,Tryz.ntmps64
 go_wp2_with fail
 refine (HSY.out _).mono ?_
 rintro e w2 ⟨g,rfl,hg,hG,hb2⟩
 have HK2:Hid (Keep w w2 [(g,ycA.toArray,46),(B+1,#[.bool false,.slice none 0 0,.slice none 0 0],44),(B,#[.string ⟨#[]⟩,.int .i64 0,.int .i64 0,.bool false,.int .i64 0,.int .i64 0,.int .i64 0,.int .i64 0,.int .i64 0,.int .i64 0,.int .i64 0,.bool false,.int .i64 0,.int .i64 0],46)]):=yA (by
  have h:=HK0.out.next hb2
  refine ⟨h.below,fun x hx=>?_⟩
  rcases List.mem_cons.1 hx with rfl|hx
  ·exact hG
  ·exact h.all x hx)
 have HSZ:Hid (B+1<g):=yA (by
  have:=hg
  simp only [World.size_alloc] at this
  rw [HBE.out] at this
  omega)
 rw [HBE.out]
 clear hg hG hb2 HK0
 go_wp2_with fail
 go_loopw [13] (fun iv wr=>∃ k:Nat,k≤20∧iv=.int .i64 (k:Int)∧Hid (zW.find? (fun s=>s.w==l)=(zW.drop k).find? (fun s=>s.w==l))∧Hid (Keep w wr [(g,ycA.toArray,46),(B+1,#[.bool false,.slice none 0 0,.slice none 0 0],44),(B,#[.string ⟨#[]⟩,.int .i64 0,.int .i64 0,.bool false,.int .i64 0,.int .i64 0,.int .i64 0,.int .i64 0,.int .i64 0,.int .i64 0,.int .i64 0,.bool false,.int .i64 0,.int .i64 0],46)])) (fun iv _=>20-(intOf iv).toNat)
 case atStart=>exact ⟨0,by omega,rfl,yA rfl,HK2⟩
 case round =>
  clear HK2
  obtain ⟨k,hk,rfl,HF,HK⟩:=hrel
  by_cases hlt:k<20
  ·have hkl:k<zW.length:=hlt
   have yfS:(k:Int)<20:=by omega
   obtain ⟨sw,so,sb,pre,a0,a1,a2,a3,a4,a5,a6,off,z,p,hS0,ynN,ynO,ynP,ynQ⟩:=yfA hkl
   have HSR:=yA hS0
   have HOB:=yA (And.intro (And.intro ynN ynO) (And.intro ynP ynQ))
   obtain ⟨SW,HSW⟩:∃ SW:ByteArray,Hid ((⟨sw.toArray⟩:ByteArray)=SW):=⟨_,yA rfl⟩
   have hcs:=yg9 (HK.out.one _ (List.mem_cons_self ..)) hkl hS0 HSW.out
   have c0:=hcs 0 _ rfl
   have c1:=hcs 1 _ rfl
   have c2:=hcs 2 _ rfl
   have c3:=hcs 3 _ rfl
   have c4:=hcs 4 _ rfl
   have c5:=hcs 5 _ rfl
   have c6:=hcs 6 _ rfl
   have c7:=hcs 7 _ rfl
   have c8:=hcs 8 _ rfl
   have c9:=hcs 9 _ rfl
   have c10:=hcs 10 _ rfl
   have c11:=hcs 11 _ rfl
   have c12:=hcs 12 _ rfl
   have c13:=hcs 13 _ rfl
   rw [Nat.add_zero] at c0
   clear hcs hS0 ynN ynO ynP ynQ
   have HWL:Hid (SW.toList=sw):=yA (by rw [← HSW.out,Lib.toList_data])
   have HWD:Hid (SW.data.toList=sw):=yA (by rw [← HSW.out])
   have HDR:Hid ((zW.drop k).find? (fun s=>s.w==l)=if sw==l then some ⟨sw,so,sb,pre,[a0,a1,a2,a3,a4,a5,a6],off,z,p⟩ else (zW.drop (k+1)).find? (fun s=>s.w==l)):=yA (by
    rw [List.drop_eq_getElem_cons hkl,List.find?_cons,HSR.out]
    cases (sw==l)<;>rfl)
   cases hm:(sw==l) with
   | false =>
    have hm2:(SW.toList==s.toList)=false:=by rw [HWL.out,HLS.out];exact hm
    have HF9:Hid (zW.find? (fun s=>s.w==l)=(zW.drop (k+1)).find? (fun s=>s.w==l)):=yA (by rw [HF.out,HDR.out,hm];rfl)
    have HK9:=yA (HK.out.next (zK wr (.cells #[.string SW,.int .i64 so,.int .i64 sb,.bool pre,.int .i64 a0,.int .i64 a1,.int .i64 a2,.int .i64 a3,.int .i64 a4,.int .i64 a5,.int .i64 a6,.bool off,.int .i64 z,.int .i64 p] 46)))
    clear hm
    go_wp2_with fail
    go_roundw
    case rel=>exact ⟨k+1,by omega,by go_num,HF9,HK9⟩
    case measure=>simp [intOf];omega
   | true =>
    have hm2:(SW.toList==s.toList)=true:=by rw [HWL.out,HLS.out];exact hm
    have HFT:Hid (jU l=some (⟨sw,so,sb,pre,[a0,a1,a2,a3,a4,a5,a6],off,z,p⟩,(so:Rat)/(sb:Rat))):=yA (by
     unfold jU
     rw [HF.out,HDR.out,hm];rfl)
    clear hm
    go_upto_region 5 with fail
    obtain ⟨r,HR⟩:∃ r,Hid ((so:Rat)/(sb:Rat)=r):=⟨_,yA rfl⟩
    have HFR:Hid (∀ W,Calls Tryz.prog 40 #[.int .i64 so,.int .i64 sb] W (vD r W)):=yA (fun W=>by
     have h:=HOB.out
     rw [← HR.out];exact yaL so sb W (by omega) (by omega))
    obtain ⟨sg1,HSG⟩:∃ sg,Hid (sg=decide (r.num<0)):=⟨_,yA rfl⟩
    obtain ⟨gb,HGB⟩:∃ gb,Hid (wr.heap.size=gb):=⟨_,yA rfl⟩
    have HLG:Hid (B+1<gb):=yA (by rw [← HGB.out];exact (HK.out.lt (x:=(B+1,#[.bool false,.slice none 0 0,.slice none 0 0],44)) (by simp)))
    have HNE:Hid (∀ x ∈ ([(gb,#[.string SW,.int .i64 so,.int .i64 sb,.bool pre,.int .i64 a0,.int .i64 a1,.int .i64 a2,.int .i64 a3,.int .i64 a4,.int .i64 a5,.int .i64 a6,.bool off,.int .i64 z,.int .i64 p],46)]:List Blk),x.1≠B):=yA (by
     have h1:=HLG.out
     skip
     intro x hx
     simp only [List.mem_cons,List.not_mem_nil,or_false] at hx
     subst hx
     all_goals (dsimp only;omega))
    have yrq:Hid (∀ x ∈ ([(gb,#[.string SW,.int .i64 so,.int .i64 sb,.bool pre,.int .i64 a0,.int .i64 a1,.int .i64 a2,.int .i64 a3,.int .i64 a4,.int .i64 a5,.int .i64 a6,.bool off,.int .i64 z,.int .i64 p],46)]:List Blk),x.1≠B+1):=yA (by
     have h1:=HLG.out
     skip
     intro x hx
     simp only [List.mem_cons,List.not_mem_nil,or_false] at hx
     subst hx
     all_goals (dsimp only;omega))
    have HK6:=yA (HK.out.more #[.string SW,.int .i64 so,.int .i64 sb,.bool pre,.int .i64 a0,.int .i64 a1,.int .i64 a2,.int .i64 a3,.int .i64 a4,.int .i64 a5,.int .i64 a6,.bool off,.int .i64 z,.int .i64 p] 46)
    rw [HGB.out] at HK6
    have hcb:=HK6.out.one _ (List.mem_cons_self ..)
    have b0:=yB hcb 0
    have b1:=yB hcb 1
    have b2:=yB hcb 2
    have b3:=yB hcb 3
    have b4:=yB hcb 4
    have b5:=yB hcb 5
    have b6:=yB hcb 6
    have b7:=yB hcb 7
    have b8:=yB hcb 8
    have b9:=yB hcb 9
    have b10:=yB hcb 10
    have b11:=yB hcb 11
    have b12:=yB hcb 12
    have b13:=yB hcb 13
    clear hcb c0 c1 c2 c3 c4 c5 c6 c7 c8 c9 c10 c11 c12 c13
    have HK7:=yA (HK6.out)
    have HST:Hid (Keep w ((wr.alloc (.cells #[.string SW,.int .i64 so,.int .i64 sb,.bool pre,.int .i64 a0,.int .i64 a1,.int .i64 a2,.int .i64 a3,.int .i64 a4,.int .i64 a5,.int .i64 a6,.bool off,.int .i64 z,.int .i64 p] 46))).drew [(gb,#[.string SW,.int .i64 so,.int .i64 sb,.bool pre,.int .i64 a0,.int .i64 a1,.int .i64 a2,.int .i64 a3,.int .i64 a4,.int .i64 a5,.int .i64 a6,.bool off,.int .i64 z,.int .i64 p],46)]∧BX 46 14 ((wr.alloc (.cells #[.string SW,.int .i64 so,.int .i64 sb,.bool pre,.int .i64 a0,.int .i64 a1,.int .i64 a2,.int .i64 a3,.int .i64 a4,.int .i64 a5,.int .i64 a6,.bool off,.int .i64 z,.int .i64 p] 46))).drew B∧BX 44 3 ((wr.alloc (.cells #[.string SW,.int .i64 so,.int .i64 sb,.bool pre,.int .i64 a0,.int .i64 a1,.int .i64 a2,.int .i64 a3,.int .i64 a4,.int .i64 a5,.int .i64 a6,.bool off,.int .i64 z,.int .i64 p] 46))).drew (B+1)):=yA ⟨(HK7.out.sub (fun x hx=>by simp only [List.mem_cons,List.not_mem_nil,or_false] at hx ⊢;subst hx;simp)).drew,(ye1 (HK7.out.one (B,#[.string ⟨#[]⟩,.int .i64 0,.int .i64 0,.bool false,.int .i64 0,.int .i64 0,.int .i64 0,.int .i64 0,.int .i64 0,.int .i64 0,.int .i64 0,.bool false,.int .i64 0,.int .i64 0],46) (by simp))).drew,(ypZ (HK7.out.one (B+1,#[.bool false,.slice none 0 0,.slice none 0 0],44) (by simp))).drew⟩
    rw [HGB.out]
    have KB:Hid (∀ W,(Keep w W [(gb,#[.string SW,.int .i64 so,.int .i64 sb,.bool pre,.int .i64 a0,.int .i64 a1,.int .i64 a2,.int .i64 a3,.int .i64 a4,.int .i64 a5,.int .i64 a6,.bool off,.int .i64 z,.int .i64 p],46)]∧BX 46 14 W B∧BX 44 3 W (B+1))→((fun w'=>(Keep w w' [(gb,#[.string SW,.int .i64 so,.int .i64 sb,.bool pre,.int .i64 a0,.int .i64 a1,.int .i64 a2,.int .i64 a3,.int .i64 a4,.int .i64 a5,.int .i64 a6,.bool off,.int .i64 z,.int .i64 p],46)]∧BX 46 14 w' B∧BX 44 3 w' (B+1))∧w'.cell? ⟨gb,0,none⟩=some (.string SW)∧w'.cell? ⟨gb,1,none⟩=some (.int .i64 so)∧w'.cell? ⟨gb,2,none⟩=some (.int .i64 sb)∧w'.cell? ⟨gb,3,none⟩=some (.bool pre)∧w'.cell? ⟨gb,4,none⟩=some (.int .i64 a0)∧w'.cell? ⟨gb,5,none⟩=some (.int .i64 a1)∧w'.cell? ⟨gb,6,none⟩=some (.int .i64 a2)∧w'.cell? ⟨gb,7,none⟩=some (.int .i64 a3)∧w'.cell? ⟨gb,8,none⟩=some (.int .i64 a4)∧w'.cell? ⟨gb,9,none⟩=some (.int .i64 a5)∧w'.cell? ⟨gb,10,none⟩=some (.int .i64 a6)∧w'.cell? ⟨gb,11,none⟩=some (.bool off)∧w'.cell? ⟨gb,12,none⟩=some (.int .i64 z)∧w'.cell? ⟨gb,13,none⟩=some (.int .i64 p)) W)):=yA (fun W h=>⟨h,yB (h.1.one _ (List.mem_cons_self ..)) 0,yB (h.1.one _ (List.mem_cons_self ..)) 1,yB (h.1.one _ (List.mem_cons_self ..)) 2,yB (h.1.one _ (List.mem_cons_self ..)) 3,yB (h.1.one _ (List.mem_cons_self ..)) 4,yB (h.1.one _ (List.mem_cons_self ..)) 5,yB (h.1.one _ (List.mem_cons_self ..)) 6,yB (h.1.one _ (List.mem_cons_self ..)) 7,yB (h.1.one _ (List.mem_cons_self ..)) 8,yB (h.1.one _ (List.mem_cons_self ..)) 9,yB (h.1.one _ (List.mem_cons_self ..)) 10,yB (h.1.one _ (List.mem_cons_self ..)) 11,yB (h.1.one _ (List.mem_cons_self ..)) 12,yB (h.1.one _ (List.mem_cons_self ..)) 13⟩)
    refine wp_region_held_drew (S:=fun w'=>(Keep w w' [(gb,#[.string SW,.int .i64 so,.int .i64 sb,.bool pre,.int .i64 a0,.int .i64 a1,.int .i64 a2,.int .i64 a3,.int .i64 a4,.int .i64 a5,.int .i64 a6,.bool off,.int .i64 z,.int .i64 p],46)]∧BX 46 14 w' B∧BX 44 3 w' (B+1))∧w'.cell? ⟨gb,0,none⟩=some (.string SW)∧w'.cell? ⟨gb,1,none⟩=some (.int .i64 so)∧w'.cell? ⟨gb,2,none⟩=some (.int .i64 sb)∧w'.cell? ⟨gb,3,none⟩=some (.bool pre)∧w'.cell? ⟨gb,4,none⟩=some (.int .i64 a0)∧w'.cell? ⟨gb,5,none⟩=some (.int .i64 a1)∧w'.cell? ⟨gb,6,none⟩=some (.int .i64 a2)∧w'.cell? ⟨gb,7,none⟩=some (.int .i64 a3)∧w'.cell? ⟨gb,8,none⟩=some (.int .i64 a4)∧w'.cell? ⟨gb,9,none⟩=some (.int .i64 a5)∧w'.cell? ⟨gb,10,none⟩=some (.int .i64 a6)∧w'.cell? ⟨gb,11,none⟩=some (.bool off)∧w'.cell? ⟨gb,12,none⟩=some (.int .i64 z)∧w'.cell? ⟨gb,13,none⟩=some (.int .i64 p)) (by kernel_rfl) (KB.out _ HST.out) (fun hHeld=>?_)
    refine wpAnyH_take (i:=0) (v:=.agg #[.string SW,.int .i64 so,.int .i64 sb,.bool pre,.int .i64 a0,.int .i64 a1,.int .i64 a2,.int .i64 a3,.int .i64 a4,.int .i64 a5,.int .i64 a6,.bool off,.int .i64 z,.int .i64 p]) rfl (by kernel_rfl) (by kernel_rfl) (by kernel_rfl) (fun _ _ _ h=>h) (Or.inl ⟨by rfl,by intro W hSw;clear hHeld;go_split_ands;go_simp⟩) (by assumption) ?_
    simp only [List.getElem_toArray,List.getElem_cons_zero,Act.put,List.setIfInBounds_toArray,List.set_cons_zero,List.set_cons_succ]
    refine wpAnyH_take (i:=1) (v:=.pointer (some ⟨gb,1,none⟩)) rfl (by kernel_rfl) (by kernel_rfl) (by kernel_rfl) (fun _ _ _ h=>h) (Or.inl ⟨by rfl,by intro W hSw;clear hHeld;go_split_ands;go_simp⟩) (by assumption) ?_
    simp only [List.getElem_toArray,List.getElem_cons_zero,List.getElem_cons_succ,Act.put,List.setIfInBounds_toArray,List.set_cons_zero,List.set_cons_succ]
    refine wpAnyH_take (i:=2) (v:=.int .i64 so) rfl (by kernel_rfl) (by kernel_rfl) (by kernel_rfl) (fun _ _ _ h=>h) (Or.inl ⟨by rfl,by intro W hSw;clear hHeld;go_split_ands;go_simp⟩) (by assumption) ?_
    simp only [List.getElem_toArray,List.getElem_cons_zero,List.getElem_cons_succ,Act.put,List.setIfInBounds_toArray,List.set_cons_zero,List.set_cons_succ]
    refine wpAnyH_take (i:=3) (v:=.pointer (some ⟨gb,2,none⟩)) rfl (by kernel_rfl) (by kernel_rfl) (by kernel_rfl) (fun _ _ _ h=>h) (Or.inl ⟨by rfl,by intro W hSw;clear hHeld;go_split_ands;go_simp⟩) (by assumption) ?_
    simp only [List.getElem_toArray,List.getElem_cons_zero,List.getElem_cons_succ,Act.put,List.setIfInBounds_toArray,List.set_cons_zero,List.set_cons_succ]
    refine wpAnyH_take (i:=4) (v:=.int .i64 sb) rfl (by kernel_rfl) (by kernel_rfl) (by kernel_rfl) (fun _ _ _ h=>h) (Or.inl ⟨by rfl,by intro W hSw;clear hHeld;go_split_ands;go_simp⟩) (by assumption) ?_
    simp only [List.getElem_toArray,List.getElem_cons_zero,List.getElem_cons_succ,Act.put,List.setIfInBounds_toArray,List.set_cons_zero,List.set_cons_succ]
    refine wpAnyH_ready (rs:=[5]) (by kernel_rfl) (by simp) ?_
    refine AllReadyH.cons (i:=5) rfl (fun K hK=>?_) AllReadyH.nil
    go_simp
    refine (HFR.out _).mono ?_
    rintro e v1 ⟨x1,rfl,hx1,hb1⟩
    obtain ⟨qx,qn,qc,qy,qm,qd,rfl,-,-⟩:=hx1.slices
    rw [← HSG.out] at hx1 ⊢
    go_simp
    refine hK.out _ _ (KB.out _ ⟨hHeld.1.1.next hb1,hHeld.1.2.1.below hb1,hHeld.1.2.2.below hb1⟩) (fun hHeld=>?_)
    clear hK K
    obtain ⟨z0,k0,e0⟩:=hHeld.1.2.1.slot 0 (by omega)
    obtain ⟨z1,k1,e1⟩:=hHeld.1.2.1.slot 1 (by omega)
    obtain ⟨z2,k2,e2⟩:=hHeld.1.2.1.slot 2 (by omega)
    obtain ⟨z3,k3,e3⟩:=hHeld.1.2.1.slot 3 (by omega)
    obtain ⟨z4,k4,e4⟩:=hHeld.1.2.1.slot 4 (by omega)
    obtain ⟨z5,k5,e5⟩:=hHeld.1.2.1.slot 5 (by omega)
    obtain ⟨z6,k6,e6⟩:=hHeld.1.2.1.slot 6 (by omega)
    obtain ⟨z7,k7,e7⟩:=hHeld.1.2.1.slot 7 (by omega)
    obtain ⟨z8,k8,e8⟩:=hHeld.1.2.1.slot 8 (by omega)
    obtain ⟨z9,k9,e9⟩:=hHeld.1.2.1.slot 9 (by omega)
    obtain ⟨z10,k10,e10⟩:=hHeld.1.2.1.slot 10 (by omega)
    obtain ⟨z11,k11,e11⟩:=hHeld.1.2.1.slot 11 (by omega)
    obtain ⟨z12,k12,e12⟩:=hHeld.1.2.1.slot 12 (by omega)
    obtain ⟨z13,k13,e13⟩:=hHeld.1.2.1.slot 13 (by omega)
    have st1:=yA (St.all hHeld.1.2.1 [.string SW,.int .i64 so,.int .i64 sb,.bool pre,.int .i64 a0,.int .i64 a1,.int .i64 a2,.int .i64 a3,.int .i64 a4,.int .i64 a5,.int .i64 a6,.bool off,.int .i64 z,.int .i64 p] (yin SW so sb pre a0 a1 a2 a3 a4 a5 a6 off z p))
    have hS1:=yA (KB.out _ ⟨st1.out.keep w _ HBL.out HNE.out hHeld.1.1,st1.out.box,st1.out.other 44 3 (B+1) (by omega) hHeld.1.2.2⟩)
    refine wpAnyH_ready (rs:=[6]) (by kernel_rfl) (by simp) ?_
    refine AllReadyH.cons (i:=6) rfl (fun K hK=>?_) AllReadyH.nil
    go_simp
    refine hK.out _ _ hS1.out (fun hHeld=>?_)
    clear hK K
    obtain ⟨y0,j0,f0⟩:=hHeld.1.2.2.slot 0 (by omega)
    obtain ⟨y1,j1,f1⟩:=hHeld.1.2.2.slot 1 (by omega)
    obtain ⟨y2,j2,f2⟩:=hHeld.1.2.2.slot 2 (by omega)
    have st2:=yA (St.all hHeld.1.2.2 [.bool sg1,.slice qx qn qc,.slice qy qm qd] (yp0 _ _ _ _ _ _ _))
    have hS2:=yA (KB.out _ ⟨st2.out.keep w _ yp1.out yrq.out hHeld.1.1,st2.out.other 46 14 B (by omega) hHeld.1.2.1,st2.out.box⟩)
    have hQF:=yA (st2.out.nums _ _ (st1.out.nums _ _ hx1))
    refine wpAnyH_ready (rs:=[7]) (by kernel_rfl) (by simp) ?_
    refine AllReadyH.cons (i:=7) rfl (fun K hK=>?_) AllReadyH.nil
    go_simp
    refine hK.out _ _ hS2.out (fun hHeld=>?_)
    clear hK K
    refine wpAnyH_take (i:=8) (v:=.bool true) rfl (by kernel_rfl) (by kernel_rfl) (by kernel_rfl) (fun _ _ _ h=>h) (Or.inl ⟨by rfl,by intro W hSw;clear hHeld;go_split_ands;go_simp⟩) (by assumption) ?_
    simp only [List.getElem_toArray,List.getElem_cons_zero,List.getElem_cons_succ,Act.put,List.setIfInBounds_toArray,List.set_cons_zero,List.set_cons_succ]
    refine wpAnyH_done (by kernel_rfl) ?_ _
    have HBF:=yA hHeld.1.1.below
    clear hHeld hS1 hS2 st1 st2
    go_wp2_with fail
    refine bodyPost_ret (v:=.tuple #[.agg #[.string SW,.int .i64 so,.int .i64 sb,.bool pre,.int .i64 a0,.int .i64 a1,.int .i64 a2,.int .i64 a3,.int .i64 a4,.int .i64 a5,.int .i64 a6,.bool off,.int .i64 z,.int .i64 p],.agg #[.bool sg1,.slice qx qn qc,.slice qy qm qd],.bool true]) (by simp [results,Tryz.results64,go_sem,k0,k1,k2,k3,k4,k5,k6,k7,k8,k9,k10,k11,k12,k13,j0,j1,j2]) rfl ?_
    exact ⟨SW,so,sb,pre,a0,a1,a2,a3,a4,a5,a6,off,z,p,sg1,qx,qn,qc,qy,qm,qd,by rw [HFT.out];rfl,HBF.out,fun s' r' h=>by
     rw [HFT.out] at h
     cases h
     rw [HWD.out,HR.out]
     exact ⟨rfl,hQF.out⟩⟩
  ·obtain rfl:k=20:=by omega
   have HN:Hid (zW.find? (fun s=>s.w==l)=none):=yA (by rw [HF.out];rfl)
   clear HF hk hlt
   by_cases hl0:l=[]
   ·have he:s.toList=[]:=by rw [HLS.out];exact hl0
    have he2:s.toList.isEmpty=true:=by rw [he];rfl
    have yip:Hid (jU l=none):=yA (by unfold jU;rw [HN.out,hl0])
    have HZ:Hid (BX 46 14 wr B∧BX 44 3 wr (B+1)∧Below w.heap.size w wr):=yA ⟨ye1 (HK.out.one (B,#[.string ⟨#[]⟩,.int .i64 0,.int .i64 0,.bool false,.int .i64 0,.int .i64 0,.int .i64 0,.int .i64 0,.int .i64 0,.int .i64 0,.int .i64 0,.bool false,.int .i64 0,.int .i64 0],46) (by simp)),ypZ (HK.out.one (B+1,#[.bool false,.slice none 0 0,.slice none 0 0],44) (by simp)),HK.out.below⟩
    clear hl0
    obtain ⟨z0,k0,e0⟩:=HZ.out.1.slot 0 (by omega)
    obtain ⟨z1,k1,e1⟩:=HZ.out.1.slot 1 (by omega)
    obtain ⟨z2,k2,e2⟩:=HZ.out.1.slot 2 (by omega)
    obtain ⟨z3,k3,e3⟩:=HZ.out.1.slot 3 (by omega)
    obtain ⟨z4,k4,e4⟩:=HZ.out.1.slot 4 (by omega)
    obtain ⟨z5,k5,e5⟩:=HZ.out.1.slot 5 (by omega)
    obtain ⟨z6,k6,e6⟩:=HZ.out.1.slot 6 (by omega)
    obtain ⟨z7,k7,e7⟩:=HZ.out.1.slot 7 (by omega)
    obtain ⟨z8,k8,e8⟩:=HZ.out.1.slot 8 (by omega)
    obtain ⟨z9,k9,e9⟩:=HZ.out.1.slot 9 (by omega)
    obtain ⟨z10,k10,e10⟩:=HZ.out.1.slot 10 (by omega)
    obtain ⟨z11,k11,e11⟩:=HZ.out.1.slot 11 (by omega)
    obtain ⟨z12,k12,e12⟩:=HZ.out.1.slot 12 (by omega)
    obtain ⟨z13,k13,e13⟩:=HZ.out.1.slot 13 (by omega)
    obtain ⟨y0,j0,f0⟩:=HZ.out.2.1.slot 0 (by omega)
    obtain ⟨y1,j1,f1⟩:=HZ.out.2.1.slot 1 (by omega)
    obtain ⟨y2,j2,f2⟩:=HZ.out.2.1.slot 2 (by omega)
    have st1:=yA (St.all HZ.out.1 [.string ⟨#[]⟩,.int .i64 0,.int .i64 0,.bool false,.int .i64 0,.int .i64 0,.int .i64 0,.int .i64 0,.int .i64 0,.int .i64 0,.int .i64 0,.bool false,.int .i64 0,.int .i64 0] (yin _ _ _ _ _ _ _ _ _ _ _ _ _ _))
    have st2:=yA (St.all (st1.out.other 44 3 (B+1) (by omega) HZ.out.2.1) [.bool false,.slice none 0 0,.slice none 0 0] (yp0 _ _ _ _ _ _ _))
    have HBF:=yA (st2.out.keep w [] yp1.out (fun x hx=>by cases hx) (st1.out.keep w [] HBL.out (fun x hx=>by cases hx) ⟨HZ.out.2.2,fun x hx=>by cases hx⟩)).below
    clear st1 st2 HZ
    go_wp2_with fail
    refine bodyPost_ret (v:=.tuple #[.agg #[.string ⟨#[]⟩,.int .i64 0,.int .i64 0,.bool false,.int .i64 0,.int .i64 0,.int .i64 0,.int .i64 0,.int .i64 0,.int .i64 0,.int .i64 0,.bool false,.int .i64 0,.int .i64 0],.agg #[.bool false,.slice none 0 0,.slice none 0 0],.bool false]) (by simp [results,Tryz.results64,go_sem,k0,k1,k2,k3,k4,k5,k6,k7,k8,k9,k10,k11,k12,k13,j0,j1,j2]) rfl ?_
    exact ⟨_,_,_,_,_,_,_,_,_,_,_,_,_,_,_,_,_,_,_,_,_,by rw [yip.out];rfl,HBF.out,fun s' r' h=>by rw [yip.out] at h;cases h⟩
   ·have he:¬ s.toList=[]:=by rw [HLS.out];exact hl0
    have he2:s.toList.isEmpty=false:=by simpa using he
    have hpos:0<s.size:=by
     have h:s.data.toList.length=s.size:=by simp
     have h2:=List.length_pos_iff.2 hl0
     rw [HLL.out] at h
     omega
    have hpos1:(1:Int)≤s.size:=by omega
    obtain ⟨ch,tl,hl⟩:∃ ch tl,l=ch::tl:=by
     cases l with
     | nil=>exact absurd rfl hl0
     | cons a b=>exact ⟨a,b,rfl⟩
    have HLC:=yA hl
    obtain ⟨qp,yrr⟩:∃ q,Hid (yO (jD ch)=q):=⟨_,yA rfl⟩
    obtain ⟨ok,HOK⟩:∃ o,Hid ((!(jD ch).isEmpty)=o):=⟨_,yA rfl⟩
    have HQP4:Hid (uK 4 qp):=yA (by rw [← yrr.out];exact ysd ch)
    have HP:Hid (∀ W,Calls Tryz.prog 92 #[.int .u8 ((s[0]'hpos).toNat:Int)] W (zQ qp ok W)):=yA (fun W=>by
     have e:s[0]'hpos=ch:=by
      have h:=HLL.out
      rw [hl] at h
      have h2:s.data.toList[0]?=some ch:=by rw [h];rfl
      have h3:s.data.toList[0]?=some (s[0]'hpos):=by
       rw [List.getElem?_eq_getElem (by simpa using hpos)];rfl
      rw [h3] at h2
      exact Option.some.inj h2
     rw [e,← yrr.out,← HOK.out]
     exact yl2 ch W)
    obtain ⟨T,hs1⟩:∃ T,s.extract 1 s.size=T:=⟨_,rfl⟩
    have HTL:Hid (T.toList=tl):=yA (by
     rw [← hs1,Lib.toList_data]
     have h:=HLL.out
     rw [hl] at h
     have:(s.extract 1 s.size).data.toList=s.data.toList.drop 1:=by simp;exact List.take_of_length_le (by simp)
     rw [this,h];rfl)
    clear hl hl0
    go_wp2_with fail
    refine (HP.out _).mono ?_
    rintro e w3 ⟨pb,px,pn,pc,py,pm,pd,rfl,hb3,hq3⟩
    obtain ⟨gp,HGE⟩:∃ gp,Hid (w3.heap.size=gp):=⟨_,yA rfl⟩
    have HK5:Hid (Keep w (w3.alloc (.cells #[.bool pb,.slice px pn pc,.slice py pm pd] 44)) [(gp,#[.bool pb,.slice px pn pc,.slice py pm pd],44),(B+1,#[.bool false,.slice none 0 0,.slice none 0 0],44),(B,#[.string ⟨#[]⟩,.int .i64 0,.int .i64 0,.bool false,.int .i64 0,.int .i64 0,.int .i64 0,.int .i64 0,.int .i64 0,.int .i64 0,.int .i64 0,.bool false,.int .i64 0,.int .i64 0],46)]):=yA (by
     rw [← HGE.out]
     exact (((HK.out.next hb3).sub (fun x hx=>List.mem_cons_of_mem _ hx)).more #[.bool pb,.slice px pn pc,.slice py pm pd] 44))
    have HGP:Hid (B+1<gp):=yA (by rw [← HGE.out];exact ((HK.out.next hb3).lt (x:=(B+1,#[.bool false,.slice none 0 0,.slice none 0 0],44)) (by simp)))
    have HQ5:Hid (ok=true→zH (w3.alloc (.cells #[.bool pb,.slice px pn pc,.slice py pm pd] 44)) (.agg #[.bool pb,.slice px pn pc,.slice py pm pd]) qp):=yA (fun h=>(hq3 h).below (zK _ _))
    clear hb3 hq3 HP HK
    go_wp2_with fail
    refine (HSY.out _).mono ?_
    rintro e w4 ⟨g2,rfl,hg2,hG2,hb4⟩
    have HK4:Hid (Keep w w4 [(g2,ycA.toArray,46),(gp,#[.bool pb,.slice px pn pc,.slice py pm pd],44),(B+1,#[.bool false,.slice none 0 0,.slice none 0 0],44),(B,#[.string ⟨#[]⟩,.int .i64 0,.int .i64 0,.bool false,.int .i64 0,.int .i64 0,.int .i64 0,.int .i64 0,.int .i64 0,.int .i64 0,.int .i64 0,.bool false,.int .i64 0,.int .i64 0],46)]):=yA (by
     have h:=HK5.out.next hb4
     refine ⟨h.below,fun x hx=>?_⟩
     rcases List.mem_cons.1 hx with rfl|hx
     ·exact hG2
     ·exact h.all x hx)
    have HQ4:Hid (ok=true→zH w4 (.agg #[.bool pb,.slice px pn pc,.slice py pm pd]) qp):=yA (fun h=>(HQ5.out h).below hb4)
    rw [HGE.out]
    clear hg2 hG2 hb4 HK5 HQ5
    go_wp2_with fail
    go_loopw [40] (fun iv wr=>∃ k:Nat,k≤20∧iv=.int .i64 (k:Int)∧Hid (ok=true→zW.find? (fun s=>s.pre&&s.w==tl)=(zW.drop k).find? (fun s=>s.pre&&s.w==tl))∧Hid (Keep w wr [(g2,ycA.toArray,46),(gp,#[.bool pb,.slice px pn pc,.slice py pm pd],44),(B+1,#[.bool false,.slice none 0 0,.slice none 0 0],44),(B,#[.string ⟨#[]⟩,.int .i64 0,.int .i64 0,.bool false,.int .i64 0,.int .i64 0,.int .i64 0,.int .i64 0,.int .i64 0,.int .i64 0,.int .i64 0,.bool false,.int .i64 0,.int .i64 0],46)])∧Hid (ok=true→zH wr (.agg #[.bool pb,.slice px pn pc,.slice py pm pd]) qp)) (fun iv _=>20-(intOf iv).toNat)
    case atStart=>exact ⟨0,by omega,rfl,yA (fun _=>rfl),HK4,HQ4⟩
    case round =>
     clear HK4 HQ4
     obtain ⟨k,hk,rfl,HF,HK,HQ⟩:=hrel
     by_cases hlt:k<20
     ·have hkl:k<zW.length:=hlt
      have yfS:(k:Int)<20:=by omega
      obtain ⟨sw,so,sb,pre,a0,a1,a2,a3,a4,a5,a6,off,z,p,hS0,ynN,ynO,ynP,ynQ⟩:=yfA hkl
      have HSR:=yA hS0
      have HOB:=yA (And.intro (And.intro ynN ynO) (And.intro ynP ynQ))
      obtain ⟨SW,HSW⟩:∃ SW:ByteArray,Hid ((⟨sw.toArray⟩:ByteArray)=SW):=⟨_,yA rfl⟩
      have hcs:=yg9 (HK.out.one _ (List.mem_cons_self ..)) hkl hS0 HSW.out
      have c0:=hcs 0 _ rfl
      have c1:=hcs 1 _ rfl
      have c2:=hcs 2 _ rfl
      have c3:=hcs 3 _ rfl
      have c4:=hcs 4 _ rfl
      have c5:=hcs 5 _ rfl
      have c6:=hcs 6 _ rfl
      have c7:=hcs 7 _ rfl
      have c8:=hcs 8 _ rfl
      have c9:=hcs 9 _ rfl
      have c10:=hcs 10 _ rfl
      have c11:=hcs 11 _ rfl
      have c12:=hcs 12 _ rfl
      have c13:=hcs 13 _ rfl
      rw [Nat.add_zero] at c0
      clear hcs hS0 ynN ynO ynP ynQ
      have HWL:Hid (SW.toList=sw):=yA (by rw [← HSW.out,Lib.toList_data])
      have HWD:Hid (SW.data.toList=sw):=yA (by rw [← HSW.out])
      have HDR:Hid ((zW.drop k).find? (fun s=>s.pre&&s.w==tl)=if pre&&sw==tl then some ⟨sw,so,sb,pre,[a0,a1,a2,a3,a4,a5,a6],off,z,p⟩ else (zW.drop (k+1)).find? (fun s=>s.pre&&s.w==tl)):=yA (by
       rw [List.drop_eq_getElem_cons hkl,List.find?_cons,HSR.out]
       cases (pre&&sw==tl)<;>rfl)
      have HK9:=yA (HK.out.next (zK wr (.cells #[.string SW,.int .i64 so,.int .i64 sb,.bool pre,.int .i64 a0,.int .i64 a1,.int .i64 a2,.int .i64 a3,.int .i64 a4,.int .i64 a5,.int .i64 a6,.bool off,.int .i64 z,.int .i64 p] 46)))
      have HQ9:Hid (ok=true→zH (wr.alloc (.cells #[.string SW,.int .i64 so,.int .i64 sb,.bool pre,.int .i64 a0,.int .i64 a1,.int .i64 a2,.int .i64 a3,.int .i64 a4,.int .i64 a5,.int .i64 a6,.bool off,.int .i64 z,.int .i64 p] 46)) (.agg #[.bool pb,.slice px pn pc,.slice py pm pd]) qp):=yA (fun h=>(HQ.out h).below (zK _ _))
      have ya5:ok=false∨(ok=true∧pre=false)∨(ok=true∧pre=true∧(sw==tl)=false∧(SW.toList==T.toList)=false)∨(ok=true∧pre=true∧(sw==tl)=true∧(SW.toList==T.toList)=true):=by
       rw [HTL.out,HWL.out]
       cases pre<;>cases ok<;>cases h:(sw==tl)<;>simp
      rcases ya5 with rfl|⟨rfl,rfl⟩|⟨rfl,rfl,hm,hm2⟩|⟨rfl,rfl,hm,hm2⟩
      ·have HF9:Hid (false=true→zW.find? (fun s=>s.pre&&s.w==tl)=(zW.drop (k+1)).find? (fun s=>s.pre&&s.w==tl)):=yA (fun h=>by cases h)
       clear HDR
       go_wp2_with fail
       go_quiet (fail)
       go_wp2_with fail
       go_roundw
       case rel=>exact ⟨k+1,by omega,by go_num,HF9,yA (HK9.out.next (yJ _ _ _)),yA (fun h=>(HQ9.out h).below (yJ _ _ _))⟩
       case measure=>simp [intOf];omega
      ·have HF9:Hid (true=true→zW.find? (fun s=>s.pre&&s.w==tl)=(zW.drop (k+1)).find? (fun s=>s.pre&&s.w==tl)):=yA (fun _=>by rw [HF.out rfl,HDR.out];rfl)
       clear HDR
       go_wp2_with fail
       go_quiet (fail)
       go_wp2_with fail
       go_roundw
       case rel=>exact ⟨k+1,by omega,by go_num,HF9,yA (HK9.out.next (yJ _ _ _)),yA (fun h=>(HQ9.out h).below (yJ _ _ _))⟩
       case measure=>simp [intOf];omega
      ·have HF9:Hid (true=true→zW.find? (fun s=>s.pre&&s.w==tl)=(zW.drop (k+1)).find? (fun s=>s.pre&&s.w==tl)):=yA (fun _=>by rw [HF.out rfl,HDR.out,hm];rfl)
       clear HDR hm
       go_wp2_with fail
       go_quiet (fail)
       go_wp2_with fail
       go_roundw
       case rel=>exact ⟨k+1,by omega,by go_num,HF9,yA (HK9.out.next (yJ _ _ _)),yA (fun h=>(HQ9.out h).below (yJ _ _ _))⟩
       case measure=>simp [intOf];omega
      ·skip
       ·have HFT:Hid (jU l=some (⟨sw,so,sb,true,[a0,a1,a2,a3,a4,a5,a6],off,z,p⟩,qp*((so:Rat)/(sb:Rat)))):=yA (by
         unfold jU
         rw [HN.out,HLC.out]
         have h:=HOK.out
         simp only [Bool.not_eq_true'] at h
         simp only
         rw [h,if_neg (by decide),HF.out rfl,HDR.out,hm,yrr.out];rfl)
        have HQP:Hid (zH wr (.agg #[.bool pb,.slice px pn pc,.slice py pm pd]) qp):=yA (HQ.out rfl)
        clear hm HDR
        go_upto_region 13 with fail
        go_quiet (fail)
        go_upto_region 14 with fail
        obtain ⟨r,HR⟩:∃ r,Hid ((so:Rat)/(sb:Rat)=r):=⟨_,yA rfl⟩
        have HFR:Hid (∀ W,Calls Tryz.prog 40 #[.int .i64 so,.int .i64 sb] W (vD r W)):=yA (fun W=>by
         have h:=HOB.out
         rw [← HR.out];exact yaL so sb W (by omega) (by omega))
        obtain ⟨sg1,HSG⟩:∃ sg,Hid (sg=decide (r.num<0)):=⟨_,yA rfl⟩
        have HPR:Hid (∀ W u v,zH W u qp→zH W v r→Calls Tryz.prog 38 #[u,v] W (vD (qp*r) W)):=yA (fun W u v hu hv=>by
         have h:=HOB.out
         refine yfm u v qp r 4 4 W (by omega) HQP4.out ?_ hu hv
         rw [← HR.out];exact yrf so sb h.1 h.2)
        obtain ⟨sg2,HSH⟩:∃ sg,Hid (sg=decide ((qp*r).num<0)):=⟨_,yA rfl⟩
        obtain ⟨gb,HGB⟩:∃ gb,Hid (wr.heap.size=gb):=⟨_,yA rfl⟩
        have HLG:Hid (B+1<gb):=yA (by rw [← HGB.out];exact (HK.out.lt (x:=(B+1,#[.bool false,.slice none 0 0,.slice none 0 0],44)) (by simp)))
        have HNE:Hid (∀ x ∈ ([(gb,#[.string SW,.int .i64 so,.int .i64 sb,.bool true,.int .i64 a0,.int .i64 a1,.int .i64 a2,.int .i64 a3,.int .i64 a4,.int .i64 a5,.int .i64 a6,.bool off,.int .i64 z,.int .i64 p],46),(gp,#[.bool pb,.slice px pn pc,.slice py pm pd],44)]:List Blk),x.1≠B):=yA (by
         have h1:=HLG.out
         have h2:=HGP.out
         intro x hx
         simp only [List.mem_cons,List.not_mem_nil,or_false] at hx
         rcases hx with rfl|rfl
         all_goals (dsimp only;omega))
        have yrq:Hid (∀ x ∈ ([(gb,#[.string SW,.int .i64 so,.int .i64 sb,.bool true,.int .i64 a0,.int .i64 a1,.int .i64 a2,.int .i64 a3,.int .i64 a4,.int .i64 a5,.int .i64 a6,.bool off,.int .i64 z,.int .i64 p],46),(gp,#[.bool pb,.slice px pn pc,.slice py pm pd],44)]:List Blk),x.1≠B+1):=yA (by
         have h1:=HLG.out
         have h2:=HGP.out
         intro x hx
         simp only [List.mem_cons,List.not_mem_nil,or_false] at hx
         rcases hx with rfl|rfl
         all_goals (dsimp only;omega))
        have HK6:=yA (HK.out.more #[.string SW,.int .i64 so,.int .i64 sb,.bool true,.int .i64 a0,.int .i64 a1,.int .i64 a2,.int .i64 a3,.int .i64 a4,.int .i64 a5,.int .i64 a6,.bool off,.int .i64 z,.int .i64 p] 46)
        rw [HGB.out] at HK6
        have hcb:=HK6.out.one _ (List.mem_cons_self ..)
        have b0:=yB hcb 0
        have b1:=yB hcb 1
        have b2:=yB hcb 2
        have b3:=yB hcb 3
        have b4:=yB hcb 4
        have b5:=yB hcb 5
        have b6:=yB hcb 6
        have b7:=yB hcb 7
        have b8:=yB hcb 8
        have b9:=yB hcb 9
        have b10:=yB hcb 10
        have b11:=yB hcb 11
        have b12:=yB hcb 12
        have b13:=yB hcb 13
        have hcp:=HK6.out.one (gp,#[.bool pb,.slice px pn pc,.slice py pm pd],44) (by simp)
        have q0:=yB hcp 0
        have q1:=yB hcp 1
        have q2:=yB hcp 2
        clear hcp
        clear hcb c0 c1 c2 c3 c4 c5 c6 c7 c8 c9 c10 c11 c12 c13
        have HK7:=yA (HK6.out.next (yJ _ _ nq))
        have HST:Hid (Keep w (((wr.alloc (.cells #[.string SW,.int .i64 so,.int .i64 sb,.bool true,.int .i64 a0,.int .i64 a1,.int .i64 a2,.int .i64 a3,.int .i64 a4,.int .i64 a5,.int .i64 a6,.bool off,.int .i64 z,.int .i64 p] 46)).drewN nq)).drew [(gb,#[.string SW,.int .i64 so,.int .i64 sb,.bool true,.int .i64 a0,.int .i64 a1,.int .i64 a2,.int .i64 a3,.int .i64 a4,.int .i64 a5,.int .i64 a6,.bool off,.int .i64 z,.int .i64 p],46),(gp,#[.bool pb,.slice px pn pc,.slice py pm pd],44)]∧BX 46 14 (((wr.alloc (.cells #[.string SW,.int .i64 so,.int .i64 sb,.bool true,.int .i64 a0,.int .i64 a1,.int .i64 a2,.int .i64 a3,.int .i64 a4,.int .i64 a5,.int .i64 a6,.bool off,.int .i64 z,.int .i64 p] 46)).drewN nq)).drew B∧BX 44 3 (((wr.alloc (.cells #[.string SW,.int .i64 so,.int .i64 sb,.bool true,.int .i64 a0,.int .i64 a1,.int .i64 a2,.int .i64 a3,.int .i64 a4,.int .i64 a5,.int .i64 a6,.bool off,.int .i64 z,.int .i64 p] 46)).drewN nq)).drew (B+1)∧zH (((wr.alloc (.cells #[.string SW,.int .i64 so,.int .i64 sb,.bool true,.int .i64 a0,.int .i64 a1,.int .i64 a2,.int .i64 a3,.int .i64 a4,.int .i64 a5,.int .i64 a6,.bool off,.int .i64 z,.int .i64 p] 46)).drewN nq)).drew (.agg #[.bool pb,.slice px pn pc,.slice py pm pd]) qp):=yA ⟨(HK7.out.sub (fun x hx=>by simp only [List.mem_cons,List.not_mem_nil,or_false] at hx ⊢;rcases hx with rfl|rfl<;>simp)).drew,(ye1 (HK7.out.one (B,#[.string ⟨#[]⟩,.int .i64 0,.int .i64 0,.bool false,.int .i64 0,.int .i64 0,.int .i64 0,.int .i64 0,.int .i64 0,.int .i64 0,.int .i64 0,.bool false,.int .i64 0,.int .i64 0],46) (by simp))).drew,(ypZ (HK7.out.one (B+1,#[.bool false,.slice none 0 0,.slice none 0 0],44) (by simp))).drew,((HQP.out.below (zK _ _)).below (yJ _ _ nq)).below (Below.refl _ _).drew⟩
        rw [HGB.out]
        have KB:Hid (∀ W,(Keep w W [(gb,#[.string SW,.int .i64 so,.int .i64 sb,.bool true,.int .i64 a0,.int .i64 a1,.int .i64 a2,.int .i64 a3,.int .i64 a4,.int .i64 a5,.int .i64 a6,.bool off,.int .i64 z,.int .i64 p],46),(gp,#[.bool pb,.slice px pn pc,.slice py pm pd],44)]∧BX 46 14 W B∧BX 44 3 W (B+1)∧zH W (.agg #[.bool pb,.slice px pn pc,.slice py pm pd]) qp)→((fun w'=>(Keep w w' [(gb,#[.string SW,.int .i64 so,.int .i64 sb,.bool true,.int .i64 a0,.int .i64 a1,.int .i64 a2,.int .i64 a3,.int .i64 a4,.int .i64 a5,.int .i64 a6,.bool off,.int .i64 z,.int .i64 p],46),(gp,#[.bool pb,.slice px pn pc,.slice py pm pd],44)]∧BX 46 14 w' B∧BX 44 3 w' (B+1)∧zH w' (.agg #[.bool pb,.slice px pn pc,.slice py pm pd]) qp)∧w'.cell? ⟨gb,0,none⟩=some (.string SW)∧w'.cell? ⟨gb,1,none⟩=some (.int .i64 so)∧w'.cell? ⟨gb,2,none⟩=some (.int .i64 sb)∧w'.cell? ⟨gb,3,none⟩=some (.bool true)∧w'.cell? ⟨gb,4,none⟩=some (.int .i64 a0)∧w'.cell? ⟨gb,5,none⟩=some (.int .i64 a1)∧w'.cell? ⟨gb,6,none⟩=some (.int .i64 a2)∧w'.cell? ⟨gb,7,none⟩=some (.int .i64 a3)∧w'.cell? ⟨gb,8,none⟩=some (.int .i64 a4)∧w'.cell? ⟨gb,9,none⟩=some (.int .i64 a5)∧w'.cell? ⟨gb,10,none⟩=some (.int .i64 a6)∧w'.cell? ⟨gb,11,none⟩=some (.bool off)∧w'.cell? ⟨gb,12,none⟩=some (.int .i64 z)∧w'.cell? ⟨gb,13,none⟩=some (.int .i64 p)∧w'.cell? ⟨gp,0,none⟩=some (.bool pb)∧w'.cell? ⟨gp,1,none⟩=some (.slice px pn pc)∧w'.cell? ⟨gp,2,none⟩=some (.slice py pm pd)) W)):=yA (fun W h=>⟨h,yB (h.1.one _ (List.mem_cons_self ..)) 0,yB (h.1.one _ (List.mem_cons_self ..)) 1,yB (h.1.one _ (List.mem_cons_self ..)) 2,yB (h.1.one _ (List.mem_cons_self ..)) 3,yB (h.1.one _ (List.mem_cons_self ..)) 4,yB (h.1.one _ (List.mem_cons_self ..)) 5,yB (h.1.one _ (List.mem_cons_self ..)) 6,yB (h.1.one _ (List.mem_cons_self ..)) 7,yB (h.1.one _ (List.mem_cons_self ..)) 8,yB (h.1.one _ (List.mem_cons_self ..)) 9,yB (h.1.one _ (List.mem_cons_self ..)) 10,yB (h.1.one _ (List.mem_cons_self ..)) 11,yB (h.1.one _ (List.mem_cons_self ..)) 12,yB (h.1.one _ (List.mem_cons_self ..)) 13,yB (h.1.one _ (List.mem_cons_of_mem _ (List.mem_cons_self ..))) 0,yB (h.1.one _ (List.mem_cons_of_mem _ (List.mem_cons_self ..))) 1,yB (h.1.one _ (List.mem_cons_of_mem _ (List.mem_cons_self ..))) 2⟩)
        refine wp_region_held_drew (S:=fun w'=>(Keep w w' [(gb,#[.string SW,.int .i64 so,.int .i64 sb,.bool true,.int .i64 a0,.int .i64 a1,.int .i64 a2,.int .i64 a3,.int .i64 a4,.int .i64 a5,.int .i64 a6,.bool off,.int .i64 z,.int .i64 p],46),(gp,#[.bool pb,.slice px pn pc,.slice py pm pd],44)]∧BX 46 14 w' B∧BX 44 3 w' (B+1)∧zH w' (.agg #[.bool pb,.slice px pn pc,.slice py pm pd]) qp)∧w'.cell? ⟨gb,0,none⟩=some (.string SW)∧w'.cell? ⟨gb,1,none⟩=some (.int .i64 so)∧w'.cell? ⟨gb,2,none⟩=some (.int .i64 sb)∧w'.cell? ⟨gb,3,none⟩=some (.bool true)∧w'.cell? ⟨gb,4,none⟩=some (.int .i64 a0)∧w'.cell? ⟨gb,5,none⟩=some (.int .i64 a1)∧w'.cell? ⟨gb,6,none⟩=some (.int .i64 a2)∧w'.cell? ⟨gb,7,none⟩=some (.int .i64 a3)∧w'.cell? ⟨gb,8,none⟩=some (.int .i64 a4)∧w'.cell? ⟨gb,9,none⟩=some (.int .i64 a5)∧w'.cell? ⟨gb,10,none⟩=some (.int .i64 a6)∧w'.cell? ⟨gb,11,none⟩=some (.bool off)∧w'.cell? ⟨gb,12,none⟩=some (.int .i64 z)∧w'.cell? ⟨gb,13,none⟩=some (.int .i64 p)∧w'.cell? ⟨gp,0,none⟩=some (.bool pb)∧w'.cell? ⟨gp,1,none⟩=some (.slice px pn pc)∧w'.cell? ⟨gp,2,none⟩=some (.slice py pm pd)) (by kernel_rfl) (KB.out _ HST.out) (fun hHeld=>?_)
        refine wpAnyH_take (i:=0) (v:=.agg #[.string SW,.int .i64 so,.int .i64 sb,.bool true,.int .i64 a0,.int .i64 a1,.int .i64 a2,.int .i64 a3,.int .i64 a4,.int .i64 a5,.int .i64 a6,.bool off,.int .i64 z,.int .i64 p]) rfl (by kernel_rfl) (by kernel_rfl) (by kernel_rfl) (fun _ _ _ h=>h) (Or.inl ⟨by rfl,by intro W hSw;clear hHeld;go_split_ands;go_simp⟩) (by assumption) ?_
        simp only [List.getElem_toArray,List.getElem_cons_zero,Act.put,List.setIfInBounds_toArray,List.set_cons_zero,List.set_cons_succ]
        refine wpAnyH_take (i:=1) (v:=.agg #[.bool pb,.slice px pn pc,.slice py pm pd]) rfl (by kernel_rfl) (by kernel_rfl) (by kernel_rfl) (fun _ _ _ h=>h) (Or.inl ⟨by rfl,by intro W hSw;clear hHeld;go_split_ands;go_simp⟩) (by assumption) ?_
        simp only [List.getElem_toArray,List.getElem_cons_zero,List.getElem_cons_succ,Act.put,List.setIfInBounds_toArray,List.set_cons_zero,List.set_cons_succ]
        refine wpAnyH_take (i:=2) (v:=.pointer (some ⟨gb,1,none⟩)) rfl (by kernel_rfl) (by kernel_rfl) (by kernel_rfl) (fun _ _ _ h=>h) (Or.inl ⟨by rfl,by intro W hSw;clear hHeld;go_split_ands;go_simp⟩) (by assumption) ?_
        simp only [List.getElem_toArray,List.getElem_cons_zero,List.getElem_cons_succ,Act.put,List.setIfInBounds_toArray,List.set_cons_zero,List.set_cons_succ]
        refine wpAnyH_take (i:=3) (v:=.int .i64 so) rfl (by kernel_rfl) (by kernel_rfl) (by kernel_rfl) (fun _ _ _ h=>h) (Or.inl ⟨by rfl,by intro W hSw;clear hHeld;go_split_ands;go_simp⟩) (by assumption) ?_
        simp only [List.getElem_toArray,List.getElem_cons_zero,List.getElem_cons_succ,Act.put,List.setIfInBounds_toArray,List.set_cons_zero,List.set_cons_succ]
        refine wpAnyH_take (i:=4) (v:=.pointer (some ⟨gb,2,none⟩)) rfl (by kernel_rfl) (by kernel_rfl) (by kernel_rfl) (fun _ _ _ h=>h) (Or.inl ⟨by rfl,by intro W hSw;clear hHeld;go_split_ands;go_simp⟩) (by assumption) ?_
        simp only [List.getElem_toArray,List.getElem_cons_zero,List.getElem_cons_succ,Act.put,List.setIfInBounds_toArray,List.set_cons_zero,List.set_cons_succ]
        refine wpAnyH_take (i:=5) (v:=.int .i64 sb) rfl (by kernel_rfl) (by kernel_rfl) (by kernel_rfl) (fun _ _ _ h=>h) (Or.inl ⟨by rfl,by intro W hSw;clear hHeld;go_split_ands;go_simp⟩) (by assumption) ?_
        simp only [List.getElem_toArray,List.getElem_cons_zero,List.getElem_cons_succ,Act.put,List.setIfInBounds_toArray,List.set_cons_zero,List.set_cons_succ]
        refine wpAnyH_ready (rs:=[6]) (by kernel_rfl) (by simp) ?_
        refine AllReadyH.cons (i:=6) rfl (fun K hK=>?_) AllReadyH.nil
        go_simp
        refine (HFR.out _).mono ?_
        rintro e v1 ⟨x1,rfl,hx1,hb1⟩
        obtain ⟨qx,qn,qc,qy,qm,qd,rfl,-,-⟩:=hx1.slices
        rw [← HSG.out] at hx1 ⊢
        go_simp
        refine hK.out _ _ (KB.out _ ⟨hHeld.1.1.next hb1,hHeld.1.2.1.below hb1,hHeld.1.2.2.1.below hb1,hHeld.1.2.2.2.below hb1⟩) (fun hHeld=>?_)
        clear hK K
        refine wpAnyH_ready (rs:=[7]) (by kernel_rfl) (by simp) ?_
        refine AllReadyH.cons (i:=7) rfl (fun K hK=>?_) AllReadyH.nil
        go_simp
        refine (HPR.out _ _ _ hHeld.1.2.2.2 hx1).mono ?_
        rintro e v2 ⟨x2,rfl,hx2,hb2⟩
        obtain ⟨rx,rn,rc,ry,rm,rd,rfl,-,-⟩:=hx2.slices
        rw [← HSH.out] at hx2 ⊢
        go_simp
        refine hK.out _ _ (KB.out _ ⟨hHeld.1.1.next hb2,hHeld.1.2.1.below hb2,hHeld.1.2.2.1.below hb2,hHeld.1.2.2.2.below hb2⟩) (fun hHeld=>?_)
        clear hK K
        obtain ⟨z0,k0,e0⟩:=hHeld.1.2.1.slot 0 (by omega)
        obtain ⟨z1,k1,e1⟩:=hHeld.1.2.1.slot 1 (by omega)
        obtain ⟨z2,k2,e2⟩:=hHeld.1.2.1.slot 2 (by omega)
        obtain ⟨z3,k3,e3⟩:=hHeld.1.2.1.slot 3 (by omega)
        obtain ⟨z4,k4,e4⟩:=hHeld.1.2.1.slot 4 (by omega)
        obtain ⟨z5,k5,e5⟩:=hHeld.1.2.1.slot 5 (by omega)
        obtain ⟨z6,k6,e6⟩:=hHeld.1.2.1.slot 6 (by omega)
        obtain ⟨z7,k7,e7⟩:=hHeld.1.2.1.slot 7 (by omega)
        obtain ⟨z8,k8,e8⟩:=hHeld.1.2.1.slot 8 (by omega)
        obtain ⟨z9,k9,e9⟩:=hHeld.1.2.1.slot 9 (by omega)
        obtain ⟨z10,k10,e10⟩:=hHeld.1.2.1.slot 10 (by omega)
        obtain ⟨z11,k11,e11⟩:=hHeld.1.2.1.slot 11 (by omega)
        obtain ⟨z12,k12,e12⟩:=hHeld.1.2.1.slot 12 (by omega)
        obtain ⟨z13,k13,e13⟩:=hHeld.1.2.1.slot 13 (by omega)
        have st1:=yA (St.all hHeld.1.2.1 [.string SW,.int .i64 so,.int .i64 sb,.bool true,.int .i64 a0,.int .i64 a1,.int .i64 a2,.int .i64 a3,.int .i64 a4,.int .i64 a5,.int .i64 a6,.bool off,.int .i64 z,.int .i64 p] (yin SW so sb true a0 a1 a2 a3 a4 a5 a6 off z p))
        have hS1:=yA (KB.out _ ⟨st1.out.keep w _ HBL.out HNE.out hHeld.1.1,st1.out.box,st1.out.other 44 3 (B+1) (by omega) hHeld.1.2.2.1,st1.out.nums _ _ hHeld.1.2.2.2⟩)
        refine wpAnyH_ready (rs:=[8]) (by kernel_rfl) (by simp) ?_
        refine AllReadyH.cons (i:=8) rfl (fun K hK=>?_) AllReadyH.nil
        go_simp
        refine hK.out _ _ hS1.out (fun hHeld=>?_)
        clear hK K
        obtain ⟨y0,j0,f0⟩:=hHeld.1.2.2.1.slot 0 (by omega)
        obtain ⟨y1,j1,f1⟩:=hHeld.1.2.2.1.slot 1 (by omega)
        obtain ⟨y2,j2,f2⟩:=hHeld.1.2.2.1.slot 2 (by omega)
        have st2:=yA (St.all hHeld.1.2.2.1 [.bool sg2,.slice rx rn rc,.slice ry rm rd] (yp0 _ _ _ _ _ _ _))
        have hS2:=yA (KB.out _ ⟨st2.out.keep w _ yp1.out yrq.out hHeld.1.1,st2.out.other 46 14 B (by omega) hHeld.1.2.1,st2.out.box,st2.out.nums _ _ hHeld.1.2.2.2⟩)
        have hQF:=yA (st2.out.nums _ _ (st1.out.nums _ _ hx2))
        refine wpAnyH_ready (rs:=[9]) (by kernel_rfl) (by simp) ?_
        refine AllReadyH.cons (i:=9) rfl (fun K hK=>?_) AllReadyH.nil
        go_simp
        refine hK.out _ _ hS2.out (fun hHeld=>?_)
        clear hK K
        refine wpAnyH_take (i:=10) (v:=.bool true) rfl (by kernel_rfl) (by kernel_rfl) (by kernel_rfl) (fun _ _ _ h=>h) (Or.inl ⟨by rfl,by intro W hSw;clear hHeld;go_split_ands;go_simp⟩) (by assumption) ?_
        simp only [List.getElem_toArray,List.getElem_cons_zero,List.getElem_cons_succ,Act.put,List.setIfInBounds_toArray,List.set_cons_zero,List.set_cons_succ]
        refine wpAnyH_done (by kernel_rfl) ?_ _
        have HBF:=yA hHeld.1.1.below
        clear hHeld hS1 hS2 st1 st2
        go_wp2_with fail
        refine bodyPost_ret (v:=.tuple #[.agg #[.string SW,.int .i64 so,.int .i64 sb,.bool true,.int .i64 a0,.int .i64 a1,.int .i64 a2,.int .i64 a3,.int .i64 a4,.int .i64 a5,.int .i64 a6,.bool off,.int .i64 z,.int .i64 p],.agg #[.bool sg2,.slice rx rn rc,.slice ry rm rd],.bool true]) (by simp [results,Tryz.results64,go_sem,k0,k1,k2,k3,k4,k5,k6,k7,k8,k9,k10,k11,k12,k13,j0,j1,j2]) rfl ?_
        exact ⟨SW,so,sb,true,a0,a1,a2,a3,a4,a5,a6,off,z,p,sg2,rx,rn,rc,ry,rm,rd,by rw [HFT.out];rfl,HBF.out,fun s' r' h=>by
         rw [HFT.out] at h
         cases h
         rw [HWD.out,HR.out]
         exact ⟨rfl,hQF.out⟩⟩
     ·obtain rfl:k=20:=by omega
      have yip:Hid (jU l=none):=yA (by
       unfold jU
       rw [HN.out,HLC.out]
       simp only
       split
       ·rfl
       ·rename_i h
        rw [HF.out (by rw [← HOK.out];simpa using h)];rfl)
      have HZ:Hid (BX 46 14 wr B∧BX 44 3 wr (B+1)∧Below w.heap.size w wr):=yA ⟨ye1 (HK.out.one (B,#[.string ⟨#[]⟩,.int .i64 0,.int .i64 0,.bool false,.int .i64 0,.int .i64 0,.int .i64 0,.int .i64 0,.int .i64 0,.int .i64 0,.int .i64 0,.bool false,.int .i64 0,.int .i64 0],46) (by simp)),ypZ (HK.out.one (B+1,#[.bool false,.slice none 0 0,.slice none 0 0],44) (by simp)),HK.out.below⟩
      clear HF hk hlt
      obtain ⟨z0,k0,e0⟩:=HZ.out.1.slot 0 (by omega)
      obtain ⟨z1,k1,e1⟩:=HZ.out.1.slot 1 (by omega)
      obtain ⟨z2,k2,e2⟩:=HZ.out.1.slot 2 (by omega)
      obtain ⟨z3,k3,e3⟩:=HZ.out.1.slot 3 (by omega)
      obtain ⟨z4,k4,e4⟩:=HZ.out.1.slot 4 (by omega)
      obtain ⟨z5,k5,e5⟩:=HZ.out.1.slot 5 (by omega)
      obtain ⟨z6,k6,e6⟩:=HZ.out.1.slot 6 (by omega)
      obtain ⟨z7,k7,e7⟩:=HZ.out.1.slot 7 (by omega)
      obtain ⟨z8,k8,e8⟩:=HZ.out.1.slot 8 (by omega)
      obtain ⟨z9,k9,e9⟩:=HZ.out.1.slot 9 (by omega)
      obtain ⟨z10,k10,e10⟩:=HZ.out.1.slot 10 (by omega)
      obtain ⟨z11,k11,e11⟩:=HZ.out.1.slot 11 (by omega)
      obtain ⟨z12,k12,e12⟩:=HZ.out.1.slot 12 (by omega)
      obtain ⟨z13,k13,e13⟩:=HZ.out.1.slot 13 (by omega)
      obtain ⟨y0,j0,f0⟩:=HZ.out.2.1.slot 0 (by omega)
      obtain ⟨y1,j1,f1⟩:=HZ.out.2.1.slot 1 (by omega)
      obtain ⟨y2,j2,f2⟩:=HZ.out.2.1.slot 2 (by omega)
      have st1:=yA (St.all HZ.out.1 [.string ⟨#[]⟩,.int .i64 0,.int .i64 0,.bool false,.int .i64 0,.int .i64 0,.int .i64 0,.int .i64 0,.int .i64 0,.int .i64 0,.int .i64 0,.bool false,.int .i64 0,.int .i64 0] (yin _ _ _ _ _ _ _ _ _ _ _ _ _ _))
      have st2:=yA (St.all (st1.out.other 44 3 (B+1) (by omega) HZ.out.2.1) [.bool false,.slice none 0 0,.slice none 0 0] (yp0 _ _ _ _ _ _ _))
      have HBF:=yA (st2.out.keep w [] yp1.out (fun x hx=>by cases hx) (st1.out.keep w [] HBL.out (fun x hx=>by cases hx) ⟨HZ.out.2.2,fun x hx=>by cases hx⟩)).below
      clear st1 st2 HZ
      go_wp2_with fail
      refine bodyPost_ret (v:=.tuple #[.agg #[.string ⟨#[]⟩,.int .i64 0,.int .i64 0,.bool false,.int .i64 0,.int .i64 0,.int .i64 0,.int .i64 0,.int .i64 0,.int .i64 0,.int .i64 0,.bool false,.int .i64 0,.int .i64 0],.agg #[.bool false,.slice none 0 0,.slice none 0 0],.bool false]) (by simp [results,Tryz.results64,go_sem,k0,k1,k2,k3,k4,k5,k6,k7,k8,k9,k10,k11,k12,k13,j0,j1,j2]) rfl ?_
      exact ⟨_,_,_,_,_,_,_,_,_,_,_,_,_,_,_,_,_,_,_,_,_,by rw [yip.out];rfl,HBF.out,fun s' r' h=>by rw [yip.out] at h;cases h⟩
end Go.Proofs.YtfjnipkpfbkegaaGreatDoor
