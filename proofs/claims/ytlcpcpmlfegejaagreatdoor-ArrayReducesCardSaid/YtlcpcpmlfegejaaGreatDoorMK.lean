/- The program's along where there is no shape; its checkAlong. -/
import Derived.Test.YtlcpcpmlfegejaaGreatDoorMI
import Derived.Test.YtlcpcpmlfegejaaGreatDoorME
import Derived.Test.YtlcpcpmlfegejaaGreatDoorGM
import Derived.Test.YtlcpcpmlfegejaaGreatDoorZVQ
import Derived.Deep.RegionHeld3
import Derived.Test.YtlcpcpmlfegejaaGreatDoorHB
set_option maxHeartbeats 4000000
set_option maxRecDepth 100000
namespace Go.Proofs.YtlcpcpmlfegejaaGreatDoor.Arr
open Go.RowKit Go.Shelf
open Go.Lib
attribute [local go_sem] Oper.semAt_some
theorem along_no (pb po c d n N a k:Nat) (q:Option Addr) (red:Int) (s:List Nat) (pf:FuncId) (pcap:Array Value) (w:World)
  (hn:n≤4) (hs:Hid (s.length=n)) (hsb:Hid (∀ x ∈ s,x≤1024)) (ha:a<n) (hk:k≤1024) (hvs:Hid (vs ((s.set a k).map Int.ofNat)=false)) (hp:Hid (RdN w (some ⟨pb,po,none⟩) s)) :
  Calls Tryz.prog 33 #[.agg #[.slice (some ⟨pb,po,none⟩) n c,.slice q N d],.int .i64 (a:Int),.int .i64 red,.int .i64 (k:Int),.func (.func pf) #[] pcap] w fun e w'=>Below w.heap.size w w'∧e=.returned (.tuple #[.agg #[.slice none 0 0,.slice none 0 0],.int .i64 60]):=by
 have hni:(n:Int)≤4:=by omega
 have hai:(a:Int)<(n:Int):=by omega
 have hki:(k:Int)≤1024:=by omega
 have HAN:=Lib.hid ha
 have HKB:=Lib.hid hk
 obtain ⟨A,HA⟩:∃ A,Hid (w.heap.size=A):=⟨_,Lib.hid rfl⟩
 obtain ⟨W0,HW0⟩:∃ W0,Hid ((((w.alloc (.cells #[.slice (some ⟨pb,po,none⟩) n c,.slice q N d] 31)).alloc (.cells #[.int .i64 (a:Int)] 3)).alloc (.cells #[.func (.func pf) #[] pcap] 72)).alloc (.cells #[.slice none 0 0,.slice none 0 0] 31)=W0):=⟨_,Lib.hid rfl⟩
 have HB0:Hid (Below w.heap.size w W0):=Lib.hid (by rw [← HW0.out];exact ((((Below.refl _ w).alloc (Nat.le_refl _) _).alloc (by simp) _).alloc (by simp;omega) _).alloc (by simp;omega) _)
 have HS0:Hid (W0.heap.size=A+1+1+1+1):=Lib.hid (by rw [← HW0.out,← HA.out];simp)
 have HA0:Hid (W0.heap[A]?=some (.cells #[.slice (some ⟨pb,po,none⟩) n c,.slice q N d] 31 (0,0))):=Lib.hid (by
  rw [← HW0.out,← HA.out]
  simp only [World.alloc,Array.getElem?_push,Array.size_push]
  repeat' (first|rw [if_pos (by omega)] | rw [if_neg (by omega)] | rfl))
 have HA1:Hid (W0.heap[A+1]?=some (.cells #[.int .i64 (a:Int)] 3 (0,0))):=Lib.hid (by
  rw [← HW0.out,← HA.out]
  simp only [World.alloc,Array.getElem?_push,Array.size_push]
  repeat' (first|rw [if_pos (by omega)] | rw [if_neg (by omega)] | rfl))
 have HA3:Hid (W0.heap[A+1+1+1]?=some (.cells #[.slice none 0 0,.slice none 0 0] 31 (0,0))):=Lib.hid (by
  rw [← HW0.out,← HA.out]
  simp only [World.alloc,Array.getElem?_push,Array.size_push]
  repeat' (first|rw [if_pos (by omega)] | rw [if_neg (by omega)] | rfl))
 have HBX:Hid (∀ W',Below W0.heap.size W0 W'→Below w.heap.size w W'∧W'.heap[A]?=some (.cells #[.slice (some ⟨pb,po,none⟩) n c,.slice q N d] 31 (0,0))∧W'.heap[A+1]?=some (.cells #[.int .i64 (a:Int)] 3 (0,0))∧W'.heap[A+1+1+1]?=some (.cells #[.slice none 0 0,.slice none 0 0] 31 (0,0))):=Lib.hid (fun W' hb =>
  ⟨HB0.out.trans (hb.mono HB0.out.size),(hb.block _ (by rw [HS0.out];omega)).trans HA0.out,(hb.block _ (by rw [HS0.out];omega)).trans HA1.out,(hb.block _ (by rw [HS0.out];omega)).trans HA3.out⟩)
 have HCL:=Lib.hid (clone_row ⟨pb,po,none⟩ n c s W0 hs hn (by omega) hsb (hp.out.below HB0.out))
 obtain ⟨-,x0,x1,-⟩:=HBX.out W0 (Below.refl _ _)
 have a0:W0.cell? ⟨A,0,none⟩=some (.slice (some ⟨pb,po,none⟩) n c):=ceh x0 0
 have HLE:Hid (w.heap.size≤A):=Lib.hid (by rw [HA.out];exact Nat.le_refl _)
 clear ha hk x0 x1
 go_enter Tryz.func33,Tryz.ntmps33
 go_wp2_with fail
 rw [HW0.out,HA.out]
 go_wp2_with fail
 refine HCL.out.mono ?_
 rintro e wa ⟨hba,b1,d1,rfl,hra,hd1,hb1,cur,hcur⟩
 have HBA:=Lib.hid hba
 have HB1:Hid (W0.heap.size≤b1∧b1<wa.heap.size):=Lib.hid ⟨hb1,(Array.getElem?_eq_some_iff.1 hcur).1⟩
 obtain ⟨-,-,x1,-⟩:=HBX.out wa hba
 have a1:wa.cell? ⟨A+1,0,none⟩=some (.int .i64 (a:Int)):=ceh x1 0
 obtain ⟨v0,c0⟩:∃ v0,wa.cell? ⟨b1,a,none⟩=some v0:=by
  obtain ⟨b',off',x,e1,-,h3,-⟩:=hra.at (k:=a) (by rw [hs.out];exact HAN.out)
  cases e1
  rw [Nat.zero_add] at h3
  exact ⟨_,h3⟩
 have f0:wa.frozen? ⟨b1,a,none⟩=false:=foh hcur _
 obtain ⟨wb,HWB⟩:∃ wb,Hid (wa.setCell ⟨b1,a,none⟩ (.int .i64 (k:Int))=wb):=⟨_,Lib.hid rfl⟩
 have HBB:Hid (Below W0.heap.size W0 wb):=Lib.hid (by rw [← HWB.out];exact setCell_below hba hb1)
 have HVS:Hid (Calls Tryz.prog 79 #[.slice (some ⟨b1,0,none⟩) n d1] wb fun e w'=>wb=w'∧e=.returned (.bool false)):=Lib.hid (by
  have h:=rdn_set (v:=k) hra (by rw [hs.out];exact HAN.out) (by have:=HKB.out;omega)
  rw [Nat.zero_add,HWB.out] at h
  have:=vshape_any (some ⟨b1,0,none⟩) d1 ((s.set a k).map Int.ofNat) wb h
  rwa [List.length_map,List.length_set,hs.out,hvs.out] at this)
 clear hba hra hd1 hb1 hcur x1 a0
 go_wp2_with fail
 rw [HWB.out]
 refine HVS.out.mono ?_
 rintro e w' ⟨rfl,rfl⟩
 clear a1 c0 f0
 obtain ⟨hbw,-,-,y1⟩:=HBX.out wb HBB.out
 have r0:wb.cell? ⟨A+1+1+1,0,none⟩=some (.slice none 0 0):=ceh y1 0
 have r1:wb.cell? ⟨A+1+1+1,1,none⟩=some (.slice none 0 0):=ceh y1 1
 have z0:wb.frozen? ⟨A+1+1+1,0,none⟩=false:=foh y1 0
 have z1:wb.frozen? ⟨A+1+1+1,1,none⟩=false:=foh y1 1
 have hE1:=heap_set wb (A+1+1+1) 0 (.slice none 0 0) _ _ y1
 have hE2:=heap_set _ (A+1+1+1) 1 (.slice none 0 0) _ _ hE1
 obtain ⟨W7,HW7⟩:∃ W7,Hid ((wb.setCell ⟨A+1+1+1,0,none⟩ (.slice none 0 0)).setCell ⟨A+1+1+1,1,none⟩ (.slice none 0 0)=W7):=⟨_,Lib.hid rfl⟩
 rw [HW7.out] at hE2
 have k0:W7.cell? ⟨A+1+1+1,0,none⟩=some (.slice none 0 0):=ceh hE2 0
 have k1:W7.cell? ⟨A+1+1+1,1,none⟩=some (.slice none 0 0):=ceh hE2 1
 have HFIN:Hid (Below w.heap.size w W7):=Lib.hid (by
  have:=HLE.out
  rw [← HW7.out]
  exact (hbw.setCell (p:=⟨A+1+1+1,0,none⟩) (by show w.heap.size≤A+1+1+1;omega) _).setCell (p:=⟨A+1+1+1,1,none⟩) (by show w.heap.size≤A+1+1+1;omega) _)
 clear hE1 hE2 y1 hbw
 go_wp2_with fail
 (try simp only [Exit.inBlock,Exit.then])
 rw [HW7.out]
 refine bodyPost_ret (v:=.tuple #[.agg #[.slice none 0 0,.slice none 0 0],.int .i64 60]) ?_ rfl ⟨HFIN.out,rfl⟩
 rw [results_cell_tmp rfl]
 go_simp
def chkV (s:List Int) (l:List (List UInt8)) (a red:Int):Int:=if validA s l=true then if (0≤a∧a<s.length)∧(1≤red∧red≤5) then 0 else 2 else 60
theorem check_any (p q:Option Addr) (c d n m:Nat) (s:List Int) (l:List (List UInt8)) (a red:Int) (w:World) (he:Env w) (hs:Hid (s.length=n)) (hl:Hid (l.length=m)) (hn:n≤5000) (hm:m≤5000) (hp:Rd w p s) (hq:RdS w q l) :
  Calls Tryz.prog 30 #[.agg #[.slice p n c,.slice q m d],.int .i64 a,.int .i64 red] w fun e w'=>Below w.heap.size w w'∧e=.returned (.int .i64 (chkV s l a red)):=by
 have hni:(n:Int)≤5000:=by omega
 obtain ⟨A,HA⟩:∃ A,Hid (w.heap.size=A):=⟨_,Lib.hid rfl⟩
 obtain ⟨W0,HW0⟩:∃ W0,Hid (w.alloc (.cells #[.slice p n c,.slice q m d] 31)=W0):=⟨_,Lib.hid rfl⟩
 have HB0:Hid (Below w.heap.size w W0):=Lib.hid (by rw [← HW0.out];exact (Below.refl _ w).alloc (Nat.le_refl _) _)
 have HA0:Hid (W0.heap[A]?=some (.cells #[.slice p n c,.slice q m d] 31 (0,0))):=Lib.hid (by rw [← HW0.out,← HA.out];exact World.alloc_heap_new _ _)
 have x0:W0.cell? ⟨A,0,none⟩=some (.slice p n c):=ceh HA0.out 0
 have x1:W0.cell? ⟨A,1,none⟩=some (.slice q m d):=ceh HA0.out 1
 have HV:Hid (Calls Tryz.prog 50 #[.agg #[.slice p n c,.slice q m d]] W0 fun e w'=>Below W0.heap.size W0 w'∧e=.returned (.bool (validA s l))):=Lib.hid (valid_any p q c d n m s l W0 (he.below HB0.out) hs hl hm (hp.below HB0.out) (hq.below HB0.out))
 clear he hp hq
 have HKEEP:Hid (∀ W,Below W0.heap.size W0 W→Below w.heap.size w W∧W.cell? ⟨A,0,none⟩=some (.slice p n c)):=Lib.hid (fun W hW=>⟨HB0.out.trans (hW.mono HB0.out.size),ceh ((hW.block A (Array.getElem?_eq_some_iff.1 HA0.out).1).trans HA0.out) 0⟩)
 by_cases hv:validA s l=true
 case neg =>
  have e0:chkV s l a red=60:=by unfold chkV;rw [if_neg hv]
  have e1:validA s l=false:=by simpa using hv
  rw [e0]
  rw [e1] at HV
  clear hv e0 e1
  go_enter Tryz.func30,Tryz.ntmps30
  go_wp2_with fail
  rw [HW0.out,HA.out]
  refine (HV.out).mono ?_
  rintro e w1 ⟨hb1,rfl⟩
  have HB1:=Lib.hid (HKEEP.out w1 hb1).1
  clear hb1
  go_wp2_with fail
  go_ret
  exact ⟨HB1.out,rfl⟩
 have HZ:Hid (chkV s l a red=if (0≤a∧a<n)∧(1≤red∧red≤5) then 0 else 2):=Lib.hid (by unfold chkV;rw [if_pos hv,hs.out])
 rw [hv] at HV
 clear hv
 rw [HZ.out]
 by_cases h1:a<0
 ·rw [if_neg (by omega)]
  go_enter Tryz.func30,Tryz.ntmps30
  go_wp2_with fail
  rw [HW0.out,HA.out]
  refine (HV.out).mono ?_
  rintro e w1 ⟨hb1,rfl⟩
  have HB1:=Lib.hid (HKEEP.out w1 hb1).1
  clear hb1 x0 x1
  go_wp2_with fail
  go_ret
  exact ⟨HB1.out,rfl⟩
 by_cases h2:(n:Int)≤a
 ·rw [if_neg (by omega)]
  go_enter Tryz.func30,Tryz.ntmps30
  go_wp2_with fail
  rw [HW0.out,HA.out]
  refine (HV.out).mono ?_
  rintro e w1 ⟨hb1,rfl⟩
  obtain ⟨hbw,y0⟩:=HKEEP.out w1 hb1
  have HB1:=Lib.hid hbw
  clear hb1 x0 x1 hbw
  go_wp2_with fail
  go_ret
  exact ⟨HB1.out,rfl⟩
 by_cases h3:1≤red∧red≤5
 ·rw [if_pos (by omega)]
  obtain ⟨F,-,hRED⟩:=reduction_any red h3.1 h3.2
  have HRED:=Lib.hid hRED
  have hf:=fn_some (.func F) #[] #[]
  clear hRED
  clear h3
  go_enter Tryz.func30,Tryz.ntmps30
  go_wp2_with fail
  rw [HW0.out,HA.out]
  refine (HV.out).mono ?_
  rintro e w1 ⟨hb1,rfl⟩
  obtain ⟨hbw,y0⟩:=HKEEP.out w1 hb1
  have HB1:=Lib.hid hbw
  clear hb1 x0 x1 hbw
  go_wp2_with fail
  refine (HRED.out w1).mono ?_
  rintro e w' ⟨rfl,rfl⟩
  clear y0
  go_wp2_with fail
  go_ret
  exact ⟨HB1.out,rfl⟩
 ·rw [if_neg (by omega)]
  have HRED:=Lib.hid (reduction_no red (by omega))
  have hf:=fn_nil
  clear h3
  go_enter Tryz.func30,Tryz.ntmps30
  go_wp2_with fail
  rw [HW0.out,HA.out]
  refine (HV.out).mono ?_
  rintro e w1 ⟨hb1,rfl⟩
  obtain ⟨hbw,y0⟩:=HKEEP.out w1 hb1
  have HB1:=Lib.hid hbw
  clear hb1 x0 x1 hbw
  go_wp2_with fail
  refine (HRED.out w1).mono ?_
  rintro e w' ⟨rfl,rfl⟩
  clear y0
  go_wp2_with fail
  go_ret
  exact ⟨HB1.out,rfl⟩
end Go.Proofs.YtlcpcpmlfegejaaGreatDoor.Arr
set_option maxHeartbeats 8000000
set_option maxRecDepth 100000
namespace Go.Proofs.YtlcpcpmlfegejaaGreatDoor.Arr
open Go.RowKit Go.Shelf
open Go.Lib
attribute [local go_sem] Oper.semAt_some
theorem risred_yes (red:Int) (h1:1≤red) (h5:red≤5) (W:World):Calls Tryz.prog 28 #[.int .i64 red] W fun e w'=>W=w'∧e=.returned (.bool true):=by
 have d1:decide (1≤red)=true:=by simpa using h1
 have d2:decide (red≤5)=true:=by simpa using h5
 clear h1 h5
 go_enter Tryz.func28,Tryz.ntmps28
 go_wp2_with fail
 go_ret
 exact ⟨rfl,by first|rfl|simp⟩
theorem risred_no (red:Int) (h:red<1∨5<red) (W:World):Calls Tryz.prog 28 #[.int .i64 red] W fun e w'=>W=w'∧e=.returned (.bool false):=by
 by_cases h1:red<1
 ·have d1:decide (1≤red)=false:=by simp;omega
  clear h h1
  go_enter Tryz.func28,Tryz.ntmps28
  go_wp2_with fail
  go_ret
  exact ⟨rfl,by first|rfl|simp⟩
 ·have d1:decide (1≤red)=true:=by simp;omega
  have d2:decide (red≤5)=false:=by simp;omega
  clear h h1
  go_enter Tryz.func28,Tryz.ntmps28
  go_wp2_with fail
  go_ret
  exact ⟨rfl,by first|rfl|simp⟩
theorem rdsq_of {W:World} {p:Option Addr} {l:List (List UInt8)} (h:RdS W p l):RdSQ W p l:=by
 rcases h with h|h
 ·exact .inl (List.length_eq_zero_iff.1 h)
 ·exact .inr h
def TotPost (q:Rat) (k:Nat) (w:World) (e:Ending) (w':World):Prop:=∃ s p n c r m d,e=.returned (.tuple #[.agg #[.bool s,.slice p n c,.slice r m d],.int .i64 (k:Int)])∧QAt w' (.agg #[.bool s,.slice p n c,.slice r m d]) q∧Below w.heap.size w w'
theorem rredn_1 (p:Option Addr) (n c k:Nat) (q:Rat) (w:World) (HT:Hid (Calls Tryz.prog 71 #[.slice p n c] w (TotPost q k w))) (HLT:Hid (QLt 7000 q)):Calls Tryz.prog 29 #[.slice p n c,.int .i64 1] w (TxtPost (txt q) w):=by
 unfold TxtPost
 go_enter Tryz.func29,Tryz.ntmps29
 go_wp2_with fail
 refine HT.out.mono ?_
 rintro e w2 ⟨s,p1,n1,c1,r1,m1,d1,rfl,hq,hb⟩
 have HQ:=Lib.hid hq
 have HBX:=Lib.hid (hb.trans ((bea w2 (.cells #[.bool s,.slice p1 n1 c1,.slice r1 m1 d1] 100)).mono hb.size))
 have HP:=Lib.hid (put_any _ _ 7000 (w2.alloc (.cells #[.bool s,.slice p1 n1 c1,.slice r1 m1 d1] 100)) (by omega) HLT.out (HQ.out.below (bea _ _)))
 clear hq hb
 go_wp2_with fail
 refine HP.out.mono ?_
 rintro e w3 ⟨rfl,hb3⟩
 have HB3:=Lib.hid (HBX.out.trans (hb3.mono HBX.out.size))
 clear hb3
 go_wp2_with fail
 go_ret
 exact ⟨rfl,HB3.out⟩
theorem rredn_5 (p:Option Addr) (n c k:Nat) (q:Rat) (w:World) (hk:k≤1000) (HT:Hid (Calls Tryz.prog 71 #[.slice p n c] w (TotPost q k w))):Calls Tryz.prog 29 #[.slice p n c,.int .i64 5] w (TxtPost (itoa k) w):=by
 have hk2:(k:Int)≤1000:=by omega
 have HF:=Lib.hid (rfromInt_any (k:Int) (Lib.hid (by omega)))
 unfold TxtPost
 go_enter Tryz.func29,Tryz.ntmps29
 go_wp2_with fail
 refine HT.out.mono ?_
 rintro e w2 ⟨s,p1,n1,c1,r1,m1,d1,rfl,hq,hb⟩
 have HBX:=Lib.hid (hb.trans ((bea w2 (.cells #[.bool s,.slice p1 n1 c1,.slice r1 m1 d1] 100)).mono hb.size))
 clear hq hb
 go_wp2_with fail
 refine (HF.out _).mono ?_
 rintro e w3 ⟨rfl,hb3⟩
 have HB3:=Lib.hid (HBX.out.trans (hb3.mono HBX.out.size))
 clear hb3
 go_wp2_with fail
 go_ret
 exact ⟨rfl,HB3.out⟩
theorem rredn_20 (p:Option Addr) (n c:Nat) (q:Rat) (w:World) (HT:Hid (Calls Tryz.prog 71 #[.slice p n c] w (TotPost q 0 w))):Calls Tryz.prog 29 #[.slice p n c,.int .i64 2] w (TxtPost [] w):=by
 unfold TxtPost
 go_enter Tryz.func29,Tryz.ntmps29
 go_wp2_with fail
 refine HT.out.mono ?_
 rintro e w2 ⟨s,p1,n1,c1,r1,m1,d1,rfl,hq,hb⟩
 have HBX:=Lib.hid (hb.trans ((bea w2 (.cells #[.bool s,.slice p1 n1 c1,.slice r1 m1 d1] 100)).mono hb.size))
 clear hq hb
 go_wp2_with fail
 go_ret
 exact ⟨rfl,HBX.out⟩
theorem nat_lt9 {k:Nat} (hk:k≤1000):QLt 1 ((k:Int):Rat):=⟨by rw [Rat.num_intCast,Big.B9_eq];omega,by rw [Rat.den_intCast,Big.B9_eq];omega⟩
theorem rredn_21 (p:Option Addr) (n c k:Nat) (q:Rat) (w:World) (hk:k≤1000) (h0:0<k) (HT:Hid (Calls Tryz.prog 71 #[.slice p n c] w (TotPost q k w))) (HLT:Hid (QLt 7000 q)):Calls Tryz.prog 29 #[.slice p n c,.int .i64 2] w (TxtPost (txt (q/((k:Int):Rat))) w):=by
 have hk2:(k:Int)≤1000:=by omega
 have hk1:(1:Int)≤(k:Int):=by omega
 have he:((k:Int)==0)=false:=by simp;omega
 have HIN:=Lib.hid (fun W=>intq_any (k:Int) W (by omega) (by omega))
 have HKL:=Lib.hid (nat_lt9 hk)
 obtain ⟨T,HTX⟩:∃ T,Hid (txt (q/((k:Int):Rat))=T):=⟨_,Lib.hid rfl⟩
 rw [HTX.out]
 unfold TxtPost
 go_enter Tryz.func29,Tryz.ntmps29
 go_wp2_with fail
 refine HT.out.mono ?_
 rintro e w2 ⟨s,p1,n1,c1,r1,m1,d1,rfl,hq,hb⟩
 have HQ:=Lib.hid hq
 have HB0:=Lib.hid hb
 have hbx:=Bx.start w2 #[.bool s,.slice p1 n1 c1,.slice r1 m1 d1]
 have Hbx:=Lib.hid hbx
 obtain ⟨-,c0,c1',c2⟩:=hbx.all
 have HQU:Hid (∀ W y,Below w2.heap.size w2 W→QAt W y ((k:Int):Rat)→Calls Tryz.prog 73 #[.agg #[.bool s,.slice p1 n1 c1,.slice r1 m1 d1],y] W (QPost (q/((k:Int):Rat)) W)):=Lib.hid fun W y hW hy=>quot_any _ _ _ _ 7000 1 W (by omega) HLT.out HKL.out (HQ.out.below hW) hy
 have HPU:Hid (∀ W y,QAt W y (q/((k:Int):Rat))→Calls Tryz.prog 72 #[y] W fun e w'=>e=.returned (.string ⟨(txt (q/((k:Int):Rat))).toArray⟩)∧Below W.heap.size W w'):=Lib.hid fun W y hy=>put_any y _ (7000+1) W (by omega) (HLT.out.quo HKL.out) hy
 rw [HTX.out] at HPU
 clear hq hb hbx h0 hk
 go_wp2_with fail
 go_region_held3 (fun w'=>Bx w2.heap.size #[.bool s,.slice p1 n1 c1,.slice r1 m1 d1] w2 w'∧w'.cell? ⟨w2.heap.size,0,none⟩=some (.bool s)∧w'.cell? ⟨w2.heap.size,1,none⟩=some (.slice p1 n1 c1)∧w'.cell? ⟨w2.heap.size,2,none⟩=some (.slice r1 m1 d1))
  (first|exact Bx.all (Bx.drew Hbx.out)|exact Bx.all Hbx.out|(go_split_ands;exact Bx.all (Bx.next (by assumption) hb1))|(go_split_ands;exact Bx.all (Bx.next (by assumption) hb2))|(go_split_ands;exact Bx.all (Bx.next (by assumption) hb3))|go_keep)
  (first|(go_at_call 74;go_split_ands;refine (HIN.out _).mono ?_;rintro e w4 ⟨y1,rfl,hy1,hb1⟩)|(go_at_call 73;go_split_ands;refine (HQU.out _ _ (Bx.below (by assumption)) hy1).mono ?_;rintro e w5 ⟨y2,rfl,hy2,hb2⟩)|(go_at_call 72;go_split_ands;refine (HPU.out _ _ hy2).mono ?_;rintro e w6 ⟨rfl,hb3⟩;have htw:=Bx.next (by assumption) hb3))
 have Hb3:=Lib.hid (HB0.out.trans (htw.below.mono HB0.out.size))
 clear htw
 go_wp2_with fail
 go_ret
 exact ⟨rfl,Hb3.out⟩
theorem rredn_best (red:Int) (hred:red=3∨red=4) (p:Option Addr) (n c k:Nat) (l:List (List UInt8)) (q:Rat) (w:World) (HT:Hid (Calls Tryz.prog 71 #[.slice p n c] w (TotPost q k w))) (HL:Hid (l.length=n)) (hn:n≤1000) (HV:Hid (∀ j,j<l.length→isV (l.getD j [])=true)) (h:RdS w p l):Calls Tryz.prog 29 #[.slice p n c,.int .i64 red] w (TxtPost (bestT red l) w):=by
 have HRD:=Lib.hid h
 have hn1:(n:Int)≤1000:=by omega
 clear h hn
 obtain ⟨R,HR⟩:∃ R,Hid (R=red):=⟨_,Lib.hid rfl⟩
 obtain ⟨Y,HY⟩:∃ Y,Hid (bestT red l=Y):=⟨_,Lib.hid rfl⟩
 rw [HY.out]
 rw [← HR.out] at HY
 unfold TxtPost
 rcases hred with rfl|rfl
 all_goals
  go_enter Tryz.func29,Tryz.ntmps29
  go_wp2_with fail
  refine HT.out.mono ?_
  rintro e w2 ⟨s,p1,n1,c1,r1,m1,d1,rfl,hq,hb⟩
  have HBX:=Lib.hid (hb.trans ((bea w2 (.cells #[.bool s,.slice p1 n1 c1,.slice r1 m1 d1] 100)).mono hb.size))
  obtain ⟨W3,HW3⟩:∃ W3,Hid (w2.alloc (.cells #[.bool s,.slice p1 n1 c1,.slice r1 m1 d1] 100)=W3):=⟨_,Lib.hid rfl⟩
  rw [HW3.out] at HBX
  have HB00:Hid (Below w.heap.size w W3):=HBX
  clear hq hb
  have HS:Hid ([]=bestT R (l.take 0)):=Lib.hid (by rw [bestT_none];rfl)
  go_wp2_with fail
  rw [HW3.out]
  go_loopw [7,8] (fun bv iv wr=>∃ (i:Nat) (X:List UInt8),i≤n∧iv=.int .i64 (i:Int)∧bv=.string ⟨List.toArray X⟩∧Hid (X=bestT R (l.take i))∧Hid (Below w.heap.size w wr)) (fun _ iv _=>n-(intOf iv).toNat)
  case atStart=>exact ⟨0,[],Nat.zero_le _,rfl,rfl,HS,HB00⟩
  case round =>
   obtain ⟨i,X,hin,rfl,rfl,HX,HBW⟩:=hrel
   by_cases hlt:i<n
   ·obtain ⟨b,off,x,rfl,hbl,hcell,HXX⟩:=HRD.out.at (k:=i) (by have:=HL.out;omega)
    have HS0:Hid (∀ W,Below w.heap.size w W→W.cell? ⟨b,off+i,none⟩=some (.string ⟨List.toArray x⟩)):=Lib.hid fun W hW=>(hW.cell (p:=⟨b,off+i,none⟩) hbl).trans hcell
    have s0:=HS0.out wr HBW.out
    clear hcell hbl
    have hi0:(0:Int)≤(i:Int):=by omega
    have hi1:(i:Int)<(n:Int):=by omega
    have hi2:i<n:=hlt
    have HIL:Hid (i<l.length):=Lib.hid (by have:=HL.out;omega)
    have HCM:=Lib.hid (rcompare_q ⟨List.toArray x⟩ ⟨List.toArray X⟩ wr)
    have HVX:Hid (isV x=true):=Lib.hid (by rw [HXX.out];exact HV.out i HIL.out)
    obtain ⟨cc,ok,HCC⟩:∃ cc ok,Hid (cmpT x X=(cc,ok)):=⟨_,_,Lib.hid rfl⟩
    rw [show cmpT (⟨List.toArray x⟩:ByteArray).data.toList (⟨List.toArray X⟩:ByteArray).data.toList=(cc,ok) from HCC.out] at HCM
    go_wp2_with fail
    refine HCM.out.mono ?_
    rintro e w4 ⟨rfl,hb4⟩
    have HB4:=Lib.hid (HBW.out.trans (hb4.mono HBW.out.size))
    have s1:=HS0.out w4 HB4.out
    clear hb4 s0
    by_cases hx:x=[]
    ·subst hx
     have HEND:Hid (X=bestT R (l.take (i+1))):=Lib.hid (by rw [bestT_skip R HIL.out (by rw [← HXX.out];exact num_nil)];exact HX.out)
     go_wp2_with fail
     go_roundw
     case rel=>exact ⟨i+1,X,by omega,by go_num,rfl,HEND,HB4⟩
     case measure=>simp [intOf];omega
    ·have hx1:(x==[])=false:=by simpa using hx
     have hx2:x.isEmpty=false:=by simpa using hx
     obtain ⟨q1,hq1⟩:∃ q1,num x=some q1:=by
      rcases isV_cases HVX.out with h|h
      ·exact absurd h hx
      ·exact h
     have HCB:=Lib.hid (cmp_best R (ss:=l.take i) hq1)
     rw [← HX.out,HCC.out] at HCB
     have HMORE:=Lib.hid (bestT_more R HIL.out (by rw [← HXX.out];exact hq1))
     have HRR:=HR.out
     clear hx hq1
     cases ok with
     | false =>
      have HEND:Hid (x=bestT R (l.take (i+1))):=Lib.hid (by
       have hn0:numsL (l.take i)=[]:=by have:=HCB.out.1;simpa using this.symm
       rw [HMORE.out,if_pos hn0,← HXX.out])
      clear HRR
      go_wp2_with fail
      go_roundw
      case rel=>exact ⟨i+1,x,by omega,by go_num,rfl,HEND,HB4⟩
      case measure=>simp [intOf];omega
     | true =>
      have hn0:numsL (l.take i)≠[]:=by have:=HCB.out.1;simpa using this.symm
      have HC2:=Lib.hid (HCB.out.2 hn0)
      have HM2:=HMORE.out
      rw [if_neg hn0,← HX.out,← HXX.out] at HM2
      have HM3:=Lib.hid HM2
      have hdec:(beat R q1 (bestQ R (numsL (l.take i)))=true∧x=bestT R (l.take (i+1)))∨(beat R q1 (bestQ R (numsL (l.take i)))=false∧X=bestT R (l.take (i+1))):=by
       cases hbb:beat R q1 (bestQ R (numsL (l.take i))) with
       | true=>rw [hbb] at HM2;exact .inl ⟨rfl,by simpa using HM2.symm⟩
       | false=>rw [hbb] at HM2;exact .inr ⟨rfl,by simpa using HM2.symm⟩
      have HD3:=Lib.hid (sgnR_neg q1 (bestQ R (numsL (l.take i))))
      have HD4:=Lib.hid (sgnR_pos q1 (bestQ R (numsL (l.take i))))
      rcases hdec with ⟨hbt,hE⟩|⟨hbt,hE⟩
      ·have HEND:=Lib.hid hE
       first
        | (
          have hd:decide (cc<0)=true:=by rw [show cc=_ from HC2.out,HD3.out,← HRR];exact hbt
          clear hn0 HM2 hbt hE HRR
          go_wp2_with fail
          go_roundw
          case rel=>exact ⟨i+1,x,by omega,by go_num,rfl,HEND,HB4⟩
          case measure=>simp [intOf];omega)
        | (
          have hd:decide (0<cc)=true:=by rw [show cc=_ from HC2.out,HD4.out,← HRR];exact hbt
          clear hn0 HM2 hbt hE HRR
          go_wp2_with fail
          go_roundw
          case rel=>exact ⟨i+1,x,by omega,by go_num,rfl,HEND,HB4⟩
          case measure=>simp [intOf];omega)
      ·have HEND:=Lib.hid hE
       first
        | (
          have hd:decide (cc<0)=false:=by rw [show cc=_ from HC2.out,HD3.out,← HRR];exact hbt
          clear hn0 HM2 hbt hE HRR
          go_wp2_with fail
          go_roundw
          case rel=>exact ⟨i+1,X,by omega,by go_num,rfl,HEND,HB4⟩
          case measure=>simp [intOf];omega)
        | (
          have hd:decide (0<cc)=false:=by rw [show cc=_ from HC2.out,HD4.out,← HRR];exact hbt
          clear hn0 HM2 hbt hE HRR
          go_wp2_with fail
          go_roundw
          case rel=>exact ⟨i+1,X,by omega,by go_num,rfl,HEND,HB4⟩
          case measure=>simp [intOf];omega)
   ·obtain rfl:i=n:=by omega
    have HEQ:Hid (X=bestT R l):=Lib.hid (by rw [HX.out,List.take_of_length_le (by have:=HL.out;omega)])
    go_wp2_with fail
    go_ret
    have e:X=Y:=HEQ.out.trans HY.out
    subst e
    exact ⟨rfl,HBW.out⟩
theorem rredn_any (red:Int) (h1:1≤red) (h5:red≤5) (p:Option Addr) (n c:Nat) (l:List (List UInt8)) (w:World) (hl:l.length=n) (hn:n≤1000) (hv:∀ j,j<l.length→isV (l.getD j [])=true) (h:RdS w p l):Calls Tryz.prog 29 #[.slice p n c,.int .i64 red] w (TxtPost (redT red (numsL l)) w):=by
 have HT:Hid (Calls Tryz.prog 71 #[.slice p n c] w (TotPost (sumQ (numsL l)) (numsL l).length w)):=Lib.hid (rtotal_any p n c l w hl hn (rdsq_of h))
 have HLT:Hid (QLt 7000 (sumQ (numsL l))):=Lib.hid ((sumQ_lt l).mono (by omega))
 have hk:(numsL l).length≤1000:=by have:=numsL_le l;omega
 rcases (show red=1∨red=2∨red=5∨(red=3∨red=4) by omega) with rfl|rfl|rfl|hr
 ·exact rredn_1 p n c _ _ w HT HLT
 ·by_cases h0:numsL l=[]
  ·have e:redT 2 (numsL l)=[]:=by unfold redT;rw [if_neg (by omega),if_neg (by omega),if_pos h0]
   rw [e]
   rw [h0] at HT
   exact rredn_20 p n c _ w HT
  ·have e:redT 2 (numsL l)=txt (sumQ (numsL l)/((((numsL l).length:Nat):Int):Rat)):=by unfold redT;rw [if_neg (by omega),if_neg (by omega),if_neg h0,if_pos rfl];rfl
   rw [e]
   exact rredn_21 p n c _ _ w hk (List.length_pos_iff.2 h0) HT HLT
 ·exact rredn_5 p n c _ _ w hk HT
 ·rw [redT_best red (by omega) (by omega) (by omega)]
  exact rredn_best red hr p n c _ l _ w HT (Lib.hid hl) hn (Lib.hid hv) h
end Go.Proofs.YtlcpcpmlfegejaaGreatDoor.Arr
set_option maxHeartbeats 4000000
set_option maxRecDepth 100000
namespace Go.Proofs.YtlcpcpmlfegejaaGreatDoor.Arr
open Go.RowKit Go.Shelf
open Go.Lib
attribute [local go_sem] Oper.semAt_some
theorem rcheck_any (p q:Option Addr) (c d n m:Nat) (s:List Int) (l:List (List UInt8)) (a red:Int) (w:World) (hs:Hid (s.length=n)) (hl:Hid (l.length=m)) (hn:n≤5000) (hm:m≤5000) (hp:Rd w p s) (hq:RdS w q l) :
  Calls Tryz.prog 35 #[.agg #[.slice p n c,.slice q m d],.int .i64 a,.int .i64 red] w fun e w'=>Below w.heap.size w w'∧e=.returned (.int .i64 (chkV s l a red)):=by
 have hni:(n:Int)≤5000:=by omega
 obtain ⟨A,HA⟩:∃ A,Hid (w.heap.size=A):=⟨_,Lib.hid rfl⟩
 obtain ⟨W0,HW0⟩:∃ W0,Hid (w.alloc (.cells #[.slice p n c,.slice q m d] 31)=W0):=⟨_,Lib.hid rfl⟩
 have HB0:Hid (Below w.heap.size w W0):=Lib.hid (by rw [← HW0.out];exact (Below.refl _ w).alloc (Nat.le_refl _) _)
 have HA0:Hid (W0.heap[A]?=some (.cells #[.slice p n c,.slice q m d] 31 (0,0))):=Lib.hid (by rw [← HW0.out,← HA.out];exact World.alloc_heap_new _ _)
 have x0:W0.cell? ⟨A,0,none⟩=some (.slice p n c):=ceh HA0.out 0
 have x1:W0.cell? ⟨A,1,none⟩=some (.slice q m d):=ceh HA0.out 1
 have HV:Hid (Calls Tryz.prog 83 #[.agg #[.slice p n c,.slice q m d]] W0 fun e w'=>Below W0.heap.size W0 w'∧e=.returned (.bool (validA s l))):=Lib.hid (rvalidA_any p q c d n m s l W0 hs hl hm (hp.below HB0.out) (hq.below HB0.out))
 clear hp hq
 have HKEEP:Hid (∀ W,Below W0.heap.size W0 W→Below w.heap.size w W∧W.cell? ⟨A,0,none⟩=some (.slice p n c)):=Lib.hid (fun W hW=>⟨HB0.out.trans (hW.mono HB0.out.size),ceh ((hW.block A (Array.getElem?_eq_some_iff.1 HA0.out).1).trans HA0.out) 0⟩)
 by_cases hv:validA s l=true
 case neg =>
  have e0:chkV s l a red=60:=by unfold chkV;rw [if_neg hv]
  have e1:validA s l=false:=by simpa using hv
  rw [e0]
  rw [e1] at HV
  clear hv e0 e1
  go_enter Tryz.func35,Tryz.ntmps35
  go_wp2_with fail
  rw [HW0.out,HA.out]
  refine (HV.out).mono ?_
  rintro e w1 ⟨hb1,rfl⟩
  have HB1:=Lib.hid (HKEEP.out w1 hb1).1
  clear hb1
  go_wp2_with fail
  go_ret
  exact ⟨HB1.out,rfl⟩
 have HZ:Hid (chkV s l a red=if (0≤a∧a<n)∧(1≤red∧red≤5) then 0 else 2):=Lib.hid (by unfold chkV;rw [if_pos hv,hs.out])
 rw [hv] at HV
 clear hv
 rw [HZ.out]
 by_cases h1:a<0
 ·rw [if_neg (by omega)]
  go_enter Tryz.func35,Tryz.ntmps35
  go_wp2_with fail
  rw [HW0.out,HA.out]
  refine (HV.out).mono ?_
  rintro e w1 ⟨hb1,rfl⟩
  have HB1:=Lib.hid (HKEEP.out w1 hb1).1
  clear hb1 x0 x1
  go_wp2_with fail
  go_ret
  exact ⟨HB1.out,rfl⟩
 by_cases h2:(n:Int)≤a
 ·rw [if_neg (by omega)]
  go_enter Tryz.func35,Tryz.ntmps35
  go_wp2_with fail
  rw [HW0.out,HA.out]
  refine (HV.out).mono ?_
  rintro e w1 ⟨hb1,rfl⟩
  obtain ⟨hbw,y0⟩:=HKEEP.out w1 hb1
  have HB1:=Lib.hid hbw
  clear hb1 x0 x1 hbw
  go_wp2_with fail
  go_ret
  exact ⟨HB1.out,rfl⟩
 by_cases h3:1≤red∧red≤5
 ·rw [if_pos (by omega)]
  have HRED:=Lib.hid (risred_yes red h3.1 h3.2)
  clear h3
  go_enter Tryz.func35,Tryz.ntmps35
  go_wp2_with fail
  rw [HW0.out,HA.out]
  refine (HV.out).mono ?_
  rintro e w1 ⟨hb1,rfl⟩
  obtain ⟨hbw,y0⟩:=HKEEP.out w1 hb1
  have HB1:=Lib.hid hbw
  clear hb1 x0 x1 hbw
  go_wp2_with fail
  refine (HRED.out w1).mono ?_
  rintro e w' ⟨rfl,rfl⟩
  clear y0
  go_wp2_with fail
  go_ret
  exact ⟨HB1.out,rfl⟩
 ·rw [if_neg (by omega)]
  have HRED:=Lib.hid (risred_no red (by omega))
  clear h3
  go_enter Tryz.func35,Tryz.ntmps35
  go_wp2_with fail
  rw [HW0.out,HA.out]
  refine (HV.out).mono ?_
  rintro e w1 ⟨hb1,rfl⟩
  obtain ⟨hbw,y0⟩:=HKEEP.out w1 hb1
  have HB1:=Lib.hid hbw
  clear hb1 x0 x1 hbw
  go_wp2_with fail
  refine (HRED.out w1).mono ?_
  rintro e w' ⟨rfl,rfl⟩
  clear y0
  go_wp2_with fail
  go_ret
  exact ⟨HB1.out,rfl⟩
end Go.Proofs.YtlcpcpmlfegejaaGreatDoor.Arr
