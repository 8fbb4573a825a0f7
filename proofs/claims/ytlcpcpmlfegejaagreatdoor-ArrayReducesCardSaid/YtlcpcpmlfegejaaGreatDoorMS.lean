/- The document's Reduce where all is well. -/
import Derived.Test.YtlcpcpmlfegejaaGreatDoorMR
set_option maxHeartbeats 16000000
set_option maxRecDepth 100000
namespace Go.Proofs.YtlcpcpmlfegejaaGreatDoor.Arr
open Go.RowKit Go.Shelf
open Go.Lib
attribute [local go_sem] Oper.semAt_some
theorem rreduce_yes (pb po:Nat) (q:Option Addr) (c d n N a:Nat) (red:Int) (s:List Nat) (M cap:Nat) (l:List (List UInt8)) (F:Nat→List UInt8) (w:World)
  (hs:Hid (s.length=n)) (ha:a<n) (hn:n≤4) (hnc:n≤c) (hsb:Hid (∀ x ∈ s,x≤1024)) (hp:Hid (RdN w (some ⟨pb,po,none⟩) s)) (hvs:Hid (vs ((s.eraseIdx a).map Int.ofNat)=true))
  (H30:Hid (∀ W,Below w.heap.size w W→Calls Tryz.prog 35 #[.agg #[.slice (some ⟨pb,po,none⟩) n c,.slice q N d],.int .i64 (a:Int),.int .i64 red] W fun e w'=>Below W.heap.size W w'∧e=.returned (.int .i64 0)))
  (hr1:1≤red) (hr5:red≤5) (hl:Hid (l.length=N)) (hN:Hid (N=prod s)) (hN1:N≤1000) (hq:Hid (RdS w q l)) (HV:Hid (∀ j,j<l.length→isV (l.getD j [])=true)) (hM:Hid (M=prod (s.eraseIdx a))) (hM4:M≤4096) (hcap:Hid (s.getD a 0=cap)) (hcap1:Hid (0<M→cap≤1000)) (hF:Hid (F=alV s l a 1 red (fun _=>spanL 0 cap))) :
  Calls Tryz.prog 14 #[.agg #[.slice (some ⟨pb,po,none⟩) n c,.slice q N d],.int .i64 (a:Int),.int .i64 red] w (ArrPost w 0 (s.eraseIdx a) ((List.range M).map F)):=by
 have HAN:=Lib.hid ha
 have hni:(n:Int)≤4:=by omega
 have hai:(a:Int)<(n:Int):=by omega
 have hMi:(M:Int)≤4096:=by omega
 obtain ⟨k,HK⟩:∃ k,Hid (n-1=k):=⟨_,Lib.hid rfl⟩
 have HKN:Hid (n=k+1∧a≤k):=Lib.hid (by have:=HK.out;omega)
 have hki:(k:Int)≤4:=by have:=HK.out;omega
 have haki:(a:Int)≤(k:Int):=by have:=HKN.out;omega
 clear ha
 obtain ⟨A,HA⟩:∃ A,Hid (w.heap.size=A):=⟨_,Lib.hid rfl⟩
 obtain ⟨W0,HW0⟩:∃ W0,Hid ((w.alloc (.cells #[.slice (some ⟨pb,po,none⟩) n c,.slice q N d] 31)).alloc (.cells #[.slice none 0 0,.slice none 0 0] 31)=W0):=⟨_,Lib.hid rfl⟩
 have HB0:Hid (Below w.heap.size w W0):=Lib.hid (by rw [← HW0.out];exact ((Below.refl _ w).alloc (Nat.le_refl _) _).alloc (by simp) _)
 have HS0:Hid (W0.heap.size=A+1+1):=Lib.hid (by rw [← HW0.out,← HA.out];simp)
 have HA0:Hid (W0.heap[A]?=some (.cells #[.slice (some ⟨pb,po,none⟩) n c,.slice q N d] 31 (0,0))):=Lib.hid (by
  rw [← HW0.out,← HA.out]
  simp only [World.alloc,Array.getElem?_push,Array.size_push]
  repeat' (first|rw [if_pos (by omega)] | rw [if_neg (by omega)] | rfl))
 have HA2:Hid (W0.heap[A+1]?=some (.cells #[.slice none 0 0,.slice none 0 0] 31 (0,0))):=Lib.hid (by
  rw [← HW0.out,← HA.out]
  simp only [World.alloc,Array.getElem?_push,Array.size_push]
  repeat' (first|rw [if_pos (by omega)] | rw [if_neg (by omega)] | rfl))
 have HBX:Hid (∀ W',Below W0.heap.size W0 W'→Below w.heap.size w W'∧W'.heap[A]?=some (.cells #[.slice (some ⟨pb,po,none⟩) n c,.slice q N d] 31 (0,0))∧W'.heap[A+1]?=some (.cells #[.slice none 0 0,.slice none 0 0] 31 (0,0))):=Lib.hid (fun W' hb =>
  ⟨HB0.out.trans (hb.mono HB0.out.size),(hb.block _ (by rw [HS0.out];omega)).trans HA0.out,(hb.block _ (by rw [HS0.out];omega)).trans HA2.out⟩)
 have HLE:Hid (w.heap.size≤A):=Lib.hid (by rw [HA.out];exact Nat.le_refl _)
 obtain ⟨-,x0,-⟩:=HBX.out W0 (Below.refl _ _)
 have a0:W0.cell? ⟨A,0,none⟩=some (.slice (some ⟨pb,po,none⟩) n c):=ceh x0 0
 have a1:W0.cell? ⟨A,1,none⟩=some (.slice q N d):=ceh x0 1
 clear x0
 replace H30:=Lib.hid (H30.out W0 HB0.out)
 go_enter Tryz.func14,Tryz.ntmps14
 go_wp2_with fail
 rw [HW0.out,HA.out]
 go_wp2_with fail
 refine H30.out.mono ?_
 rintro e w1 ⟨hb1,rfl⟩
 have HBw1:=Lib.hid hb1
 obtain ⟨-,x0,-⟩:=HBX.out w1 hb1
 have c0:w1.cell? ⟨A,0,none⟩=some (.slice (some ⟨pb,po,none⟩) n c):=ceh x0 0
 clear hb1 x0 a0 a1
 have H36:=Lib.hid (rwithout_any pb po n c a s w1 hs hn HAN.out hnc hsb (Lib.hid (hp.out.below (HBX.out w1 HBw1.out).1)))
 go_wp2_with fail
 refine H36.out.mono ?_
 rintro e w2 ⟨hb2,q5,d5,rfl,hq1,-,-,hq4⟩
 obtain ⟨G,HG⟩:∃ G,Hid (G=w2.heap.size):=⟨_,Lib.hid rfl⟩
 obtain ⟨W5,HW5⟩:∃ W5,Hid (w2.alloc (.cells #[.slice q5 (n-1) d5,.slice none 0 0] 31)=W5):=⟨_,Lib.hid rfl⟩
 have hb25:Below w2.heap.size w2 W5:=by rw [← HW5.out];exact (Below.refl _ _).alloc (Nat.le_refl _) _
 have HX5:Hid (W5.heap[G]?=some (.cells #[.slice q5 (n-1) d5,.slice none 0 0] 31 (0,0))):=Lib.hid (by rw [← HW5.out,HG.out];exact World.alloc_heap_new _ _)
 have HB15:Hid (Below w1.heap.size w1 W5):=Lib.hid (hb2.trans (hb25.mono hb2.size))
 have HBW5:Hid (Below W0.heap.size W0 W5):=Lib.hid (HBw1.out.trans (HB15.out.mono HBw1.out.size))
 have HQ5:Hid (RdN W5 q5 (s.eraseIdx a)):=Lib.hid (hq1.below hb25)
 have HUL:Hid ((s.eraseIdx a).length=n-1):=Lib.hid (by rw [List.length_eraseIdx,hs.out,if_pos HAN.out])
 have HAG:Hid (A+1<G∧w.heap.size≤G):=Lib.hid (by
  have h1:=HBw1.out.size
  have h2:=hb2.size
  have h3:=HS0.out
  have h4:=HLE.out
  rw [HG.out];omega)
 have HQB:Hid (∀ b off,q5=some ⟨b,off,none⟩→0<(s.eraseIdx a).length→A+1<b∧b<G):=Lib.hid (fun b off e h0=>by
  have h1:=HBw1.out.size
  have h3:=HS0.out
  have h2:=hq4 b off e
  obtain ⟨b',off',x,e',hb',-⟩:=hq1.at (k:=0) h0
  rw [e] at e';cases e'
  rw [HG.out];omega)
 clear hb2 hq1 hq4 hb25 c0
 have H37:Hid (Calls Tryz.prog 37 #[.slice q5 (n-1) d5] W5 fun e w'=>W5=w'∧e=.returned (.bool true)):=Lib.hid (by
  have:=rvshape_any q5 d5 ((s.eraseIdx a).map Int.ofNat) W5 HQ5.out
  rwa [List.length_map,HUL.out,hvs.out] at this)
 have g0:W5.cell? ⟨G,0,none⟩=some (.slice q5 (n-1) d5):=ceh HX5.out 0
 rw [← HW5.out] at g0
 rw [HG.out] at g0
 go_wp2_with fail
 rw [HW5.out,← HG.out]
 refine H37.out.mono ?_
 rintro e w' ⟨rfl,rfl⟩
 clear g0
 obtain ⟨u,HU⟩:∃ u,Hid (s.eraseIdx a=u):=⟨_,Lib.hid rfl⟩
 rw [HU.out] at HQ5 HUL HQB hM hvs
 have HUB:Hid (∀ x ∈ u,x≤1024):=Lib.hid (fun x hx=>by rw [← HU.out] at hx;exact hsb.out x (List.mem_of_mem_eraseIdx hx))
 rw [HK.out] at HUL HX5 HW5
 have HB05:Hid (Below w.heap.size w W5):=Lib.hid (HBX.out W5 HBW5.out).1
 have HXA5:Hid (W5.heap[A]?=some (.cells #[.slice (some ⟨pb,po,none⟩) n c,.slice q N d] 31 (0,0))):=Lib.hid (HBX.out W5 HBW5.out).2.1
 have HXY5:Hid (W5.heap[A+1]?=some (.cells #[.slice none 0 0,.slice none 0 0] 31 (0,0))):=Lib.hid (HBX.out W5 HBW5.out).2.2
 have HOLD:Hid (∀ W,W5.grownBy W (some G)→Below w.heap.size w W∧W.heap[A]?=some (.cells #[.slice (some ⟨pb,po,none⟩) n c,.slice q N d] 31 (0,0))∧RdN W q5 u):=Lib.hid (fun W hW=>by
  have hag:=HAG.out
  refine ⟨HB05.out.grown hW HB05.out.size (fun j e=>by cases e;omega),(hW.block A (Array.getElem?_eq_some_iff.1 HXA5.out).1 (by intro e;injection e with e;omega)).trans HXA5.out,HQ5.out.gb hW (fun b off e h0=>by have:=(HQB.out b off e h0).2;omega)⟩)
 have HSA:Hid (∀ W:World,W.heap[A]?=some (.cells #[.slice (some ⟨pb,po,none⟩) n c,.slice q N d] 31 (0,0))→W.cell? ⟨A,0,none⟩=some (.slice (some ⟨pb,po,none⟩) n c)∧W.cell? ⟨A,1,none⟩=some (.slice q N d)):=Lib.hid (fun W h=>⟨ceh h 0,ceh h 1⟩)
 rw [HK.out]
 go_wp2_with fail
 go_loopw [10] (fun iv wr=>∃ i:Nat,i≤M∧iv=.int .i64 (i:Int)∧Hid (OutI W5 G (.slice q5 k d5) ((List.range i).map F) wr)) (fun iv _=>M-(intOf iv).toNat)
 case atStart=>exact ⟨0,Nat.zero_le _,rfl,Lib.hid (OutI.start HX5.out)⟩
 case round =>
  obtain ⟨i,hic,rfl,HO⟩:=hrel
  have ii:(i:Int)≤(M:Int):=by omega
  obtain ⟨pv,cv,hx,hown,hge⟩:=HO.out.row
  rw [List.length_map,List.length_range] at hx hown hge
  have HXR:=Lib.hid hx
  have HGE:=Lib.hid hge
  have HOWN:=Lib.hid hown
  have HOL:=Lib.hid (HOLD.out wr HO.out.old)
  have HCN:Hid (Calls Tryz.prog 38 #[.slice q5 k d5] wr fun e w'=>wr=w'∧e=.returned (.int .i64 (M:Int))):=Lib.hid (by
   have:=count_any q5 d5 u wr (by rw [HUL.out,← HK.out];omega) HUB.out HOL.out.2.2
   rwa [HUL.out,← hM.out] at this)
  have g0:wr.cell? ⟨G,0,none⟩=some (.slice q5 k d5):=ceh HXR.out 0
  clear hx hown hge
  by_cases hlt:i<M
  ·have ilt:(i:Int)<(M:Int):=by omega
   have HLT:=Lib.hid hlt
   have HIM:Hid (i<prod u):=Lib.hid (by rw [← hM.out];exact hlt)
   have HRI:=Lib.hid (rindex_any q5 d5 k i u wr (by rw [← HK.out];omega) HUL HUB HIM (by rw [← hM.out];exact hM4) HOL.out.2.2)
   clear hlt
   go_wp2_with fail
   refine HCN.out.mono ?_
   rintro e w' ⟨rfl,rfl⟩
   go_wp2_with fail
   refine HRI.out.mono ?_
   rintro e w4 ⟨rfl,hrow,hb4⟩
   obtain ⟨g,HGG⟩:∃ g,Hid (wr.heap.size=g):=⟨_,Lib.hid rfl⟩
   rw [HGG.out] at hrow ⊢
   obtain ⟨sm,HSM⟩:∃ sm,Hid (ixOf u i=sm):=⟨_,Lib.hid rfl⟩
   rw [HSM.out] at hrow
   have HB4:=Lib.hid hb4
   have HSML:Hid (sm.length=k):=Lib.hid (by rw [← HSM.out,ixOf_len,HUL.out])
   have HSMB:Hid (∀ x ∈ sm,x≤1024):=Lib.hid (fun x hx=>by rw [← HSM.out] at hx;exact Nat.le_of_lt (ixOf_small HIM.out HUB.out x hx))
   have HRS:Hid (RdN w4 (some ⟨g,0,none⟩) sm):=Lib.hid (rdn_row hrow (fun x hx=>by have:=HSMB.out x hx;omega))
   have h1:=first_29 g 0 k k a (by have:=HKN.out;omega)
   obtain ⟨p',hrd',h2⟩:=rest_29 g 0 k k a sm (by have:=HKN.out;omega) (Nat.le_refl _) HSML.out
   have HRD':=Lib.hid hrd'
   obtain ⟨X1,HX1⟩:∃ X1,Hid (sm.take a=X1):=⟨_,Lib.hid rfl⟩
   have HTL:Hid (X1.length=a):=Lib.hid (by rw [← HX1.out,List.length_take,HSML.out];have:=HKN.out;omega)
   have HC40:Hid (Calls Tryz.prog 40 #[.slice (some ⟨g,0,none⟩) a k] w4 fun e w'=>Below w4.heap.size w4 w'∧∃ v,e=.returned v∧w'.ownsRow w4.heap.size 3 1 v a (X1.map (fun x=>Value.int .i64 ((x:Nat):Int)))):=Lib.hid (copied_own (some ⟨g,0,none⟩) a k X1 w4 HTL (by have:=HAN.out;omega) (by rw [← HX1.out];exact rdn_take a HRS.out))
   obtain ⟨X2,HX2⟩:∃ X2,Hid (X1++[0]=X2):=⟨_,Lib.hid rfl⟩
   have HTL7:Hid (X2.length=a+1):=Lib.hid (by rw [← HX2.out,List.length_append,HTL.out];rfl)
   obtain ⟨ix,HIX⟩:∃ ix,Hid (X2++sm.drop a=ix):=⟨_,Lib.hid rfl⟩
   have HIXL:Hid (ix.length=n):=Lib.hid (by rw [← HIX.out,List.length_append,HTL7.out,List.length_drop,HSML.out];have:=HKN.out;omega)
   have HIXS:Hid (ixOf (s.set a 1) i=ix):=Lib.hid (by
    rw [← HIX.out,← HX2.out,← HX1.out,← HSM.out,← HU.out,ixOf_set1 s a i (by rw [hs.out];exact HAN.out) (by rw [HU.out];exact HIM.out)]
    simp)
   have HIXB:Hid (∀ x ∈ ix,x≤1024):=Lib.hid (fun x hx=>by
    rw [← HIX.out,← HX2.out,← HX1.out] at hx
    simp only [List.mem_append,List.mem_singleton] at hx
    rcases hx with (hx|rfl)|hx
    ·exact HSMB.out x (List.mem_of_mem_take hx)
    ·omega
    ·exact HSMB.out x (List.mem_of_mem_drop hx))
   have HISX:Hid (∃ k,IsIx (s.set a k) ix):=Lib.hid ⟨1,by
    rw [← HIXS.out]
    exact (ixOf_is (s.set a 1) i (by rw [prod_set1 s a (by rw [hs.out];exact HAN.out),HU.out];exact HIM.out)).1⟩
   clear hrow hb4 g0 hrd'
   go_wp2_with fail
   refine HC40.out.mono ?_
   rintro e w6 ⟨hb6,v6,rfl,hown6⟩
   have HB6:=Lib.hid hb6
   have HOWN6:=Lib.hid hown6
   obtain ⟨h0,HH0⟩:∃ h0,Hid (w6.heap.size=h0):=⟨_,Lib.hid rfl⟩
   obtain ⟨U1,HU1⟩:∃ U,Hid (w6.alloc (.cells #[.int .i64 0] 3)=U):=⟨_,Lib.hid rfl⟩
   have HBU1:Hid (Below w6.heap.size w6 U1):=Lib.hid (by rw [← HU1.out];exact (Below.refl _ _).alloc (Nat.le_refl _) _)
   have HOU1:Hid (U1.ownsRow w4.heap.size 3 1 v6 a (X1.map (fun x=>Value.int .i64 ((x:Nat):Int)))):=Lib.hid (by rw [← HU1.out];exact HOWN6.out.alloc _)
   have HZ1:Hid (RdN U1 (some ⟨h0,0,none⟩) [0]):=Lib.hid (rdn_row (l:=[0]) (by rw [← HU1.out,← HH0.out];exact World.alloc_heap_new _ _) (fun x hx=>by obtain rfl:=List.mem_singleton.1 hx;omega))
   have HBS1:Hid (w4.heap.size≤U1.heap.size):=Lib.hid (Nat.le_trans HB6.out.size HBU1.out.size)
   clear hb6 hown6 h1
   go_wp2_with (first|(rw [HU1.out,HH0.out];at_builtin;refine wpList_append_ns rfl (.tmp 45) (.tmp 46) rfl w4.heap.size v6 X1 rfl (by rw [HTL.out];exact HOU1.out) (some ⟨h0,0,none⟩) 1 1 [0] rfl rfl HZ1.out (by rw [HTL.out];omega) HBS1.out ?_))
   intro v7 w7 hown7 hg7 _
   have HOWN7:Hid (w7.ownsRow w4.heap.size 3 1 v7 (a+1) (X2.map (fun x=>Value.int .i64 ((x:Nat):Int)))):=Lib.hid (by rw [← HX2.out];simpa [HTL.out] using hown7)
   have HB47:Hid (Below w4.heap.size w4 w7):=Lib.hid ((HB6.out.trans (HBU1.out.mono HB6.out.size)).grown hg7 HBS1.out (fun j e=>own_ge' HOU1.out e))
   clear hown7 hg7
   go_wp2_with (first|(at_builtin;refine wpList_append_ns rfl (.tmp 48) (.tmp 51) rfl w4.heap.size v7 X2 rfl (by rw [HTL7.out];exact HOWN7.out) p' (k-a) (k-a) (sm.drop a) rfl (by rw [List.length_drop,HSML.out]) (HRD'.out _ (HRS.out.below HB47.out)) (by rw [HTL7.out];omega) HB47.out.size ?_))
   intro v8 w8 hown8 hg8 _
   have HOWN8:Hid (w8.ownsRow w4.heap.size 3 1 v8 n (ix.map (fun x=>Value.int .i64 ((x:Nat):Int)))):=Lib.hid (by
    have e:X2.length+(k-a)=n:=by rw [HTL7.out];have:=HKN.out;omega
    rw [← HIX.out]
    simpa [e] using hown8)
   have HB48:Hid (Below w4.heap.size w4 w8):=Lib.hid (HB47.out.grown hg8 HB47.out.size (fun j e=>own_ge' HOWN7.out e))
   have HBR8:Hid (Below wr.heap.size wr w8):=Lib.hid (HB4.out.trans (HB48.out.mono HB4.out.size))
   obtain ⟨r8,d8,rfl,hq8,-,-,-⟩:=rdn_own (s:=ix) (n:=n) HIXL.out HIXB.out HOWN8.out
   have HRD8:Hid (RdN w8.drew r8 ix):=Lib.hid (hq8.below (show Below w8.heap.size w8 w8.drew from ⟨rfl,rfl,rfl,Nat.le_refl _,fun _ _=>rfl⟩))
   have HBRD:Hid (Below wr.heap.size wr w8.drew):=Lib.hid (HBR8.out.trans ⟨rfl,rfl,rfl,Nat.le_refl _,fun _ _=>rfl⟩)
   have HGD:Hid (W5.grownBy w8.drew (some G)):=Lib.hid (HO.out.old.trans (gb_of_below HBRD.out _))
   have HOD:=Lib.hid (HOLD.out _ HGD.out)
   have HAD:=Lib.hid HOD.out.2.1
   have HXGD:Hid (w8.drew.heap[G]?=some (.cells #[.slice q5 k d5,.slice pv i cv] 31 (0,0))):=Lib.hid ((HBRD.out.block G (Array.getElem?_eq_some_iff.1 HXR.out).1).trans HXR.out)
   have HALG:=Lib.hid (ralong_any pb po c d n N a d8 cap q r8 s ix l w8.drew hn hs hsb HIXB HAN.out hl hN (by omega) HISX hcap (Lib.hid (hp.out.below HOD.out.1)) (Lib.hid (hq.out.below HOD.out.1)) HRD8)
   obtain ⟨LX,HLX⟩:∃ LX,Hid (alL s l a ix (spanL 0 cap)=LX):=⟨_,Lib.hid rfl⟩
   rw [HLX.out] at HALG
   have HLXL:Hid (LX.length=cap):=Lib.hid (by rw [← HLX.out,alL_len];omega)
   have HLXV:Hid (∀ j,j<LX.length→isV (LX.getD j [])=true):=Lib.hid (by rw [← HLX.out];exact alL_v HV.out)
   have HC1000:Hid (cap≤1000):=Lib.hid (hcap1.out (Nat.lt_of_le_of_lt (Nat.zero_le _) HLT.out))
   obtain ⟨y,HY⟩:∃ y,Hid (redT red (numsL LX)=y):=⟨_,Lib.hid rfl⟩
   have HYE:Hid (F i=y):=Lib.hid (by rw [hF.out];unfold alV;rw [HIXS.out,HLX.out,HY.out])
   have gd:w8.drew.cell? ⟨G,1,none⟩=some (.slice pv i cv):=ceh HXGD.out 1
   clear hown8 hg8 hq8
   go_wp2_with fail
   refine wp_region_noPanic ?_
   refine wp_region_held_drew (S:=fun W'=>W'.cell? ⟨A,0,none⟩=some (.slice (some ⟨pb,po,none⟩) n c)∧W'.cell? ⟨A,1,none⟩=some (.slice q N d)) (by kernel_rfl) (HSA.out _ HOD.out.2.1) (fun hHeld=>?_)
   refine wpAnyH_take (i:=0) (v:=?v0) rfl (by kernel_rfl) (by kernel_rfl) (by kernel_rfl) (fun _ _ _ h=>h) (Or.inl ⟨by rfl,?hv0⟩) (by assumption) ?rv0
   case hv0 =>
    intro W' hSw
    obtain ⟨e0,e1⟩:=hSw
    go_simp
    with_reducible rfl
   simp only [List.getElem_toArray,List.getElem_cons_zero,Act.put,List.setIfInBounds_toArray,List.set_cons_zero,List.set_cons_succ]
   refine wpAnyH_take (i:=2) (v:=?v2) rfl (by kernel_rfl) (by kernel_rfl) (by kernel_rfl) (fun _ _ _ h=>h) (Or.inl ⟨by rfl,?hv2⟩) (by assumption) ?rv2
   case hv2 =>
    intro W' hSw
    obtain ⟨e0,e1⟩:=hSw
    go_simp
    with_reducible rfl
   simp only [List.getElem_toArray,List.getElem_cons_zero,List.getElem_cons_succ,Act.put,List.setIfInBounds_toArray,List.set_cons_zero,List.set_cons_succ]
   refine wpAnyH_take (i:=3) (v:=?v3) rfl (by kernel_rfl) (by kernel_rfl) (by kernel_rfl) (fun _ _ _ h=>h) (Or.inl ⟨by rfl,?hv3⟩) (by assumption) ?rv3
   case hv3 =>
    intro W' hSw
    obtain ⟨e0,e1⟩:=hSw
    go_simp
    with_reducible rfl
   simp only [List.getElem_toArray,List.getElem_cons_zero,List.getElem_cons_succ,Act.put,List.setIfInBounds_toArray,List.set_cons_zero,List.set_cons_succ]
   refine wpAnyH_take (i:=4) (v:=?v4) rfl (by kernel_rfl) (by kernel_rfl) (by kernel_rfl) (fun _ _ _ h=>h) (Or.inl ⟨by rfl,?hv4⟩) (by assumption) ?rv4
   case hv4 =>
    intro W' hSw
    obtain ⟨e0,e1⟩:=hSw
    go_simp
    with_reducible rfl
   simp only [List.getElem_toArray,List.getElem_cons_zero,List.getElem_cons_succ,Act.put,List.setIfInBounds_toArray,List.set_cons_zero,List.set_cons_succ]
   refine wpAnyH_take (i:=6) (v:=?v6) rfl (by kernel_rfl) (by kernel_rfl) (by kernel_rfl) (fun _ _ _ h=>h) (Or.inl ⟨by rfl,?hv6⟩) (by assumption) ?rv6
   case hv6 =>
    intro W' hSw
    obtain ⟨e0,e1⟩:=hSw
    go_simp
    with_reducible rfl
   simp only [List.getElem_toArray,List.getElem_cons_zero,List.getElem_cons_succ,Act.put,List.setIfInBounds_toArray,List.set_cons_zero,List.set_cons_succ]
   refine wpAnyH_ready (rs:=[1,5]) (by kernel_rfl) (by simp) ?_
   refine AllReadyH.cons (i:=1) rfl (fun K1 hK1=>?_) (AllReadyH.cons (i:=5) rfl (fun K1 hK1=>?_) AllReadyH.nil)
   ·go_simp
    refine hK1 _ _ (HSA.out _ HAD.out) (fun hH1=>?_)
    clear hK1 K1
    refine wpAnyH_ready (rs:=[5]) (by kernel_rfl) (by simp) ?_
    refine AllReadyH.cons (i:=5) rfl (fun K2 hK2=>?_) AllReadyH.nil
    go_simp
    refine HALG.out.mono ?_
    rintro e w9 ⟨hb9,R9,rfl,hr9⟩
    have HR9:=Lib.hid hr9
    have HB9:Hid (Below wr.heap.size wr w9):=Lib.hid (HBRD.out.trans (hb9.mono HBRD.out.size))
    have HA9:Hid (w9.heap[A]?=some (.cells #[.slice (some ⟨pb,po,none⟩) n c,.slice q N d] 31 (0,0))):=Lib.hid ((hb9.block A (Array.getElem?_eq_some_iff.1 HOD.out.2.1).1).trans HOD.out.2.1)
    have HXG9:Hid (w9.heap[G]?=some (.cells #[.slice q5 k d5,.slice pv i cv] 31 (0,0))):=Lib.hid ((hb9.block G (Array.getElem?_eq_some_iff.1 HXGD.out).1).trans HXGD.out)
    have g9:w9.cell? ⟨G,1,none⟩=some (.slice pv i cv):=ceh HXG9.out 1
    clear hb9 hr9
    refine hK2 _ _ (HSA.out _ HA9.out) (fun hH2=>?_)
    clear hK2 K2
    refine wpAnyH_ready (rs:=[7]) (by kernel_rfl) (by simp) ?_
    refine AllReadyH.cons (i:=7) rfl (fun K3 hK3=>?_) AllReadyH.nil
    go_simp
    have H29:Hid (Calls Tryz.prog 29 #[.slice (some ⟨R9,0,none⟩) cap cap,.int .i64 red] w9 (TxtPost y w9)):=Lib.hid (by have h:=rredn_any red hr1 hr5 (some ⟨R9,0,none⟩) cap cap LX w9 HLXL.out HC1000.out HLXV.out HR9.out;rwa [HY.out] at h)
    refine H29.out.mono ?_
    rintro e w10 ⟨rfl,hb10⟩
    have HB10:Hid (Below wr.heap.size wr w10):=Lib.hid (HB9.out.trans (hb10.mono HB9.out.size))
    have HA10:Hid (w10.heap[A]?=some (.cells #[.slice (some ⟨pb,po,none⟩) n c,.slice q N d] 31 (0,0))):=Lib.hid ((hb10.block A (Array.getElem?_eq_some_iff.1 HA9.out).1).trans HA9.out)
    have HXG10:Hid (w10.heap[G]?=some (.cells #[.slice q5 k d5,.slice pv i cv] 31 (0,0))):=Lib.hid ((hb10.block G (Array.getElem?_eq_some_iff.1 HXG9.out).1).trans HXG9.out)
    have g10:w10.cell? ⟨G,1,none⟩=some (.slice pv i cv):=ceh HXG10.out 1
    obtain ⟨gU,HGU⟩:∃ gU,Hid (w10.heap.size=gU):=⟨_,Lib.hid rfl⟩
    obtain ⟨U,HUA⟩:∃ U,Hid (w10.alloc (.cells #[.string ⟨List.toArray y⟩] 9)=U):=⟨_,Lib.hid rfl⟩
    have HB10U:Hid (Below w10.heap.size w10 U):=Lib.hid (by rw [← HUA.out];exact (Below.refl _ _).alloc (Nat.le_refl _) _)
    have HBU:Hid (Below wr.heap.size wr U):=Lib.hid (HB10.out.trans (HB10U.out.mono HB10.out.size))
    have HAU:Hid (U.heap[A]?=some (.cells #[.slice (some ⟨pb,po,none⟩) n c,.slice q N d] 31 (0,0))):=Lib.hid ((HB10U.out.block A (Array.getElem?_eq_some_iff.1 HA10.out).1).trans HA10.out)
    have HXGU:Hid (U.heap[G]?=some (.cells #[.slice q5 k d5,.slice pv i cv] 31 (0,0))):=Lib.hid ((HB10U.out.block G (Array.getElem?_eq_some_iff.1 HXG10.out).1).trans HXG10.out)
    have gU1:U.cell? ⟨G,1,none⟩=some (.slice pv i cv):=ceh HXGU.out 1
    clear hb10
    refine hK3 _ _ (HSA.out _ HA10.out) (fun hH3=>?_)
    clear hK3 K3
    refine wpAnyH_ready (rs:=[8]) (by kernel_rfl) (by simp) ?_
    refine AllReadyH.cons (i:=8) rfl (fun K4 hK4=>?_) AllReadyH.nil
    go_simp
    rw [HUA.out,HGU.out]
    refine hK4 _ _ (HSA.out _ HAU.out) (fun hH4=>?_)
    clear hK4 K4
    have HOU:Hid (U.ownsRow W5.heap.size 9 1 (.slice pv i cv) i (strs ((List.range i).map F))):=Lib.hid (by
     have:=HOWN.out.kept (gb_of_below HBU.out none) (by cases pv<;>simp [Value.ownBlock])
     obtain ⟨h1,⟨e,e2⟩|⟨g,cap,cur,e,h3,h4⟩⟩:=this
     ·exact ⟨h1,.inl ⟨e,e2⟩⟩
     ·exact ⟨h1,.inr ⟨g,cap,cur,e,HGE.out g (by rw [e];rfl),h4⟩⟩)
    have HUC:Hid (U.cell? ⟨gU,0,none⟩=some (.string ⟨List.toArray y⟩)):=Lib.hid (by
     rw [← HUA.out,← HGU.out,ceh (World.alloc_heap_new w10 (.cells #[.string ⟨List.toArray y⟩] 9)) 0];rfl)
    have HU5:Hid (W5.heap.size≤U.heap.size):=Lib.hid (Nat.le_trans HO.out.old.size HBU.out.size)
    refine wpAnyH_ready (rs:=[9]) (by kernel_rfl) (by simp) ?_
    refine AllReadyH.cons (i:=9) rfl (fun K0 hK0=>?_) AllReadyH.nil
    rw [if_pos (by rfl)]
    refine op_append_1s (.tmp 54) (.tmp 61) rfl W5.heap.size pv cv i ((List.range i).map F) rfl HOU.out gU y rfl HUC.out (by omega) HU5.out ?_
    intro gv cv' w11 hown11 hg11
    obtain ⟨hst,hG11⟩:=HO.out.step (by simp) HXR.out HGE.out HBU.out hown11 hg11
    have hstep:(List.range i).map F++[y]=(List.range (i+1)).map F:=by rw [List.range_succ,List.map_append,List.map_singleton,HYE.out]
    rw [hstep] at hst
    obtain ⟨w12,HW12⟩:∃ w12,Hid (w11.setCell ⟨G,1,none⟩ (.slice (some ⟨gv,0,none⟩) (i+1) cv')=w12):=⟨_,Lib.hid rfl⟩
    rw [HW12.out] at hst
    have HST:=Lib.hid hst
    have HA11:Hid (w11.heap[A]?=some (.cells #[.slice (some ⟨pb,po,none⟩) n c,.slice q N d] 31 (0,0))):=Lib.hid ((hg11.block A (Array.getElem?_eq_some_iff.1 HAU.out).1 (by intro e;have:=HGE.out A e.symm;have:=(Array.getElem?_eq_some_iff.1 HXA5.out).1;omega)).trans HAU.out)
    have HA12:Hid (w12.heap[A]?=some (.cells #[.slice (some ⟨pb,po,none⟩) n c,.slice q N d] 31 (0,0))):=Lib.hid (HOLD.out _ HST.out.old).2.1
    have k1:w11.cell? ⟨G,1,none⟩=some (.slice pv i cv):=ceh hG11 1
    have z1:w11.frozen? ⟨G,1,none⟩=false:=foh hG11 1
    clear hst hG11 hown11 hg11 hstep
    refine hK0 _ _ (HSA.out _ HA11.out) (fun hHt=>?_)
    clear hK0 K0
    refine wpAnyH_take (i:=10) (v:=?v10x1) rfl (by kernel_rfl) (by kernel_rfl) (by kernel_rfl) (fun _ _ _ h=>h) (Or.inl ⟨by rfl,?hv10x1⟩) (by assumption) ?rv10x1
    case hv10x1 =>
     intro W' hSw
     obtain ⟨e0,e1⟩:=hSw
     go_simp
     with_reducible rfl
    simp only [List.getElem_toArray,List.getElem_cons_zero,List.getElem_cons_succ,Act.put,List.setIfInBounds_toArray,List.set_cons_zero,List.set_cons_succ]
    refine wpAnyH_ready (rs:=[11]) (by kernel_rfl) (by simp) ?_
    refine AllReadyH.cons (i:=11) rfl (fun K0 hK0=>?_) AllReadyH.nil
    go_simp
    rw [HW12.out]
    refine hK0 _ _ (HSA.out _ HA12.out) (fun hHt2=>?_)
    clear hK0 K0 k1 z1
    refine wpAnyH_done (by kernel_rfl) ?_ _
    refine NoPanic.normal ?_
    go_wp2_with fail
    go_roundw
    case rel=>exact ⟨i+1,by omega,by go_num,HST⟩
    case measure=>simp [intOf];omega
   ·go_simp
    refine HALG.out.mono ?_
    rintro e w9 ⟨hb9,R9,rfl,hr9⟩
    have HR9:=Lib.hid hr9
    have HB9:Hid (Below wr.heap.size wr w9):=Lib.hid (HBRD.out.trans (hb9.mono HBRD.out.size))
    have HA9:Hid (w9.heap[A]?=some (.cells #[.slice (some ⟨pb,po,none⟩) n c,.slice q N d] 31 (0,0))):=Lib.hid ((hb9.block A (Array.getElem?_eq_some_iff.1 HOD.out.2.1).1).trans HOD.out.2.1)
    have HXG9:Hid (w9.heap[G]?=some (.cells #[.slice q5 k d5,.slice pv i cv] 31 (0,0))):=Lib.hid ((hb9.block G (Array.getElem?_eq_some_iff.1 HXGD.out).1).trans HXGD.out)
    have g9:w9.cell? ⟨G,1,none⟩=some (.slice pv i cv):=ceh HXG9.out 1
    clear hb9 hr9
    refine hK1 _ _ (HSA.out _ HA9.out) (fun hH1=>?_)
    clear hK1 K1
    refine wpAnyH_ready (rs:=[1,7]) (by kernel_rfl) (by simp) ?_
    refine AllReadyH.cons (i:=1) rfl (fun K2 hK2=>?_) (AllReadyH.cons (i:=7) rfl (fun K2 hK2=>?_) AllReadyH.nil)
    ·go_simp
     refine hK2 _ _ (HSA.out _ HA9.out) (fun hH2=>?_)
     clear hK2 K2
     refine wpAnyH_ready (rs:=[7]) (by kernel_rfl) (by simp) ?_
     refine AllReadyH.cons (i:=7) rfl (fun K3 hK3=>?_) AllReadyH.nil
     go_simp
     have H29:Hid (Calls Tryz.prog 29 #[.slice (some ⟨R9,0,none⟩) cap cap,.int .i64 red] w9 (TxtPost y w9)):=Lib.hid (by have h:=rredn_any red hr1 hr5 (some ⟨R9,0,none⟩) cap cap LX w9 HLXL.out HC1000.out HLXV.out HR9.out;rwa [HY.out] at h)
     refine H29.out.mono ?_
     rintro e w10 ⟨rfl,hb10⟩
     have HB10:Hid (Below wr.heap.size wr w10):=Lib.hid (HB9.out.trans (hb10.mono HB9.out.size))
     have HA10:Hid (w10.heap[A]?=some (.cells #[.slice (some ⟨pb,po,none⟩) n c,.slice q N d] 31 (0,0))):=Lib.hid ((hb10.block A (Array.getElem?_eq_some_iff.1 HA9.out).1).trans HA9.out)
     have HXG10:Hid (w10.heap[G]?=some (.cells #[.slice q5 k d5,.slice pv i cv] 31 (0,0))):=Lib.hid ((hb10.block G (Array.getElem?_eq_some_iff.1 HXG9.out).1).trans HXG9.out)
     have g10:w10.cell? ⟨G,1,none⟩=some (.slice pv i cv):=ceh HXG10.out 1
     obtain ⟨gU,HGU⟩:∃ gU,Hid (w10.heap.size=gU):=⟨_,Lib.hid rfl⟩
     obtain ⟨U,HUA⟩:∃ U,Hid (w10.alloc (.cells #[.string ⟨List.toArray y⟩] 9)=U):=⟨_,Lib.hid rfl⟩
     have HB10U:Hid (Below w10.heap.size w10 U):=Lib.hid (by rw [← HUA.out];exact (Below.refl _ _).alloc (Nat.le_refl _) _)
     have HBU:Hid (Below wr.heap.size wr U):=Lib.hid (HB10.out.trans (HB10U.out.mono HB10.out.size))
     have HAU:Hid (U.heap[A]?=some (.cells #[.slice (some ⟨pb,po,none⟩) n c,.slice q N d] 31 (0,0))):=Lib.hid ((HB10U.out.block A (Array.getElem?_eq_some_iff.1 HA10.out).1).trans HA10.out)
     have HXGU:Hid (U.heap[G]?=some (.cells #[.slice q5 k d5,.slice pv i cv] 31 (0,0))):=Lib.hid ((HB10U.out.block G (Array.getElem?_eq_some_iff.1 HXG10.out).1).trans HXG10.out)
     have gU1:U.cell? ⟨G,1,none⟩=some (.slice pv i cv):=ceh HXGU.out 1
     clear hb10
     refine hK3 _ _ (HSA.out _ HA10.out) (fun hH3=>?_)
     clear hK3 K3
     refine wpAnyH_ready (rs:=[8]) (by kernel_rfl) (by simp) ?_
     refine AllReadyH.cons (i:=8) rfl (fun K4 hK4=>?_) AllReadyH.nil
     go_simp
     rw [HUA.out,HGU.out]
     refine hK4 _ _ (HSA.out _ HAU.out) (fun hH4=>?_)
     clear hK4 K4
     have HOU:Hid (U.ownsRow W5.heap.size 9 1 (.slice pv i cv) i (strs ((List.range i).map F))):=Lib.hid (by
      have:=HOWN.out.kept (gb_of_below HBU.out none) (by cases pv<;>simp [Value.ownBlock])
      obtain ⟨h1,⟨e,e2⟩|⟨g,cap,cur,e,h3,h4⟩⟩:=this
      ·exact ⟨h1,.inl ⟨e,e2⟩⟩
      ·exact ⟨h1,.inr ⟨g,cap,cur,e,HGE.out g (by rw [e];rfl),h4⟩⟩)
     have HUC:Hid (U.cell? ⟨gU,0,none⟩=some (.string ⟨List.toArray y⟩)):=Lib.hid (by
      rw [← HUA.out,← HGU.out,ceh (World.alloc_heap_new w10 (.cells #[.string ⟨List.toArray y⟩] 9)) 0];rfl)
     have HU5:Hid (W5.heap.size≤U.heap.size):=Lib.hid (Nat.le_trans HO.out.old.size HBU.out.size)
     refine wpAnyH_ready (rs:=[9]) (by kernel_rfl) (by simp) ?_
     refine AllReadyH.cons (i:=9) rfl (fun K0 hK0=>?_) AllReadyH.nil
     rw [if_pos (by rfl)]
     refine op_append_1s (.tmp 54) (.tmp 61) rfl W5.heap.size pv cv i ((List.range i).map F) rfl HOU.out gU y rfl HUC.out (by omega) HU5.out ?_
     intro gv cv' w11 hown11 hg11
     obtain ⟨hst,hG11⟩:=HO.out.step (by simp) HXR.out HGE.out HBU.out hown11 hg11
     have hstep:(List.range i).map F++[y]=(List.range (i+1)).map F:=by rw [List.range_succ,List.map_append,List.map_singleton,HYE.out]
     rw [hstep] at hst
     obtain ⟨w12,HW12⟩:∃ w12,Hid (w11.setCell ⟨G,1,none⟩ (.slice (some ⟨gv,0,none⟩) (i+1) cv')=w12):=⟨_,Lib.hid rfl⟩
     rw [HW12.out] at hst
     have HST:=Lib.hid hst
     have HA11:Hid (w11.heap[A]?=some (.cells #[.slice (some ⟨pb,po,none⟩) n c,.slice q N d] 31 (0,0))):=Lib.hid ((hg11.block A (Array.getElem?_eq_some_iff.1 HAU.out).1 (by intro e;have:=HGE.out A e.symm;have:=(Array.getElem?_eq_some_iff.1 HXA5.out).1;omega)).trans HAU.out)
     have HA12:Hid (w12.heap[A]?=some (.cells #[.slice (some ⟨pb,po,none⟩) n c,.slice q N d] 31 (0,0))):=Lib.hid (HOLD.out _ HST.out.old).2.1
     have k1:w11.cell? ⟨G,1,none⟩=some (.slice pv i cv):=ceh hG11 1
     have z1:w11.frozen? ⟨G,1,none⟩=false:=foh hG11 1
     clear hst hG11 hown11 hg11 hstep
     refine hK0 _ _ (HSA.out _ HA11.out) (fun hHt=>?_)
     clear hK0 K0
     refine wpAnyH_take (i:=10) (v:=?v10x2) rfl (by kernel_rfl) (by kernel_rfl) (by kernel_rfl) (fun _ _ _ h=>h) (Or.inl ⟨by rfl,?hv10x2⟩) (by assumption) ?rv10x2
     case hv10x2 =>
      intro W' hSw
      obtain ⟨e0,e1⟩:=hSw
      go_simp
      with_reducible rfl
     simp only [List.getElem_toArray,List.getElem_cons_zero,List.getElem_cons_succ,Act.put,List.setIfInBounds_toArray,List.set_cons_zero,List.set_cons_succ]
     refine wpAnyH_ready (rs:=[11]) (by kernel_rfl) (by simp) ?_
     refine AllReadyH.cons (i:=11) rfl (fun K0 hK0=>?_) AllReadyH.nil
     go_simp
     rw [HW12.out]
     refine hK0 _ _ (HSA.out _ HA12.out) (fun hHt2=>?_)
     clear hK0 K0 k1 z1
     refine wpAnyH_done (by kernel_rfl) ?_ _
     refine NoPanic.normal ?_
     go_wp2_with fail
     go_roundw
     case rel=>exact ⟨i+1,by omega,by go_num,HST⟩
     case measure=>simp [intOf];omega
    ·go_simp
     have H29:Hid (Calls Tryz.prog 29 #[.slice (some ⟨R9,0,none⟩) cap cap,.int .i64 red] w9 (TxtPost y w9)):=Lib.hid (by have h:=rredn_any red hr1 hr5 (some ⟨R9,0,none⟩) cap cap LX w9 HLXL.out HC1000.out HLXV.out HR9.out;rwa [HY.out] at h)
     refine H29.out.mono ?_
     rintro e w10 ⟨rfl,hb10⟩
     have HB10:Hid (Below wr.heap.size wr w10):=Lib.hid (HB9.out.trans (hb10.mono HB9.out.size))
     have HA10:Hid (w10.heap[A]?=some (.cells #[.slice (some ⟨pb,po,none⟩) n c,.slice q N d] 31 (0,0))):=Lib.hid ((hb10.block A (Array.getElem?_eq_some_iff.1 HA9.out).1).trans HA9.out)
     have HXG10:Hid (w10.heap[G]?=some (.cells #[.slice q5 k d5,.slice pv i cv] 31 (0,0))):=Lib.hid ((hb10.block G (Array.getElem?_eq_some_iff.1 HXG9.out).1).trans HXG9.out)
     have g10:w10.cell? ⟨G,1,none⟩=some (.slice pv i cv):=ceh HXG10.out 1
     obtain ⟨gU,HGU⟩:∃ gU,Hid (w10.heap.size=gU):=⟨_,Lib.hid rfl⟩
     obtain ⟨U,HUA⟩:∃ U,Hid (w10.alloc (.cells #[.string ⟨List.toArray y⟩] 9)=U):=⟨_,Lib.hid rfl⟩
     have HB10U:Hid (Below w10.heap.size w10 U):=Lib.hid (by rw [← HUA.out];exact (Below.refl _ _).alloc (Nat.le_refl _) _)
     have HBU:Hid (Below wr.heap.size wr U):=Lib.hid (HB10.out.trans (HB10U.out.mono HB10.out.size))
     have HAU:Hid (U.heap[A]?=some (.cells #[.slice (some ⟨pb,po,none⟩) n c,.slice q N d] 31 (0,0))):=Lib.hid ((HB10U.out.block A (Array.getElem?_eq_some_iff.1 HA10.out).1).trans HA10.out)
     have HXGU:Hid (U.heap[G]?=some (.cells #[.slice q5 k d5,.slice pv i cv] 31 (0,0))):=Lib.hid ((HB10U.out.block G (Array.getElem?_eq_some_iff.1 HXG10.out).1).trans HXG10.out)
     have gU1:U.cell? ⟨G,1,none⟩=some (.slice pv i cv):=ceh HXGU.out 1
     clear hb10
     refine hK2 _ _ (HSA.out _ HA10.out) (fun hH2=>?_)
     clear hK2 K2
     refine wpAnyH_ready (rs:=[1,8]) (by kernel_rfl) (by simp) ?_
     refine AllReadyH.cons (i:=1) rfl (fun K3 hK3=>?_) (AllReadyH.cons (i:=8) rfl (fun K3 hK3=>?_) AllReadyH.nil)
     ·go_simp
      refine hK3 _ _ (HSA.out _ HA10.out) (fun hH3=>?_)
      clear hK3 K3
      refine wpAnyH_ready (rs:=[8]) (by kernel_rfl) (by simp) ?_
      refine AllReadyH.cons (i:=8) rfl (fun K4 hK4=>?_) AllReadyH.nil
      go_simp
      rw [HUA.out,HGU.out]
      refine hK4 _ _ (HSA.out _ HAU.out) (fun hH4=>?_)
      clear hK4 K4
      have HOU:Hid (U.ownsRow W5.heap.size 9 1 (.slice pv i cv) i (strs ((List.range i).map F))):=Lib.hid (by
       have:=HOWN.out.kept (gb_of_below HBU.out none) (by cases pv<;>simp [Value.ownBlock])
       obtain ⟨h1,⟨e,e2⟩|⟨g,cap,cur,e,h3,h4⟩⟩:=this
       ·exact ⟨h1,.inl ⟨e,e2⟩⟩
       ·exact ⟨h1,.inr ⟨g,cap,cur,e,HGE.out g (by rw [e];rfl),h4⟩⟩)
      have HUC:Hid (U.cell? ⟨gU,0,none⟩=some (.string ⟨List.toArray y⟩)):=Lib.hid (by
       rw [← HUA.out,← HGU.out,ceh (World.alloc_heap_new w10 (.cells #[.string ⟨List.toArray y⟩] 9)) 0];rfl)
      have HU5:Hid (W5.heap.size≤U.heap.size):=Lib.hid (Nat.le_trans HO.out.old.size HBU.out.size)
      refine wpAnyH_ready (rs:=[9]) (by kernel_rfl) (by simp) ?_
      refine AllReadyH.cons (i:=9) rfl (fun K0 hK0=>?_) AllReadyH.nil
      rw [if_pos (by rfl)]
      refine op_append_1s (.tmp 54) (.tmp 61) rfl W5.heap.size pv cv i ((List.range i).map F) rfl HOU.out gU y rfl HUC.out (by omega) HU5.out ?_
      intro gv cv' w11 hown11 hg11
      obtain ⟨hst,hG11⟩:=HO.out.step (by simp) HXR.out HGE.out HBU.out hown11 hg11
      have hstep:(List.range i).map F++[y]=(List.range (i+1)).map F:=by rw [List.range_succ,List.map_append,List.map_singleton,HYE.out]
      rw [hstep] at hst
      obtain ⟨w12,HW12⟩:∃ w12,Hid (w11.setCell ⟨G,1,none⟩ (.slice (some ⟨gv,0,none⟩) (i+1) cv')=w12):=⟨_,Lib.hid rfl⟩
      rw [HW12.out] at hst
      have HST:=Lib.hid hst
      have HA11:Hid (w11.heap[A]?=some (.cells #[.slice (some ⟨pb,po,none⟩) n c,.slice q N d] 31 (0,0))):=Lib.hid ((hg11.block A (Array.getElem?_eq_some_iff.1 HAU.out).1 (by intro e;have:=HGE.out A e.symm;have:=(Array.getElem?_eq_some_iff.1 HXA5.out).1;omega)).trans HAU.out)
      have HA12:Hid (w12.heap[A]?=some (.cells #[.slice (some ⟨pb,po,none⟩) n c,.slice q N d] 31 (0,0))):=Lib.hid (HOLD.out _ HST.out.old).2.1
      have k1:w11.cell? ⟨G,1,none⟩=some (.slice pv i cv):=ceh hG11 1
      have z1:w11.frozen? ⟨G,1,none⟩=false:=foh hG11 1
      clear hst hG11 hown11 hg11 hstep
      refine hK0 _ _ (HSA.out _ HA11.out) (fun hHt=>?_)
      clear hK0 K0
      refine wpAnyH_take (i:=10) (v:=?v10x3) rfl (by kernel_rfl) (by kernel_rfl) (by kernel_rfl) (fun _ _ _ h=>h) (Or.inl ⟨by rfl,?hv10x3⟩) (by assumption) ?rv10x3
      case hv10x3 =>
       intro W' hSw
       obtain ⟨e0,e1⟩:=hSw
       go_simp
       with_reducible rfl
      simp only [List.getElem_toArray,List.getElem_cons_zero,List.getElem_cons_succ,Act.put,List.setIfInBounds_toArray,List.set_cons_zero,List.set_cons_succ]
      refine wpAnyH_ready (rs:=[11]) (by kernel_rfl) (by simp) ?_
      refine AllReadyH.cons (i:=11) rfl (fun K0 hK0=>?_) AllReadyH.nil
      go_simp
      rw [HW12.out]
      refine hK0 _ _ (HSA.out _ HA12.out) (fun hHt2=>?_)
      clear hK0 K0 k1 z1
      refine wpAnyH_done (by kernel_rfl) ?_ _
      refine NoPanic.normal ?_
      go_wp2_with fail
      go_roundw
      case rel=>exact ⟨i+1,by omega,by go_num,HST⟩
      case measure=>simp [intOf];omega
     ·go_simp
      rw [HUA.out,HGU.out]
      refine hK3 _ _ (HSA.out _ HAU.out) (fun hH3=>?_)
      clear hK3 K3
      refine wpAnyH_ready (rs:=[1]) (by kernel_rfl) (by simp) ?_
      refine AllReadyH.cons (i:=1) rfl (fun K4 hK4=>?_) AllReadyH.nil
      go_simp
      refine hK4 _ _ (HSA.out _ HAU.out) (fun hH4=>?_)
      clear hK4 K4
      have HOU:Hid (U.ownsRow W5.heap.size 9 1 (.slice pv i cv) i (strs ((List.range i).map F))):=Lib.hid (by
       have:=HOWN.out.kept (gb_of_below HBU.out none) (by cases pv<;>simp [Value.ownBlock])
       obtain ⟨h1,⟨e,e2⟩|⟨g,cap,cur,e,h3,h4⟩⟩:=this
       ·exact ⟨h1,.inl ⟨e,e2⟩⟩
       ·exact ⟨h1,.inr ⟨g,cap,cur,e,HGE.out g (by rw [e];rfl),h4⟩⟩)
      have HUC:Hid (U.cell? ⟨gU,0,none⟩=some (.string ⟨List.toArray y⟩)):=Lib.hid (by
       rw [← HUA.out,← HGU.out,ceh (World.alloc_heap_new w10 (.cells #[.string ⟨List.toArray y⟩] 9)) 0];rfl)
      have HU5:Hid (W5.heap.size≤U.heap.size):=Lib.hid (Nat.le_trans HO.out.old.size HBU.out.size)
      refine wpAnyH_ready (rs:=[9]) (by kernel_rfl) (by simp) ?_
      refine AllReadyH.cons (i:=9) rfl (fun K0 hK0=>?_) AllReadyH.nil
      rw [if_pos (by rfl)]
      refine op_append_1s (.tmp 54) (.tmp 61) rfl W5.heap.size pv cv i ((List.range i).map F) rfl HOU.out gU y rfl HUC.out (by omega) HU5.out ?_
      intro gv cv' w11 hown11 hg11
      obtain ⟨hst,hG11⟩:=HO.out.step (by simp) HXR.out HGE.out HBU.out hown11 hg11
      have hstep:(List.range i).map F++[y]=(List.range (i+1)).map F:=by rw [List.range_succ,List.map_append,List.map_singleton,HYE.out]
      rw [hstep] at hst
      obtain ⟨w12,HW12⟩:∃ w12,Hid (w11.setCell ⟨G,1,none⟩ (.slice (some ⟨gv,0,none⟩) (i+1) cv')=w12):=⟨_,Lib.hid rfl⟩
      rw [HW12.out] at hst
      have HST:=Lib.hid hst
      have HA11:Hid (w11.heap[A]?=some (.cells #[.slice (some ⟨pb,po,none⟩) n c,.slice q N d] 31 (0,0))):=Lib.hid ((hg11.block A (Array.getElem?_eq_some_iff.1 HAU.out).1 (by intro e;have:=HGE.out A e.symm;have:=(Array.getElem?_eq_some_iff.1 HXA5.out).1;omega)).trans HAU.out)
      have HA12:Hid (w12.heap[A]?=some (.cells #[.slice (some ⟨pb,po,none⟩) n c,.slice q N d] 31 (0,0))):=Lib.hid (HOLD.out _ HST.out.old).2.1
      have k1:w11.cell? ⟨G,1,none⟩=some (.slice pv i cv):=ceh hG11 1
      have z1:w11.frozen? ⟨G,1,none⟩=false:=foh hG11 1
      clear hst hG11 hown11 hg11 hstep
      refine hK0 _ _ (HSA.out _ HA11.out) (fun hHt=>?_)
      clear hK0 K0
      refine wpAnyH_take (i:=10) (v:=?v10x4) rfl (by kernel_rfl) (by kernel_rfl) (by kernel_rfl) (fun _ _ _ h=>h) (Or.inl ⟨by rfl,?hv10x4⟩) (by assumption) ?rv10x4
      case hv10x4 =>
       intro W' hSw
       obtain ⟨e0,e1⟩:=hSw
       go_simp
       with_reducible rfl
      simp only [List.getElem_toArray,List.getElem_cons_zero,List.getElem_cons_succ,Act.put,List.setIfInBounds_toArray,List.set_cons_zero,List.set_cons_succ]
      refine wpAnyH_ready (rs:=[11]) (by kernel_rfl) (by simp) ?_
      refine AllReadyH.cons (i:=11) rfl (fun K0 hK0=>?_) AllReadyH.nil
      go_simp
      rw [HW12.out]
      refine hK0 _ _ (HSA.out _ HA12.out) (fun hHt2=>?_)
      clear hK0 K0 k1 z1
      refine wpAnyH_done (by kernel_rfl) ?_ _
      refine NoPanic.normal ?_
      go_wp2_with fail
      go_roundw
      case rel=>exact ⟨i+1,by omega,by go_num,HST⟩
      case measure=>simp [intOf];omega
  ·obtain rfl:i=M:=by omega
   have ilt:¬ (i:Int)<(i:Int):=by omega
   have g1:wr.cell? ⟨G,1,none⟩=some (.slice pv i cv):=ceh HXR.out 1
   obtain ⟨hrd,hrb⟩:=HO.out.reads (by simp) HXR.out
   have HRDS:=Lib.hid (And.intro hrd hrb)
   have y6:wr.heap[A+1]?=some (.cells #[.slice none 0 0,.slice none 0 0] 31 (0,0)):=(HO.out.old.block (A+1) (Array.getElem?_eq_some_iff.1 HXY5.out).1 (by intro e;injection e with e;have:=HAG.out.1;omega)).trans HXY5.out
   have r0:wr.cell? ⟨A+1,0,none⟩=some (.slice none 0 0):=ceh y6 0
   have r1:wr.cell? ⟨A+1,1,none⟩=some (.slice none 0 0):=ceh y6 1
   have z0:wr.frozen? ⟨A+1,0,none⟩=false:=foh y6 0
   have z1:wr.frozen? ⟨A+1,1,none⟩=false:=foh y6 1
   have hE1:=heap_set wr (A+1) 0 (.slice q5 k d5) _ _ y6
   have hE2:=heap_set _ (A+1) 1 (.slice pv i cv) _ _ hE1
   obtain ⟨W7,HW7⟩:∃ W7,Hid ((wr.setCell ⟨A+1,0,none⟩ (.slice q5 k d5)).setCell ⟨A+1,1,none⟩ (.slice pv i cv)=W7):=⟨_,Lib.hid rfl⟩
   rw [HW7.out] at hE2
   have k0:W7.cell? ⟨A+1,0,none⟩=some (.slice q5 k d5):=ceh hE2 0
   have k1:W7.cell? ⟨A+1,1,none⟩=some (.slice pv i cv):=ceh hE2 1
   have HFIN:Hid (ArrPost w 0 (s.eraseIdx a) ((List.range i).map F) (.returned (.tuple #[.agg #[.slice q5 k d5,.slice pv i cv],.int .i64 0])) W7):=Lib.hid (by
    have hg67:wr.grownBy W7 (some (A+1)):=by rw [← HW7.out];exact (gb_set _ _ _ _).trans (gb_set _ _ _ _)
    have o1:=HLE.out
    rw [HU.out]
    refine ⟨HOL.out.1.grown hg67 HOL.out.1.size (fun j e=>by cases e;omega),q5,pv,k,d5,i,cv,rfl,HUL.out,by simp,?_,?_⟩
    ·exact HOL.out.2.2.gb hg67 (fun b off e h0=>by have:=(HQB.out b off e h0).1;omega)
    ·exact rds_gb HRDS.out.1 hg67 (fun b off e h0=>by have:=HRDS.out.2 b off e h0;have:=HAG.out.1;omega))
   clear hrd hrb hE1 hE2 y6
   go_wp2_with fail
   refine HCN.out.mono ?_
   rintro e w' ⟨rfl,rfl⟩
   go_wp2_with fail
   (try simp only [Exit.inBlock,Exit.then])
   rw [HW7.out]
   refine bodyPost_ret (v:=.tuple #[.agg #[.slice q5 k d5,.slice pv i cv],.int .i64 0]) ?_ rfl HFIN.out
   rw [results_cell_tmp rfl]
   go_simp
end Go.Proofs.YtlcpcpmlfegejaaGreatDoor.Arr
