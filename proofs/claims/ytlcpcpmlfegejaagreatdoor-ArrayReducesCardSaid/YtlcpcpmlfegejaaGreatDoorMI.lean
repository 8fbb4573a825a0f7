/- The program's along. -/
import Derived.Test.YtlcpcpmlfegejaaGreatDoorMF
import Derived.Deep.RegionHeld3
import Derived.Test.YtlcpcpmlfegejaaGreatDoorME
namespace Go.Proofs.YtlcpcpmlfegejaaGreatDoor.Arr
open Go.RowKit Go.Shelf
open Go.Lib
attribute [local go_sem] Oper.semAt_some
def alV (s:List Nat) (l:List (List UInt8)) (a k:Nat) (red:Int) (ps:Nat→List Nat) (i:Nat):List UInt8:=redT red (numsL (alL s l a (ixOf (s.set a k) i) (ps ((ixOf (s.set a k) i).getD a 0))))
def AlongPost (w:World) (n M:Nat) (t:List Nat) (val:Nat→List UInt8) (e:Ending) (w':World):Prop :=
 Below w.heap.size w w'∧∃ b dd V,e=.returned (.tuple #[.agg #[.slice (some ⟨b,0,none⟩) n dd,.slice (some ⟨V,0,none⟩) M M],.int .i64 0])∧RdN w' (some ⟨b,0,none⟩) t∧(n≤dd∧dd≤maxLen)∧w.heap.size≤b∧(∃ cur,w'.heap[b]?=some (.cells cur 3 (0,0)))∧RdS w' (some ⟨V,0,none⟩) ((List.range M).map val)∧w.heap.size≤V
theorem srow_slots {W:World} {E N i:Nat} (h:SRow W E N) (hi:i<N):∃ z0 z1 z2,W.cell? ⟨E,i*3,none⟩=some z0∧W.cell? ⟨E,i*3+1,none⟩=some z1∧W.cell? ⟨E,i*3+2,none⟩=some z2∧W.frozen? ⟨E,i*3,none⟩=false∧W.frozen? ⟨E,i*3+1,none⟩=false∧W.frozen? ⟨E,i*3+2,none⟩=false:=by
 obtain ⟨cur,hV,hs,-⟩:=h
 refine ⟨cur[i*3]'(by omega),cur[i*3+1]'(by omega),cur[i*3+2]'(by omega),?_,?_,?_,foh hV _,foh hV _,foh hV _⟩
 ·rw [ceh hV];exact Array.getElem?_eq_getElem _
 ·rw [ceh hV];exact Array.getElem?_eq_getElem _
 ·rw [ceh hV];exact Array.getElem?_eq_getElem _
theorem elem29:Tryz.prog.underlying 29=some (.slice (Tryz.prog.elem 29)):=by kernel_rfl
theorem size29 (W:World):(sizeOf (Tryz.prog.elem 29)).run Tryz.prog W=.ok 1 W:=by kernel_rfl
theorem rest_29 (b off n c k:Nat) (s:List Nat) (hk:k≤n) (hnc:n≤c) (hs:s.length=n):∃ p',(∀ W,RdN W (some ⟨b,off,none⟩) s→RdN W p' (s.drop k))∧∀ W,(Instr.sliceAt 29 (.slice (some ⟨b,off,none⟩) n c) (some (.int .i64 (k:Int))) none none).run Tryz.prog W=.ok (.slice p' (n-k) (c-k)) W:=by
 by_cases hc:c=k
 ·refine ⟨some ⟨b,off,none⟩,fun W h=>?_,fun W=>?_⟩
  ·rw [List.drop_eq_nil_of_le (by omega)]
   exact ⟨fun z hz=>by simp at hz,.inl rfl⟩
  ·rw [run_sliceAt_slice W 29 _ _ _ _ elem29,run_slice_l W 29 _ _ _ elem29 .i64 (k:Int) (by omega) (by omega),size29]
   simp [Result.andThen,sliced,hc]
 ·refine ⟨some ⟨b,off+k,none⟩,fun W h=>?_,fun W=>?_⟩
  ·refine ⟨fun z hz=>?_,?_⟩
   ·obtain ⟨x,hx,rfl⟩:=List.mem_map.1 hz
    exact h.wf _ (List.mem_map_of_mem (List.mem_of_mem_drop hx))
   ·rcases h.cell with h0|⟨b',off',h1,h2,h3⟩
    ·left;rw [List.length_map] at h0;rw [List.length_map,List.length_drop];omega
    ·cases h1
     refine .inr ⟨b,off+k,rfl,h2,fun j hj=>?_⟩
     rw [List.length_map,List.length_drop] at hj
     rw [Nat.add_assoc,h3 (k+j) (by rw [List.length_map];omega),List.getD_eq_getElem?_getD,List.getD_eq_getElem?_getD,List.getElem?_map,List.getElem?_map,List.getElem?_drop]
  ·rw [run_sliceAt_slice W 29 _ _ _ _ elem29,run_slice_l W 29 _ _ _ elem29 .i64 (k:Int) (by omega) (by omega),size29]
   simp [Result.andThen,sliced,hc,Addr.add]
end Go.Proofs.YtlcpcpmlfegejaaGreatDoor.Arr
set_option maxHeartbeats 16000000
set_option maxRecDepth 100000
namespace Go.Proofs.YtlcpcpmlfegejaaGreatDoor.Arr
open Go.RowKit Go.Shelf
open Go.Lib
attribute [local go_sem] Oper.semAt_some
theorem run_store_fn (P:Program) (w:World) (a:Addr) (m:Mode) (f:Fn) (ts:Array Value) (cap:Array Value):(store a (.func f ts cap) m).run P w=stored P w a (.func f ts cap) m:=run_store P w a _ m rfl
attribute [local go_sem] run_store_fn
theorem hent81:∀ args W,(callFunc 81 args).run Tryz.prog W=.ok (.enter 81 args) W:=by
 intro args W;kernel_rfl
theorem rds_gb {W W':World} {p:Option Addr} {l:List (List UInt8)} {g:Nat} (h:RdS W p l) (hg:W.grownBy W' (some g)) (hne:∀ b off,p=some ⟨b,off,none⟩→0<l.length→b≠g):RdS W' p l:=by
 rcases h with h0|⟨b,off,h1,h2,h3⟩
 ·exact .inl h0
 ·by_cases hl:l.length=0
  ·exact .inl hl
  ·exact .inr ⟨b,off,h1,Nat.lt_of_lt_of_le h2 hg.size,fun j hj=>(World.cell?_of_block (a:=⟨b,off+j,none⟩) (hg.block b h2 (by intro e;injection e with e;exact hne b off h1 (by omega) e))).trans (h3 j hj)⟩
theorem along_yes (pb po c d n N a k:Nat) (q:Option Addr) (red:Int) (s:List Nat) (l:List (List UInt8)) (pf:FuncId) (pcap:Array Value) (ps:Nat→List Nat) (w:World)
  (hn:n≤4) (hs:Hid (s.length=n)) (hsb:Hid (∀ x ∈ s,x≤1024)) (hnc:Hid (n≤c)) (ha:a<n) (hk:k≤1024) (hl:Hid (l.length=N)) (hN:Hid (N=prod s)) (hN1:N≤1000)
  (hr1:1≤red) (hr5:red≤5) (HV:Hid (∀ j,j<N→isV (l.getD j [])=true)) (hvs:Hid (vs ((s.set a k).map Int.ofNat)=true)) (h4:Hid (prod (s.set a k)≤4096))
  (hps:Hid (∀ i,i<prod (s.set a k)→(ps ((ixOf (s.set a k) i).getD a 0)).length≤s.getD a 0∧∀ x ∈ ps ((ixOf (s.set a k) i).getD a 0),x<s.getD a 0))
  (hcap:Hid (0<prod (s.set a k)→s.getD a 0≤1000))
  (hpart:Hid (∀ w1,Below w.heap.size w w1→PartOk w1 w1.heap.size pf pcap ps k))
  (ht:Hid (Tab w)) (hp:Hid (RdN w (some ⟨pb,po,none⟩) s)) (hq:Hid (RdS w q l)) :
  Calls Tryz.prog 33 #[.agg #[.slice (some ⟨pb,po,none⟩) n c,.slice q N d],.int .i64 (a:Int),.int .i64 red,.int .i64 (k:Int),.func (.func pf) #[] pcap] w (AlongPost w n (prod (s.set a k)) (s.set a k) (alV s l a k red ps)):=by
 obtain ⟨F,hF0,hRED0⟩:=reduction_any red hr1 hr5
 have hF:=Lib.hid hF0
 have hRED:=Lib.hid hRED0
 have hni:(n:Int)≤4:=by omega
 have hai:(a:Int)<(n:Int):=by omega
 have hNi:(N:Int)≤1000:=by omega
 have hki:(k:Int)≤1024:=by omega
 have HAN:=Lib.hid ha
 have HKB:=Lib.hid hk
 have HN1:=Lib.hid hN1
 obtain ⟨t,HTT⟩:∃ t,Hid (s.set a k=t):=⟨_,Lib.hid rfl⟩
 obtain ⟨A,HA⟩:∃ A,Hid (w.heap.size=A):=⟨_,Lib.hid rfl⟩
 obtain ⟨W0,HW0⟩:∃ W0,Hid ((((w.alloc (.cells #[.slice (some ⟨pb,po,none⟩) n c,.slice q N d] 31)).alloc (.cells #[.int .i64 (a:Int)] 3)).alloc (.cells #[.func (.func pf) #[] pcap] 72)).alloc (.cells #[.slice none 0 0,.slice none 0 0] 31)=W0):=⟨_,Lib.hid rfl⟩
 have HB0:Hid (Below w.heap.size w W0):=Lib.hid (by rw [← HW0.out];exact ((((Below.refl _ w).alloc (Nat.le_refl _) _).alloc (by simp) _).alloc (by simp;omega) _).alloc (by simp;omega) _)
 have HS0:Hid (W0.heap.size=A+1+1+1+1):=Lib.hid (by rw [← HW0.out,← HA.out];simp)
 have HA0:Hid (W0.heap[A]?=some (.cells #[.slice (some ⟨pb,po,none⟩) n c,.slice q N d] 31 (0,0))):=Lib.hid (by
  rw [← HW0.out,← HA.out]
  simp only [World.alloc,Array.getElem?_push,Array.size_push]
  repeat' (first|rw [if_pos (by omega)] | rw [if_neg (by omega)] | rfl))
 have HA1:Hid (W0.heap[A+1]?=some (.cells #[.int .i64 (a:Int)] 3 (0,0))):=Lib.hid (by
  rw [← HW0.out,← HA.out]
  simp only [World.alloc,Array.getElem?_push,Array.size_push]
  repeat' (first|rw [if_pos (by omega)] | rw [if_neg (by omega)] | rfl))
 have HA2:Hid (W0.heap[A+1+1]?=some (.cells #[.func (.func pf) #[] pcap] 72 (0,0))):=Lib.hid (by
  rw [← HW0.out,← HA.out]
  simp only [World.alloc,Array.getElem?_push,Array.size_push]
  repeat' (first|rw [if_pos (by omega)] | rw [if_neg (by omega)] | rfl))
 have HA3:Hid (W0.heap[A+1+1+1]?=some (.cells #[.slice none 0 0,.slice none 0 0] 31 (0,0))):=Lib.hid (by
  rw [← HW0.out,← HA.out]
  simp only [World.alloc,Array.getElem?_push,Array.size_push]
  repeat' (first|rw [if_pos (by omega)] | rw [if_neg (by omega)] | rfl))
 have HBX:Hid (∀ W',Below W0.heap.size W0 W'→Below w.heap.size w W'∧W'.heap[A]?=some (.cells #[.slice (some ⟨pb,po,none⟩) n c,.slice q N d] 31 (0,0))∧W'.heap[A+1]?=some (.cells #[.int .i64 (a:Int)] 3 (0,0))∧W'.heap[A+1+1]?=some (.cells #[.func (.func pf) #[] pcap] 72 (0,0))∧W'.heap[A+1+1+1]?=some (.cells #[.slice none 0 0,.slice none 0 0] 31 (0,0))):=Lib.hid (fun W' hb =>
  ⟨HB0.out.trans (hb.mono HB0.out.size),(hb.block _ (by rw [HS0.out];omega)).trans HA0.out,(hb.block _ (by rw [HS0.out];omega)).trans HA1.out,(hb.block _ (by rw [HS0.out];omega)).trans HA2.out,(hb.block _ (by rw [HS0.out];omega)).trans HA3.out⟩)
 have HCL:=Lib.hid (clone_row ⟨pb,po,none⟩ n c s W0 hs hn (by omega) hsb (hp.out.below HB0.out))
 have HSZ:Hid (w.heap.size≤W0.heap.size):=Lib.hid HB0.out.size
 obtain ⟨-,x0,x1,-,-⟩:=HBX.out W0 (Below.refl _ _)
 have a0:W0.cell? ⟨A,0,none⟩=some (.slice (some ⟨pb,po,none⟩) n c):=ceh x0 0
 clear hr1 hr5 hF0 hRED0 ha hk hN1 x0 x1
 rw [HTT.out] at hvs h4 hps hcap ⊢
 obtain ⟨val,HVAL⟩:∃ val,Hid (alV s l a k red ps=val):=⟨_,Lib.hid rfl⟩
 rw [HVAL.out]
 unfold AlongPost
 go_enter Tryz.func33,Tryz.ntmps33
 go_wp2_with fail
 rw [HW0.out,HA.out]
 go_wp2_with fail
 refine HCL.out.mono ?_
 rintro e wa ⟨hba,b1,d1,rfl,hra,hd1,hb1,cur,hcur⟩
 have HBA:=Lib.hid hba
 have HB1:Hid (W0.heap.size≤b1∧b1<wa.heap.size):=Lib.hid ⟨hb1,(Array.getElem?_eq_some_iff.1 hcur).1⟩
 have HD1:=Lib.hid hd1
 obtain ⟨-,-,x1,-,-⟩:=HBX.out wa hba
 have a1:wa.cell? ⟨A+1,0,none⟩=some (.int .i64 (a:Int)):=ceh x1 0
 obtain ⟨v0,c0⟩:∃ v0,wa.cell? ⟨b1,a,none⟩=some v0:=by
  obtain ⟨b',off',x,e1,-,h3,-⟩:=hra.at (k:=a) (by rw [hs.out];exact HAN.out)
  cases e1
  rw [Nat.zero_add] at h3
  exact ⟨_,h3⟩
 have f0:wa.frozen? ⟨b1,a,none⟩=false:=foh hcur _
 obtain ⟨wb,HWB⟩:∃ wb,Hid (wa.setCell ⟨b1,a,none⟩ (.int .i64 (k:Int))=wb):=⟨_,Lib.hid rfl⟩
 have HBB:Hid (Below W0.heap.size W0 wb):=Lib.hid (by rw [← HWB.out];exact setCell_below hba hb1)
 have HSB:Hid (wb.heap.size=wa.heap.size):=Lib.hid (by rw [← HWB.out];simp)
 have HRT:Hid (RdN wb (some ⟨b1,0,none⟩) t):=Lib.hid (by
  have h:=rdn_set (v:=k) hra (by rw [hs.out];exact HAN.out) (by have:=HKB.out;omega)
  rw [Nat.zero_add] at h
  rw [← HWB.out,← HTT.out];exact h)
 have HCB:Hid (∃ cur,wb.heap[b1]?=some (.cells cur 3 (0,0))):=Lib.hid ⟨_,by rw [← HWB.out];exact heap_set wa b1 a (.int .i64 (k:Int)) _ _ hcur⟩
 have HTL:Hid (t.length=n):=Lib.hid (by rw [← HTT.out,List.length_set,hs.out])
 have HVS:Hid (Calls Tryz.prog 79 #[.slice (some ⟨b1,0,none⟩) n d1] wb fun e w'=>wb=w'∧e=.returned (.bool true)):=Lib.hid (by
  have:=vshape_any (some ⟨b1,0,none⟩) d1 (t.map Int.ofNat) wb HRT.out
  rwa [List.length_map,HTL.out,hvs.out] at this)
 clear hba hra hd1 hb1 hcur x1 a0
 go_wp2_with fail
 rw [HWB.out]
 refine HVS.out.mono ?_
 rintro e w' ⟨rfl,rfl⟩
 clear a1 c0 f0
 obtain ⟨cs,hcs,hcN,hmk⟩:=make_nums N N (Nat.le_refl _) (by have:=HN1.out;omega)
 obtain ⟨-,x0,x1,-,-⟩:=HBX.out wb HBB.out
 have a0:wb.cell? ⟨A,1,none⟩=some (.slice q N d):=ceh x0 1
 obtain ⟨E,HEE⟩:∃ E,Hid (wb.heap.size=E):=⟨_,Lib.hid rfl⟩
 obtain ⟨wS,HWS⟩:∃ wS,Hid ((wb.alloc (.cells cs 62)).alloc (.cells #[.slice (some ⟨E,0,none⟩) N N] 58)=wS):=⟨_,Lib.hid rfl⟩
 have HBS:Hid (Below W0.heap.size W0 wS):=Lib.hid (by rw [← HWS.out];exact (HBB.out.alloc HBB.out.size _).alloc (Nat.le_trans HBB.out.size (by simp)) _)
 have HSS:Hid (wS.heap.size=E+1+1∧W0.heap.size≤E∧b1<E):=Lib.hid ⟨by rw [← HWS.out,← HEE.out];simp,by rw [← HEE.out];exact HBB.out.size,by rw [← HEE.out,HSB.out];exact HB1.out.2⟩
 have HE1:Hid (wS.heap[E+1]?=some (.cells #[.slice (some ⟨E,0,none⟩) N N] 58 (0,0))):=Lib.hid (by
  rw [← HWS.out,← HEE.out]
  simp only [World.alloc,Array.getElem?_push,Array.size_push]
  repeat' (first|rw [if_pos (by omega)] | rw [if_neg (by omega)] | rfl))
 have HEX:Hid (ExI wS E N 0 l):=Lib.hid (by
  refine ⟨⟨cs,?_,hcs,hcN⟩,fun j hj=>by omega⟩
  rw [← HWS.out,← HEE.out]
  simp only [World.alloc,Array.getElem?_push,Array.size_push]
  repeat' (first|rw [if_pos (by omega)] | rw [if_neg (by omega)] | rfl))
 have HRTS:Hid (RdN wS (some ⟨b1,0,none⟩) t∧∃ cur,wS.heap[b1]?=some (.cells cur 3 (0,0))):=Lib.hid (by
  have hb:Below wb.heap.size wb wS:=by rw [← HWS.out];exact ((Below.refl _ _).alloc (Nat.le_refl _) _).alloc (by simp) _
  obtain ⟨cur,hc⟩:=HCB.out
  exact ⟨HRT.out.below hb,cur,(hb.block b1 (Array.getElem?_eq_some_iff.1 hc).1).trans hc⟩)
 clear hcs hcN x0 x1
 have a2:(wS).cell? ⟨A,1,none⟩=some (.slice q N d):=ceh (HBX.out wS HBS.out).2.1 1
 rw [← HWS.out,← HEE.out] at a2
 go_wp2_with fail
 rw [HEE.out,HWS.out]
 go_loopw [37] (fun iv wr=>∃ i:Nat,i≤N∧iv=.int .i64 (i:Int)∧Hid (wS.grownBy wr (some E)∧ExI wr E N i l)) (fun iv _=>N-(intOf iv).toNat)
 case atStart=>exact ⟨0,Nat.zero_le _,rfl,Lib.hid ⟨⟨rfl,rfl,rfl,Nat.le_refl _,fun _ _ _=>rfl⟩,HEX.out⟩⟩
 case round =>
  obtain ⟨i,hin,rfl,HST⟩:=hrel
  have HBR:Hid (Below W0.heap.size W0 wr):=Lib.hid (HBS.out.grown HST.out.1 HBS.out.size (fun k e=>by cases e;exact HSS.out.2.1))
  have HE2:Hid (wr.heap[E+1]?=some (.cells #[.slice (some ⟨E,0,none⟩) N N] 58 (0,0))):=Lib.hid ((HST.out.1.block (E+1) (Array.getElem?_eq_some_iff.1 HE1.out).1 (by intro e;injection e with e;omega)).trans HE1.out)
  clear a0 a2
  by_cases hlt:i<N
  ·obtain ⟨bq,oq,x,rfl,hbl,hcell,HX⟩:=hq.out.at (k:=i) (by rw [hl.out];exact hlt)
   have s0:wr.cell? ⟨bq,oq+i,none⟩=some (.string ⟨List.toArray x⟩):=((HBX.out wr HBR.out).1.cell (p:=⟨bq,oq+i,none⟩) hbl).trans hcell
   have i0:(0:Int)≤(i:Int):=by omega
   have i1:(i:Int)<(N:Int):=by omega
   have HLT:=Lib.hid hlt
   have HREAD:Hid (∀ W,Calls Tryz.prog 26 #[.string ⟨List.toArray x⟩] W (NumPost (num x) W)):=Lib.hid (fun W=>read_val x W (by rw [HX.out];exact HV.out i HLT.out))
   have c13:wr.drew.cell? ⟨E+1,0,none⟩=some (.slice (some ⟨E,0,none⟩) N N):=ceh HE2.out 0
   have C13:=Lib.hid c13
   clear hcell hbl hlt
   go_wp2_with fail
   go_region_held3 (fun W'=>W'.cell? ⟨E+1,0,none⟩=some (.slice (some ⟨E,0,none⟩) N N))
    (first|exact C13.out|exact S5.out|exact S9.out|go_keep)
    (first|(go_at_call 26;refine (HREAD.out _).mono ?_;rintro e w5 ⟨hb5,xb,xp,xn,xc,xr,xm,xd,rfl,hqx⟩;have HB5:=Lib.hid hb5;have HQX:=Lib.hid hqx;have HE5:Hid (wr.drew.heap[E+1]?=some (.cells #[.slice (some ⟨E,0,none⟩) N N] 58 (0,0))):=Lib.hid HE2.out;have HEX5:Hid (ExI w5 E N i l):=Lib.hid ((HST.out.2.below (show Below wr.heap.size wr wr.drew from ⟨rfl,rfl,rfl,Nat.le_refl _,fun _ _=>rfl⟩)).below HB5.out);have S5:Hid (w5.cell? ⟨E+1,0,none⟩=some (.slice (some ⟨E,0,none⟩) N N)):=Lib.hid (ceh ((HB5.out.block (E+1) (Array.getElem?_eq_some_iff.1 HE5.out).1).trans HE5.out) 0);obtain ⟨z0,z1,z2,k0,k1,k2,g0,g1,g2⟩:=srow_slots HEX5.out.row HLT.out;obtain ⟨w9,hw9,hr9,ha9,hg9,ho9⟩:=put_row HEX5.out.row HLT.out (xb,xp,xn,xc,xr,xm,xd);have HW9:=Lib.hid hw9;have H9:=Lib.hid (And.intro hr9 (And.intro ha9 (And.intro hg9 ho9)));have S9:Hid ((((w5.setCell ⟨E,i*3,none⟩ (.bool xb)).setCell ⟨E,i*3+1,none⟩ (.slice xp xn xc)).setCell ⟨E,i*3+2,none⟩ (.slice xr xm xd)).cell? ⟨E+1,0,none⟩=some (.slice (some ⟨E,0,none⟩) N N)):=Lib.hid (by rw [show (((w5.setCell ⟨E,i*3,none⟩ (.bool xb)).setCell ⟨E,i*3+1,none⟩ (.slice xp xn xc)).setCell ⟨E,i*3+2,none⟩ (.slice xr xm xd))=w9 from HW9.out.symm];exact ceh ((H9.out.2.2.1.block (E+1) (Nat.lt_of_lt_of_le (Array.getElem?_eq_some_iff.1 HE5.out).1 HB5.out.size) (by intro e;injection e with e;omega)).trans ((HB5.out.block (E+1) (Array.getElem?_eq_some_iff.1 HE5.out).1).trans HE5.out)) 0);clear hb5 hqx hw9 hr9 ha9 hg9 ho9))
   have HEND:Hid (wS.grownBy (((w5.setCell ⟨E,i*3,none⟩ (.bool xb)).setCell ⟨E,i*3+1,none⟩ (.slice xp xn xc)).setCell ⟨E,i*3+2,none⟩ (.slice xr xm xd)) (some E)∧ExI (((w5.setCell ⟨E,i*3,none⟩ (.bool xb)).setCell ⟨E,i*3+1,none⟩ (.slice xp xn xc)).setCell ⟨E,i*3+2,none⟩ (.slice xr xm xd)) E N (i+1) l):=Lib.hid (by
    rw [show (((w5.setCell ⟨E,i*3,none⟩ (.bool xb)).setCell ⟨E,i*3+1,none⟩ (.slice xp xn xc)).setCell ⟨E,i*3+2,none⟩ (.slice xr xm xd))=w9 from HW9.out.symm]
    refine ⟨((HST.out.1.trans (⟨rfl,rfl,rfl,Nat.le_refl _,fun _ _ _=>rfl⟩:wr.grownBy wr.drew (some E))).trans (gb_of_below HB5.out (some E))).trans H9.out.2.2.1,HEX5.out.put H9.out.1 H9.out.2.1 H9.out.2.2.1 H9.out.2.2.2 (fun q hq=>?_)⟩
    exact HQX.out q (by rw [HX.out];exact hq))
   go_wp2_with fail
   go_roundw
   case rel=>exact ⟨i+1,by omega,by go_num,HEND⟩
   case measure=>simp [intOf];omega
  ·obtain rfl:i=N:=by omega
   obtain ⟨cap,HCAP⟩:∃ cap,Hid (s.getD a 0=cap):=⟨_,Lib.hid rfl⟩
   obtain ⟨dist,HDI⟩:∃ dist,Hid (prod (s.drop (a+1))=dist):=⟨_,Lib.hid rfl⟩
   obtain ⟨p',hrd',hsl⟩:=rest_29 pb po n c (a+1) s (by have:=HAN.out;omega) hnc.out hs.out
   have HRD':=Lib.hid hrd'
   have hsl2:∀ W,(Instr.sliceAt 29 (.slice (some ⟨pb,po,none⟩) n c) (some (.int .i64 ((a:Int)+1))) none none).run Tryz.prog W=.ok (.slice p' (n-(a+1)) (c-(a+1))) W:=fun W=>hsl W
   obtain ⟨n2,HN2⟩:∃ n2,Hid (n-(a+1)=n2):=⟨_,Lib.hid rfl⟩
   obtain ⟨c2,HC2⟩:∃ c2,Hid (c-(a+1)=c2):=⟨_,Lib.hid rfl⟩
   rw [HN2.out,HC2.out] at hsl2
   obtain ⟨wf,HWF⟩:∃ wf,Hid (wr.alloc (.cells #[.func (.func F) #[] #[]] 55)=wf):=⟨_,Lib.hid rfl⟩
   obtain ⟨V0,HV0⟩:∃ V0,Hid (wr.heap.size=V0):=⟨_,Lib.hid rfl⟩
   have HBF:Hid (Below W0.heap.size W0 wf):=Lib.hid (by rw [← HWF.out];exact HBR.out.alloc HBR.out.size _)
   have HPF:Hid (RdN wf (some ⟨pb,po,none⟩) s):=Lib.hid (hp.out.below (HBX.out wf HBF.out).1)
   have HPRO:Hid (Calls Tryz.prog 80 #[.slice p' n2 c2] wf fun e w'=>wf=w'∧e=.returned (.int .i64 ((dist:Nat):Int))):=Lib.hid (by
    have:=product_any p' c2 (s.drop (a+1)) wf (by rw [List.length_drop,hs.out];omega) (fun x hx=>hsb.out x (List.mem_of_mem_drop hx)) (HRD'.out wf HPF.out)
    rwa [List.length_drop,hs.out,HN2.out,HDI.out] at this)
   obtain ⟨-,x0,x1,-,-⟩:=HBX.out wf HBF.out
   have y0:wf.cell? ⟨A,0,none⟩=some (.slice (some ⟨pb,po,none⟩) n c):=ceh x0 0
   have y1:wf.cell? ⟨A+1,0,none⟩=some (.int .i64 (a:Int)):=ceh x1 0
   rw [← HWF.out] at y0 y1
   clear hrd' hsl x0 x1
   go_wp2_with fail
   refine (hRED.out wr).mono ?_
   rintro e w' ⟨rfl,rfl⟩
   go_wp2_with fail
   rw [HWF.out,HV0.out]
   refine HPRO.out.mono ?_
   rintro e w' ⟨rfl,rfl⟩
   clear y0 y1 hsl2
   obtain ⟨VF,HVF⟩:∃ VF,Hid (wf.heap.size=VF):=⟨_,Lib.hid rfl⟩
   obtain ⟨wd,HWD⟩:∃ wd,Hid (wf.alloc (.cells #[.int .i64 ((dist:Nat):Int)] 3)=wd):=⟨_,Lib.hid rfl⟩
   have HBD:Hid (Below W0.heap.size W0 wd):=Lib.hid (by rw [← HWD.out];exact HBF.out.alloc HBF.out.size _)
   have HSF:Hid (VF=V0+1∧E+1+1≤V0∧W0.heap.size≤V0):=Lib.hid ⟨by rw [← HVF.out,← HWF.out,← HV0.out];simp,by rw [← HV0.out,← HSS.out.1];exact HST.out.1.size,by rw [← HV0.out];exact HBR.out.size⟩
   have HSD:Hid (wd.heap.size=VF+1):=Lib.hid (by rw [← HWD.out,← HVF.out];simp)
   have HRD:Hid (Below wr.heap.size wr wd):=Lib.hid (by rw [← HWD.out,← HWF.out];exact ((Below.refl _ _).alloc (Nat.le_refl _) _).alloc (by simp) _)
   have HDBD:Hid (wd.heap[VF]?=some (.cells #[.int .i64 ((dist:Nat):Int)] 3 (0,0))):=Lib.hid (by rw [← HWD.out,← HVF.out];exact World.alloc_heap_new _ _)
   have HRBD:Hid (wd.heap[V0]?=some (.cells #[.func (.func F) #[] #[]] 55 (0,0))):=Lib.hid (by
    rw [← HWD.out,← HWF.out,← HV0.out]
    simp only [World.alloc,Array.getElem?_push,Array.size_push]
    repeat' (first|rw [if_pos (by omega)] | rw [if_neg (by omega)] | rfl))
   have HEBD:Hid (wd.heap[E+1]?=some (.cells #[.slice (some ⟨E,0,none⟩) i i] 58 (0,0))):=Lib.hid ((HRD.out.block (E+1) (Array.getElem?_eq_some_iff.1 HE2.out).1).trans HE2.out)
   have HCB:Hid (cap≤1024):=Lib.hid (by
    rw [← HCAP.out,List.getD_eq_getElem?_getD,List.getElem?_eq_getElem (by rw [hs.out];exact HAN.out)]
    exact hsb.out _ (List.getElem_mem _))
   obtain ⟨cv,hcv,hcvN,hmk2⟩:=make_nums 0 cap (Nat.zero_le _) (by have:=HCB.out;omega)
   have hmk3:∀ W,(Instr.makeSlice 58 (.int .i64 0) (.int .i64 (cap:Int))).run Tryz.prog W=.ok (.slice (some ⟨W.heap.size,0,none⟩) 0 cap) (W.alloc (.cells cv 62)):=fun W=>hmk2 W
   obtain ⟨w3,HW3⟩:∃ w3,Hid ((wd.alloc (.cells cv 62)).alloc (.cells #[.slice (some ⟨VF+1,0,none⟩) 0 cap] 58)=w3):=⟨_,Lib.hid rfl⟩
   have HB3:Hid (Below W0.heap.size W0 w3):=Lib.hid (by rw [← HW3.out];exact (HBD.out.alloc HBD.out.size _).alloc (Nat.le_trans HBD.out.size (by simp)) _)
   have HB3D:Hid (Below wd.heap.size wd w3):=Lib.hid (by rw [← HW3.out];exact ((Below.refl _ _).alloc (Nat.le_refl _) _).alloc (by simp) _)
   have HS3:Hid (w3.heap.size=VF+1+1+1):=Lib.hid (by rw [← HW3.out];simp [HSD.out])
   have HOK3:Hid (OkA wd (VF+1) cap w3):=Lib.hid (by
    refine ⟨HB3D.out,⟨cv,?_,hcv,hcvN⟩,0,Nat.zero_le _,?_⟩
    ·rw [← HW3.out,← HSD.out]
     simp only [World.alloc,Array.getElem?_push,Array.size_push]
     repeat' (first|rw [if_pos (by omega)] | rw [if_neg (by omega)] | rfl)
    ·rw [← HW3.out,← HSD.out]
     simp only [World.alloc,Array.getElem?_push,Array.size_push]
     repeat' (first|rw [if_pos (by omega)] | rw [if_neg (by omega)] | rfl))
   have HRT3:Hid (RdN w3 (some ⟨b1,0,none⟩) t):=Lib.hid ((HRTS.out.1.gb HST.out.1 (fun b off e _=>by cases e;have:=HSS.out.2.2;omega)).below (show Below wr.heap.size wr w3 from HRD.out.trans (HB3D.out.mono HRD.out.size)))
   have HBUILD:Hid (Calls Tryz.prog 53 #[.slice (some ⟨b1,0,none⟩) n d1,.func (.func 81) #[] #[.pointer (some ⟨A+1,0,none⟩),.pointer (some ⟨A,0,none⟩),.pointer (some ⟨VF+1+1,0,none⟩),.pointer (some ⟨A+1+1,0,none⟩),.pointer (some ⟨VF,0,none⟩),.pointer (some ⟨E+1,0,none⟩),.pointer (some ⟨V0,0,none⟩)]] w3 (BuildPostR w3 n (prod t) t val (fun r=>r=VF+1∨r=VF+1+1) (OkA wd (VF+1) cap))):=Lib.hid (by
    have htb:∀ x ∈ t,x≤1024:=fun x hx=>by
     rw [← HTT.out] at hx
     rcases List.mem_or_eq_of_mem_set hx with h|h
     ·exact hsb.out x h
     ·rw [h];exact HKB.out
    refine buildR_any (some ⟨b1,0,none⟩) ⟨b1,0,none⟩ rfl d1 n (prod t) 81 _ t val _ _ w3 hn (by have:=HAN.out;omega) HTL (Lib.hid htb) (Lib.hid rfl) h4.out HRT3.out (fun r hr=>by have:=HS3.out;omega) (fun b off e _=>by cases e;have:=HSS.out.2.2;have:=HSF.out;omega) hent81 HOK3.out (fun X Y r hX hg hr=>hX.next hg (by have:=HSD.out;omega) (fun k e=>by have:=hr k e;have:=HS3.out;omega)) ?_
    intro j g W hj hW hgg hgV
    have hij:=(ixOf_is t j hj).1
    obtain ⟨g0,g1,g2,g3,-⟩:=HBX.out wd HBD.out
    obtain ⟨hpe,hpp⟩:=hpart.out wd g0
    have hlt:(ixOf t j).getD a 0<k:=by
     have h1:=hij.2 a (by rw [HTL.out];exact HAN.out)
     have h2:t.getD a 0=k:=by rw [← HTT.out,List.getD_eq_getElem?_getD,List.getElem?_set_self (by rw [hs.out];exact HAN.out)];rfl
     rwa [h2] at h1
    have h:=along1_any wd W (VF+1) cap E i n c d k a dist g (A+1) A (A+1+1) VF (E+1) V0 red (some ⟨pb,po,none⟩) q s (ixOf t j) (ps ((ixOf t j).getD a 0)) l F pf pcap hn hs HAN.out hl hN HN1.out (Lib.hid HCAP.out.symm) (Lib.hid (by rw [← HCAP.out];exact hcap.out (Nat.lt_of_le_of_lt (Nat.zero_le _) hj))) (Lib.hid HDI.out.symm) HV (Lib.hid (by rw [← HCAP.out];exact hps.out j hj)) HSD (Lib.hid g2) (Lib.hid g1) (Lib.hid g3) HDBD HEBD HRBD (Lib.hid (hp.out.below g0)) (Lib.hid (hq.out.below g0)) (Lib.hid (HST.out.2.below HRD.out)) (Lib.hid (ht.out.below g0)) hF hpe (Lib.hid (fun X hX hXV=>by
      have h5:=hpp _ X hlt hX (by rw [HSD.out];exact hXV)
      rwa [HSD.out] at h5)) (Lib.hid hW) (Lib.hid hgg) (Lib.hid (by have:=HS3.out;omega)) (Lib.hid (fun x hx=>Nat.le_of_lt (ixOf_small hj htb x hx))) (Lib.hid (by rw [HTT.out];exact hij))
    refine h.mono (fun e W' ⟨h1,h2,h3,h4⟩=>⟨?_,h2,h3,h4⟩)
    rw [h1,← HVAL.out];unfold alV;rw [HTT.out])
   obtain ⟨-,x0,x1,-,-⟩:=HBX.out wd HBD.out
   have y0:wd.cell? ⟨A,0,none⟩=some (.slice (some ⟨pb,po,none⟩) n c):=ceh x0 0
   have y1:wd.cell? ⟨A+1,0,none⟩=some (.int .i64 (a:Int)):=ceh x1 0
   have y2:wd.cell? ⟨pb,po+a,none⟩=some (.int .i64 (cap:Int)):=by
    obtain ⟨b',off',x,e1,-,h3,HX⟩:=(hp.out.below (HBX.out wd HBD.out).1).at (k:=a) (by rw [hs.out];exact HAN.out)
    cases e1
    rw [h3,HX.out,HCAP.out]
   rw [← HWD.out] at y0 y1 y2
   clear x0 x1 hcv hcvN hmk2
   go_wp2_with fail
   rw [HVF.out,HWD.out,HW3.out]
   refine HBUILD.out.mono ?_
   rintro e w6 ⟨hg6,-,b6,d6,V6,rfl,hr1,hr2,hr3,hr4,hr5,hr6⟩
   have H6:=Lib.hid (And.intro hg6 (And.intro hr1 (And.intro hr2 (And.intro hr3 (And.intro hr4 (And.intro hr5 hr6))))))
   have hA6:w6.heap[A+1+1+1]?=some (.cells #[.slice none 0 0,.slice none 0 0] 31 (0,0)):=(hg6.block _ (by have:=HS0.out;have:=HB3.out.size;omega) (by have:=HSF.out;have:=HS0.out;omega)).trans (HBX.out w3 HB3.out).2.2.2.2
   have r0:w6.cell? ⟨A+1+1+1,0,none⟩=some (.slice none 0 0):=ceh hA6 0
   have r1:w6.cell? ⟨A+1+1+1,1,none⟩=some (.slice none 0 0):=ceh hA6 1
   have z0:w6.frozen? ⟨A+1+1+1,0,none⟩=false:=foh hA6 0
   have z1:w6.frozen? ⟨A+1+1+1,1,none⟩=false:=foh hA6 1
   have hE1:=heap_set w6 (A+1+1+1) 0 (.slice (some ⟨b6,0,none⟩) n d6) _ _ hA6
   have hE2:=heap_set _ (A+1+1+1) 1 (.slice (some ⟨V6,0,none⟩) (prod t) (prod t)) _ _ hE1
   obtain ⟨W7,HW7⟩:∃ W7,Hid ((w6.setCell ⟨A+1+1+1,0,none⟩ (.slice (some ⟨b6,0,none⟩) n d6)).setCell ⟨A+1+1+1,1,none⟩ (.slice (some ⟨V6,0,none⟩) (prod t) (prod t))=W7):=⟨_,Lib.hid rfl⟩
   rw [HW7.out] at hE2
   have k0:W7.cell? ⟨A+1+1+1,0,none⟩=some (.slice (some ⟨b6,0,none⟩) n d6):=ceh hE2 0
   have k1:W7.cell? ⟨A+1+1+1,1,none⟩=some (.slice (some ⟨V6,0,none⟩) (prod t) (prod t)):=ceh hE2 1
   have HFIN:Hid (AlongPost w n (prod t) t val (.returned (.tuple #[.agg #[.slice (some ⟨b6,0,none⟩) n d6,.slice (some ⟨V6,0,none⟩) (prod t) (prod t)],.int .i64 0])) W7):=Lib.hid (by
    have hg67:w6.grownBy W7 (some (A+1+1+1)):=by rw [← HW7.out];exact (gb_set _ _ _ _).trans (gb_set _ _ _ _)
    obtain ⟨hg6,hr1,hr2,hr3,hr4,hr5,hr6⟩:=H6.out
    have hw3:=(HBX.out w3 HB3.out).1
    have o1:=HS0.out
    have o2:=HSF.out
    have o3:=HB3.out.size
    have o4:=HA.out
    obtain ⟨cur,hcur⟩:=hr4
    refine ⟨⟨(hg67.os.trans hg6.os).trans hw3.os,(hg67.tape.trans hg6.tape).trans hw3.tape,(hg67.output.trans hg6.output).trans hw3.output,Nat.le_trans hw3.size (Nat.le_trans hg6.size hg67.size),fun m hm=>((hg67.block m (Nat.lt_of_lt_of_le hm (Nat.le_trans hw3.size hg6.size)) (by intro e;injection e with e;omega)).trans (hg6.block m (Nat.lt_of_lt_of_le hm hw3.size) (by omega))).trans (hw3.block m hm)⟩,b6,d6,V6,rfl,hr1.gb hg67 (fun b off e _=>by cases e;omega),hr2,by omega,⟨cur,(hg67.block b6 (Array.getElem?_eq_some_iff.1 hcur).1 (by intro e;injection e with e;omega)).trans hcur⟩,rds_gb hr5 hg67 (fun b off e _=>by cases e;omega),by omega⟩)
   clear hg6 hr1 hr2 hr3 hr4 hr5 hr6 hA6 hE1 hE2 y0 y1 y2
   go_wp2_with fail
   (try simp only [Exit.inBlock,Exit.then])
   rw [HW7.out]
   refine bodyPost_ret (v:=.tuple #[.agg #[.slice (some ⟨b6,0,none⟩) n d6,.slice (some ⟨V6,0,none⟩) (prod t) (prod t)],.int .i64 0]) ?_ rfl HFIN.out
   rw [results_cell_tmp rfl]
   go_simp
end Go.Proofs.YtlcpcpmlfegejaaGreatDoor.Arr
