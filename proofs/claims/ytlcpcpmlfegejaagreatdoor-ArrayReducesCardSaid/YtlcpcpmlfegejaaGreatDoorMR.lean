/- The program's Reduce: all its cases. -/
import Derived.Test.YtlcpcpmlfegejaaGreatDoorMM
import Derived.Test.YtlcpcpmlfegejaaGreatDoorGM
import Derived.Test.YtlcpcpmlfegejaaGreatDoorRa
import Derived.Test.YtlcpcpmlfegejaaGreatDoorMO
import Derived.Laws.ResultCell
import Derived.Test.YtlcpcpmlfegejaaGreatDoorMK
namespace Go.Proofs.YtlcpcpmlfegejaaGreatDoor.Arr
open Go.RowKit Go.Shelf
open Go.Lib
def redA (s:List Int) (l:List (List UInt8)) (a red:Int):Int × List Nat × List (List UInt8) :=
 if chkV s l a red=0 then
  if vs (((s.map Int.toNat).set a.toNat 1).map Int.ofNat)=true then (0,(s.map Int.toNat).eraseIdx a.toNat,(List.range (prod ((s.map Int.toNat).set a.toNat 1))).map (alV (s.map Int.toNat) l a.toNat 1 red (fun _=>spanL 0 ((s.map Int.toNat).getD a.toNat 0))))
  else (60,[],[])
 else (chkV s l a red,[],[])
theorem chk_zero {s:List Int} {l:List (List UInt8)} {a red:Int} (h:chkV s l a red=0):∃ (S:List Nat) (k:Nat),s=S.map Int.ofNat∧a=(k:Int)∧Shp S∧k<S.length∧1≤red∧red≤5∧validA s l=true∧l.length=prod S∧(∀ j,j<l.length→isV (l.getD j [])=true):=by
 unfold chkV at h
 by_cases hv:validA s l=true
 ·rw [if_pos hv] at h
  by_cases hx:(0≤a∧a<s.length)∧(1≤red∧red≤5)
  ·have hv2:=hv
   unfold validA at hv2
   rw [Bool.and_eq_true,Bool.and_eq_true,decide_eq_true_eq] at hv2
   obtain ⟨S,rfl,hsh⟩:=vs_yes hv2.1
   have hl:(S.map Int.ofNat).length=S.length:=List.length_map _
   refine ⟨S,a.toNat,rfl,by omega,hsh,by omega,hx.2.1,hx.2.2,hv,?_,fun j hj=>all_getD hv2.2.2 j hj⟩
   rw [hv2.2.1,toNat_map]
  ·rw [if_neg hx] at h;omega
 ·rw [if_neg hv] at h;omega
theorem chk_or (s:List Int) (l:List (List UInt8)) (a red:Int):chkV s l a red=0∨chkV s l a red=2∨chkV s l a red=60:=by
 unfold chkV
 split
 ·split
  ·exact .inl rfl
  ·exact .inr (.inl rfl)
 ·exact .inr (.inr rfl)
theorem spanL_mem {f e x:Nat} (h:x ∈ spanL f e):f≤x∧x<e:=by
 unfold spanL at h
 obtain ⟨y,hy,rfl⟩:=List.mem_map.1 h
 have:=List.mem_range.1 hy
 omega
theorem rdn_some {w:World} {p:Option Addr} {s:List Nat} (h:RdN w p s) (h0:0<s.length):∃ pb po,p=some ⟨pb,po,none⟩:=by
 obtain ⟨b,off,x,e,-⟩:=h.at h0
 exact ⟨b,off,e⟩
theorem prod_dim {s:List Nat} {a v:Nat} (ha:a<s.length) (h0:0<prod (s.set a v)):s.getD a 0≤prod s:=by
 have h1:=prod_split s a
 rw [prod_drop ha] at h1
 have h2:=prod_split (s.set a v) a
 rw [prod_drop (by rw [List.length_set];exact ha),List.take_set_of_le (Nat.le_refl a),List.drop_set_of_lt (by omega)] at h2
 have h3:0<prod (s.take a):=by
  rcases Nat.eq_zero_or_pos (prod (s.take a)) with e|e
  ·rw [e,Nat.zero_mul] at h2;omega
  ·exact e
 have h4:0<prod (s.drop (a+1)):=by
  rcases Nat.eq_zero_or_pos (prod (s.drop (a+1))) with e|e
  ·rw [e,Nat.mul_zero,Nat.mul_zero] at h2;omega
  ·exact e
 rw [h1]
 calc s.getD a 0=1*(s.getD a 0*1):=by omega
  _≤prod (s.take a)*(s.getD a 0*prod (s.drop (a+1))):=Nat.mul_le_mul h3 (Nat.mul_le_mul (Nat.le_refl _) h4)
theorem reduce_any (p q:Option Addr) (c d n m:Nat) (s:List Int) (l:List (List UInt8)) (a red:Int) (w:World) (he:Env w) (hs:Hid (s.length=n)) (hl:Hid (l.length=m)) (hn:n≤5000) (hm:m≤1000) (hnc:n≤c) (hp:Rd w p s) (hq:RdS w q l) :
  Calls Tryz.prog 13 #[.agg #[.slice p n c,.slice q m d],.int .i64 a,.int .i64 red] w (ArrPost w (redA s l a red).1 (redA s l a red).2.1 (redA s l a red).2.2):=by
 have H30:∀ W,Below w.heap.size w W→Calls Tryz.prog 30 #[.agg #[.slice p n c,.slice q m d],.int .i64 a,.int .i64 red] W fun e w'=>Below W.heap.size W w'∧e=.returned (.int .i64 (chkV s l a red)):=fun W hW=>check_any p q c d n m s l a red W (he.below hW) hs hl hn (by omega) (hp.below hW) (hq.below hW)
 by_cases hz:chkV s l a red=0
 ·obtain ⟨S,k,rfl,rfl,hsh,hk,hr1,hr5,hva,hN,hV⟩:=chk_zero hz
  have hSn:S.length=n:=by have:=hs.out;rwa [List.length_map] at this
  have hp':RdN w p S:=hp
  obtain ⟨pb,po,rfl⟩:=rdn_some hp' (by omega)
  rw [hz] at H30
  have hn4:n≤4:=by have:=hsh.1;omega
  by_cases hv:vs ((S.set k 1).map Int.ofNat)=true
  ·have e:redA (S.map Int.ofNat) l (k:Int) red=(0,S.eraseIdx k,(List.range (prod (S.set k 1))).map (alV S l k 1 red (fun _=>spanL 0 (S.getD k 0)))):=by
    unfold redA
    rw [if_pos hz,toNat_map,Int.toNat_natCast,if_pos hv]
   rw [e]
   have hsp:=vs_nat.1 hv
   refine reduce_yes (some ⟨pb,po,none⟩) q c d n m k (prod (S.set k 1)) red S (S.set k 1) _ w (Lib.hid hSn) (Lib.hid rfl) (by omega) hn4 (Lib.hid H30) (Lib.hid fun W AB AX hW hAB hAX=>?_)
   refine along_yes pb po c d n m k 1 q red S l 31 _ (fun _=>spanL 0 (S.getD k 0)) W hn4 (Lib.hid hSn) (Lib.hid hsh.2.1) (Lib.hid hnc) (by omega) (by omega) hl (Lib.hid (by rw [← hl.out];exact hN)) hm hr1 hr5 (Lib.hid (by rw [← hl.out];exact hV)) (Lib.hid hv) (Lib.hid hsp.2.2) (Lib.hid fun i hi=>⟨?_,fun x hx=>(spanL_mem hx).2⟩) (Lib.hid fun h0=>?_) (Lib.hid fun w1 hw1=>?_) (Lib.hid ((he.below hW).tab)) (Lib.hid (hp'.below hW)) (Lib.hid (hq.below hW))
   ·rw [spanL_len];omega
   ·have h1:=prod_dim hk h0
    rw [← hN,hl.out] at h1
    omega
   ·refine whole_part AB AX pb po c d n m k q S w1 (Lib.hid hSn) (by omega) hn4 (Lib.hid hsh.2.1) (Lib.hid ((hw1.block AB (Array.getElem?_eq_some_iff.1 hAB).1).trans hAB)) (Lib.hid ((hw1.block AX (Array.getElem?_eq_some_iff.1 hAX).1).trans hAX)) (Lib.hid ((hp'.below hW).below hw1))
  ·have hv2:vs ((S.set k 1).map Int.ofNat)=false:=by simpa using hv
   have e:redA (S.map Int.ofNat) l (k:Int) red=(60,[],[]):=by
    unfold redA
    rw [if_pos hz,toNat_map,Int.toNat_natCast,if_neg hv]
   rw [e]
   exact reduce_noshape (some ⟨pb,po,none⟩) q c d n m k red w (Lib.hid H30) (Lib.hid fun W lb hW=>along_no pb po c d n m k 1 q red S 31 lb W hn4 (Lib.hid hSn) (Lib.hid hsh.2.1) (by omega) (by omega) (Lib.hid hv2) (Lib.hid (hp'.below hW)))
 ·have e:redA s l a red=(chkV s l a red,[],[]):=by unfold redA;rw [if_neg hz]
  rw [e]
  rcases chk_or s l a red with h|h|h
  ·exact absurd h hz
  ·rw [h] at H30 ⊢;exact reduce_err2 p q c d n m a red w (Lib.hid H30)
  ·rw [h] at H30 ⊢;exact reduce_err60 p q c d n m a red w (Lib.hid H30)
end Go.Proofs.YtlcpcpmlfegejaaGreatDoor.Arr
set_option maxHeartbeats 8000000
set_option maxRecDepth 100000
namespace Go.Proofs.YtlcpcpmlfegejaaGreatDoor.Arr
open Go.RowKit Go.Shelf
open Go.Lib
attribute [local go_sem] Oper.semAt_some
structure RowA (W1:World) (R cap i:Nat) (val:Nat→List UInt8) (W:World):Prop where
 old:W1.grownBy W (some R)
 row:∃ l:List (List UInt8),l.length=cap∧W.heap[R]?=some (.cells (strC l) 9 (0,0))∧∀ j,j<i→l.getD j []=val j
theorem ralong_any (pb po c d n N a cr cap:Nat) (q r:Option Addr) (s ix:List Nat) (l:List (List UInt8)) (w:World)
  (hn:n≤4) (hs:Hid (s.length=n)) (hsb:Hid (∀ x ∈ s,x≤1024)) (hixb:Hid (∀ x ∈ ix,x≤1024)) (ha:a<n) (hl:Hid (l.length=N)) (hN:Hid (N=prod s)) (hN1:N≤4096) (hix:Hid (∃ k,IsIx (s.set a k) ix)) (hcap:Hid (s.getD a 0=cap))
  (hp:Hid (RdN w (some ⟨pb,po,none⟩) s)) (hq:Hid (RdS w q l)) (hr:Hid (RdN w r ix)) :
  Calls Tryz.prog 41 #[.agg #[.slice (some ⟨pb,po,none⟩) n c,.slice q N d],.int .i64 (a:Int),.slice r n cr] w fun e w'=>Below w.heap.size w w'∧∃ R,e=.returned (.slice (some ⟨R,0,none⟩) cap cap)∧RdS w' (some ⟨R,0,none⟩) (alL s l a ix (spanL 0 cap)):=by
 have hni:(n:Int)≤4:=by omega
 have hai:(a:Int)<(n:Int):=by omega
 have hNi:(N:Int)≤4096:=by omega
 have HAN:=Lib.hid ha
 have HC1:Hid (cap≤1024):=Lib.hid (by rw [← hcap.out];exact getD_dim hs.out ha hsb.out)
 have hci:(cap:Int)≤1024:=by have:=HC1.out;omega
 obtain ⟨val,HVAL⟩:∃ val:Nat→List UInt8,Hid (val=fun j=>l.getD (plc s (ix.set a j) 0) []):=⟨_,Lib.hid rfl⟩
 have HAL:Hid (alL s l a ix (spanL 0 cap)=(List.range cap).map val):=Lib.hid (by
  unfold alL spanL
  rw [HVAL.out,List.map_map,Nat.sub_zero]
  exact List.map_congr_left (fun x _=>by simp))
 rw [HAL.out]
 obtain ⟨A,HA⟩:∃ A,Hid (w.heap.size=A):=⟨_,Lib.hid rfl⟩
 obtain ⟨W0,HW0⟩:∃ W0,Hid (w.alloc (.cells #[.slice (some ⟨pb,po,none⟩) n c,.slice q N d] 31)=W0):=⟨_,Lib.hid rfl⟩
 obtain ⟨R,HR⟩:∃ R,Hid (W0.heap.size=R):=⟨_,Lib.hid rfl⟩
 obtain ⟨W1,HW1⟩:∃ W1,Hid (W0.alloc (.cells (strC (List.replicate cap [])) 9)=W1):=⟨_,Lib.hid rfl⟩
 have HRA:Hid (R=A+1):=Lib.hid (by rw [← HR.out,← HW0.out,← HA.out];simp)
 have HB0:Hid (Below w.heap.size w W0):=Lib.hid (by rw [← HW0.out];exact (Below.refl _ w).alloc (Nat.le_refl _) _)
 have HB1:Hid (Below w.heap.size w W1):=Lib.hid (by rw [← HW1.out];exact HB0.out.alloc HB0.out.size _)
 have HA0:Hid (W0.heap[A]?=some (.cells #[.slice (some ⟨pb,po,none⟩) n c,.slice q N d] 31 (0,0))):=Lib.hid (by rw [← HW0.out,← HA.out];exact World.alloc_heap_new _ _)
 have HA1:Hid (W1.heap[A]?=some (.cells #[.slice (some ⟨pb,po,none⟩) n c,.slice q N d] 31 (0,0))):=Lib.hid (by
  rw [← HW1.out,(Below.alloc (Below.refl W0.heap.size W0) (Nat.le_refl _) _).block A (by rw [HR.out,HRA.out];omega)]
  exact HA0.out)
 have HR1:Hid (W1.heap[R]?=some (.cells (strC (List.replicate cap [])) 9 (0,0))):=Lib.hid (by rw [← HW1.out,← HR.out];exact World.alloc_heap_new _ _)
 have HWW:Hid (∀ W,W1.grownBy W (some R)→Below w.heap.size w W∧W.heap[A]?=some (.cells #[.slice (some ⟨pb,po,none⟩) n c,.slice q N d] 31 (0,0))):=Lib.hid (fun W hW=>by
  have:=HRA.out
  have:=HA.out
  exact ⟨HB1.out.grown hW HB1.out.size (fun k e=>by cases e;omega),(hW.block A (Array.getElem?_eq_some_iff.1 HA1.out).1 (by intro e;injection e with e;omega)).trans HA1.out⟩)
 have a0:W0.cell? ⟨A,0,none⟩=some (.slice (some ⟨pb,po,none⟩) n c):=ceh HA0.out 0
 have a1:W0.cell? ⟨pb,po+a,none⟩=some (.int .i64 (cap:Int)):=by
  obtain ⟨b',off',x,e1,-,h3,HX⟩:=(hp.out.below HB0.out).at (k:=a) (by rw [hs.out];exact ha)
  cases e1
  rw [h3,HX.out,hcap.out]
 have hmk:=fun W=>make_strs cap (by have:=HC1.out;omega) W
 clear ha
 rw [← HW0.out] at a0 a1
 rw [← HA.out] at a0
 go_enter Tryz.func41,Tryz.ntmps41
 go_wp2_with fail
 rw [HW0.out,HA.out,← HRA.out,HW1.out]
 clear a0 a1 hmk
 go_loopw [8] (fun iv wr=>∃ i:Nat,i≤cap∧iv=.int .i64 (i:Int)∧Hid (RowA W1 R cap i val wr)) (fun iv _=>cap-(intOf iv).toNat)
 case atStart=>exact ⟨0,Nat.zero_le _,rfl,Lib.hid ⟨⟨rfl,rfl,rfl,Nat.le_refl _,fun _ _ _=>rfl⟩,_,List.length_replicate,HR1.out,fun j hj=>by omega⟩⟩
 case round =>
  obtain ⟨i,hic,rfl,HST⟩:=hrel
  have ii:(i:Int)≤(cap:Int):=by omega
  by_cases hlt:i<cap
  ·have ilt:(i:Int)<(cap:Int):=by omega
   have HLT:=Lib.hid hlt
   obtain ⟨rl,hrl1,hrl2,hrl3⟩:=HST.out.row
   have HRL:=Lib.hid (And.intro hrl1 (And.intro hrl2 hrl3))
   obtain ⟨Q,HQP⟩:∃ Q,Hid (plc s (ix.set a i) 0=Q):=⟨_,Lib.hid rfl⟩
   have HIS:Hid (IsIx s (ix.set a i)):=Lib.hid (by
    obtain ⟨k,hk⟩:=hix.out
    exact isix_set hk (by rw [hs.out];exact HAN.out) (by rw [hcap.out];exact HLT.out))
   have HQN:Hid (Q<N):=Lib.hid (by
    have:=(plc_lt s (ix.set a i) 0 HIS.out).1
    rw [HQP.out,Nat.zero_add,Nat.one_mul,← hN.out] at this
    exact this)
   have HILN:Hid (ix.length=n):=Lib.hid (by
    have:=HIS.out.1
    rwa [List.length_set,hs.out] at this)
   obtain ⟨bq,oq,x,rfl,-,-,HX⟩:=hq.out.at (k:=Q) (by rw [hl.out];exact HQN.out)
   have HVX:Hid (val i=x):=Lib.hid (by rw [HVAL.out,HX.out];show l.getD (plc s (ix.set a i) 0) []=_;rw [HQP.out])
   have i0:(0:Int)≤(Q:Int):=by omega
   have i1:(Q:Int)<(N:Int):=by have:=HQN.out;omega
   have j0:(0:Int)≤(i:Int):=by omega
   have HSB:Hid (∀ W,W1.grownBy W (some R)→W.cell? ⟨A,0,none⟩=some (.slice (some ⟨pb,po,none⟩) n c)∧W.cell? ⟨A,1,none⟩=some (.slice (some ⟨bq,oq,none⟩) N d)∧W.cell? ⟨bq,oq+Q,none⟩=some (.string ⟨List.toArray x⟩)):=Lib.hid (fun W hW=>by
    obtain ⟨hb,hA⟩:=HWW.out W hW
    obtain ⟨b2,o2,x2,e2,-,hc2,hx2⟩:=(hq.out.below hb).at (k:=Q) (by rw [hl.out];exact HQN.out)
    cases e2
    rw [hx2.out,← HX.out] at hc2
    exact ⟨ceh hA 0,ceh hA 1,hc2⟩)
   have HGD:Hid (W1.grownBy wr.drew (some R)):=Lib.hid (HST.out.old.trans (⟨rfl,rfl,rfl,Nat.le_refl _,fun _ _ _=>rfl⟩:wr.grownBy wr.drew (some R)))
   have HWI:Hid (Calls Tryz.prog 47 #[.slice r n cr,.int .i64 (a:Int),.int .i64 (i:Int)] wr.drew (CloneRow n (ix.set a i) wr.drew)):=Lib.hid (rwith_any r n cr a i ix wr.drew HILN hn HAN.out (by have:=HC1.out;have:=HLT.out;omega) hixb (hr.out.below (HWW.out _ HGD.out).1))
   clear hrl1 hrl2 hrl3 hlt
   go_wp2_with fail
   refine wp_region_noPanic ?_
   refine wp_region_held_drew (S:=fun W'=>W'.cell? ⟨A,0,none⟩=some (.slice (some ⟨pb,po,none⟩) n c)∧W'.cell? ⟨A,1,none⟩=some (.slice (some ⟨bq,oq,none⟩) N d)∧W'.cell? ⟨bq,oq+Q,none⟩=some (.string ⟨List.toArray x⟩)) (by kernel_rfl) (HSB.out _ HGD.out) (fun hHeld=>?_)
   refine wpAnyH_take (i:=0) (v:=?v0) rfl (by kernel_rfl) (by kernel_rfl) (by kernel_rfl) (fun _ _ _ h=>h) (Or.inl ⟨by rfl,?hv0⟩) (by assumption) ?rv0
   case hv0 =>
    intro W' hSw
    obtain ⟨e0,e1,e2⟩:=hSw
    go_simp
    with_reducible rfl
   simp only [List.getElem_toArray,List.getElem_cons_zero,Act.put,List.setIfInBounds_toArray,List.set_cons_zero,List.set_cons_succ]
   refine wpAnyH_take (i:=1) (v:=?v1) rfl (by kernel_rfl) (by kernel_rfl) (by kernel_rfl) (fun _ _ _ h=>h) (Or.inl ⟨by rfl,?hv1⟩) (by assumption) ?rv1
   case hv1 =>
    intro W' hSw
    obtain ⟨e0,e1,e2⟩:=hSw
    go_simp
    with_reducible rfl
   simp only [List.getElem_toArray,List.getElem_cons_zero,List.getElem_cons_succ,Act.put,List.setIfInBounds_toArray,List.set_cons_zero,List.set_cons_succ]
   refine wpAnyH_take (i:=2) (v:=?v2) rfl (by kernel_rfl) (by kernel_rfl) (by kernel_rfl) (fun _ _ _ h=>h) (Or.inl ⟨by rfl,?hv2⟩) (by assumption) ?rv2
   case hv2 =>
    intro W' hSw
    obtain ⟨e0,e1,e2⟩:=hSw
    go_simp
    with_reducible rfl
   simp only [List.getElem_toArray,List.getElem_cons_zero,List.getElem_cons_succ,Act.put,List.setIfInBounds_toArray,List.set_cons_zero,List.set_cons_succ]
   refine wpAnyH_take (i:=3) (v:=?v3) rfl (by kernel_rfl) (by kernel_rfl) (by kernel_rfl) (fun _ _ _ h=>h) (Or.inl ⟨by rfl,?hv3⟩) (by assumption) ?rv3
   case hv3 =>
    intro W' hSw
    obtain ⟨e0,e1,e2⟩:=hSw
    go_simp
    with_reducible rfl
   simp only [List.getElem_toArray,List.getElem_cons_zero,List.getElem_cons_succ,Act.put,List.setIfInBounds_toArray,List.set_cons_zero,List.set_cons_succ]
   refine wpAnyH_take (i:=4) (v:=?v4) rfl (by kernel_rfl) (by kernel_rfl) (by kernel_rfl) (fun _ _ _ h=>h) (Or.inl ⟨by rfl,?hv4⟩) (by assumption) ?rv4
   case hv4 =>
    intro W' hSw
    obtain ⟨e0,e1,e2⟩:=hSw
    go_simp
    with_reducible rfl
   simp only [List.getElem_toArray,List.getElem_cons_zero,List.getElem_cons_succ,Act.put,List.setIfInBounds_toArray,List.set_cons_zero,List.set_cons_succ]
   refine wpAnyH_take (i:=5) (v:=?v5) rfl (by kernel_rfl) (by kernel_rfl) (by kernel_rfl) (fun _ _ _ h=>h) (Or.inl ⟨by rfl,?hv5⟩) (by assumption) ?rv5
   case hv5 =>
    intro W' hSw
    obtain ⟨e0,e1,e2⟩:=hSw
    go_simp
    with_reducible rfl
   simp only [List.getElem_toArray,List.getElem_cons_zero,List.getElem_cons_succ,Act.put,List.setIfInBounds_toArray,List.set_cons_zero,List.set_cons_succ]
   refine wpAnyH_take (i:=6) (v:=?v6) rfl (by kernel_rfl) (by kernel_rfl) (by kernel_rfl) (fun _ _ _ h=>h) (Or.inl ⟨by rfl,?hv6⟩) (by assumption) ?rv6
   case hv6 =>
    intro W' hSw
    obtain ⟨e0,e1,e2⟩:=hSw
    go_simp
    with_reducible rfl
   simp only [List.getElem_toArray,List.getElem_cons_zero,List.getElem_cons_succ,Act.put,List.setIfInBounds_toArray,List.set_cons_zero,List.set_cons_succ]
   refine wpAnyH_take (i:=7) (v:=?v7) rfl (by kernel_rfl) (by kernel_rfl) (by kernel_rfl) (fun _ _ _ h=>h) (Or.inl ⟨by rfl,?hv7⟩) (by assumption) ?rv7
   case hv7 =>
    intro W' hSw
    obtain ⟨e0,e1,e2⟩:=hSw
    go_simp
    with_reducible rfl
   simp only [List.getElem_toArray,List.getElem_cons_zero,List.getElem_cons_succ,Act.put,List.setIfInBounds_toArray,List.set_cons_zero,List.set_cons_succ]
   refine wpAnyH_take (i:=8) (v:=?v8) rfl (by kernel_rfl) (by kernel_rfl) (by kernel_rfl) (fun _ _ _ h=>h) (Or.inl ⟨by rfl,?hv8⟩) (by assumption) ?rv8
   case hv8 =>
    intro W' hSw
    obtain ⟨e0,e1,e2⟩:=hSw
    go_simp
    with_reducible rfl
   simp only [List.getElem_toArray,List.getElem_cons_zero,List.getElem_cons_succ,Act.put,List.setIfInBounds_toArray,List.set_cons_zero,List.set_cons_succ]
   refine wpAnyH_ready (rs:=[9]) (by kernel_rfl) (by simp) ?_
   refine AllReadyH.cons (i:=9) rfl (fun K1 hK1=>?_) AllReadyH.nil
   go_simp
   refine HWI.out.mono ?_
   rintro e w2 ⟨hb2,b,dd,rfl,hrx,-,-,-⟩
   have HB2:=Lib.hid hb2
   have HRX:=Lib.hid hrx
   have HG2:Hid (W1.grownBy w2 (some R)):=Lib.hid (HGD.out.trans (gb_of_below hb2 _))
   clear hb2 hrx
   refine hK1 _ _ (HSB.out _ HG2.out) (fun hHeld2=>?_)
   clear hK1 K1 hHeld
   refine wpAnyH_ready (rs:=[10]) (by kernel_rfl) (by simp) ?_
   refine AllReadyH.cons (i:=10) rfl (fun K1 hK1=>?_) AllReadyH.nil
   go_simp
   have HPL:Hid (Calls Tryz.prog 84 #[.slice (some ⟨pb,po,none⟩) n c,.slice (some ⟨b,0,none⟩) n dd] w2 fun e w'=>(∃ k,w2.drewN k=w')∧e=.returned (.int .i64 (Q:Int))):=Lib.hid (by
    have h:=rplace_any (some ⟨pb,po,none⟩) (some ⟨b,0,none⟩) c dd n s (ix.set a i) w2 hn hs (Lib.hid (by rw [List.length_set,HILN.out])) HIS.out (by rw [← hN.out];exact hN1) (hp.out.below (HWW.out _ HG2.out).1) HRX.out
    rwa [HQP.out] at h)
   refine HPL.out.mono ?_
   rintro e w3 ⟨⟨k3,rfl⟩,rfl⟩
   have HG3:Hid (W1.grownBy (w2.drewN k3) (some R)):=Lib.hid (HG2.out.trans (⟨rfl,rfl,rfl,Nat.le_refl _,fun _ _ _=>rfl⟩:w2.grownBy (w2.drewN k3) (some R)))
   refine hK1 _ _ (HSB.out _ HG3.out) (fun hHeld3=>?_)
   clear hK1 K1 hHeld2
   refine wpAnyH_take (i:=11) (v:=?v11) rfl (by kernel_rfl) (by kernel_rfl) (by kernel_rfl) (fun _ _ _ h=>h) (Or.inl ⟨by rfl,?hv11⟩) (by assumption) ?rv11
   case hv11 =>
    intro W' hSw
    obtain ⟨e0,e1,e2⟩:=hSw
    go_simp
    with_reducible rfl
   simp only [List.getElem_toArray,List.getElem_cons_zero,List.getElem_cons_succ,Act.put,List.setIfInBounds_toArray,List.set_cons_zero,List.set_cons_succ]
   refine wpAnyH_take (i:=12) (v:=?v12) rfl (by kernel_rfl) (by kernel_rfl) (by kernel_rfl) (fun _ _ _ h=>h) (Or.inl ⟨by rfl,?hv12⟩) (by assumption) ?rv12
   case hv12 =>
    intro W' hSw
    obtain ⟨e0,e1,e2⟩:=hSw
    go_simp
    with_reducible rfl
   simp only [List.getElem_toArray,List.getElem_cons_zero,List.getElem_cons_succ,Act.put,List.setIfInBounds_toArray,List.set_cons_zero,List.set_cons_succ]
   refine wpAnyH_take (i:=13) (v:=?v13) rfl (by kernel_rfl) (by kernel_rfl) (by kernel_rfl) (fun _ _ _ h=>h) (Or.inl ⟨by rfl,?hv13⟩) (by assumption) ?rv13
   case hv13 =>
    intro W' hSw
    obtain ⟨e0,e1,e2⟩:=hSw
    go_simp
    with_reducible rfl
   simp only [List.getElem_toArray,List.getElem_cons_zero,List.getElem_cons_succ,Act.put,List.setIfInBounds_toArray,List.set_cons_zero,List.set_cons_succ]
   have HRW:Hid (wr.drew.heap[R]?=some (.cells (strC rl) 9 (0,0))):=Lib.hid HRL.out.2.1
   have HR3:Hid ((w2.drewN k3).heap[R]?=some (.cells (strC rl) 9 (0,0))):=Lib.hid ((HB2.out.block R (Array.getElem?_eq_some_iff.1 HRW.out).1).trans HRW.out)
   have c0:(w2.drewN k3).cell? ⟨R,i,none⟩=some (.string ⟨List.toArray (rl.getD i [])⟩):=by
    rw [ceh HR3.out];exact strC_at (by rw [HRL.out.1];exact HLT.out)
   have f0:(w2.drewN k3).frozen? ⟨R,i,none⟩=false:=foh HR3.out _
   obtain ⟨w4,HW4⟩:∃ w4,Hid ((w2.drewN k3).setCell ⟨R,i,none⟩ (.string ⟨List.toArray x⟩)=w4):=⟨_,Lib.hid rfl⟩
   have HG4:Hid (W1.grownBy w4 (some R)):=Lib.hid (HG3.out.trans (by rw [← HW4.out];exact gb_set _ _ _ _))
   have HEND:Hid (RowA W1 R cap (i+1) val w4):=Lib.hid (by
    refine ⟨HG4.out,rl.set i x,by rw [List.length_set,HRL.out.1],?_,fun j hj=>?_⟩
    ·rw [← HW4.out,← strC_set];exact heap_set _ R i _ _ _ HR3.out
    ·by_cases hji:j=i
     ·subst hji
      rw [List.getD_eq_getElem?_getD,List.getElem?_set_self (by rw [HRL.out.1];exact HLT.out),HVX.out];rfl
     ·rw [List.getD_eq_getElem?_getD,List.getElem?_set_ne (fun e=>hji e.symm),← List.getD_eq_getElem?_getD]
      exact HRL.out.2.2 j (by omega))
   refine wpAnyH_ready (rs:=[14]) (by kernel_rfl) (by simp) ?_
   refine AllReadyH.cons (i:=14) rfl (fun K1 hK1=>?_) AllReadyH.nil
   go_simp
   rw [HW4.out]
   refine hK1 _ _ (HSB.out _ HG4.out) (fun hHeld4=>?_)
   clear hK1 K1 hHeld3 c0 f0
   refine wpAnyH_done (by kernel_rfl) ?_ _
   refine NoPanic.normal ?_
   go_wp2_with fail
   go_roundw
   case rel=>exact ⟨i+1,by omega,by go_num,HEND⟩
   case measure=>simp [intOf];omega
  ·obtain rfl:i=cap:=by omega
   have ilt:¬ (i:Int)<(i:Int):=by omega
   obtain ⟨rl,hrl1,hrl2,hrl3⟩:=HST.out.row
   have HFIN:Hid (Below w.heap.size w wr∧RdS wr (some ⟨R,0,none⟩) ((List.range i).map val)):=Lib.hid ⟨(HWW.out _ HST.out.old).1,rds_of hrl1 hrl2 hrl3⟩
   clear hrl1 hrl2 hrl3
   go_wp2_with fail
   go_ret
   exact ⟨HFIN.out.1,R,rfl,HFIN.out.2⟩
end Go.Proofs.YtlcpcpmlfegejaaGreatDoor.Arr
namespace Go.Proofs.YtlcpcpmlfegejaaGreatDoor.Arr
open Go.RowKit Go.Shelf
open Go.Lib
structure OutI (W5:World) (G:Nat) (c0:Value) (l:List (List UInt8)) (W:World):Prop where
 old:W5.grownBy W (some G)
 lt:G<W5.heap.size
 row:∃ pv cv,W.heap[G]?=some (.cells #[c0,.slice pv l.length cv] 31 (0,0))∧W.ownsRow (G+1) 9 1 (.slice pv l.length cv) l.length (strs l)∧(∀ k,(Value.slice pv l.length cv).ownBlock=some k→W5.heap.size≤k)
theorem OutI.start {W5:World} {G:Nat} {c0:Value} (h:W5.heap[G]?=some (.cells #[c0,.slice none 0 0] 31 (0,0))):OutI W5 G c0 [] W5 :=
 ⟨⟨rfl,rfl,rfl,Nat.le_refl _,fun _ _ _=>rfl⟩,(Array.getElem?_eq_some_iff.1 h).1,none,0,h,⟨by simp [strs],.inl ⟨rfl,rfl⟩⟩,fun k e=>by cases e⟩
theorem OutI.next {W5 W W':World} {G:Nat} {c0:Value} {l:List (List UInt8)} (h:OutI W5 G c0 l W) (hb:Below W.heap.size W W'):OutI W5 G c0 l W':=by
 obtain ⟨pv,cv,h1,h2,h3⟩:=h.row
 exact ⟨h.old.trans (gb_of_below hb _),h.lt,pv,cv,(hb.block G (Array.getElem?_eq_some_iff.1 h1).1).trans h1,h2.kept (gb_of_below hb none) (by cases pv<;>simp [Value.ownBlock]),h3⟩
theorem OutI.below {W5 W w:World} {G:Nat} {c0:Value} {l:List (List UInt8)} (h:OutI W5 G c0 l W) (hb:Below w.heap.size w W5) (hG:w.heap.size≤G):Below w.heap.size w W :=
 ⟨h.old.os.trans hb.os,h.old.tape.trans hb.tape,h.old.output.trans hb.output,Nat.le_trans hb.size h.old.size,fun k hk=>(h.old.block k (Nat.lt_of_lt_of_le hk hb.size) (by intro e;injection e with e;omega)).trans (hb.block k hk)⟩
theorem OutI.step {W5 W W1 W2:World} {G gv cv cv':Nat} {pv:Option Addr} {c0:Value} {l:List (List UInt8)} {y:List UInt8} {n:Nat} (h:OutI W5 G c0 l W) (hn:l.length=n) (hb:W.heap[G]?=some (.cells #[c0,.slice pv n cv] 31 (0,0))) (hw:∀ k,(Value.slice pv n cv).ownBlock=some k→W5.heap.size≤k) (hB:Below W.heap.size W W1)
  (ho:W2.ownsRow W5.heap.size 9 1 (.slice (some ⟨gv,0,none⟩) (n+1) cv') (n+1) (strs (l++[y]))) (hg:W1.grownBy W2 (Value.slice pv n cv).ownBlock) :
  OutI W5 G c0 (l++[y]) (W2.setCell ⟨G,1,none⟩ (.slice (some ⟨gv,0,none⟩) (n+1) cv'))∧W2.heap[G]?=some (.cells #[c0,.slice pv n cv] 31 (0,0)):=by
 have hGlt:=(Array.getElem?_eq_some_iff.1 hb).1
 have hG2:W2.heap[G]?=some (.cells #[c0,.slice pv n cv] 31 (0,0)):=(hg.block G (Nat.lt_of_lt_of_le hGlt hB.size) (by intro e;have:=hw G e.symm;have:=h.lt;omega)).trans ((hB.block G hGlt).trans hb)
 have hgv:W5.heap.size≤gv:=(ho.lt gv rfl).1
 have hl:=h.lt
 have hlen:(l++[y]).length=n+1:=by rw [List.length_append,hn];rfl
 refine ⟨⟨?_,h.lt,some ⟨gv,0,none⟩,cv',?_,?_,?_⟩,hG2⟩
 ·have o1:=h.old.trans (gb_of_below hB (some G))
  refine ⟨hg.os.trans o1.os,hg.tape.trans o1.tape,hg.output.trans o1.output,Nat.le_trans o1.size (Nat.le_trans hg.size (Nat.le_of_eq (by simp))),fun k hk hne=>?_⟩
  rw [Below.heap_setCell _ _ _ _ (by intro e;exact hne (congrArg some e)),hg.block k (Nat.lt_of_lt_of_le hk o1.size) (by intro e;have:=hw k e.symm;omega)]
  exact o1.block k hk hne
 ·rw [hlen]
  have:=heap_set W2 G 1 (.slice (some ⟨gv,0,none⟩) (n+1) cv') _ _ hG2
  rw [this];rfl
 ·rw [hlen]
  exact ownsRow_setCell_other (show W2.ownsRow (G+1) 9 1 (.slice (some ⟨gv,0,none⟩) (n+1) cv') (n+1) (strs (l++[y])) from ⟨ho.1,ho.2.imp id fun ⟨g,cap,cur,e,hg',r⟩=>⟨g,cap,cur,e,by omega,r⟩⟩) (by simp [Value.ownBlock];omega) _
 ·rw [hlen]
  intro k e;cases e;exact hgv
theorem OutI.reads {W5 W:World} {G n cv:Nat} {pv:Option Addr} {c0:Value} {l:List (List UInt8)} (h:OutI W5 G c0 l W) (hn:l.length=n) (hb:W.heap[G]?=some (.cells #[c0,.slice pv n cv] 31 (0,0))):RdS W pv l∧∀ b off,pv=some ⟨b,off,none⟩→0<l.length→G<b:=by
 obtain ⟨pv',cv',h1,h2,h3⟩:=h.row
 rw [hb] at h1
 injection h1 with h1
 injection h1 with h1
 obtain ⟨rfl,rfl⟩:pv=pv'∧cv=cv':=by simpa [hn] using h1
 obtain ⟨-,⟨e,e2⟩|⟨g,cap,cur,e,hg,hh,-⟩⟩:=id h2
 ·exact ⟨.inl e2,fun b off _ h0=>by omega⟩
 ·injection e with e _ e3
  subst e
  refine ⟨.inr ⟨g,0,rfl,(Array.getElem?_eq_some_iff.1 hh).1,fun j hj=>?_⟩,fun b off e _=>by cases e;omega⟩
  rw [Nat.zero_add,h2.cellAt j (by omega),strs,List.getElem?_map,List.getElem?_eq_getElem hj,List.getD_eq_getElem?_getD,List.getElem?_eq_getElem hj]
  rfl
end Go.Proofs.YtlcpcpmlfegejaaGreatDoor.Arr
set_option maxHeartbeats 4000000
set_option maxRecDepth 100000
namespace Go.Proofs.YtlcpcpmlfegejaaGreatDoor.Arr
open Go.RowKit Go.Shelf
open Go.Lib
attribute [local go_sem] Oper.semAt_some
theorem alL_v {s:List Nat} {l:List (List UInt8)} {a:Nat} {ix ps:List Nat} (h:∀ j,j<l.length→isV (l.getD j [])=true):∀ j,j<(alL s l a ix ps).length→isV ((alL s l a ix ps).getD j [])=true:=by
 intro j hj
 unfold alL at hj ⊢
 rw [List.length_map] at hj
 rw [List.getD_eq_getElem?_getD,List.getElem?_map,List.getElem?_eq_getElem hj]
 show isV (l.getD _ [])=true
 by_cases hk:plc s (ix.set a ps[j]) 0<l.length
 ·exact h _ hk
 ·rw [List.getD_eq_getElem?_getD,List.getElem?_eq_none (by omega)];exact isV_nil
theorem alL_len {s:List Nat} {l:List (List UInt8)} {a:Nat} {ix:List Nat} {f e:Nat}:(alL s l a ix (spanL f e)).length=e-f:=by unfold alL;rw [List.length_map,spanL_len]
theorem rreduce_err2 (p q:Option Addr) (c d n N:Nat) (a red:Int) (w:World)
  (H30:Hid (∀ W,Below w.heap.size w W→Calls Tryz.prog 35 #[.agg #[.slice p n c,.slice q N d],.int .i64 a,.int .i64 red] W fun e w'=>Below W.heap.size W w'∧e=.returned (.int .i64 2))) :
  Calls Tryz.prog 14 #[.agg #[.slice p n c,.slice q N d],.int .i64 a,.int .i64 red] w (ArrPost w 2 [] []):=by
 obtain ⟨A,HA⟩:∃ A,Hid (w.heap.size=A):=⟨_,Lib.hid rfl⟩
 obtain ⟨W0,HW0⟩:∃ W0,Hid ((w.alloc (.cells #[.slice p n c,.slice q N d] 31)).alloc (.cells #[.slice none 0 0,.slice none 0 0] 31)=W0):=⟨_,Lib.hid rfl⟩
 have HB0:Hid (Below w.heap.size w W0):=Lib.hid (by rw [← HW0.out];exact ((Below.refl _ w).alloc (Nat.le_refl _) _).alloc (by simp) _)
 have HS0:Hid (W0.heap.size=A+1+1):=Lib.hid (by rw [← HW0.out,← HA.out];simp)
 have HA0:Hid (W0.heap[A]?=some (.cells #[.slice p n c,.slice q N d] 31 (0,0))):=Lib.hid (by
  rw [← HW0.out,← HA.out]
  simp only [World.alloc,Array.getElem?_push,Array.size_push]
  repeat' (first|rw [if_pos (by omega)] | rw [if_neg (by omega)] | rfl))
 have HA2:Hid (W0.heap[A+1]?=some (.cells #[.slice none 0 0,.slice none 0 0] 31 (0,0))):=Lib.hid (by
  rw [← HW0.out,← HA.out]
  simp only [World.alloc,Array.getElem?_push,Array.size_push]
  repeat' (first|rw [if_pos (by omega)] | rw [if_neg (by omega)] | rfl))
 have HBX:Hid (∀ W',Below W0.heap.size W0 W'→Below w.heap.size w W'∧W'.heap[A]?=some (.cells #[.slice p n c,.slice q N d] 31 (0,0))∧W'.heap[A+1]?=some (.cells #[.slice none 0 0,.slice none 0 0] 31 (0,0))):=Lib.hid (fun W' hb =>
  ⟨HB0.out.trans (hb.mono HB0.out.size),(hb.block _ (by rw [HS0.out];omega)).trans HA0.out,(hb.block _ (by rw [HS0.out];omega)).trans HA2.out⟩)
 have HLE:Hid (w.heap.size≤A):=Lib.hid (by rw [HA.out];exact Nat.le_refl _)
 obtain ⟨-,x0,-⟩:=HBX.out W0 (Below.refl _ _)
 have a0:W0.cell? ⟨A,0,none⟩=some (.slice p n c):=ceh x0 0
 have a1:W0.cell? ⟨A,1,none⟩=some (.slice q N d):=ceh x0 1
 clear x0
 replace H30:=Lib.hid (H30.out W0 HB0.out)
 go_enter Tryz.func14,Tryz.ntmps14
 go_wp2_with fail
 rw [HW0.out,HA.out]
 go_wp2_with fail
 refine H30.out.mono ?_
 rintro e w1 ⟨hb1,rfl⟩
 have HBw1:=Lib.hid hb1
 obtain ⟨-,x0,-⟩:=HBX.out w1 hb1
 have c0:w1.cell? ⟨A,0,none⟩=some (.slice p n c):=ceh x0 0
 clear hb1 x0 a0 a1
 clear c0
 obtain ⟨hbw,-,y1⟩:=HBX.out w1 HBw1.out
 have r0:w1.cell? ⟨A+1,0,none⟩=some (.slice none 0 0):=ceh y1 0
 have r1:w1.cell? ⟨A+1,1,none⟩=some (.slice none 0 0):=ceh y1 1
 have z0:w1.frozen? ⟨A+1,0,none⟩=false:=foh y1 0
 have z1:w1.frozen? ⟨A+1,1,none⟩=false:=foh y1 1
 have hE1:=heap_set w1 (A+1) 0 (.slice none 0 0) _ _ y1
 have hE2:=heap_set _ (A+1) 1 (.slice none 0 0) _ _ hE1
 obtain ⟨W7,HW7⟩:∃ W7,Hid ((w1.setCell ⟨A+1,0,none⟩ (.slice none 0 0)).setCell ⟨A+1,1,none⟩ (.slice none 0 0)=W7):=⟨_,Lib.hid rfl⟩
 rw [HW7.out] at hE2
 have k0:W7.cell? ⟨A+1,0,none⟩=some (.slice none 0 0):=ceh hE2 0
 have k1:W7.cell? ⟨A+1,1,none⟩=some (.slice none 0 0):=ceh hE2 1
 have HFIN:Hid (ArrPost w 2 [] [] (.returned (.tuple #[.agg #[.slice none 0 0,.slice none 0 0],.int .i64 2])) W7):=Lib.hid (arr_no (by
  have:=HLE.out
  rw [← HW7.out]
  exact (hbw.setCell (p:=⟨A+1,0,none⟩) (by show w.heap.size≤A+1;omega) _).setCell (p:=⟨A+1,1,none⟩) (by show w.heap.size≤A+1;omega) _))
 clear hE1 hE2 y1 hbw
 go_wp2_with fail
 (try simp only [Exit.inBlock,Exit.then])
 rw [HW7.out]
 refine bodyPost_ret (v:=.tuple #[.agg #[.slice none 0 0,.slice none 0 0],.int .i64 2]) ?_ rfl HFIN.out
 rw [results_cell_tmp rfl]
 go_simp
theorem rreduce_err60 (p q:Option Addr) (c d n N:Nat) (a red:Int) (w:World)
  (H30:Hid (∀ W,Below w.heap.size w W→Calls Tryz.prog 35 #[.agg #[.slice p n c,.slice q N d],.int .i64 a,.int .i64 red] W fun e w'=>Below W.heap.size W w'∧e=.returned (.int .i64 60))) :
  Calls Tryz.prog 14 #[.agg #[.slice p n c,.slice q N d],.int .i64 a,.int .i64 red] w (ArrPost w 60 [] []):=by
 obtain ⟨A,HA⟩:∃ A,Hid (w.heap.size=A):=⟨_,Lib.hid rfl⟩
 obtain ⟨W0,HW0⟩:∃ W0,Hid ((w.alloc (.cells #[.slice p n c,.slice q N d] 31)).alloc (.cells #[.slice none 0 0,.slice none 0 0] 31)=W0):=⟨_,Lib.hid rfl⟩
 have HB0:Hid (Below w.heap.size w W0):=Lib.hid (by rw [← HW0.out];exact ((Below.refl _ w).alloc (Nat.le_refl _) _).alloc (by simp) _)
 have HS0:Hid (W0.heap.size=A+1+1):=Lib.hid (by rw [← HW0.out,← HA.out];simp)
 have HA0:Hid (W0.heap[A]?=some (.cells #[.slice p n c,.slice q N d] 31 (0,0))):=Lib.hid (by
  rw [← HW0.out,← HA.out]
  simp only [World.alloc,Array.getElem?_push,Array.size_push]
  repeat' (first|rw [if_pos (by omega)] | rw [if_neg (by omega)] | rfl))
 have HA2:Hid (W0.heap[A+1]?=some (.cells #[.slice none 0 0,.slice none 0 0] 31 (0,0))):=Lib.hid (by
  rw [← HW0.out,← HA.out]
  simp only [World.alloc,Array.getElem?_push,Array.size_push]
  repeat' (first|rw [if_pos (by omega)] | rw [if_neg (by omega)] | rfl))
 have HBX:Hid (∀ W',Below W0.heap.size W0 W'→Below w.heap.size w W'∧W'.heap[A]?=some (.cells #[.slice p n c,.slice q N d] 31 (0,0))∧W'.heap[A+1]?=some (.cells #[.slice none 0 0,.slice none 0 0] 31 (0,0))):=Lib.hid (fun W' hb =>
  ⟨HB0.out.trans (hb.mono HB0.out.size),(hb.block _ (by rw [HS0.out];omega)).trans HA0.out,(hb.block _ (by rw [HS0.out];omega)).trans HA2.out⟩)
 have HLE:Hid (w.heap.size≤A):=Lib.hid (by rw [HA.out];exact Nat.le_refl _)
 obtain ⟨-,x0,-⟩:=HBX.out W0 (Below.refl _ _)
 have a0:W0.cell? ⟨A,0,none⟩=some (.slice p n c):=ceh x0 0
 have a1:W0.cell? ⟨A,1,none⟩=some (.slice q N d):=ceh x0 1
 clear x0
 replace H30:=Lib.hid (H30.out W0 HB0.out)
 go_enter Tryz.func14,Tryz.ntmps14
 go_wp2_with fail
 rw [HW0.out,HA.out]
 go_wp2_with fail
 refine H30.out.mono ?_
 rintro e w1 ⟨hb1,rfl⟩
 have HBw1:=Lib.hid hb1
 obtain ⟨-,x0,-⟩:=HBX.out w1 hb1
 have c0:w1.cell? ⟨A,0,none⟩=some (.slice p n c):=ceh x0 0
 clear hb1 x0 a0 a1
 clear c0
 obtain ⟨hbw,-,y1⟩:=HBX.out w1 HBw1.out
 have r0:w1.cell? ⟨A+1,0,none⟩=some (.slice none 0 0):=ceh y1 0
 have r1:w1.cell? ⟨A+1,1,none⟩=some (.slice none 0 0):=ceh y1 1
 have z0:w1.frozen? ⟨A+1,0,none⟩=false:=foh y1 0
 have z1:w1.frozen? ⟨A+1,1,none⟩=false:=foh y1 1
 have hE1:=heap_set w1 (A+1) 0 (.slice none 0 0) _ _ y1
 have hE2:=heap_set _ (A+1) 1 (.slice none 0 0) _ _ hE1
 obtain ⟨W7,HW7⟩:∃ W7,Hid ((w1.setCell ⟨A+1,0,none⟩ (.slice none 0 0)).setCell ⟨A+1,1,none⟩ (.slice none 0 0)=W7):=⟨_,Lib.hid rfl⟩
 rw [HW7.out] at hE2
 have k0:W7.cell? ⟨A+1,0,none⟩=some (.slice none 0 0):=ceh hE2 0
 have k1:W7.cell? ⟨A+1,1,none⟩=some (.slice none 0 0):=ceh hE2 1
 have HFIN:Hid (ArrPost w 60 [] [] (.returned (.tuple #[.agg #[.slice none 0 0,.slice none 0 0],.int .i64 60])) W7):=Lib.hid (arr_no (by
  have:=HLE.out
  rw [← HW7.out]
  exact (hbw.setCell (p:=⟨A+1,0,none⟩) (by show w.heap.size≤A+1;omega) _).setCell (p:=⟨A+1,1,none⟩) (by show w.heap.size≤A+1;omega) _))
 clear hE1 hE2 y1 hbw
 go_wp2_with fail
 (try simp only [Exit.inBlock,Exit.then])
 rw [HW7.out]
 refine bodyPost_ret (v:=.tuple #[.agg #[.slice none 0 0,.slice none 0 0],.int .i64 60]) ?_ rfl HFIN.out
 rw [results_cell_tmp rfl]
 go_simp
theorem rreduce_noshape (pb po:Nat) (q:Option Addr) (c d n N a:Nat) (red:Int) (s:List Nat) (w:World)
  (hs:Hid (s.length=n)) (ha:a<n) (hn:n≤4) (hnc:n≤c) (hsb:Hid (∀ x ∈ s,x≤1024)) (hp:Hid (RdN w (some ⟨pb,po,none⟩) s)) (hvs:Hid (vs ((s.eraseIdx a).map Int.ofNat)=false))
  (H30:Hid (∀ W,Below w.heap.size w W→Calls Tryz.prog 35 #[.agg #[.slice (some ⟨pb,po,none⟩) n c,.slice q N d],.int .i64 (a:Int),.int .i64 red] W fun e w'=>Below W.heap.size W w'∧e=.returned (.int .i64 0))) :
  Calls Tryz.prog 14 #[.agg #[.slice (some ⟨pb,po,none⟩) n c,.slice q N d],.int .i64 (a:Int),.int .i64 red] w (ArrPost w 60 [] []):=by
 have HAN:=Lib.hid ha
 clear ha
 obtain ⟨A,HA⟩:∃ A,Hid (w.heap.size=A):=⟨_,Lib.hid rfl⟩
 obtain ⟨W0,HW0⟩:∃ W0,Hid ((w.alloc (.cells #[.slice (some ⟨pb,po,none⟩) n c,.slice q N d] 31)).alloc (.cells #[.slice none 0 0,.slice none 0 0] 31)=W0):=⟨_,Lib.hid rfl⟩
 have HB0:Hid (Below w.heap.size w W0):=Lib.hid (by rw [← HW0.out];exact ((Below.refl _ w).alloc (Nat.le_refl _) _).alloc (by simp) _)
 have HS0:Hid (W0.heap.size=A+1+1):=Lib.hid (by rw [← HW0.out,← HA.out];simp)
 have HA0:Hid (W0.heap[A]?=some (.cells #[.slice (some ⟨pb,po,none⟩) n c,.slice q N d] 31 (0,0))):=Lib.hid (by
  rw [← HW0.out,← HA.out]
  simp only [World.alloc,Array.getElem?_push,Array.size_push]
  repeat' (first|rw [if_pos (by omega)] | rw [if_neg (by omega)] | rfl))
 have HA2:Hid (W0.heap[A+1]?=some (.cells #[.slice none 0 0,.slice none 0 0] 31 (0,0))):=Lib.hid (by
  rw [← HW0.out,← HA.out]
  simp only [World.alloc,Array.getElem?_push,Array.size_push]
  repeat' (first|rw [if_pos (by omega)] | rw [if_neg (by omega)] | rfl))
 have HBX:Hid (∀ W',Below W0.heap.size W0 W'→Below w.heap.size w W'∧W'.heap[A]?=some (.cells #[.slice (some ⟨pb,po,none⟩) n c,.slice q N d] 31 (0,0))∧W'.heap[A+1]?=some (.cells #[.slice none 0 0,.slice none 0 0] 31 (0,0))):=Lib.hid (fun W' hb =>
  ⟨HB0.out.trans (hb.mono HB0.out.size),(hb.block _ (by rw [HS0.out];omega)).trans HA0.out,(hb.block _ (by rw [HS0.out];omega)).trans HA2.out⟩)
 have HLE:Hid (w.heap.size≤A):=Lib.hid (by rw [HA.out];exact Nat.le_refl _)
 obtain ⟨-,x0,-⟩:=HBX.out W0 (Below.refl _ _)
 have a0:W0.cell? ⟨A,0,none⟩=some (.slice (some ⟨pb,po,none⟩) n c):=ceh x0 0
 have a1:W0.cell? ⟨A,1,none⟩=some (.slice q N d):=ceh x0 1
 clear x0
 replace H30:=Lib.hid (H30.out W0 HB0.out)
 go_enter Tryz.func14,Tryz.ntmps14
 go_wp2_with fail
 rw [HW0.out,HA.out]
 go_wp2_with fail
 refine H30.out.mono ?_
 rintro e w1 ⟨hb1,rfl⟩
 have HBw1:=Lib.hid hb1
 obtain ⟨-,x0,-⟩:=HBX.out w1 hb1
 have c0:w1.cell? ⟨A,0,none⟩=some (.slice (some ⟨pb,po,none⟩) n c):=ceh x0 0
 clear hb1 x0 a0 a1
 have H36:=Lib.hid (rwithout_any pb po n c a s w1 hs hn HAN.out hnc hsb (Lib.hid (hp.out.below (HBX.out w1 HBw1.out).1)))
 go_wp2_with fail
 refine H36.out.mono ?_
 rintro e w2 ⟨hb2,q5,d5,rfl,hq1,-,-,hq4⟩
 obtain ⟨G,HG⟩:∃ G,Hid (G=w2.heap.size):=⟨_,Lib.hid rfl⟩
 obtain ⟨W5,HW5⟩:∃ W5,Hid (w2.alloc (.cells #[.slice q5 (n-1) d5,.slice none 0 0] 31)=W5):=⟨_,Lib.hid rfl⟩
 have hb25:Below w2.heap.size w2 W5:=by rw [← HW5.out];exact (Below.refl _ _).alloc (Nat.le_refl _) _
 have HX5:Hid (W5.heap[G]?=some (.cells #[.slice q5 (n-1) d5,.slice none 0 0] 31 (0,0))):=Lib.hid (by rw [← HW5.out,HG.out];exact World.alloc_heap_new _ _)
 have HB15:Hid (Below w1.heap.size w1 W5):=Lib.hid (hb2.trans (hb25.mono hb2.size))
 have HBW5:Hid (Below W0.heap.size W0 W5):=Lib.hid (HBw1.out.trans (HB15.out.mono HBw1.out.size))
 have HQ5:Hid (RdN W5 q5 (s.eraseIdx a)):=Lib.hid (hq1.below hb25)
 have HUL:Hid ((s.eraseIdx a).length=n-1):=Lib.hid (by rw [List.length_eraseIdx,hs.out,if_pos HAN.out])
 have HAG:Hid (A+1<G∧w.heap.size≤G):=Lib.hid (by
  have h1:=HBw1.out.size
  have h2:=hb2.size
  have h3:=HS0.out
  have h4:=HLE.out
  rw [HG.out];omega)
 have HQB:Hid (∀ b off,q5=some ⟨b,off,none⟩→0<(s.eraseIdx a).length→A+1<b∧b<G):=Lib.hid (fun b off e h0=>by
  have h1:=HBw1.out.size
  have h3:=HS0.out
  have h2:=hq4 b off e
  obtain ⟨b',off',x,e',hb',-⟩:=hq1.at (k:=0) h0
  rw [e] at e';cases e'
  rw [HG.out];omega)
 clear hb2 hq1 hq4 hb25 c0
 have H37:Hid (Calls Tryz.prog 37 #[.slice q5 (n-1) d5] W5 fun e w'=>W5=w'∧e=.returned (.bool false)):=Lib.hid (by
  have:=rvshape_any q5 d5 ((s.eraseIdx a).map Int.ofNat) W5 HQ5.out
  rwa [List.length_map,HUL.out,hvs.out] at this)
 have g0:W5.cell? ⟨G,0,none⟩=some (.slice q5 (n-1) d5):=ceh HX5.out 0
 rw [← HW5.out] at g0
 rw [HG.out] at g0
 go_wp2_with fail
 rw [HW5.out,← HG.out]
 refine H37.out.mono ?_
 rintro e w' ⟨rfl,rfl⟩
 clear g0
 obtain ⟨hbw,-,y1⟩:=HBX.out W5 HBW5.out
 have r0:W5.cell? ⟨A+1,0,none⟩=some (.slice none 0 0):=ceh y1 0
 have r1:W5.cell? ⟨A+1,1,none⟩=some (.slice none 0 0):=ceh y1 1
 have z0:W5.frozen? ⟨A+1,0,none⟩=false:=foh y1 0
 have z1:W5.frozen? ⟨A+1,1,none⟩=false:=foh y1 1
 have hE1:=heap_set W5 (A+1) 0 (.slice none 0 0) _ _ y1
 have hE2:=heap_set _ (A+1) 1 (.slice none 0 0) _ _ hE1
 obtain ⟨W7,HW7⟩:∃ W7,Hid ((W5.setCell ⟨A+1,0,none⟩ (.slice none 0 0)).setCell ⟨A+1,1,none⟩ (.slice none 0 0)=W7):=⟨_,Lib.hid rfl⟩
 rw [HW7.out] at hE2
 have k0:W7.cell? ⟨A+1,0,none⟩=some (.slice none 0 0):=ceh hE2 0
 have k1:W7.cell? ⟨A+1,1,none⟩=some (.slice none 0 0):=ceh hE2 1
 have HFIN:Hid (ArrPost w 60 [] [] (.returned (.tuple #[.agg #[.slice none 0 0,.slice none 0 0],.int .i64 60])) W7):=Lib.hid (arr_no (by
  have:=HLE.out
  rw [← HW7.out]
  exact (hbw.setCell (p:=⟨A+1,0,none⟩) (by show w.heap.size≤A+1;omega) _).setCell (p:=⟨A+1,1,none⟩) (by show w.heap.size≤A+1;omega) _))
 clear hE1 hE2 y1 hbw
 go_wp2_with fail
 (try simp only [Exit.inBlock,Exit.then])
 rw [HW7.out]
 refine bodyPost_ret (v:=.tuple #[.agg #[.slice none 0 0,.slice none 0 0],.int .i64 60]) ?_ rfl HFIN.out
 rw [results_cell_tmp rfl]
 go_simp
end Go.Proofs.YtlcpcpmlfegejaaGreatDoor.Arr
