/- element, and the function that Slice hands to build. -/
import Derived.Test.YtlcpcpmlfegejaaGreatDoorGO
import Derived.Laws.ResultCell
set_option maxHeartbeats 2000000
set_option maxRecDepth 100000
namespace Go.Proofs.YtlcpcpmlfegejaaGreatDoor.Arr
open Go.RowKit Go.Shelf
open Go.Lib
attribute [local go_sem] Oper.semAt_some
theorem element_any (p q r:Option Addr) (c d f n m k:Nat) (s ix:List Nat) (l:List (List UInt8)) (w:World) (hn:n≤4) (hm:m≤5000) (hs:Hid (s.length=n)) (h4:prod s≤4096) (hl:Hid (l.length=m)) (hix:Hid (IsIx s ix)) (hk:Hid (k=plc s ix 0)) (hkm:k<m) (hp:RdN w p s) (hq:RdS w q l) (hr:RdN w r ix) :
  Calls Tryz.prog 56 #[.agg #[.slice p n c,.slice q m d],.slice r n f] w fun e w'=>w'=(w.alloc (.cells #[.slice p n c,.slice q m d] 31)).drew∧e=.returned (.string ⟨List.toArray (l.getD k [])⟩):=by
 have hmi:(m:Int)≤5000:=by omega
 have hki:(k:Int)<(m:Int):=by omega
 obtain ⟨b,off,x,e1,hb,hx,HX⟩:=hq.at (k:=k) (by rw [hl.out];exact hkm)
 subst e1
 obtain ⟨W0,HW0⟩:∃ W0,Hid (w.alloc (.cells #[.slice p n c,.slice (some ⟨b,off,none⟩) m d] 31)=W0):=⟨_,Lib.hid rfl⟩
 have HB0:Hid (Below w.heap.size w W0):=Lib.hid (by rw [← HW0.out];exact (Below.refl _ w).alloc (Nat.le_refl _) _)
 have hX0:W0.heap[w.heap.size]?=some (.cells #[.slice p n c,.slice (some ⟨b,off,none⟩) m d] 31 (0,0)):=by rw [← HW0.out];exact World.alloc_heap_new w _
 have hB0:=(HB0.out.cell (p:=⟨b,off+k,none⟩) hb).trans hx
 have ha0:W0.cell? ⟨w.heap.size,0,none⟩=some (.slice p n c):=by simp [World.cell?,hX0]
 have ha1:W0.cell? ⟨w.heap.size,1,none⟩=some (.slice (some ⟨b,off,none⟩) m d):=by simp [World.cell?,hX0]
 have HS0:Hid ((fun W=>W.cell? ⟨w.heap.size,0,none⟩=some (.slice p n c)∧W.cell? ⟨w.heap.size,1,none⟩=some (.slice (some ⟨b,off,none⟩) m d)∧W.cell? ⟨b,off+k,none⟩=some (.string ⟨List.toArray x⟩)) W0.drew):=Lib.hid ⟨ha0,ha1,hB0⟩
 have HBD:Hid (Below w.heap.size w W0.drew):=Lib.hid (HB0.out.trans ⟨rfl,rfl,rfl,Nat.le_refl _,fun _ _=>rfl⟩)
 have H67:Hid (Calls Tryz.prog 82 #[.slice p n c,.slice r n f] W0.drew fun e w'=>W0.drew=w'∧e=.returned (.int .i64 (k:Int))):=Lib.hid (by
  have:=place_any p r c f n s ix W0.drew hn hs (Lib.hid (by rw [hix.out.1,hs.out])) hix.out h4 (hp.below HBD.out) (hr.below HBD.out)
  rwa [← hk.out] at this)
 rw [← HX.out,HW0.out]
 clear hp hq hr hX0 hB0 hx ha0 ha1
 go_enter Tryz.func56,Tryz.ntmps56
 go_wp2_with fail
 rw [HW0.out]
 refine wp_region_noPanic ?_
 refine wp_region_held_drew (S:=fun W=>W.cell? ⟨w.heap.size,0,none⟩=some (.slice p n c)∧W.cell? ⟨w.heap.size,1,none⟩=some (.slice (some ⟨b,off,none⟩) m d)∧W.cell? ⟨b,off+k,none⟩=some (.string ⟨List.toArray x⟩)) (by kernel_rfl) HS0.out (fun hHeld=>?_)
 refine wpAnyH_take (i:=0) (v:=?v1) rfl (by kernel_rfl) (by kernel_rfl) (by kernel_rfl) (fun _ _ _ h=>h) (Or.inl ⟨by rfl,?hy1⟩) (by assumption) ?rest1
 case hy1 =>
  intro W' hSw
  obtain ⟨e0,e1,e2⟩:=hSw
  go_simp
  with_reducible rfl
 simp only [List.getElem_toArray,List.getElem_cons_zero,Act.put,List.setIfInBounds_toArray,List.set_cons_zero,List.set_cons_succ]
 refine wpAnyH_take (i:=1) (v:=?v2) rfl (by kernel_rfl) (by kernel_rfl) (by kernel_rfl) (fun _ _ _ h=>h) (Or.inl ⟨by rfl,?hy2⟩) (by assumption) ?rest2
 case hy2 =>
  intro W' hSw
  obtain ⟨e0,e1,e2⟩:=hSw
  go_simp
  with_reducible rfl
 simp only [List.getElem_toArray,List.getElem_cons_zero,List.getElem_cons_succ,Act.put,List.setIfInBounds_toArray,List.set_cons_zero,List.set_cons_succ]
 refine wpAnyH_take (i:=2) (v:=?v3) rfl (by kernel_rfl) (by kernel_rfl) (by kernel_rfl) (fun _ _ _ h=>h) (Or.inl ⟨by rfl,?hy3⟩) (by assumption) ?rest3
 case hy3 =>
  intro W' hSw
  obtain ⟨e0,e1,e2⟩:=hSw
  go_simp
  with_reducible rfl
 simp only [List.getElem_toArray,List.getElem_cons_zero,List.getElem_cons_succ,Act.put,List.setIfInBounds_toArray,List.set_cons_zero,List.set_cons_succ]
 refine wpAnyH_take (i:=3) (v:=?v4) rfl (by kernel_rfl) (by kernel_rfl) (by kernel_rfl) (fun _ _ _ h=>h) (Or.inl ⟨by rfl,?hy4⟩) (by assumption) ?rest4
 case hy4 =>
  intro W' hSw
  obtain ⟨e0,e1,e2⟩:=hSw
  go_simp
  with_reducible rfl
 simp only [List.getElem_toArray,List.getElem_cons_zero,List.getElem_cons_succ,Act.put,List.setIfInBounds_toArray,List.set_cons_zero,List.set_cons_succ]
 refine wpAnyH_take (i:=4) (v:=?v5) rfl (by kernel_rfl) (by kernel_rfl) (by kernel_rfl) (fun _ _ _ h=>h) (Or.inl ⟨by rfl,?hy5⟩) (by assumption) ?rest5
 case hy5 =>
  intro W' hSw
  obtain ⟨e0,e1,e2⟩:=hSw
  go_simp
  with_reducible rfl
 simp only [List.getElem_toArray,List.getElem_cons_zero,List.getElem_cons_succ,Act.put,List.setIfInBounds_toArray,List.set_cons_zero,List.set_cons_succ]
 refine wpAnyH_ready (rs:=[5]) (by kernel_rfl) (by simp) ?_
 refine AllReadyH.cons (i:=5) rfl (fun K hK=>?_) AllReadyH.nil
 go_simp
 refine (H67.out).mono ?_
 rintro e w1 ⟨rfl,rfl⟩
 refine hK.out _ _ HS0.out (fun hHeld2=>?_)
 clear hK K hHeld
 refine wpAnyH_take (i:=6) (v:=?v6) rfl (by kernel_rfl) (by kernel_rfl) (by kernel_rfl) (fun _ _ _ h=>h) (Or.inl ⟨by rfl,?hy6⟩) (by assumption) ?rest6
 case hy6 =>
  intro W' hSw
  obtain ⟨e0,e1,e2⟩:=hSw
  go_simp
  with_reducible rfl
 simp only [List.getElem_toArray,List.getElem_cons_zero,List.getElem_cons_succ,Act.put,List.setIfInBounds_toArray,List.set_cons_zero,List.set_cons_succ]
 refine wpAnyH_take (i:=7) (v:=?v7) rfl (by kernel_rfl) (by kernel_rfl) (by kernel_rfl) (fun _ _ _ h=>h) (Or.inl ⟨by rfl,?hy7⟩) (by assumption) ?rest7
 case hy7 =>
  intro W' hSw
  obtain ⟨e0,e1,e2⟩:=hSw
  go_simp
  with_reducible rfl
 simp only [List.getElem_toArray,List.getElem_cons_zero,List.getElem_cons_succ,Act.put,List.setIfInBounds_toArray,List.set_cons_zero,List.set_cons_succ]
 refine wpAnyH_take (i:=8) (v:=?v8) rfl (by kernel_rfl) (by kernel_rfl) (by kernel_rfl) (fun _ _ _ h=>h) (Or.inl ⟨by rfl,?hy8⟩) (by assumption) ?rest8
 case hy8 =>
  intro W' hSw
  obtain ⟨e0,e1,e2⟩:=hSw
  go_simp
  with_reducible rfl
 simp only [List.getElem_toArray,List.getElem_cons_zero,List.getElem_cons_succ,Act.put,List.setIfInBounds_toArray,List.set_cons_zero,List.set_cons_succ]
 refine wpAnyH_done (by kernel_rfl) ?_ _
 refine NoPanic.normal ?_
 clear hHeld2
 go_wp2_with fail
 go_ret
 exact ⟨rfl,rfl⟩
theorem thr_ok {s ix:List Nat} {cuts:List (Int × Int × Int)} (h:slabOk s cuts=true) (hb:∀ x ∈ s,x≤1024) (hix:IsIx (cnts cuts) ix):ThrOk cuts ix∧IsIx s (thr cuts ix):=by
 unfold slabOk at h
 rw [Bool.and_eq_true,decide_eq_true_eq,List.all_eq_true] at h
 obtain ⟨hl,hall⟩:=h
 have key:∀ k,k<cuts.length→0≤(cuts.getD k (0,0,0)).1∧0≤(ix.getD k 0:Int)*(cuts.getD k (0,0,0)).2.2∧(cuts.getD k (0,0,0)).1+(ix.getD k 0:Int)*(cuts.getD k (0,0,0)).2.2<(s.getD k 0:Int):=fun k hk=>by
  have hc:=hall k (List.mem_range.2 (by omega))
  have hi:=hix.2 k (by rw [cnts,List.length_map];exact hk)
  rw [cnts_at hk] at hi
  unfold cutAt cutOk at hc
  generalize cuts.getD k (0,0,0)=z at hc hi ⊢
  obtain ⟨a,n,st⟩:=z
  generalize s.getD k 0=sz at hc ⊢
  generalize ix.getD k 0=i at hi ⊢
  simp only [Bool.and_eq_true,Bool.or_eq_true,decide_eq_true_eq] at hc hi ⊢
  obtain ⟨⟨⟨⟨h1,h2⟩,h3⟩,h4⟩,h5⟩:=hc
  have hn1:1≤n:=by omega
  rcases h5 with h5|⟨h5,h6⟩
  ·omega
  ·have e1:(i:Int)≤n-1:=by omega
   have e2:(i:Int)*st≤((sz:Int)-1-a)/st*st:=Int.mul_le_mul_of_nonneg_right (by omega) (by omega)
   have e3:((sz:Int)-1-a)/st*st≤(sz:Int)-1-a:=Int.ediv_mul_le _ (by omega)
   have e4:0≤(i:Int)*st:=Int.mul_nonneg (by omega) (by omega)
   exact ⟨h1,e4,by omega⟩
 have hsz:∀ k,k<cuts.length→(s.getD k 0:Int)≤1024:=fun k hk=>by
  have:=hb (s.getD k 0) (by rw [List.getD_eq_getElem?_getD,List.getElem?_eq_getElem (by omega)];exact List.getElem_mem _)
  omega
 constructor
 ·intro k hk
  obtain ⟨h1,h2,h3⟩:=key k hk
  have h4:=hsz k hk
  exact ⟨h1,by omega,h2,by omega⟩
 ·refine ⟨by rw [thr_len,hl],fun k hk=>?_⟩
  obtain ⟨h1,h2,h3⟩:=key k (by omega)
  rw [thr_get (by omega)]
  unfold thrAt
  omega
theorem rdn_row {W:World} {g:Nat} {l:List Nat} (h:W.heap[g]?=some (.cells (ixC l) 3 (0,0))) (hb:∀ x ∈ l,(x:Int)≤9223372036854775807):RdN W (some ⟨g,0,none⟩) l:=by
 refine ⟨fun z hz=>?_,.inr ⟨g,0,rfl,(Array.getElem?_eq_some_iff.1 h).1,fun j hj=>?_⟩⟩
 ·obtain ⟨x,hx,rfl⟩:=List.mem_map.1 hz
  have:=hb x hx
  exact ⟨by show (-9223372036854775808:Int)≤(x:Int);omega,this⟩
 ·rw [List.length_map] at hj
  have h1:=cell_row h hj
  rw [Nat.zero_add,h1,List.getD_eq_getElem?_getD,List.getElem?_eq_getElem hj,List.getD_eq_getElem?_getD,List.getElem?_map,List.getElem?_eq_getElem hj]
  rfl
structure So (B0 Ba Bf Bc Bw R n m c d cd:Nat) (p q cq:Option Addr) (s:List Nat) (l:List (List UInt8)) (cuts:List (Int × Int × Int)) (W:World):Prop where
 ba:W.heap[Ba]?=some (.cells #[.slice p n c,.slice q m d] 31 (0,0))
 bf:W.heap[Bf]?=some (.cells #[.func (.func 89) #[] #[.pointer (some ⟨Bc,0,none⟩),.pointer (some ⟨Bw,0,none⟩)]] 78 (0,0))
 wi:Wi W Bc Bw R n cd cq cuts
 row:∃ r0:List Nat,r0.length=n∧W.heap[R]?=some (.cells (ixC r0) 3 (0,0))
 sh:RdN W p s
 vals:RdS W q l
 lts:Ba<B0∧Bf<B0∧Bc<B0∧Bw<B0∧R<B0∧Ba≠R∧Bf≠R
 lp:∀ b off,p=some ⟨b,off,none⟩→0<s.length→b<B0∧b≠R
 lq:∀ b off,q=some ⟨b,off,none⟩→0<l.length→b<B0∧b≠R
 lc:∀ b off,cq=some ⟨b,off,none⟩→0<cuts.length→b<B0
theorem RdS.keep {W W':World} {p:Option Addr} {s:List (List UInt8)} (h:RdS W p s) (hs:W.heap.size≤W'.heap.size) (hk:∀ b off,p=some ⟨b,off,none⟩→0<s.length→W'.heap[b]?=W.heap[b]?):RdS W' p s:=by
 rcases h with h0|⟨b,off,h1,h2,h3⟩
 ·exact .inl h0
 ·by_cases hs0:0<s.length
  ·exact .inr ⟨b,off,h1,Nat.lt_of_lt_of_le h2 hs,fun j hj=>(World.cell?_of_block (a:=⟨b,off+j,none⟩) (hk b off h1 hs0)).trans (h3 j hj)⟩
  ·exact .inl (by omega)
theorem RdC.keep {W W':World} {p:Option Addr} {s:List (Int × Int × Int)} (h:RdC W p s) (hs:W.heap.size≤W'.heap.size) (hk:∀ b off,p=some ⟨b,off,none⟩→0<s.length→W'.heap[b]?=W.heap[b]?):RdC W' p s:=by
 refine ⟨h.wf,?_⟩
 rcases h.cell with h0|⟨b,off,h1,h2,h3⟩
 ·exact .inl h0
 ·by_cases hs0:0<s.length
  ·have hb:=hk b off h1 hs0
   exact .inr ⟨b,off,h1,Nat.lt_of_lt_of_le h2 hs,fun j hj=>⟨(World.cell?_of_block (a:=⟨b,off+j*3,none⟩) hb).trans (h3 j hj).1,(World.cell?_of_block (a:=⟨b,off+j*3+1,none⟩) hb).trans (h3 j hj).2.1,(World.cell?_of_block (a:=⟨b,off+j*3+2,none⟩) hb).trans (h3 j hj).2.2⟩⟩
  ·exact .inl (by omega)
section
variable {B0 Ba Bf Bc Bw R n m c d cd : Nat} {p q cq : Option Addr} {s : List Nat} {l : List (List UInt8)} {cuts : List (Int × Int × Int)} {W W' : World}
theorem So.keep (h:So B0 Ba Bf Bc Bw R n m c d cd p q cq s l cuts W) (hs:W.heap.size≤W'.heap.size) (hk:∀ b,b<W.heap.size→b<B0→b≠R→W'.heap[b]?=W.heap[b]?) (hR:∃ r0:List Nat,r0.length=n∧W'.heap[R]?=some (.cells (ixC r0) 3 (0,0))):So B0 Ba Bf Bc Bw R n m c d cd p q cq s l cuts W':=by
 obtain ⟨l1,l2,l3,l4,l5,l6,l7⟩:=h.lts
 have sz:∀ {k:Nat} {o:Obj},W.heap[k]?=some o→k<W.heap.size:=fun hh=>(Array.getElem?_eq_some_iff.1 hh).1
 refine ⟨(hk Ba (sz h.ba) l1 l6).trans h.ba,(hk Bf (sz h.bf) l2 l7).trans h.bf,⟨(hk Bc (sz h.wi.bc) l3 h.wi.nc).trans h.wi.bc,(hk Bw (sz h.wi.bw) l4 h.wi.nw).trans h.wi.bw,h.wi.cuts.keep hs (fun b off e h0=>?_),h.wi.nc,h.wi.nw,h.wi.ncuts⟩,hR,h.sh.keep hs (fun b off e h0=>?_),h.vals.keep hs (fun b off e h0=>?_),h.lts,h.lp,h.lq,h.lc⟩
 ·obtain ⟨b',off',x,y,z,e',hb',-⟩:=h.wi.cuts.at h0
  rw [e] at e';cases e'
  exact hk b hb' (h.lc b off e h0) (h.wi.ncuts b off e h0)
 ·obtain ⟨b',off',x,e',hb',-⟩:=h.sh.at h0
  rw [e] at e';cases e'
  exact hk b hb' (h.lp b off e h0).1 (h.lp b off e h0).2
 ·obtain ⟨b',off',x,e',hb',-⟩:=h.vals.at h0
  rw [e] at e';cases e'
  exact hk b hb' (h.lq b off e h0).1 (h.lq b off e h0).2
theorem So.above (h:So B0 Ba Bf Bc Bw R n m c d cd p q cq s l cuts W) {r:Option Nat} (hg:W.grownBy W' r) (hr:∀ k,r=some k→B0≤k):So B0 Ba Bf Bc Bw R n m c d cd p q cq s l cuts W':=by
 refine h.keep hg.size (fun b hb hb0 _=>hg.block b hb (fun e=>by have:=hr b e.symm;omega)) ?_
 obtain ⟨r0,h1,h2⟩:=h.row
 exact ⟨r0,h1,(hg.block R (Array.getElem?_eq_some_iff.1 h2).1 (fun e=>by have:=hr R e.symm;have:=h.lts.2.2.2.2.1;omega)).trans h2⟩
theorem So.atRow (h:So B0 Ba Bf Bc Bw R n m c d cd p q cq s l cuts W) (hg:W.grownBy W' (some R)) (hR:∃ r0:List Nat,r0.length=n∧W'.heap[R]?=some (.cells (ixC r0) 3 (0,0))):So B0 Ba Bf Bc Bw R n m c d cd p q cq s l cuts W' :=
 h.keep hg.size (fun b hb _ hne=>hg.block b hb (fun e=>hne (Option.some.inj e))) hR
end
theorem slice1_any (B0 Ba Bf Bc Bw R n m c d cd f g _N i:Nat) (p q cq:Option Addr) (s:List Nat) (l:List (List UInt8)) (cuts:List (Int × Int × Int)) (w:World) (hn:n≤4) (hm:m≤5000) (hs:Hid (s.length=n)) (hsb:Hid (∀ x ∈ s,x≤1024)) (h4:prod s≤4096) (hl:Hid (l.length=m)) (hmp:Hid (m=prod s)) (hsl:Hid (slabOk s cuts=true)) (hi:i<prod (cnts cuts))
  (hso:So B0 Ba Bf Bc Bw R n m c d cd p q cq s l cuts w) (hg:w.heap[g]?=some (.cells (ixC (ixOf (cnts cuts) i)) 3 (0,0))) (hgB:B0≤g) :
  Calls Tryz.prog 55 #[.slice (some ⟨g,0,none⟩) n f,.pointer (some ⟨Ba,0,none⟩),.pointer (some ⟨Bf,0,none⟩)] w fun e w'=>e=.returned (.string ⟨List.toArray (l.getD (plc s (thr cuts (ixOf (cnts cuts) i)) 0) [])⟩)∧w.grownBy w' (some R)∧KeepsOthers w w'∧So B0 Ba Bf Bc Bw R n m c d cd p q cq s l cuts w':=by
 have HSO:=Lib.hid hso
 have hcl:cuts.length=n:=by
  have h:=hsl.out
  unfold slabOk at h
  rw [Bool.and_eq_true,decide_eq_true_eq] at h
  rw [h.1,hs.out]
 have hcn:(cnts cuts).length=n:=by rw [cnts,List.length_map,hcl]
 have hix:=(ixOf_is (cnts cuts) i hi).1
 obtain ⟨ix,HIX⟩:∃ ix,Hid (ixOf (cnts cuts) i=ix):=⟨_,Lib.hid rfl⟩
 rw [HIX.out] at hg hix ⊢
 obtain ⟨hto,hti⟩:=thr_ok hsl.out hsb.out hix
 obtain ⟨k,HK⟩:∃ k,Hid (k=plc s (thr cuts ix) 0):=⟨_,Lib.hid rfl⟩
 rw [← HK.out]
 have hkm:k<m:=by
  have:=(plc_lt s (thr cuts ix) 0 hti).1
  rw [HK.out,hmp.out];omega
 obtain ⟨r0,hr0,hrow⟩:=hso.row
 have hixn:ix.length=n:=by rw [hix.1,hcn]
 have hRg:R≠g:=by have:=hso.lts.2.2.2.2.1;omega
 have hRn:∀ W,W.heap[g]?=some (.cells (ixC ix) 3 (0,0))→RdN W (some ⟨g,0,none⟩) ix:=fun W hW=>rdn_row hW (fun x hx=>by
  obtain ⟨j,hj,e⟩:=List.getElem_of_mem hx
  have h1:=hix.2 j (by rw [← hix.1];exact hj)
  have h2:=(hto j (by rw [hcl,← hixn];exact hj))
  rw [List.getD_eq_getElem?_getD,List.getElem?_eq_getElem hj,Option.getD_some,e,cnts_at (by rw [hcl,← hixn];exact hj)] at h1
  have h3:=hso.wi.cuts.at (k:=j) (by rw [hcl,← hixn];exact hj)
  obtain ⟨-,-,x3,y3,z3,-,-,-,-,-,e3,e4⟩:=h3
  rw [e3.out] at h1
  change x<y3.toNat at h1
  have:=e4.out
  have e5:(cuts.getD j (0,0,0)).2.1=y3:=by rw [e3.out]
  omega)
 have hd:w.drew.heap=w.heap:=rfl
 have HTHR:Hid (Calls Tryz.prog 89 #[.slice (some ⟨g,0,none⟩) n f,.pointer (some ⟨Bc,0,none⟩),.pointer (some ⟨Bw,0,none⟩)] w.drew (ThrPost R n cuts ix w.drew)):=Lib.hid
  (thr_any (some ⟨g,0,none⟩) cq f cd n R Bc Bw cuts ix r0 w.drew hn (Lib.hid hcl) (Lib.hid hixn) (Lib.hid hr0) (Lib.hid hto) ⟨hso.wi.bc,hso.wi.bw,hso.wi.cuts.below ⟨rfl,rfl,rfl,Nat.le_refl _,fun _ _=>rfl⟩,hso.wi.nc,hso.wi.nw,hso.wi.ncuts⟩ (hRn _ hg) (fun b off e _=>by cases e;exact fun e=>hRg e.symm) hrow)
 have HSD:=Lib.hid (hso.above (W':=w.drew) (r:=none) ⟨rfl,rfl,rfl,Nat.le_refl _,fun _ _ _=>rfl⟩ (fun k e=>by cases e))
 have hsr:∀ W,So B0 Ba Bf Bc Bw R n m c d cd p q cq s l cuts W→((fun W=>W.cell? ⟨Ba,0,none⟩=some (.slice p n c)∧W.cell? ⟨Ba,1,none⟩=some (.slice q m d)∧W.cell? ⟨Bf,0,none⟩=some (.func (.func 89) #[] #[.pointer (some ⟨Bc,0,none⟩),.pointer (some ⟨Bw,0,none⟩)])) W):=fun W h=>⟨by simp [World.cell?,h.ba],by simp [World.cell?,h.ba],by simp [World.cell?,h.bf]⟩
 have HSR:=Lib.hid hsr
 have HTI:=Lib.hid hti
 clear hso hg hrow hRn hsr hto hti hix
 go_enter Tryz.func55,Tryz.ntmps55
 go_wp2_with fail
 refine wp_region_noPanic ?_
 refine wp_region_held_drew (S:=fun W=>W.cell? ⟨Ba,0,none⟩=some (.slice p n c)∧W.cell? ⟨Ba,1,none⟩=some (.slice q m d)∧W.cell? ⟨Bf,0,none⟩=some (.func (.func 89) #[] #[.pointer (some ⟨Bc,0,none⟩),.pointer (some ⟨Bw,0,none⟩)])) (by kernel_rfl) (HSR.out _ HSD.out) (fun hHeld=>?_)
 refine wpAnyH_take (i:=0) (v:=?v9) rfl (by kernel_rfl) (by kernel_rfl) (by kernel_rfl) (fun _ _ _ h=>h) (Or.inl ⟨by rfl,?hy9⟩) (by assumption) ?rest9
 case hy9 =>
  intro W' hSw
  obtain ⟨e0,e1,e2⟩:=hSw
  go_simp
  with_reducible rfl
 simp only [List.getElem_toArray,List.getElem_cons_zero,Act.put,List.setIfInBounds_toArray,List.set_cons_zero,List.set_cons_succ]
 refine wpAnyH_take (i:=1) (v:=?v10) rfl (by kernel_rfl) (by kernel_rfl) (by kernel_rfl) (fun _ _ _ h=>h) (Or.inl ⟨by rfl,?hy10⟩) (by assumption) ?rest10
 case hy10 =>
  intro W' hSw
  obtain ⟨e0,e1,e2⟩:=hSw
  go_simp
  with_reducible rfl
 simp only [List.getElem_toArray,List.getElem_cons_zero,List.getElem_cons_succ,Act.put,List.setIfInBounds_toArray,List.set_cons_zero,List.set_cons_succ]
 refine wpAnyH_take (i:=2) (v:=?v11) rfl (by kernel_rfl) (by kernel_rfl) (by kernel_rfl) (fun _ _ _ h=>h) (Or.inl ⟨by rfl,?hy11⟩) (by assumption) ?rest11
 case hy11 =>
  intro W' hSw
  obtain ⟨e0,e1,e2⟩:=hSw
  go_simp
  with_reducible rfl
 simp only [List.getElem_toArray,List.getElem_cons_zero,List.getElem_cons_succ,Act.put,List.setIfInBounds_toArray,List.set_cons_zero,List.set_cons_succ]
 refine wpAnyH_ready (rs:=[3]) (by kernel_rfl) (by simp) ?_
 refine AllReadyH.cons (i:=3) rfl (fun K hK=>?_) AllReadyH.nil
 go_simp
 refine (HTHR.out).mono ?_
 rintro e w1 ⟨rfl,hg1,hr1⟩
 have HS1:=Lib.hid (HSD.out.atRow hg1 ⟨thr cuts ix,by rw [thr_len,hcl],hr1⟩)
 have H51:Hid (Calls Tryz.prog 56 #[.agg #[.slice p n c,.slice q m d],.slice (some ⟨R,0,none⟩) n n] w1 fun e w'=>w'=(w1.alloc (.cells #[.slice p n c,.slice q m d] 31)).drew∧e=.returned (.string ⟨List.toArray (l.getD k [])⟩)):=Lib.hid
  (element_any p q (some ⟨R,0,none⟩) c d n n m k s (thr cuts ix) l w1 hn hm hs h4 hl HTI HK hkm HS1.out.sh HS1.out.vals (rdn_row hr1 (fun x hx=>by
   obtain ⟨j,hj,e⟩:=List.getElem_of_mem hx
   have h1:=HTI.out.2 j (by rw [← HTI.out.1];exact hj)
   rw [List.getD_eq_getElem?_getD,List.getElem?_eq_getElem hj,Option.getD_some,e] at h1
   have h2:=hsb.out (s.getD j 0) (by rw [List.getD_eq_getElem?_getD,List.getElem?_eq_getElem (by rw [← HTI.out.1];exact hj)];exact List.getElem_mem _)
   omega)))
 have HG1:Hid (w.grownBy w1 (some R)):=Lib.hid ((⟨rfl,rfl,rfl,Nat.le_refl _,fun _ _ _=>rfl⟩:w.grownBy w.drew (some R)).trans hg1)
 have HR1:=Lib.hid hr1
 clear hg1 hr1
 refine hK.out _ _ (HSR.out _ HS1.out) (fun hHeld2=>?_)
 clear hK K hHeld
 refine wpAnyH_ready (rs:=[4]) (by kernel_rfl) (by simp) ?_
 refine AllReadyH.cons (i:=4) rfl (fun K hK=>?_) AllReadyH.nil
 go_simp
 refine (H51.out).mono ?_
 rintro e w2 ⟨e2,rfl⟩
 have hB2:Below w1.heap.size w1 w2:=by rw [e2];exact Below.trans ((Below.refl _ w1).alloc (Nat.le_refl _) _) ⟨rfl,rfl,rfl,Nat.le_refl _,fun _ _=>rfl⟩
 have HS2:=Lib.hid (HS1.out.above (gb_of_below hB2 none) (fun k e=>by cases e))
 have HFIN:Hid (w.grownBy w2 (some R)∧KeepsOthers w w2∧So B0 Ba Bf Bc Bw R n m c d cd p q cq s l cuts w2):=Lib.hid (by
  have h1:=HG1.out.trans (gb_of_below hB2 (some R))
  refine ⟨h1,KeepsOthers.of_grownBy h1 (fun j o e ho=>?_),HS2.out⟩
  cases e
  obtain ⟨r1,-,h2⟩:=HSO.out.row
  rw [h2] at ho;cases ho;rfl)
 clear e2 hB2
 refine hK.out _ _ (HSR.out _ HS2.out) (fun hHeld3=>?_)
 clear hK K hHeld2
 refine wpAnyH_take (i:=5) (v:=?v12) rfl (by kernel_rfl) (by kernel_rfl) (by kernel_rfl) (fun _ _ _ h=>h) (Or.inl ⟨by rfl,?hy12⟩) (by assumption) ?rest12
 case hy12 =>
  intro W' hSw
  obtain ⟨e0,e1,e2⟩:=hSw
  go_simp
  with_reducible rfl
 simp only [List.getElem_toArray,List.getElem_cons_zero,List.getElem_cons_succ,Act.put,List.setIfInBounds_toArray,List.set_cons_zero,List.set_cons_succ]
 refine wpAnyH_done (by kernel_rfl) ?_ _
 refine NoPanic.normal ?_
 clear hHeld3
 go_wp2_with fail
 go_ret
 exact ⟨rfl,HFIN.out⟩
end Go.Proofs.YtlcpcpmlfegejaaGreatDoor.Arr
set_option maxHeartbeats 4000000
set_option maxRecDepth 100000
namespace Go.Proofs.YtlcpcpmlfegejaaGreatDoor.Arr
open Go.RowKit Go.Shelf
open Go.Lib
attribute [local go_sem] Oper.semAt_some
def sliceV (s:List Nat) (l:List (List UInt8)) (cuts:List (Int × Int × Int)):List (List UInt8):=(List.range (prod (cnts cuts))).map (fun i=>l.getD (plc s (thr cuts (ixOf (cnts cuts) i)) 0) [])
def SlicePost (w:World) (n:Nat) (s:List Nat) (l:List (List UInt8)) (cuts:List (Int × Int × Int)) (e:Ending) (w':World):Prop :=
 Below w.heap.size w w'∧∃ q d V,e=.returned (.tuple #[.agg #[.slice q n d,.slice (some ⟨V,0,none⟩) (prod (cnts cuts)) (prod (cnts cuts))],.int .i64 0])∧RdN w' q (cnts cuts)∧n≤d∧(q=none→d=0)∧(∀ b off,q=some ⟨b,off,none⟩→w.heap.size≤b)∧RdS w' (some ⟨V,0,none⟩) (sliceV s l cuts)∧w.heap.size≤V
theorem prod_mono:∀ (a b:List Nat),a.length=b.length→(∀ k,k<b.length→a.getD k 0≤b.getD k 0)→prod a≤prod b
 | [],[],_,_=>Nat.le_refl _
 | [],_::_,h,_=>absurd h (by simp)
 | _::_,[],h,_=>absurd h (by simp)
 | x::a,y::b,h,hk=>by
  rw [prod_cons,prod_cons]
  exact Nat.mul_le_mul (by have:=hk 0 (by simp);simpa using this) (prod_mono a b (by simpa using h) (fun k hk2=>by have:=hk (k+1) (by simpa using hk2);simpa using this))
theorem cnts_ok {s:List Nat} {cuts:List (Int × Int × Int)} (h:slabOk s cuts=true) (hb:∀ x ∈ s,x≤1024):cuts.length=s.length∧(∀ z ∈ cuts,0≤z.2.1∧z.2.1≤1024)∧(∀ x ∈ cnts cuts,x≤1024)∧prod (cnts cuts)≤prod s:=by
 unfold slabOk at h
 rw [Bool.and_eq_true,decide_eq_true_eq,List.all_eq_true] at h
 obtain ⟨hl,hall⟩:=h
 have key:∀ k,k<cuts.length→0≤(cuts.getD k (0,0,0)).2.1∧(cuts.getD k (0,0,0)).2.1≤(s.getD k 0:Int):=fun k hk=>by
  have hc:=hall k (List.mem_range.2 (by omega))
  unfold cutAt cutOk at hc
  generalize cuts.getD k (0,0,0)=z at hc ⊢
  obtain ⟨a,n,st⟩:=z
  generalize s.getD k 0=sz at hc ⊢
  simp only [Bool.and_eq_true,Bool.or_eq_true,decide_eq_true_eq] at hc ⊢
  obtain ⟨⟨⟨⟨h1,h2⟩,h3⟩,h4⟩,h5⟩:=hc
  refine ⟨h2,?_⟩
  rcases h5 with h5|⟨h5,h6⟩
  ·omega
  ·have e1:((sz:Int)-1-a)/st≤(sz:Int)-1-a:=Int.ediv_le_self _ (by omega)
   omega
 have hsz:∀ k,k<cuts.length→(s.getD k 0:Int)≤1024:=fun k hk=>by
  have:=hb (s.getD k 0) (by rw [List.getD_eq_getElem?_getD,List.getElem?_eq_getElem (by omega)];exact List.getElem_mem _)
  omega
 have k1:∀ z ∈ cuts,0≤z.2.1∧z.2.1≤1024:=fun z hz=>by
  obtain ⟨k,hk,e⟩:=List.getElem_of_mem hz
  have h1:=key k hk
  have h2:=hsz k hk
  rw [List.getD_eq_getElem?_getD,List.getElem?_eq_getElem hk,Option.getD_some,e] at h1
  omega
 refine ⟨hl,k1,fun x hx=>?_,prod_mono _ _ (by rw [cnts,List.length_map,hl]) (fun k hk=>?_)⟩
 ·obtain ⟨z,hz,rfl⟩:=List.mem_map.1 hx
  have:=k1 z hz
  omega
 ·rw [cnts_at (by omega)]
  have:=key k (by omega)
  omega
theorem run_store_func (P:Program) (w:World) (a:Addr) (m:Mode) (f:Fn) (ts:Array Value) (cap:Array Value):(store a (.func f ts cap) m).run P w=stored P w a (.func f ts cap) m:=run_store P w a _ m rfl
attribute [local go_sem] run_store_func
theorem hent59:∀ args W,(callFunc 55 args).run Tryz.prog W=.ok (.enter 55 args) W:=by
 intro args W
 have h1 : ¬ Tryz.f55.name = "runtime.NumGoroutine" := of_decide_eq_false (by kernel_rfl)
 have h2:¬ Tryz.f55.body=none:=fun h=>by
  have h3:Tryz.f55.body.isNone=false:=by kernel_rfl
  rw [h] at h3;cases h3
 simp [callFunc,h1,h2]
theorem slice_yes (p q cq:Option Addr) (c d n m cd:Nat) (s:List Nat) (cuts:List (Int × Int × Int)) (l:List (List UInt8)) (w:World) (he:Env w) (hs:Hid (s.length=n)) (hl:Hid (l.length=m)) (hm:m≤5000) (hsh:Hid (Shp s)) (hp:RdN w p s) (hq:RdS w q l) (hcq:RdC w cq cuts) (hva:validA (s.map Int.ofNat) l=true) (hsl:Hid (slabOk s cuts=true)) :
  Calls Tryz.prog 23 #[.agg #[.slice p n c,.slice q m d],.slice cq n cd] w (SlicePost w n s l cuts):=by
 obtain ⟨hcl,hcz,hcb,hcp⟩:=cnts_ok hsl.out hsh.out.2.1
 have hn:n≤4:=by rw [← hs.out];exact hsh.out.1
 have hmp:Hid (m=prod s):=Lib.hid (by
  unfold validA at hva
  rw [Bool.and_eq_true,Bool.and_eq_true,decide_eq_true_eq] at hva
  rw [← hl.out,hva.2.1,toNat_map])
 have hcn:cuts.length=n:=by rw [hcl,hs.out]
 have hcnn:(cnts cuts).length=n:=by rw [cnts,List.length_map,hcn]
 have h4:=hsh.out.2.2
 have HP:=Lib.hid hp
 have HQ:=Lib.hid hq
 have HCQ:=Lib.hid hcq
 obtain ⟨A,HA⟩:∃ A,Hid (A=w.heap.size):=⟨_,Lib.hid rfl⟩
 obtain ⟨W0,HW0⟩:∃ W0,Hid ((w.alloc (.cells #[.slice p n c,.slice q m d] 31)).alloc (.cells #[.slice none 0 0,.slice none 0 0] 31)=W0):=⟨_,Lib.hid rfl⟩
 have HB0:Hid (Below w.heap.size w W0):=Lib.hid (by rw [← HW0.out];exact ((Below.refl _ w).alloc (Nat.le_refl _) _).alloc (by simp) _)
 have hs0:W0.heap.size=A+1+1:=by rw [← HW0.out,HA.out];simp
 have hA0:W0.heap[A]?=some (.cells #[.slice p n c,.slice q m d] 31 (0,0)):=by
  rw [← HW0.out,HA.out,(Below.alloc (Below.refl (w.alloc (.cells #[.slice p n c,.slice q m d] 31)).heap.size _) (Nat.le_refl _) _).block w.heap.size (by simp)]
  exact World.alloc_heap_new w _
 have hA1:W0.heap[A+1]?=some (.cells #[.slice none 0 0,.slice none 0 0] 31 (0,0)):=by
  rw [← HW0.out,HA.out,show w.heap.size+1=(w.alloc (.cells #[.slice p n c,.slice q m d] 31)).heap.size by simp]
  exact World.alloc_heap_new _ _
 have H20:Hid (Calls Tryz.prog 50 #[.agg #[.slice p n c,.slice q m d]] W0 fun e w'=>Below W0.heap.size W0 w'∧e=.returned (.bool true)):=Lib.hid (by
  have:=valid_any p q c d n m (s.map Int.ofNat) l W0 (he.below HB0.out) (Lib.hid (by rw [List.length_map,hs.out])) hl hm (HP.out.below HB0.out) (HQ.out.below HB0.out)
  rwa [hva] at this)
 clear hp hq hcq
 go_enter Tryz.func23,Tryz.ntmps23
 go_wp2_with fail
 rw [HW0.out,← HA.out]
 refine (H20.out).mono ?_
 rintro e w1 ⟨hb1,rfl⟩
 have HB1:Hid (Below w.heap.size w w1):=Lib.hid (HB0.out.trans (hb1.mono HB0.out.size))
 have x1:w1.heap[A]?=some (.cells #[.slice p n c,.slice q m d] 31 (0,0)):=(hb1.block A (by omega)).trans hA0
 have y1:w1.heap[A+1]?=some (.cells #[.slice none 0 0,.slice none 0 0] 31 (0,0)):=(hb1.block (A+1) (by omega)).trans hA1
 have c1:w1.cell? ⟨A,0,none⟩=some (.slice p n c):=by simp [World.cell?,x1]
 have hs1:A+1+1≤w1.heap.size:=by rw [← hs0];exact hb1.size
 have H56:Hid (Calls Tryz.prog 51 #[.slice p n c,.slice cq n cd] w1 (CutPost true w1)):=Lib.hid (by
  have:=isslab_any p cq c cd s cuts w1 hsh.out.1 hsh.out.2.1 (HP.out.below HB1.out) (HCQ.out.below HB1.out)
  rwa [hsl.out,hcn,hs.out] at this)
 clear hb1
 go_wp2_with fail
 refine (H56.out).mono ?_
 rintro e w2 ⟨hb2,rfl⟩
 have HB2:Hid (Below w.heap.size w w2):=Lib.hid (HB1.out.trans (hb2.mono HB1.out.size))
 have x2:=(hb2.block A (by omega)).trans x1
 have y2:=(hb2.block (A+1) (by omega)).trans y1
 have hs2:A+1+1≤w2.heap.size:=Nat.le_trans hs1 hb2.size
 clear hb2 c1
 go_wp2_with fail
 refine (within_any cq cd n w2 hn).mono ?_
 rintro e w3 ⟨rfl,e3⟩
 have HE3:=Lib.hid e3
 have HS3:Hid (w3.heap.size=w2.heap.size+1+1+1):=Lib.hid (by rw [e3];simp)
 clear e3
 obtain ⟨R,HR⟩:∃ R,Hid (R=w2.heap.size+1):=⟨_,Lib.hid rfl⟩
 have n0:(w3.alloc (.cells #[.nilFunc] 78)).heap[w3.heap.size]?=some (.cells #[.nilFunc] 78 (0,0)):=World.alloc_heap_new w3 _
 have n1:(w3.alloc (.cells #[.nilFunc] 78)).cell? ⟨w3.heap.size,0,none⟩=some .nilFunc:=by unfold World.cell?;simp only [n0];rfl
 have n2:(w3.alloc (.cells #[.nilFunc] 78)).frozen? ⟨w3.heap.size,0,none⟩=false:=by unfold World.frozen?;simp only [n0];rfl
 obtain ⟨C,HC⟩:∃ C,Hid (C=w2.heap.size):=⟨_,Lib.hid rfl⟩
 obtain ⟨F,HF⟩:∃ F,Hid (F=w3.heap.size):=⟨_,Lib.hid rfl⟩
 go_wp2_with fail
 clear n0 n1 n2
 rw [← HC.out,← HF.out]
 obtain ⟨W4,HW4⟩:∃ W4,Hid (w3.alloc (.cells #[.func (.func 89) #[] #[.pointer (some ⟨C,0,none⟩),.pointer (some ⟨C+1+1,0,none⟩)]] 78)=W4):=⟨_,Lib.hid rfl⟩
 rw [HW4.out]
 have h24:Below w2.heap.size w2 W4:=by
  rw [← HW4.out,HE3.out]
  exact ((((Below.refl _ w2).alloc (Nat.le_refl _) _).alloc (by simp) _).alloc (by simp;omega) _).alloc (by simp;omega) _
 have hsz4:W4.heap.size=C+4:=by rw [← HW4.out,HE3.out,HC.out];simp
 have hFC:F=C+3:=by rw [HF.out,HS3.out,HC.out]
 have hRC:R=C+1:=by rw [HR.out,HC.out]
 have hcs:A+1+1≤C:=by rw [HC.out];exact hs2
 have b0:W4.heap[C]?=some (.cells #[.slice cq n cd] 54 (0,0)):=by
  rw [← HW4.out,HE3.out,HC.out];simp only [World.alloc,Array.getElem?_push,Array.size_push]
  repeat' (first|rw [if_pos (by omega)] | rw [if_neg (by omega)] | rfl)
 have b1:W4.heap[C+1]?=some (.cells (ixC (zn n)) 3 (0,0)):=by
  rw [← HW4.out,HE3.out,HC.out];simp only [World.alloc,Array.getElem?_push,Array.size_push]
  repeat' (first|rw [if_pos (by omega)] | rw [if_neg (by omega)] | rfl)
 have b2:W4.heap[C+1+1]?=some (.cells #[.slice (some ⟨C+1,0,none⟩) n n] 29 (0,0)):=by
  rw [← HW4.out,HE3.out,HC.out];simp only [World.alloc,Array.getElem?_push,Array.size_push]
  repeat' (first|rw [if_pos (by omega)] | rw [if_neg (by omega)] | rfl)
 have b3:W4.heap[F]?=some (.cells #[.func (.func 89) #[] #[.pointer (some ⟨C,0,none⟩),.pointer (some ⟨C+1+1,0,none⟩)]] 78 (0,0)):=by
  rw [← HW4.out,HF.out];exact World.alloc_heap_new w3 _
 have x4:=(h24.block A (by rw [← HC.out];omega)).trans x2
 have y4:=(h24.block (A+1) (by rw [← HC.out];omega)).trans y2
 have HB4:Hid (Below w.heap.size w W4):=Lib.hid (HB2.out.trans (h24.mono HB2.out.size))
 clear h24 x2 y2
 refine (shapeof_any cq cd n cuts W4 hn (Lib.hid hcn) (Lib.hid hcz) (HCQ.out.below HB4.out)).mono ?_
 rintro e w5 ⟨hb5,g,hg1,rfl,hg2⟩
 have HB5:Hid (Below w.heap.size w w5):=Lib.hid (HB4.out.trans (hb5.mono HB4.out.size))
 have hs5:C+4≤w5.heap.size:=by rw [← hsz4];exact hb5.size
 have up:∀ {k:Nat} {o:Obj},W4.heap[k]?=some o→w5.heap[k]?=some o:=fun h=>(hb5.block _ (Array.getElem?_eq_some_iff.1 h).1).trans h
 have lw:∀ k,k<w.heap.size→k<A+1:=fun k hk=>by rw [HA.out];omega
 have hAw:w.heap.size≤A:=by rw [HA.out];exact Nat.le_refl _
 have HSO:Hid (So w5.heap.size A F C (C+1+1) R n m c d cd p q cq s l cuts w5):=Lib.hid (by
  refine ⟨up x4,up b3,⟨up b0,by rw [hRC];exact up b2,HCQ.out.below HB5.out,by omega,by omega,fun b off e h0=>?_⟩,⟨zn n,by simp [zn],by rw [hRC];exact up b1⟩,HP.out.below HB5.out,HQ.out.below HB5.out,by omega,fun b off e h0=>?_,fun b off e h0=>?_,fun b off e h0=>?_⟩
  ·obtain ⟨b',off',x,y,z,e',hb',-⟩:=HCQ.out.at h0
   rw [e] at e';cases e';omega
  ·obtain ⟨b',off',x,e',hb',-⟩:=HP.out.at h0
   rw [e] at e';cases e';omega
  ·obtain ⟨b',off',x,e',hb',-⟩:=HQ.out.at h0
   rw [e] at e';cases e';omega
  ·obtain ⟨b',off',x,y,z,e',hb',-⟩:=HCQ.out.at h0
   rw [e] at e';cases e';omega)
 have hgs:g<w5.heap.size:=(Array.getElem?_eq_some_iff.1 hg2).1
 have y5:=up y4
 have H46:Hid (Calls Tryz.prog 53 #[.slice (some ⟨g,0,none⟩) n n,.func (.func 55) #[] #[.pointer (some ⟨A,0,none⟩),.pointer (some ⟨F,0,none⟩)]] w5 (BuildPost w5 n (prod (cnts cuts)) (cnts cuts) (fun i=>l.getD (plc s (thr cuts (ixOf (cnts cuts) i)) 0) []) (some R) (So w5.heap.size A F C (C+1+1) R n m c d cd p q cq s l cuts))):=Lib.hid (by
  refine build_any (some ⟨g,0,none⟩) n n (prod (cnts cuts)) 55 _ (cnts cuts) _ (some R) _ w5 hn (Lib.hid hcnn) (Lib.hid hcb) (Lib.hid rfl) (Nat.le_trans hcp h4) (rdn_row hg2 (fun x hx=>by have:=hcb x hx;omega)) (fun r e=>by cases e;omega) (fun b off e _=>by cases e;intro e;cases e;omega) hent59 HSO.out (fun X Y r hX hg hr=>hX.above hg hr) ?_
  intro i g' W hi hW hg' hg0
  exact (slice1_any w5.heap.size A F C (C+1+1) R n m c d cd n g' 0 i p q cq s l cuts W hn hm hs (Lib.hid hsh.out.2.1) h4 hl hmp hsl hi hW hg' hg0).mono (fun e W' ⟨h1,h2,h3,h4⟩=>⟨h1,h2,h3,h4⟩))
 have HARN:Hid (A+1≠R∧w.heap.size≤R∧A+1<w5.heap.size∧w.heap.size<A+1+1∧A+1<w5.heap.size):=Lib.hid (by omega)
 have HAW:=Lib.hid hAw
 clear up b0 b1 b2 b3 x4 y4 hb5 hg2 hFC hRC hsz4 hcs hs5 hs0 hs1 hs2 hA0 hA1 hAw lw hg1 hgs x1 y1
 go_wp2_with fail
 refine (H46.out).mono ?_
 rintro e w6 ⟨hg6,-,q',d',V,rfl,hr1,hr2,hr3,hr4,hr5,hr6⟩
 obtain ⟨hn1,hn2,hn3,hn4,hn5⟩:=HARN.out
 have hAw:=HAW.out
 have y6:w6.heap[A+1]?=some (.cells #[.slice none 0 0,.slice none 0 0] 31 (0,0)):=(hg6.block (A+1) (by omega) (by intro e;injection e with e;omega)).trans y5
 have r0:w6.cell? ⟨A+1,0,none⟩=some (.slice none 0 0):=by simp [World.cell?,y6]
 have r1:w6.cell? ⟨A+1,1,none⟩=some (.slice none 0 0):=by simp [World.cell?,y6]
 have z0:w6.frozen? ⟨A+1,0,none⟩=false:=by simp [World.frozen?,y6]
 have z1:w6.frozen? ⟨A+1,1,none⟩=false:=by simp [World.frozen?,y6]
 have hE1:=heap_set w6 (A+1) 0 (.slice q' n d') _ _ y6
 have hE2:=heap_set _ (A+1) 1 (.slice (some ⟨V,0,none⟩) (prod (cnts cuts)) (prod (cnts cuts))) _ _ hE1
 obtain ⟨W7,hW7⟩:∃ W7,(w6.setCell ⟨A+1,0,none⟩ (.slice q' n d')).setCell ⟨A+1,1,none⟩ (.slice (some ⟨V,0,none⟩) (prod (cnts cuts)) (prod (cnts cuts)))=W7:=⟨_,rfl⟩
 rw [hW7] at hE2
 have k0:W7.cell? ⟨A+1,0,none⟩=some (.slice q' n d'):=by simp [World.cell?,hE2]
 have k1:W7.cell? ⟨A+1,1,none⟩=some (.slice (some ⟨V,0,none⟩) (prod (cnts cuts)) (prod (cnts cuts))):=by simp [World.cell?,hE2]
 have hg67:w6.grownBy W7 (some (A+1)):=by rw [← hW7];exact (gb_set _ _ _ _).trans (gb_set _ _ _ _)
 have HFIN:Hid (SlicePost w n s l cuts (.returned (.tuple #[.agg #[.slice q' n d',.slice (some ⟨V,0,none⟩) (prod (cnts cuts)) (prod (cnts cuts))],.int .i64 0])) W7):=Lib.hid (by
  have o1:=gb_trans_new (gb_of_below HB5.out none) hg6 (by omega)
  have o2:=gb_trans_new o1 hg67 (by omega)
  refine ⟨⟨o2.os,o2.tape,o2.output,o2.size,fun k hk=>o2.block k (Nat.lt_of_lt_of_le hk (Nat.le_refl _)) (by intro e;cases e)⟩,q',d',V,rfl,?_,hr2,hr3,fun b off e=>Nat.le_trans (by omega) (hr4 b off e),?_,by omega⟩
  ·refine hr1.keep hg67.size (fun b off e h0=>?_)
   obtain ⟨b',off',x,e',hb',-⟩:=hr1.at h0
   rw [e] at e';cases e'
   exact hg67.block b hb' (by intro e2;injection e2 with e2;have:=hr4 b off e;omega)
  ·refine hr5.keep hg67.size (fun b off e h0=>?_)
   obtain ⟨b',off',x,e',hb',-⟩:=hr5.at h0
   rw [e] at e';cases e'
   cases e
   exact hg67.block V hb' (by intro e2;injection e2 with e2;omega))
 clear hcl hcz hcb hcp hcnn hva y5 hcn h4
 clear hn1 hn2 hn3 hn4 hn5 hAw hr1 hr2 hr3 hr4 hr5 hr6 hg6 hg67 hE1 hE2 y6 HARN HAW HSO H46 HB5 HB4
 go_wp2_with fail
 (try simp only [Exit.inBlock,Exit.then])
 refine bodyPost_ret (v:=.tuple #[.agg #[.slice q' n d',.slice (some ⟨V,0,none⟩) (prod (cnts cuts)) (prod (cnts cuts))],.int .i64 0]) ?_ rfl HFIN.out
 rw [results_cell_tmp rfl]
 go_simp
end Go.Proofs.YtlcpcpmlfegejaaGreatDoor.Arr
