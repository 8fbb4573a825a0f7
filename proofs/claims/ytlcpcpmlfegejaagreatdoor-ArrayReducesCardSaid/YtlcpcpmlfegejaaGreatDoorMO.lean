/- The document's with and without. -/
import Derived.Test.YtlcpcpmlfegejaaGreatDoorMK
import Derived.Test.YtlcpcpmlfegejaaGreatDoorHB
import Derived.Test.YtlcpcpmlfegejaaGreatDoorME
import Derived.Deep.RegionHeld3
set_option maxHeartbeats 4000000
set_option maxRecDepth 100000
namespace Go.Proofs.YtlcpcpmlfegejaaGreatDoor.Arr
open Go.RowKit Go.Shelf
open Go.Lib
attribute [local go_sem] Oper.semAt_some
theorem run_append_ns (ty:TypeId) (w:World) (B:Nat) (v:Value) (X:List Nat) (hown:w.ownsRow B 3 1 v X.length (X.map (fun x=>Value.int .i64 ((x:Nat):Int))))
  (p:Option Addr) (m c:Nat) (L:List Nat) (hm:L.length=m) (hb:RdN w p L) (hlen:X.length+m≤100000) (hB:B≤w.heap.size) :
  ∃ v' w',(Builtin.append_ #[29,29] ty #[v,.slice p m c]).run Tryz.prog w=.ok v' w'∧w'.ownsRow B 3 1 v' (X.length+m) ((X++L).map (fun x=>Value.int .i64 ((x:Nat):Int)))∧w.grownBy w' v.ownBlock:=by
 subst hm
 obtain ⟨i0,hi,hz0,hz1,hz2⟩:=info_parts info3
 cases p with
 | none =>
  have h0:L=[]:=by
   rcases hb.cell with h0|⟨b,off,h1,-⟩
   ·exact List.eq_nil_of_length_eq_zero (by simpa using h0)
   ·cases h1
  subst h0
  exact ⟨v,w,nothing_behind w B v X.length c _ ty hown,by rw [List.append_nil];exact hown,gb_of_below (Below.refl _ _) _⟩
 | some ad =>
  obtain ⟨b0,off,sp⟩:=ad
  by_cases h0:L=[]
  ·subst h0
   obtain ⟨v',w',h1,h2,h3,-⟩:=run_append_own (P:=Tryz.prog) (w:=w) B 29 ty 3 i0 (.int .i64 0) 1 8 Tryz.underlying29 hi hz0 hz1 hz2 rfl (by decide) _ _ _ hown ⟨b0,off,sp⟩ ([]:List Nat).length c [] rfl (fun j u hj=>by simp at hj) (fun u hu=>by cases hu) (by unfold maxLen;simp at hlen ⊢;omega) (by simp at hlen ⊢;omega) hB
   exact ⟨v',w',h1,by rw [List.append_nil];simpa using h2,h3⟩
  ·have hsp:sp=none:=by
    rcases hb.cell with h1|⟨b,o2,h1,-⟩
    ·exact absurd (List.eq_nil_of_length_eq_zero (by simpa using h1)) h0
    ·cases h1;rfl
   subst hsp
   obtain ⟨v',w',h1,h2,h3,-⟩:=run_append_own (P:=Tryz.prog) (w:=w) B 29 ty 3 i0 (.int .i64 0) 1 8 Tryz.underlying29 hi hz0 hz1 hz2 rfl (by decide) _ _ _ hown ⟨b0,off,none⟩ L.length c (L.map (fun x=>Value.int .i64 ((x:Nat):Int))) (by rw [List.length_map,Nat.mul_one]) (by
    intro j u hj
    have hjl:j<L.length:=by
     have:=(List.getElem?_eq_some_iff.1 hj).1
     rwa [List.length_map] at this
    obtain ⟨b1,o1,x,e1,-,hc,hx⟩:=hb.at hjl
    cases e1
    rw [List.getElem?_map,List.getElem?_eq_getElem hjl] at hj
    obtain rfl:Value.int .i64 ((L[j]:Nat):Int)=u:=by simpa using hj
    have ex:x=L[j]:=by rw [hx.out,List.getD_eq_getElem?_getD,List.getElem?_eq_getElem hjl];rfl
    rw [ex] at hc
    have ea:(⟨b0,off,none⟩:Addr).add j=⟨b0,off+j,none⟩:=by
     unfold Addr.add;split<;>simp_all
    rw [ea];exact hc) (by
    intro u hu
    obtain ⟨x,-,rfl⟩:=List.mem_map.1 hu
    rfl) (by unfold maxLen;omega) (by omega) hB
   exact ⟨v',w',h1,by rw [List.map_append];exact h2,h3⟩
theorem op_append_ns {w:World} {o:Oper} {a:Act} {K:Act→World→Prop} {Q:Exit→Act→World→Prop} (s x:Operand)
  (ho:o.op=.call { callee:=.builtin .append,args:=#[s,x],argTypes:=#[29,29] })
  (B:Nat) (v:Value) (X:List Nat) (hs:a.eval s=v) (hown:w.ownsRow B 3 1 v X.length (X.map (fun x=>Value.int .i64 ((x:Nat):Int))))
  (p:Option Addr) (m c:Nat) (L:List Nat) (hx:a.eval x=.slice p m c) (hm:L.length=m) (hb:RdN w p L) (hlen:X.length+m≤100000) (hB:B≤w.heap.size)
  (h:∀ v' w',w'.ownsRow B 3 1 v' (X.length+m) ((X++L).map (fun x=>Value.int .i64 ((x:Nat):Int)))→w.grownBy w' v.ownBlock→K (a.put o.dst v') w'):o.wp Tryz.prog a w K Q:=by
 obtain ⟨v',w',hr,h1,h2⟩:=run_append_ns o.type w B v X hown p m c L hm hb hlen hB
 unfold Oper.wp execOp
 simp only [ho,resolve,invoke,builtin,Sem.run_bind,Sem.run_pure,Result.andThen_ok,List.map_toArray,List.map_cons,List.map_nil,hs,hx,hr]
 exact h v' w' h1 h2
theorem op_append_1s {w:World} {o:Oper} {a:Act} {K:Act→World→Prop} {Q:Exit→Act→World→Prop} (s x:Operand)
  (ho:o.op=.call { callee:=.builtin .append,args:=#[s,x],argTypes:=#[22,22] })
  (B:Nat) (pv:Option Addr) (cv n:Nat) (X:List (List UInt8)) (hs:a.eval s=.slice pv n cv) (hown:w.ownsRow B 9 1 (.slice pv n cv) n (strs X))
  (g:Nat) (y:List UInt8) (hx:a.eval x=.slice (some ⟨g,0,none⟩) 1 1) (hc:w.cell? ⟨g,0,none⟩=some (.string ⟨List.toArray y⟩)) (hlen:n≤100000) (hB:B≤w.heap.size)
  (h:∀ gv cv' w',w'.ownsRow B 9 1 (.slice (some ⟨gv,0,none⟩) (n+1) cv') (n+1) (strs (X++[y]))→w.grownBy w' (Value.slice pv n cv).ownBlock→K (a.put o.dst (.slice (some ⟨gv,0,none⟩) (n+1) cv')) w'):o.wp Tryz.prog a w K Q:=by
 obtain ⟨i0,hi,hz0,hz1,hz2⟩:=info_parts info9
 obtain ⟨v',w',hr,h1,h2,-⟩:=run_append_own (P:=Tryz.prog) (w:=w) B 22 o.type 9 i0 (.string ⟨#[]⟩) 1 16 Tryz.underlying22 hi hz0 hz1 hz2 rfl (by decide) _ _ _ hown ⟨g,0,none⟩ 1 1 [.string ⟨List.toArray y⟩] rfl (by
  intro j u hj
  cases j with
  | zero=>simp at hj;subst hj;exact hc
  | succ j=>simp at hj) (by
  intro u hu
  obtain rfl:=List.mem_singleton.1 hu
  rfl) (by unfold maxLen;omega) (by omega) hB
 obtain ⟨gv,cv',rfl⟩:∃ g c,v'=.slice (some ⟨g,0,none⟩) (n+1) c:=by
  obtain ⟨-,⟨-,e⟩|⟨g,cap,_,e,-⟩⟩:=id h1
  ·omega
  ·exact ⟨g,cap,e⟩
 unfold Oper.wp execOp
 simp only [ho,resolve,invoke,builtin,Sem.run_bind,Sem.run_pure,Result.andThen_ok,List.map_toArray,List.map_cons,List.map_nil,hs,hx,hr]
 exact h gv cv' w' (by rw [strs,List.map_append];exact h1) h2
theorem copied_own (p:Option Addr) (n c:Nat) (s:List Nat) (w:World) (hs:Hid (s.length=n)) (hn:n≤4) (h:RdN w p s) :
  Calls Tryz.prog 40 #[.slice p n c] w fun e w'=>Below w.heap.size w w'∧∃ v,e=.returned v∧w'.ownsRow w.heap.size 3 1 v n (s.map (fun x=>Value.int .i64 ((x:Nat):Int))):=by
 have H:=Lib.hid h
 have HBa:Hid (Below w.heap.size w (w.alloc (.cells #[] 3))):=Lib.hid ((Below.refl _ w).alloc (Nat.le_refl _) _)
 have hown:Hid ((w.alloc (.cells #[] 3)).ownsRow w.heap.size 3 1 (.slice (some ⟨w.heap.size,0,none⟩) 0 0) 0 (([]:List Nat).map (fun x=>Value.int .i64 ((x:Nat):Int)))):=Lib.hid ⟨rfl,.inr ⟨w.heap.size,0,#[],rfl,Nat.le_refl _,World.alloc_heap_new w _,Nat.le_refl _,Nat.zero_le _,rfl,rfl⟩⟩
 have hsz:Hid (w.heap.size≤(w.alloc (.cells #[] 3)).heap.size):=Lib.hid (by simp)
 clear h
 go_enter Tryz.func40,Tryz.ntmps40
 go_wp2_with (at_builtin;refine wpList_append_ns rfl (.tmp 3) (.tmp 4) rfl w.heap.size _ [] rfl hown.out p n c s rfl hs.out (H.out.below HBa.out) (by simp;omega) hsz.out ?_)
 intro v5 w5 hown5 hg5 _
 have hfin:Hid (Below w.heap.size w w5∧w5.ownsRow w.heap.size 3 1 v5 n (s.map (fun x=>Value.int .i64 ((x:Nat):Int)))):=Lib.hid ⟨HBa.out.trans ((Below.refl _ _).grown hg5 hsz.out (fun k e=>own_ge' hown.out e)),by simpa using hown5⟩
 clear hown5 hg5
 go_wp2_with fail
 go_ret
 exact ⟨hfin.out.1,_,rfl,hfin.out.2⟩
theorem copied_row (p:Option Addr) (n c:Nat) (s:List Nat) (w:World) (hs:Hid (s.length=n)) (hn:n≤4) (h0:0<n) (hb:∀ x ∈ s,x≤1024) (h:RdN w p s):Calls Tryz.prog 40 #[.slice p n c] w (CloneRow n s w):=by
 refine (copied_own p n c s w hs hn h).mono ?_
 rintro e w' ⟨h1,v,rfl,h2⟩
 obtain ⟨b,d,rfl,h3⟩:=rdn_own2 hs.out h0 hb h2
 exact ⟨h1,b,d,rfl,h3⟩
theorem rwith_any (p:Option Addr) (n c a v:Nat) (s:List Nat) (w:World) (hs:Hid (s.length=n)) (hn:n≤4) (ha:a<n) (hv:v≤1024) (hb:Hid (∀ x ∈ s,x≤1024)) (h:RdN w p s) :
  Calls Tryz.prog 47 #[.slice p n c,.int .i64 (a:Int),.int .i64 (v:Int)] w (CloneRow n (s.set a v) w):=by
 have HC:=Lib.hid (copied_row p n c s w hs hn (by omega) hb.out h)
 have hni:(n:Int)≤4:=by omega
 have hai:(a:Int)<(n:Int):=by omega
 have HAN:=Lib.hid ha
 have HVB:=Lib.hid hv
 clear h ha hv
 go_enter Tryz.func47,Tryz.ntmps47
 go_wp2_with fail
 refine HC.out.mono ?_
 rintro e w1 ⟨hb1,b,d,rfl,hr,hd,hge,cur,hcur⟩
 obtain ⟨v0,c0⟩:∃ v0,w1.cell? ⟨b,a,none⟩=some v0:=by
  obtain ⟨b',off',x,e1,-,h3,-⟩:=hr.at (k:=a) (by rw [hs.out];exact HAN.out)
  cases e1
  rw [Nat.zero_add] at h3
  exact ⟨_,h3⟩
 have f0:w1.frozen? ⟨b,a,none⟩=false:=foh hcur _
 have HFIN:Hid (CloneRow n (s.set a v) w (.returned (.slice (some ⟨b,0,none⟩) n d)) (w1.setCell ⟨b,a,none⟩ (.int .i64 (v:Int)))):=Lib.hid (by
  have h:=rdn_set (v:=v) hr (by rw [hs.out];exact HAN.out) (by have:=HVB.out;omega)
  rw [Nat.zero_add] at h
  exact ⟨setCell_below hb1 hge,b,d,rfl,h,hd,hge,_,heap_set w1 b a (.int .i64 (v:Int)) _ _ hcur⟩)
 clear hb1 hr hd hge hcur
 go_wp2_with fail
 go_ret
 exact HFIN.out
theorem first_29 (b off n c k:Nat) (hk:k≤c):∀ W,(Instr.sliceAt 29 (.slice (some ⟨b,off,none⟩) n c) none (some (.int .i64 (k:Int))) none).run Tryz.prog W=.ok (.slice (some ⟨b,off,none⟩) k c) W:=by
 intro W
 rw [run_sliceAt_slice W 29 _ _ _ _ elem29,run_slice_h W 29 _ _ _ elem29 .i64 (k:Int) (by omega) (by omega),size29]
 simp [Result.andThen,sliced,Addr.add]
theorem rdn_take {w:World} {p:Option Addr} {s:List Nat} (k:Nat) (h:RdN w p s):RdN w p (s.take k):=by
 refine ⟨fun z hz=>?_,?_⟩
 ·obtain ⟨x,hx,rfl⟩:=List.mem_map.1 hz
  exact h.wf _ (List.mem_map_of_mem (List.mem_of_mem_take hx))
 ·rcases h.cell with h0|⟨b,off,h1,h2,h3⟩
  ·left;rw [List.length_map] at h0;rw [List.length_map,List.length_take];omega
  ·refine .inr ⟨b,off,h1,h2,fun j hj=>?_⟩
   rw [List.length_map,List.length_take] at hj
   rw [h3 j (by rw [List.length_map];omega),List.getD_eq_getElem?_getD,List.getD_eq_getElem?_getD,List.getElem?_map,List.getElem?_map,List.getElem?_take_of_lt (by omega)]
theorem rwithout_any (pb po n c a:Nat) (s:List Nat) (w:World) (hs:Hid (s.length=n)) (hn:n≤4) (ha:a<n) (hnc:n≤c) (hb:Hid (∀ x ∈ s,x≤1024)) (h:Hid (RdN w (some ⟨pb,po,none⟩) s)) :
  Calls Tryz.prog 36 #[.slice (some ⟨pb,po,none⟩) n c,.int .i64 (a:Int)] w (ClonePost (n-1) (s.eraseIdx a) w):=by
 have hni:(n:Int)≤4:=by omega
 have hai:(a:Int)<(n:Int):=by omega
 have HAN:=Lib.hid ha
 have h1:=first_29 pb po n c a (by omega)
 obtain ⟨p',hrd',hsl⟩:=rest_29 pb po n c (a+1) s (by omega) hnc hs.out
 have HRD:=Lib.hid hrd'
 have h2:∀ W,(Instr.sliceAt 29 (.slice (some ⟨pb,po,none⟩) n c) (some (.int .i64 ((a:Int)+1))) none none).run Tryz.prog W=.ok (.slice p' (n-(a+1)) (c-(a+1))) W:=fun W=>hsl W
 have HBD:Hid (Below w.heap.size w w.drew):=Lib.hid ⟨rfl,rfl,rfl,Nat.le_refl _,fun _ _=>rfl⟩
 have HC:Hid (Calls Tryz.prog 40 #[.slice (some ⟨pb,po,none⟩) a c] w.drew fun e w'=>Below w.drew.heap.size w.drew w'∧∃ v,e=.returned v∧w'.ownsRow w.drew.heap.size 3 1 v a ((s.take a).map (fun x=>Value.int .i64 ((x:Nat):Int)))):=Lib.hid (copied_own (some ⟨pb,po,none⟩) a c (s.take a) w.drew (Lib.hid (by rw [List.length_take,hs.out];omega)) (by omega) (rdn_take a (h.out.below HBD.out)))
 have hwr:IntKind.i64.wrap ((a:Int)+1)=(a:Int)+1:=by rw [IntKind.wrap_i64];omega
 clear ha hrd' hsl
 go_enter Tryz.func36,Tryz.ntmps36
 go_wp2_with fail
 refine wp_region_noPanic ?_
 refine wp_region_held_drew (S:=fun _=>True) (by kernel_rfl) trivial (fun hHeld=>?_)
 refine wpAnyH_take (i:=0) (v:=?v0) rfl (by kernel_rfl) (by kernel_rfl) (by kernel_rfl) (fun _ _ _ h=>h) (Or.inl ⟨by rfl,?hv0⟩) (by assumption) ?rv0
 case hv0 =>
  intro W' hSw
  go_simp
  with_reducible rfl
 simp only [List.getElem_toArray,List.getElem_cons_zero,Act.put,List.setIfInBounds_toArray,List.set_cons_zero,List.set_cons_succ]
 refine wpAnyH_take (i:=1) (v:=?v1) rfl (by kernel_rfl) (by kernel_rfl) (by kernel_rfl) (fun _ _ _ h=>h) (Or.inl ⟨by rfl,?hv1⟩) (by assumption) ?rv1
 case hv1 =>
  intro W' hSw
  go_simp
  with_reducible rfl
 simp only [List.getElem_toArray,List.getElem_cons_zero,List.getElem_cons_succ,Act.put,List.setIfInBounds_toArray,List.set_cons_zero,List.set_cons_succ]
 refine wpAnyH_take (i:=2) (v:=?v2) rfl (by kernel_rfl) (by kernel_rfl) (by kernel_rfl) (fun _ _ _ h=>h) (Or.inl ⟨by rfl,?hv2⟩) (by assumption) ?rv2
 case hv2 =>
  intro W' hSw
  go_simp
  with_reducible rfl
 simp only [List.getElem_toArray,List.getElem_cons_zero,List.getElem_cons_succ,Act.put,List.setIfInBounds_toArray,List.set_cons_zero,List.set_cons_succ]
 refine wpAnyH_take (i:=4) (v:=?v4) rfl (by kernel_rfl) (by kernel_rfl) (by kernel_rfl) (fun _ _ _ h=>h) (Or.inl ⟨by rfl,?hv4⟩) (by assumption) ?rv4
 case hv4 =>
  intro W' hSw
  go_simp
  with_reducible rfl
 simp only [List.getElem_toArray,List.getElem_cons_zero,List.getElem_cons_succ,Act.put,List.setIfInBounds_toArray,List.set_cons_zero,List.set_cons_succ]
 refine wpAnyH_take (i:=5) (v:=?v5) rfl (by kernel_rfl) (by kernel_rfl) (by kernel_rfl) (fun _ _ _ h=>h) (Or.inl ⟨by rfl,?hv5⟩) (by assumption) ?rv5
 case hv5 =>
  intro W' hSw
  go_simp
  with_reducible rfl
 simp only [List.getElem_toArray,List.getElem_cons_zero,List.getElem_cons_succ,Act.put,List.setIfInBounds_toArray,List.set_cons_zero,List.set_cons_succ]
 refine wpAnyH_take (i:=6) (v:=?v6) rfl (by kernel_rfl) (by kernel_rfl) (by kernel_rfl) (fun _ _ _ h=>h) (Or.inl ⟨by rfl,?hv6⟩) (by assumption) ?rv6
 case hv6 =>
  intro W' hSw
  go_simp
  with_reducible rfl
 simp only [List.getElem_toArray,List.getElem_cons_zero,List.getElem_cons_succ,Act.put,List.setIfInBounds_toArray,List.set_cons_zero,List.set_cons_succ]
 refine wpAnyH_take (i:=7) (v:=?v7) rfl (by kernel_rfl) (by kernel_rfl) (by kernel_rfl) (fun _ _ _ h=>h) (Or.inl ⟨by rfl,?hv7⟩) (by assumption) ?rv7
 case hv7 =>
  intro W' hSw
  go_simp
  with_reducible rfl
 simp only [List.getElem_toArray,List.getElem_cons_zero,List.getElem_cons_succ,Act.put,List.setIfInBounds_toArray,List.set_cons_zero,List.set_cons_succ]
 refine wpAnyH_ready (rs:=[3]) (by kernel_rfl) (by simp) ?_
 refine AllReadyH.cons (i:=3) rfl (fun K1 hK1=>?_) AllReadyH.nil
 go_simp
 refine HC.out.mono ?_
 rintro e w1 ⟨hb1,v,rfl,hown⟩
 have HB1:=Lib.hid hb1
 have HOWN:=Lib.hid hown
 clear hb1 hown
 refine hK1 _ _ trivial (fun hHeld2=>?_)
 clear hK1 K1 hHeld
 refine wpAnyH_ready (rs:=[8]) (by kernel_rfl) (by simp) ?_
 refine AllReadyH.cons (i:=8) rfl (fun K1 hK1=>?_) AllReadyH.nil
 rw [if_pos (by rfl)]
 have HTL:Hid ((s.take a).length=a):=Lib.hid (by rw [List.length_take,hs.out];have:=HAN.out;omega)
 refine op_append_ns (.tmp 8) (.tmp 12) rfl w.heap.size v (s.take a) rfl (by rw [HTL.out];exact HOWN.out) p' (n-(a+1)) (c-(a+1)) (s.drop (a+1)) rfl (by rw [List.length_drop,hs.out]) (HRD.out _ (h.out.below (HBD.out.trans (HB1.out.mono HBD.out.size)))) (by rw [HTL.out];omega) (Nat.le_trans HBD.out.size HB1.out.size) ?_
 intro v5 w5 hown5 hg5
 obtain ⟨q5,d5,rfl,hq1,hq2,hq3,hq4⟩:=rdn_own (s:=s.eraseIdx a) (n:=n-1) (by rw [List.length_eraseIdx,hs.out,if_pos HAN.out]) (fun x hx=>hb.out x (List.mem_of_mem_eraseIdx hx)) (by
  rw [HTL.out,← List.eraseIdx_eq_take_drop_succ,show a+(n-(a+1))=n-1 by have:=HAN.out;omega] at hown5
  exact hown5)
 have HFIN:Hid (ClonePost (n-1) (s.eraseIdx a) w (.returned (.slice q5 (n-1) d5)) w5):=Lib.hid ⟨(HBD.out.trans (HB1.out.mono HBD.out.size)).grown hg5 (Nat.le_trans HBD.out.size HB1.out.size) (fun k e=>own_ge' HOWN.out e),q5,d5,rfl,hq1,hq2,hq3,hq4⟩
 clear hown5 hg5 hq1 hq2 hq3 hq4
 refine hK1 _ _ trivial (fun hHeld3=>?_)
 clear hK1 K1 hHeld2
 simp only [List.getElem_toArray,List.getElem_cons_zero,List.getElem_cons_succ,Act.put,List.setIfInBounds_toArray,List.set_cons_zero,List.set_cons_succ]
 refine wpAnyH_take (i:=9) (v:=?v9) rfl (by kernel_rfl) (by kernel_rfl) (by kernel_rfl) (fun _ _ _ h=>h) (Or.inl ⟨by rfl,?hv9⟩) (by assumption) ?rv9
 case hv9 =>
  intro W' hSw
  go_simp
  with_reducible rfl
 simp only [List.getElem_toArray,List.getElem_cons_zero,List.getElem_cons_succ,Act.put,List.setIfInBounds_toArray,List.set_cons_zero,List.set_cons_succ]
 refine wpAnyH_done (by kernel_rfl) ?_ _
 refine NoPanic.normal ?_
 go_wp2_with fail
 go_ret
 exact HFIN.out
end Go.Proofs.YtlcpcpmlfegejaaGreatDoor.Arr
