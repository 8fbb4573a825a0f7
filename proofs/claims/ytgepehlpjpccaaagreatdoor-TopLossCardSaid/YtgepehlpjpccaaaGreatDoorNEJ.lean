/- Contracts. -/
import Derived.Test.YtgepehlpjpccaaaGreatDoorNEI
namespace Go.Proofs.YtgepehlpjpccaaaGreatDoor
open Go.RowKit
open Go.Lib
set_option maxHeartbeats 4000000
set_option maxRecDepth 100000
theorem yuh (b0 off len0 n n1 k m:Nat) (l:List UInt8) (w:World) (h1:1≤n) (h2:n≤8) (hN1:Hid (n1=n+1)) (e0:Hid (len0=n1+4)) (hl:Hid (l.length=len0)) (hk0:0<k) (hk:k*n≤1048576)
  (hk4:Hid (nb (l.take 4)=k)) (hm:Hid (nb ((l.drop 4).take n)=m)) (hwv:Hid (((l.drop 4).getD n 0).toNat=0)) (hb:Bs w (some ⟨b0,off,none⟩) l) :
  Calls Tryz.prog 164 #[.slice (some ⟨b0,off,none⟩) len0 len0,.int .i64 (n:Int)] w (ybD (jl n (unG (rdB []) 0 m k)++[]) w):=by
 have HB:=Lib.hid hb
 have hn:=hN1.out
 have hn0:1≤(n:Int):=by omega
 have hn8:(n:Int)≤8:=by omega
 have hn1:(n:Int)+1=(n1:Int):=by omega
 have hn2:2≤(n1:Int):=by omega
 have hn9:(n1:Int)≤9:=by omega
 have hnn:n<n1:=by omega
 have hni:(n:Int)<(n1:Int):=by omega
 have hnle:n≤n1:=by omega
 have hki:0<(k:Int):=by omega
 have hki0:¬ (k:Int)=0:=by omega
 have hkl:k≤1048576:=by
  have h3:k*1≤k*n:=Nat.mul_le_mul_left _ h1
  omega
 have hki2:(k:Int)≤1048576:=by omega
 obtain ⟨D,HD⟩:∃ D,Hid (D=1048576/n):=⟨_,rfl⟩
 have hkD:k≤D:=by rw [HD.out,Nat.le_div_iff_mul_le (by omega)];exact hk
 have hkDi:¬ (D:Int)<(k:Int):=by omega
 have hkDd:decide (D<k)=false:=decide_eq_false (by omega)
 have hDi:(D:Int)≤1048576:=by
  have:=Nat.div_le_self 1048576 n
  rw [HD.out];omega
 have yqA:(1048576:Int)/(n:Int)=(D:Int):=by rw [HD.out,Int.natCast_ediv];rfl
 have q0:=e0.out
 have hll:l.length=len0:=hl.out
 have hb1:Hid (∀ W,Below w.heap.size w W→Bs W (some ⟨b0,off+4,none⟩) (l.drop 4)):=Lib.hid (fun W hW=>yaA (hb.below hW) 4 (by omega) rfl)
 have HN4:=Lib.hid (jS (some ⟨b0,off,none⟩) len0 (l.take 4) w (by rw [List.length_take];omega) (by have h:=ya8 hb 0 4 (by omega) (Nat.add_zero off).symm;rwa [List.drop_zero] at h))
 rw [show (l.take 4).length=4 by rw [List.length_take];omega,hk4.out] at HN4
 have HNn:Hid (∀ W,Below w.heap.size w W→Calls Tryz.prog 197 #[.slice (some ⟨b0,off+4,none⟩) n n1] W fun e w'=>e=.returned (.int .u64 (m:Int))∧W=w'):=Lib.hid (fun W hW=>by
  have h:=jS (some ⟨b0,off+4,none⟩) n1 ((l.drop 4).take n) W (by rw [List.length_take,List.length_drop];omega) (by have h:=ya8 (hb1.out W hW) 0 n (by rw [List.length_drop];omega) rfl;rwa [List.drop_zero] at h)
  rwa [show ((l.drop 4).take n).length=n by rw [List.length_take,List.length_drop];omega,hm.out] at h)
 have hcw:Hid (∀ W,Below w.heap.size w W→W.cell? ⟨b0,off+4+n,none⟩=some (.int .u8 0)):=Lib.hid (fun W hW=>by
  rcases hb1.out W hW with h0|⟨b,o,e,h3,h4⟩
  ·rw [List.length_drop] at h0;omega
  ·injection e with e;injection e with e1 e2;subst e1;subst e2
   have h5:=h4 n (by rw [List.length_drop];omega)
   rw [hwv.out] at h5;exact h5)
 have hmi:(m:Int)≤18446744073709551615:=by
  have h5:m<18446744073709551616:=by rw [← hm.out];exact yge (by rw [List.length_take];omega)
  omega
 have yvN:m<jM:=by unfold jM;omega
 have i0:4≤(len0:Int):=by omega
 have i0c:4<(len0:Int):=by omega
 have i0l:(len0:Int)≤13:=by omega
 have i0':¬ (len0:Int)<4:=by omega
 have f0:len0-4=n1:=by omega
 have HW:=Lib.hid (ybB (some ⟨b0,off+4,none⟩) 0 n k m 0 0 [] w.drew.drew (Lib.hid rfl) h1 h2 (by decide) hk (by decide) yvN (Nat.le_of_eq (Nat.mul_zero _)) (Bs.nil _ _))
 obtain ⟨G,HG⟩:∃ G,Hid (G=jl n (unG (rdB []) 0 m k)):=⟨_,rfl⟩
 have hGl:G.length≤1048576:=by rw [HG.out,yac,ycw];exact hk
 obtain ⟨rs,HRS⟩:∃ rs:List UInt8,Hid (rs=[]):=⟨[],Lib.hid rfl⟩
 have hrl:rs.length=0:=by rw [HRS.out];rfl
 have hb3:Hid (∀ (W:World) (q:Option Addr),Bs W q rs):=Lib.hid (fun W q=>.inl hrl)
 rw [← HG.out] at HW
 rw [← HG.out,← HRS.out]
 have hwk:IntKind.i64.wrap (k:Int)=(k:Int):=by rw [IntKind.wrap_i64];omega
 have hBd:Below w.heap.size w w.drew:=(Below.refl _ w).drew
 have yvO:Below w.heap.size w w.drew.drew:=hBd.drew
 clear hn hb hll q0
 go_enter Tryz.func164,Tryz.ntmps164
 go_wp2_with fail
 refine (HN4.out).mono ?_
 rintro e w' ⟨rfl,rfl⟩
 go_wp2_with fail
 refine wp_region_noPanic ?_
 refine wp_region_held_drew (S:=fun W'=>W'.cell? ⟨b0,off+4+n,none⟩=some (.int .u8 0)) (by kernel_rfl) (hcw.out _ hBd) (fun hHeld=>?_)
 refine wpAnyH_take (i:=0) (v:=?v9) rfl (by kernel_rfl) (by kernel_rfl) (by kernel_rfl) (fun _ _ _ h=>h) (Or.inl ⟨by rfl,?hy9⟩) (by assumption) ?rest9
 case hy9 =>
  intro W' hSw
  obtain e9:=hSw
  go_simp
  with_reducible rfl
 simp only [List.getElem_toArray,List.getElem_cons_zero,Act.put,List.setIfInBounds_toArray,List.set_cons_zero,List.set_cons_succ]
 refine wpAnyH_take (i:=1) (v:=?v10) rfl (by kernel_rfl) (by kernel_rfl) (by kernel_rfl) (fun _ _ _ h=>h) (Or.inl ⟨by rfl,?hy10⟩) (by assumption) ?rest10
 case hy10=>
  intro W' hSw
  obtain e9:=hSw
  go_simp
  with_reducible rfl
 simp only [List.getElem_toArray,List.getElem_cons_zero,List.getElem_cons_succ,Act.put,List.setIfInBounds_toArray,List.set_cons_zero,List.set_cons_succ]
 refine wpAnyH_take (i:=2) (v:=?v11) rfl (by kernel_rfl) (by kernel_rfl) (by kernel_rfl) (fun _ _ _ h=>h) (Or.inl ⟨by rfl,?hy11⟩) (by assumption) ?rest11
 case hy11=>
  intro W' hSw
  obtain e9:=hSw
  go_simp
  with_reducible rfl
 simp only [List.getElem_toArray,List.getElem_cons_zero,List.getElem_cons_succ,Act.put,List.setIfInBounds_toArray,List.set_cons_zero,List.set_cons_succ]
 refine wpAnyH_take (i:=3) (v:=?v12) rfl (by kernel_rfl) (by kernel_rfl) (by kernel_rfl) (fun _ _ _ h=>h) (Or.inl ⟨by rfl,?hy12⟩) (by assumption) ?rest12
 case hy12=>
  intro W' hSw
  obtain e9:=hSw
  go_simp
  with_reducible rfl
 simp only [List.getElem_toArray,List.getElem_cons_zero,List.getElem_cons_succ,Act.put,List.setIfInBounds_toArray,List.set_cons_zero,List.set_cons_succ]
 refine wpAnyH_take (i:=4) (v:=?v13) rfl (by kernel_rfl) (by kernel_rfl) (by kernel_rfl) (fun _ _ _ h=>h) (Or.inl ⟨by rfl,?hy13⟩) (by assumption) ?rest13
 case hy13 =>
  intro W' hSw
  obtain e9:=hSw
  go_simp
  with_reducible rfl
 simp only [List.getElem_toArray,List.getElem_cons_zero,List.getElem_cons_succ,Act.put,List.setIfInBounds_toArray,List.set_cons_zero,List.set_cons_succ]
 refine wpAnyH_take (i:=6) (v:=?v14) rfl (by kernel_rfl) (by kernel_rfl) (by kernel_rfl) (fun _ _ _ h=>h) (Or.inl ⟨by rfl,?hy14⟩) (by assumption) ?rest14
 case hy14 =>
  intro W' hSw
  obtain e9:=hSw
  go_simp
  with_reducible rfl
 simp only [List.getElem_toArray,List.getElem_cons_zero,List.getElem_cons_succ,Act.put,List.setIfInBounds_toArray,List.set_cons_zero,List.set_cons_succ]
 refine wpAnyH_take (i:=7) (v:=?v15) rfl (by kernel_rfl) (by kernel_rfl) (by kernel_rfl) (fun _ _ _ h=>h) (Or.inl ⟨by rfl,?hy15⟩) (by assumption) ?rest15
 case hy15 =>
  intro W' hSw
  obtain e9:=hSw
  go_simp
  with_reducible rfl
 simp only [List.getElem_toArray,List.getElem_cons_zero,List.getElem_cons_succ,Act.put,List.setIfInBounds_toArray,List.set_cons_zero,List.set_cons_succ]
 refine wpAnyH_take (i:=8) (v:=?v16) rfl (by kernel_rfl) (by kernel_rfl) (by kernel_rfl) (fun _ _ _ h=>h) (Or.inl ⟨by rfl,?hy16⟩) (by assumption) ?rest16
 case hy16 =>
  intro W' hSw
  obtain e9:=hSw
  go_simp
  with_reducible rfl
 simp only [List.getElem_toArray,List.getElem_cons_zero,List.getElem_cons_succ,Act.put,List.setIfInBounds_toArray,List.set_cons_zero,List.set_cons_succ]
 refine wpAnyH_take (i:=9) (v:=?v17) rfl (by kernel_rfl) (by kernel_rfl) (by kernel_rfl) (fun _ _ _ h=>h) (Or.inl ⟨by rfl,?hy17⟩) (by assumption) ?rest17
 case hy17 =>
  intro W' hSw
  obtain e9:=hSw
  go_simp
  with_reducible rfl
 simp only [List.getElem_toArray,List.getElem_cons_zero,List.getElem_cons_succ,Act.put,List.setIfInBounds_toArray,List.set_cons_zero,List.set_cons_succ]
 refine wpAnyH_take (i:=10) (v:=?v18) rfl (by kernel_rfl) (by kernel_rfl) (by kernel_rfl) (fun _ _ _ h=>h) (Or.inl ⟨by rfl,?hy18⟩) (by assumption) ?rest18
 case hy18 =>
  intro W' hSw
  obtain e9:=hSw
  go_simp
  with_reducible rfl
 simp only [List.getElem_toArray,List.getElem_cons_zero,List.getElem_cons_succ,Act.put,List.setIfInBounds_toArray,List.set_cons_zero,List.set_cons_succ]
 refine wpAnyH_ready (rs:=[5]) (by kernel_rfl) (by simp) ?_
 refine AllReadyH.cons (i:=5) rfl (fun K hK=>?_) AllReadyH.nil
 go_simp
 refine (HNn.out _ hBd).mono ?_
 rintro e W' ⟨rfl,rfl⟩
 refine hK.out _ _ (hcw.out _ hBd) (fun hHeld=>?_)
 clear hK K
 refine wpAnyH_ready (rs:=[11]) (by kernel_rfl) (by simp) ?_
 refine AllReadyH.cons (i:=11) rfl (fun K hK=>?_) AllReadyH.nil
 go_simp
 refine hK.out _ _ (hcw.out _ hBd) (fun hHeld=>?_)
 clear hK K
 refine wpAnyH_ready (rs:=[12]) (by kernel_rfl) (by simp) ?_
 refine AllReadyH.cons (i:=12) rfl (fun K hK=>?_) AllReadyH.nil
 go_simp
 refine hK.out _ _ (hcw.out _ hBd) (fun hHeld=>?_)
 clear hK K
 refine wpAnyH_ready (rs:=[13]) (by kernel_rfl) (by simp) ?_
 refine AllReadyH.cons (i:=13) rfl (fun K hK=>?_) AllReadyH.nil
 go_simp
 refine hK.out _ _ (hcw.out _ hBd) (fun hHeld=>?_)
 clear hK K
 refine wpAnyH_done (by kernel_rfl) ?_ _
 refine NoPanic.normal ?_
 clear hHeld
 go_wp2_with fail
 refine wp_region_noPanic ?_
 refine wp_region_held_drew (S:=fun _=>True) (by kernel_rfl) trivial (fun hHeld=>?_)
 refine wpAnyH_take (i:=0) (v:=?v1) rfl (by kernel_rfl) (by kernel_rfl) (by kernel_rfl) (fun _ _ _ h=>h) (Or.inl ⟨by rfl,?hy1⟩) (by assumption) ?rest1
 case hy1 =>
  intro W' hSw
  obtain _:=hSw
  go_simp
  with_reducible rfl
 simp only [List.getElem_toArray,List.getElem_cons_zero,Act.put,List.setIfInBounds_toArray,List.set_cons_zero,List.set_cons_succ]
 refine wpAnyH_take (i:=1) (v:=?v2) rfl (by kernel_rfl) (by kernel_rfl) (by kernel_rfl) (fun _ _ _ h=>h) (Or.inl ⟨by rfl,?hy2⟩) (by assumption) ?rest2
 case hy2 =>
  intro W' hSw
  obtain _:=hSw
  go_simp
  with_reducible rfl
 simp only [List.getElem_toArray,List.getElem_cons_zero,List.getElem_cons_succ,Act.put,List.setIfInBounds_toArray,List.set_cons_zero,List.set_cons_succ]
 refine wpAnyH_take (i:=2) (v:=?v3) rfl (by kernel_rfl) (by kernel_rfl) (by kernel_rfl) (fun _ _ _ h=>h) (Or.inl ⟨by rfl,?hy3⟩) (by assumption) ?rest3
 case hy3 =>
  intro W' hSw
  obtain _:=hSw
  go_simp
  with_reducible rfl
 simp only [List.getElem_toArray,List.getElem_cons_zero,List.getElem_cons_succ,Act.put,List.setIfInBounds_toArray,List.set_cons_zero,List.set_cons_succ]
 refine wpAnyH_take (i:=3) (v:=?v4) rfl (by kernel_rfl) (by kernel_rfl) (by kernel_rfl) (fun _ _ _ h=>h) (Or.inl ⟨by rfl,?hy4⟩) (by assumption) ?rest4
 case hy4 =>
  intro W' hSw
  obtain _:=hSw
  go_simp
  with_reducible rfl
 simp only [List.getElem_toArray,List.getElem_cons_zero,List.getElem_cons_succ,Act.put,List.setIfInBounds_toArray,List.set_cons_zero,List.set_cons_succ]
 refine wpAnyH_take (i:=4) (v:=?v5) rfl (by kernel_rfl) (by kernel_rfl) (by kernel_rfl) (fun _ _ _ h=>h) (Or.inl ⟨by rfl,?hy5⟩) (by assumption) ?rest5
 case hy5 =>
  intro W' hSw
  obtain _:=hSw
  go_simp
  with_reducible rfl
 simp only [List.getElem_toArray,List.getElem_cons_zero,List.getElem_cons_succ,Act.put,List.setIfInBounds_toArray,List.set_cons_zero,List.set_cons_succ]
 refine wpAnyH_take (i:=6) (v:=?v6) rfl (by kernel_rfl) (by kernel_rfl) (by kernel_rfl) (fun _ _ _ h=>h) (Or.inl ⟨by rfl,?hy6⟩) (by assumption) ?rest6
 case hy6 =>
  intro W' hSw
  obtain _:=hSw
  go_simp
  with_reducible rfl
 simp only [List.getElem_toArray,List.getElem_cons_zero,List.getElem_cons_succ,Act.put,List.setIfInBounds_toArray,List.set_cons_zero,List.set_cons_succ]
 refine wpAnyH_take (i:=7) (v:=?v7) rfl (by kernel_rfl) (by kernel_rfl) (by kernel_rfl) (fun _ _ _ h=>h) (Or.inl ⟨by rfl,?hy7⟩) (by assumption) ?rest7
 case hy7 =>
  intro W' hSw
  obtain _:=hSw
  go_simp
  with_reducible rfl
 simp only [List.getElem_toArray,List.getElem_cons_zero,List.getElem_cons_succ,Act.put,List.setIfInBounds_toArray,List.set_cons_zero,List.set_cons_succ]
 refine wpAnyH_take (i:=8) (v:=?v8) rfl (by kernel_rfl) (by kernel_rfl) (by kernel_rfl) (fun _ _ _ h=>h) (Or.inl ⟨by rfl,?hy8⟩) (by assumption) ?rest8
 case hy8 =>
  intro W' hSw
  obtain _:=hSw
  go_simp
  with_reducible rfl
 simp only [List.getElem_toArray,List.getElem_cons_zero,List.getElem_cons_succ,Act.put,List.setIfInBounds_toArray,List.set_cons_zero,List.set_cons_succ]
 refine wpAnyH_ready (rs:=[5]) (by kernel_rfl) (by simp) ?_
 refine AllReadyH.cons (i:=5) rfl (fun K hK=>?_) AllReadyH.nil
 go_simp
 refine (HW.out).mono ?_
 rintro e W2 ⟨v2,rfl,hg2⟩
 have G2:=Lib.hid hg2
 have hB2:Hid (Below w.heap.size w W2):=Lib.hid (yvO.trans (hg2.below (Nat.le_refl _) (by intro k hk;cases hk)))
 clear hg2
 refine hK.out _ _ (trivial) (fun hHeld=>?_)
 clear hK K
 refine wpAnyH_ready (rs:=[9]) (by kernel_rfl) (by simp) ?_
 refine AllReadyH.cons (i:=9) rfl (fun K hK9=>?_) AllReadyH.nil
 rw [if_pos (by rfl)]
 refine uQ (.tmp 64) (.tmp 67) rfl w.heap.size v2 G.length G rfl rfl G2.out.own _ _ _ rs rfl (by first|exact hrl|(rw [hrl];omega)) (hb3.out _ _) (by omega) hB2.out.size ?_
 intro v5 W5 hg5
 obtain ⟨p5,c5,rfl,hs5,hd5⟩:=zE hg5.own
 have hnc:=ybe hg5.own
 have yD:Hid (ybD (G++rs) w (.returned (.tuple #[.slice p5 (G++rs).length c5,.bool true])) W5):=Lib.hid ⟨hB2.out.trans (hg5.below hB2.out.size (fun k e=>GR G2.out.own e)),p5,c5,rfl,Lib.hid hd5,Lib.hid hnc,hs5⟩
 obtain ⟨m5,HM5⟩:∃ m5,Hid (m5=(G++rs).length):=⟨_,rfl⟩
 rw [← HM5.out] at yD ⊢
 clear hg5 hs5 hd5 hnc
 refine hK9.out _ _ trivial (fun hHeld=>?_)
 clear hK9 K
 simp only [List.getElem_toArray,List.getElem_cons_zero,List.getElem_cons_succ,Act.put,List.setIfInBounds_toArray,List.set_cons_zero,List.set_cons_succ]
 refine wpAnyH_ready (rs:=[10]) (by kernel_rfl) (by simp) ?_
 refine AllReadyH.cons (i:=10) rfl (fun K hK=>?_) AllReadyH.nil
 go_simp
 refine hK.out _ _ (trivial) (fun hHeld=>?_)
 clear hK K
 refine wpAnyH_ready (rs:=[11]) (by kernel_rfl) (by simp) ?_
 refine AllReadyH.cons (i:=11) rfl (fun K hK=>?_) AllReadyH.nil
 go_simp
 refine hK.out _ _ (trivial) (fun hHeld=>?_)
 clear hK K
 refine wpAnyH_done (by kernel_rfl) ?_ _
 refine NoPanic.normal ?_
 clear hHeld
 go_wp2_with fail
 all_goals (go_ret2;exact yD.out)
theorem yhX (b0 off len c:Nat) (l:List UInt8) (w:World) (hl:Hid (len=l.length)) (hlm:len≤1048590) (hb:Bs w (some ⟨b0,off,none⟩) l) :
  Calls Tryz.prog 198 #[.slice (some ⟨b0,off,none⟩) len c] w fun e w'=>Below w.heap.size w w'∧∃ q d,e=.returned (.slice q len d)∧Hid (len≤d)∧Hid (q=none→d=0)∧Bs w' q l:=by
 have HB:=Lib.hid hb
 have heq:∀ W:World,(binOp .eql 39 (.slice (some ⟨b0,off,none⟩) len c) (.slice none 0 0)).run Tryz.prog W=.ok (.bool false) W:=fun W=>by kernel_rfl
 have HBa:Hid (Below w.heap.size w (w.alloc (.cells #[] 5))):=Lib.hid ((Below.refl _ w).alloc (Nat.le_refl _) _)
 have yW:Hid ((w.alloc (.cells #[] 5)).ownsRow w.heap.size 5 1 (.slice (some ⟨w.heap.size,0,none⟩) 0 0) ([]:List UInt8).length (zS [])):=Lib.hid ⟨rfl,.inr ⟨w.heap.size,0,#[],rfl,Nat.le_refl _,World.alloc_heap_new w _,Nat.le_refl _,Nat.zero_le _,rfl,rfl⟩⟩
 have hbl:Hid (0+len≤140737488355328∧w.heap.size≤(w.alloc (.cells #[] 5)).heap.size):=Lib.hid ⟨by omega,by simp⟩
 clear hb
 go_enter Tryz.func198,Tryz.ntmps198
 go_wp2_with (at_builtin;refine zY rfl (.tmp 5) (.tmp 6) rfl w.heap.size _ 0 [] rfl rfl yW.out _ len c l rfl hl.out.symm (HB.out.below HBa.out) hbl.out.1 hbl.out.2 ?_)
 intro v5 w5 hg5
 obtain ⟨p5,c5,rfl,hs5,hd5⟩:=zE hg5.own
 have hnc:=ybe hg5.own
 rw [← hl.out] at hd5 ⊢
 have yD:=Lib.hid (And.intro (HBa.out.trans (hg5.below hbl.out.2 (fun k e=>GR yW.out e))) (And.intro hd5 (And.intro hnc hs5)))
 clear hg5 hs5 hd5 hnc
 go_wp2_with fail
 go_ret
 exact ⟨yD.out.1,_,_,rfl,Lib.hid yD.out.2.1,Lib.hid yD.out.2.2.1,yD.out.2.2.2⟩
theorem yse (b0 off len0 len1 c0:Nat) (z:Int) (l:List UInt8) (w:World) (e0:Hid (len0=len1+4)) (hc:len0≤c0) (hlm:len0≤1048590) (hl:Hid (l.length=len0)) (hk4:Hid (nb (l.take 4)=0)) (hb:Bs w (some ⟨b0,off,none⟩) l) :
  Calls Tryz.prog 164 #[.slice (some ⟨b0,off,none⟩) len0 c0,.int .i64 z] w (ybD (l.drop 4) w):=by
 have HB:=Lib.hid hb
 have q0:=e0.out
 have hll:=hl.out
 have i0:4≤(len0:Int):=by omega
 have i0':¬ (len0:Int)<4:=by omega
 have i0c:4≤(c0:Int):=by omega
 have i0d:(len0:Int)≤(c0:Int):=by omega
 have i0l:(len0:Int)≤1048590:=by omega
 have f0:len0-4=len1:=by omega
 have HN4:=Lib.hid (jS (some ⟨b0,off,none⟩) c0 (l.take 4) w (by rw [List.length_take];omega) (by have h:=ya8 hb 0 4 (by omega) (Nat.add_zero off).symm;rwa [List.drop_zero] at h))
 rw [show (l.take 4).length=4 by rw [List.length_take];omega,hk4.out] at HN4
 obtain ⟨l1,HL1⟩:∃ l1,Hid (l1=l.drop 4):=⟨_,rfl⟩
 have hl1:Hid (len1=l1.length):=Lib.hid (by rw [HL1.out,List.length_drop];omega)
 have hb1:Hid (Bs w (some ⟨b0,off+4,none⟩) l1):=Lib.hid (by rw [HL1.out];exact yaA hb 4 (by omega) rfl)
 rw [← HL1.out]
 by_cases hc4:c0=4
 ·have z1:len1=0:=by omega
  subst z1
  have hl0:len0=4:=by omega
  subst hl0
  subst hc4
  have HC:=Lib.hid (yhX b0 off 0 0 l1 w hl1 (by decide) (.inl hl1.out.symm))
  have el:l1.length=0:=hl1.out.symm
  clear hb q0 hll f0 hlm hc hb1
  go_enter Tryz.func164,Tryz.ntmps164
  go_wp2_with fail
  refine (HN4.out).mono ?_
  rintro e w' ⟨rfl,rfl⟩
  go_wp2_with fail
  refine (HC.out).mono ?_
  rintro e w1 ⟨hb9,q,d,rfl,h5,h6,h7⟩
  have yD:Hid (ybD l1 w (.returned (.tuple #[.slice q l1.length d,.bool true])) w1):=Lib.hid ⟨hb9,q,d,rfl,by rw [el];exact h5,h6,h7⟩
  rw [el] at yD
  clear hb9 h7
  go_wp2_with fail
  go_ret2
  exact yD.out
 ·have i0e:4<(c0:Int):=by omega
  have HC:=Lib.hid (yhX b0 (off+4) len1 (c0-4) l1 w hl1 (by omega) hb1.out)
  have el:l1.length=len1:=hl1.out.symm
  clear hb q0 hll hlm hc hb1
  go_enter Tryz.func164,Tryz.ntmps164
  go_wp2_with fail
  refine (HN4.out).mono ?_
  rintro e w' ⟨rfl,rfl⟩
  go_wp2_with fail
  refine (HC.out).mono ?_
  rintro e w1 ⟨hb9,q,d,rfl,h5,h6,h7⟩
  have yD:Hid (ybD l1 w (.returned (.tuple #[.slice q l1.length d,.bool true])) w1):=Lib.hid ⟨hb9,q,d,rfl,by rw [el];exact h5,h6,h7⟩
  rw [el] at yD
  clear hb9 h7
  go_wp2_with fail
  go_ret2
  exact yD.out
end Go.Proofs.YtgepehlpjpccaaaGreatDoor
