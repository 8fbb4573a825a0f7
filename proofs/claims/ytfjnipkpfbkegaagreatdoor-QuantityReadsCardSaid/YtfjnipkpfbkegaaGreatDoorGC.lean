/- Contracts. -/
import Derived.Test.YtfjnipkpfbkegaaGreatDoorPart18
import Derived.Test.YtfjnipkpfbkegaaGreatDoorRg
set_option maxHeartbeats 3200000
set_option maxRecDepth 100000
namespace Go.Proofs.YtfjnipkpfbkegaaGreatDoor
section
open Go.RowKit Go.Lib Big
theorem vW {l:List UInt8} {n d:Nat} (h:jL l=some (false,n,d)) (hn:0<n) (hd:0<d):yO l≠0:=by
 unfold yO
 rw [h]
 simp only
 rw [Ne,ybx hd];omega
theorem yl4 {l v:List UInt8} {ps:List Int} {b:Bool} (h:yas l=some (v,ps,b)):yO v≠0:=by
 have key:∀ v':List UInt8,v' ∈ ([[49],[49,47,49,48,48,48],[54,48],[51,54,48,48],[56,54,52,48,48],[49,48,48,48],[49,48,48,48,48,48]]:List (List UInt8))→yO v'≠0:=by
  intro v' hv
  simp only [List.mem_cons,List.not_mem_nil,or_false] at hv
  rcases hv with rfl|rfl|rfl|rfl|rfl|rfl|rfl
  ·exact vW (n:=1) (d:=1) rfl (by omega) (by omega)
  ·exact vW (n:=1) (d:=1000) rfl (by omega) (by omega)
  ·exact vW (n:=60) (d:=1) rfl (by omega) (by omega)
  ·exact vW (n:=3600) (d:=1) rfl (by omega) (by omega)
  ·exact vW (n:=86400) (d:=1) rfl (by omega) (by omega)
  ·exact vW (n:=1000) (d:=1) rfl (by omega) (by omega)
  ·exact vW (n:=100000) (d:=1) rfl (by omega) (by omega)
 apply key
 unfold yas at h
 by_cases c0:(l==[109])=true
 ·rw [if_pos c0] at h;simp only [Option.some.injEq,Prod.mk.injEq] at h;obtain ⟨rfl,-,-⟩:=h;simp
 rw [if_neg c0] at h
 by_cases c1:(l==[103])=true
 ·rw [if_pos c1] at h;simp only [Option.some.injEq,Prod.mk.injEq] at h;obtain ⟨rfl,-,-⟩:=h;simp
 rw [if_neg c1] at h
 by_cases c2:(l==[115])=true
 ·rw [if_pos c2] at h;simp only [Option.some.injEq,Prod.mk.injEq] at h;obtain ⟨rfl,-,-⟩:=h;simp
 rw [if_neg c2] at h
 by_cases c3:(l==[75])=true
 ·rw [if_pos c3] at h;simp only [Option.some.injEq,Prod.mk.injEq] at h;obtain ⟨rfl,-,-⟩:=h;simp
 rw [if_neg c3] at h
 by_cases c4:(l==[109,111,108])=true
 ·rw [if_pos c4] at h;simp only [Option.some.injEq,Prod.mk.injEq] at h;obtain ⟨rfl,-,-⟩:=h;simp
 rw [if_neg c4] at h
 by_cases c5:(l==[65])=true
 ·rw [if_pos c5] at h;simp only [Option.some.injEq,Prod.mk.injEq] at h;obtain ⟨rfl,-,-⟩:=h;simp
 rw [if_neg c5] at h
 by_cases c6:(l==[99,100])=true
 ·rw [if_pos c6] at h;simp only [Option.some.injEq,Prod.mk.injEq] at h;obtain ⟨rfl,-,-⟩:=h;simp
 rw [if_neg c6] at h
 by_cases c7:(l==[109,105,110])=true
 ·rw [if_pos c7] at h;simp only [Option.some.injEq,Prod.mk.injEq] at h;obtain ⟨rfl,-,-⟩:=h;simp
 rw [if_neg c7] at h
 by_cases c8:(l==[104])=true
 ·rw [if_pos c8] at h;simp only [Option.some.injEq,Prod.mk.injEq] at h;obtain ⟨rfl,-,-⟩:=h;simp
 rw [if_neg c8] at h
 by_cases c9:(l==[100])=true
 ·rw [if_pos c9] at h;simp only [Option.some.injEq,Prod.mk.injEq] at h;obtain ⟨rfl,-,-⟩:=h;simp
 rw [if_neg c9] at h
 by_cases c10:(l==[116])=true
 ·rw [if_pos c10] at h;simp only [Option.some.injEq,Prod.mk.injEq] at h;obtain ⟨rfl,-,-⟩:=h;simp
 rw [if_neg c10] at h
 by_cases c11:(l==[76])=true
 ·rw [if_pos c11] at h;simp only [Option.some.injEq,Prod.mk.injEq] at h;obtain ⟨rfl,-,-⟩:=h;simp
 rw [if_neg c11] at h
 by_cases c12:(l==[72,122])=true
 ·rw [if_pos c12] at h;simp only [Option.some.injEq,Prod.mk.injEq] at h;obtain ⟨rfl,-,-⟩:=h;simp
 rw [if_neg c12] at h
 by_cases c13:(l==[78])=true
 ·rw [if_pos c13] at h;simp only [Option.some.injEq,Prod.mk.injEq] at h;obtain ⟨rfl,-,-⟩:=h;simp
 rw [if_neg c13] at h
 by_cases c14:(l==[80,97])=true
 ·rw [if_pos c14] at h;simp only [Option.some.injEq,Prod.mk.injEq] at h;obtain ⟨rfl,-,-⟩:=h;simp
 rw [if_neg c14] at h
 by_cases c15:(l==[74])=true
 ·rw [if_pos c15] at h;simp only [Option.some.injEq,Prod.mk.injEq] at h;obtain ⟨rfl,-,-⟩:=h;simp
 rw [if_neg c15] at h
 by_cases c16:(l==[87])=true
 ·rw [if_pos c16] at h;simp only [Option.some.injEq,Prod.mk.injEq] at h;obtain ⟨rfl,-,-⟩:=h;simp
 rw [if_neg c16] at h
 by_cases c17:(l==[98,97,114])=true
 ·rw [if_pos c17] at h;simp only [Option.some.injEq,Prod.mk.injEq] at h;obtain ⟨rfl,-,-⟩:=h;simp
 rw [if_neg c17] at h
 cases h
theorem yqm {c:UInt8} (h:jD c≠[]):yO (jD c)≠0:=by
 unfold jD at h ⊢
 split
 ·exact vW (n:=1) (d:=1000000000) rfl (by omega) (by omega)
 split
 ·exact vW (n:=1) (d:=1000000) rfl (by omega) (by omega)
 split
 ·exact vW (n:=1) (d:=1000) rfl (by omega) (by omega)
 split
 ·exact vW (n:=1) (d:=100) rfl (by omega) (by omega)
 split
 ·exact vW (n:=1) (d:=10) rfl (by omega) (by omega)
 split
 ·exact vW (n:=100) (d:=1) rfl (by omega) (by omega)
 split
 ·exact vW (n:=1000) (d:=1) rfl (by omega) (by omega)
 split
 ·exact vW (n:=1000000) (d:=1) rfl (by omega) (by omega)
 split
 ·exact vW (n:=1000000000) (d:=1) rfl (by omega) (by omega)
 ·simp_all
theorem yiL {l:List UInt8} {v:Rat} {ps:List Int} (h:uX l=some (v,ps)):v≠0:=by
 unfold uX at h
 cases h1:yas l with
 | some x =>
  obtain ⟨v',ps',b⟩:=x
  rw [h1] at h
  cases h
  exact yl4 h1
 | none =>
  rw [h1] at h
  simp only at h
  cases l with
  | nil=>cases h
  | cons c t =>
   simp only at h
   cases h2:yas t with
   | none=>rw [h2] at h;cases h
   | some x =>
    obtain ⟨v',ps',b⟩:=x
    rw [h2] at h
    cases b with
    | false=>cases h
    | true =>
     simp only at h
     split at h
     ·cases h
     ·rename_i hp
      cases h
      have h3:=yqm hp
      have h4:=yl4 h2
      intro h5
      rcases Rat.mul_eq_zero.1 h5 with h5|h5
      ·exact h3 h5
      ·exact h4 h5
theorem ygH {x:List UInt8} {q:Rat} (h:num x=some q):yO x=q:=by
 unfold num at h
 rw [Option.map_eq_some_iff] at h
 obtain ⟨⟨s,n,d⟩,h1,rfl⟩:=h
 unfold GH at h1
 split at h1
 ·cases h1
 ·split at h1
  ·rename_i s0 n0 d0 hr
   split at h1
   ·cases h1
    unfold yO
    rw [hr]
    simp only
    rw [vO]
   ·cases h1
  ·cases h1
theorem ykL {l:List UInt8} {f:FacT} {n:Nat} (h:jK l=some (f,n)):f.v≠0:=by
 unfold jK at h
 split at h
 ·unfold GF at h
  split at h
  ·rename_i hc
   cases h
   obtain ⟨q,hq⟩:=yfs hc.1
   simp only
   rw [ygH hq]
   rintro rfl
   exact hc.2 (yb6.1 hq)
  ·cases h
 ·unfold GG at h
  cases hw:uX (l.take (zG l)) with
  | none=>rw [hw] at h;cases h
  | some x =>
   obtain ⟨v,ps⟩:=x
   rw [hw] at h
   simp only at h
   split at h
   ·split at h
    ·cases h
    ·cases h;exact yiL hw
   ·cases h;exact yiL hw
theorem yjw {F:Nat}:∀ {l:List UInt8} {dir:Int} {acc fs:List FacT},(∀ f ∈ acc,f.v≠0)→zL l dir acc F=some fs→∀ f ∈ fs,f.v≠0:=by
 induction F with
 | zero=>intro l dir acc fs _ h;cases h
 | succ F ih =>
  intro l dir acc fs ha h
  cases hf:jK l with
  | none=>rw [uD hf] at h;cases h
  | some x =>
   obtain ⟨f,n⟩:=x
   have ha':∀ g ∈ acc++[{ f with e:=f.e*dir }],g.v≠0:=by
    intro g hg
    rcases List.mem_append.1 hg with hg|hg
    ·exact ha g hg
    ·simp only [List.mem_singleton] at hg
     subst hg;have:=ykL hf;exact this
   by_cases hn:n=l.length
   ·rw [yat hf hn] at h
    cases h;exact ha'
   ·cases hd:l.drop n with
    | nil =>
     have h3:=congrArg List.length hd
     have:=(yb7 hf).2.1
     rw [List.length_drop,List.length_nil] at h3
     omega
    | cons c t =>
     by_cases h1:c=32
     ·subst h1;rw [GN hf hn hd] at h;exact ih ha' h
     ·by_cases h2:c=47
      ·subst h2;rw [GO hf hn hd] at h;exact ih ha' h
      ·rw [GP hf hn hd h1 h2] at h;cases h
theorem yms (s:ByteArray) (w:World) (hl:(1000:Int)<s.size):Calls Tryz.prog 5 #[.string s] w (zS (vZ,4) w):=by
 go_enter Tryz.func5,Tryz.ntmps5
 go_wp2_with fail
 refine bodyPost_ret (v:=.tuple #[.agg #[.string ⟨#[]⟩,.string ⟨#[]⟩,.int .i64 0,.int .i64 0,.int .i64 0,.int .i64 0,.int .i64 0,.int .i64 0,.int .i64 0],.int .i64 4]) (by simp [results,Tryz.results5,go_sem]) rfl ?_
 exact ⟨_,_,_,_,_,_,_,_,_,rfl,rfl,zK _ _⟩
theorem ymt (s:ByteArray) (w:World) (hl:(s.size:Int)≤1000) (hc:(s.toList==[100,101,103,67])=true):Calls Tryz.prog 5 #[.string s] w (zS (⟨[49],[53,52,54,51,47,50,48],yhe⟩,0) w):=by
 go_enter Tryz.func5,Tryz.ntmps5
 go_wp2_with fail
 refine bodyPost_ret (v:=.tuple #[.agg #[.string ⟨#[49]⟩,.string ⟨#[53,52,54,51,47,50,48]⟩,.int .i64 0,.int .i64 0,.int .i64 0,.int .i64 1,.int .i64 0,.int .i64 0,.int .i64 0],.int .i64 0]) (by simp [results,Tryz.results5,go_sem]) rfl ?_
 exact ⟨_,_,_,_,_,_,_,_,_,rfl,rfl,zK _ _⟩
theorem ymu (s:ByteArray) (w:World) (hl:(s.size:Int)≤1000) (hc:(s.toList==[100,101,103,67])=false) (hf:(s.toList==[100,101,103,70])=true):Calls Tryz.prog 5 #[.string s] w (zS (⟨[53,47,57],[52,53,57,54,55,47,49,56,48],yhe⟩,0) w):=by
 go_enter Tryz.func5,Tryz.ntmps5
 go_wp2_with fail
 refine bodyPost_ret (v:=.tuple #[.agg #[.string ⟨#[53,47,57]⟩,.string ⟨#[52,53,57,54,55,47,49,56,48]⟩,.int .i64 0,.int .i64 0,.int .i64 0,.int .i64 1,.int .i64 0,.int .i64 0,.int .i64 0],.int .i64 0]) (by simp [results,Tryz.results5,go_sem]) rfl ?_
 exact ⟨_,_,_,_,_,_,_,_,_,rfl,rfl,zK _ _⟩
theorem ymv (s:ByteArray) (w:World) (hl:(s.size:Int)≤1000) (hc:(s.toList==[100,101,103,67])=false) (hf:(s.toList==[100,101,103,70])=false) (hsf:∀ W,Below w.heap.size w W→Hid (Calls Tryz.prog 13 #[.string s] W (ycp none W))):Calls Tryz.prog 5 #[.string s] w (zS (vZ,10) w):=by
 have yP:=yA (ResU.start w)
 have ynL:=hsf _ yP.out.below
 clear hsf
 go_enter Tryz.func5,Tryz.ntmps5
 go_wp2_with fail
 refine ynL.out.mono ?_
 rintro e w2 ⟨hb2,rfl⟩
 have Hres2:=yA (yP.out.next hb2)
 obtain ⟨z0,z1,z2,z3,z4,z5,z6,z7,z8,⟨l0,l1,l2,l3,l4,l5,l6,l7,l8⟩,⟨f0,f1,f2,f3,f4,f5,f6,f7,f8⟩⟩:=Hres2.out.slots
 have yE:Hid (∀ W,W=((((((((((w2).setCell ⟨w.heap.size,0,none⟩ (.string ⟨#[]⟩)).setCell ⟨w.heap.size,1,none⟩ (.string ⟨#[]⟩)).setCell ⟨w.heap.size,2,none⟩ (.int .i64 0)).setCell ⟨w.heap.size,3,none⟩ (.int .i64 0)).setCell ⟨w.heap.size,4,none⟩ (.int .i64 0)).setCell ⟨w.heap.size,5,none⟩ (.int .i64 0)).setCell ⟨w.heap.size,6,none⟩ (.int .i64 0)).setCell ⟨w.heap.size,7,none⟩ (.int .i64 0)).setCell ⟨w.heap.size,8,none⟩ (.int .i64 0))→zS (vZ,10) w (.returned (.tuple #[.agg #[.string ⟨#[]⟩,.string ⟨#[]⟩,.int .i64 0,.int .i64 0,.int .i64 0,.int .i64 0,.int .i64 0,.int .i64 0,.int .i64 0],.int .i64 10])) W):=yA (by
  rintro W rfl
  exact ⟨_,_,_,_,_,_,_,_,_,rfl,rfl,Hres2.out.put9 (Nat.le_refl _) (.string ⟨#[]⟩) (.string ⟨#[]⟩) (.int .i64 0) (.int .i64 0) (.int .i64 0) (.int .i64 0) (.int .i64 0) (.int .i64 0) (.int .i64 0)⟩)
 clear hb2
 go_wp2_with fail
 have hcells:=Hres2.out.put9_heap (.string ⟨#[]⟩) (.string ⟨#[]⟩) (.int .i64 0) (.int .i64 0) (.int .i64 0) (.int .i64 0) (.int .i64 0) (.int .i64 0) (.int .i64 0)
 generalize (((((((((w2).setCell ⟨w.heap.size,0,none⟩ (.string ⟨#[]⟩)).setCell ⟨w.heap.size,1,none⟩ (.string ⟨#[]⟩)).setCell ⟨w.heap.size,2,none⟩ (.int .i64 0)).setCell ⟨w.heap.size,3,none⟩ (.int .i64 0)).setCell ⟨w.heap.size,4,none⟩ (.int .i64 0)).setCell ⟨w.heap.size,5,none⟩ (.int .i64 0)).setCell ⟨w.heap.size,6,none⟩ (.int .i64 0)).setCell ⟨w.heap.size,7,none⟩ (.int .i64 0)).setCell ⟨w.heap.size,8,none⟩ (.int .i64 0)=WW at hcells yE ⊢
 have c0:=yB hcells 0
 have c1:=yB hcells 1
 have c2:=yB hcells 2
 have c3:=yB hcells 3
 have c4:=yB hcells 4
 have c5:=yB hcells 5
 have c6:=yB hcells 6
 have c7:=yB hcells 7
 have c8:=yB hcells 8
 refine bodyPost_ret (v:=.tuple #[.agg #[.string ⟨#[]⟩,.string ⟨#[]⟩,.int .i64 0,.int .i64 0,.int .i64 0,.int .i64 0,.int .i64 0,.int .i64 0,.int .i64 0],.int .i64 10]) (by simp [results,Tryz.results5,go_sem,c0,c1,c2,c3,c4,c5,c6,c7,c8]) rfl ?_
 exact yE.out _ rfl
theorem ymw (s:ByteArray) (fs:List FacT) (w:World) (hl:(s.size:Int)≤1000) (hc:(s.toList==[100,101,103,67])=false) (hf:(s.toList==[100,101,103,70])=false) (hm:(12:Int)<fs.length) (hsf:∀ W,Below w.heap.size w W→Hid (Calls Tryz.prog 13 #[.string s] W (ycp (some fs) W))):Calls Tryz.prog 5 #[.string s] w (zS (vZ,4) w):=by
 have yP:=yA (ResU.start w)
 have ynL:=hsf _ yP.out.below
 clear hsf
 go_enter Tryz.func5,Tryz.ntmps5
 go_wp2_with fail
 refine ynL.out.mono ?_
 rintro e w2 ⟨hb2,v,css,rfl,hfs⟩
 have Hfs:=yA hfs
 obtain ⟨po,cap,hv⟩:∃ po cap,v=.slice po fs.length cap:=by
  rcases hfs.row.1.2 with ⟨h1,h2⟩|⟨g,cap,cur,h1,-⟩
  ·exact ⟨none,0,by rw [h1,h2]⟩
  ·exact ⟨_,_,h1⟩
 subst hv
 have yeB:=yA (yP.out.next hb2)
 have Hres2:=yeB
 obtain ⟨z0,z1,z2,z3,z4,z5,z6,z7,z8,⟨l0,l1,l2,l3,l4,l5,l6,l7,l8⟩,⟨f0,f1,f2,f3,f4,f5,f6,f7,f8⟩⟩:=Hres2.out.slots
 have yE:Hid (∀ W,W=((((((((((w2).setCell ⟨w.heap.size,0,none⟩ (.string ⟨#[]⟩)).setCell ⟨w.heap.size,1,none⟩ (.string ⟨#[]⟩)).setCell ⟨w.heap.size,2,none⟩ (.int .i64 0)).setCell ⟨w.heap.size,3,none⟩ (.int .i64 0)).setCell ⟨w.heap.size,4,none⟩ (.int .i64 0)).setCell ⟨w.heap.size,5,none⟩ (.int .i64 0)).setCell ⟨w.heap.size,6,none⟩ (.int .i64 0)).setCell ⟨w.heap.size,7,none⟩ (.int .i64 0)).setCell ⟨w.heap.size,8,none⟩ (.int .i64 0))→zS (vZ,4) w (.returned (.tuple #[.agg #[.string ⟨#[]⟩,.string ⟨#[]⟩,.int .i64 0,.int .i64 0,.int .i64 0,.int .i64 0,.int .i64 0,.int .i64 0,.int .i64 0],.int .i64 4])) W):=yA (by
  rintro W rfl
  exact ⟨_,_,_,_,_,_,_,_,_,rfl,rfl,Hres2.out.put9 (Nat.le_refl _) (.string ⟨#[]⟩) (.string ⟨#[]⟩) (.int .i64 0) (.int .i64 0) (.int .i64 0) (.int .i64 0) (.int .i64 0) (.int .i64 0) (.int .i64 0)⟩)
 clear hb2 hfs
 go_wp2_with fail
 have hcells:=Hres2.out.put9_heap (.string ⟨#[]⟩) (.string ⟨#[]⟩) (.int .i64 0) (.int .i64 0) (.int .i64 0) (.int .i64 0) (.int .i64 0) (.int .i64 0) (.int .i64 0)
 generalize (((((((((w2).setCell ⟨w.heap.size,0,none⟩ (.string ⟨#[]⟩)).setCell ⟨w.heap.size,1,none⟩ (.string ⟨#[]⟩)).setCell ⟨w.heap.size,2,none⟩ (.int .i64 0)).setCell ⟨w.heap.size,3,none⟩ (.int .i64 0)).setCell ⟨w.heap.size,4,none⟩ (.int .i64 0)).setCell ⟨w.heap.size,5,none⟩ (.int .i64 0)).setCell ⟨w.heap.size,6,none⟩ (.int .i64 0)).setCell ⟨w.heap.size,7,none⟩ (.int .i64 0)).setCell ⟨w.heap.size,8,none⟩ (.int .i64 0)=WW at hcells yE ⊢
 have c0:=yB hcells 0
 have c1:=yB hcells 1
 have c2:=yB hcells 2
 have c3:=yB hcells 3
 have c4:=yB hcells 4
 have c5:=yB hcells 5
 have c6:=yB hcells 6
 have c7:=yB hcells 7
 have c8:=yB hcells 8
 refine bodyPost_ret (v:=.tuple #[.agg #[.string ⟨#[]⟩,.string ⟨#[]⟩,.int .i64 0,.int .i64 0,.int .i64 0,.int .i64 0,.int .i64 0,.int .i64 0,.int .i64 0],.int .i64 4]) (by simp [results,Tryz.results5,go_sem,c0,c1,c2,c3,c4,c5,c6,c7,c8]) rfl ?_
 exact yE.out _ rfl
theorem ymx (s:ByteArray) (fs:List FacT) (r:UnitT × Int) (w:World) (hl:(s.size:Int)≤1000) (hc:(s.toList==[100,101,103,67])=false) (hf:(s.toList==[100,101,103,70])=false) (hm:(fs.length:Int)≤12) (hsf:∀ W,Below w.heap.size w W→Hid (Calls Tryz.prog 13 #[.string s] W (ycp (some fs) W))) (hpr:∀ W v css base,Below w.heap.size w W→FacsIn W base v css fs→Hid (Calls Tryz.prog 14 #[v] W (zS r W))):Calls Tryz.prog 5 #[.string s] w (zS r w):=by
 have yP:=yA (ResU.start w)
 have ynL:=hsf _ yP.out.below
 clear hsf
 go_enter Tryz.func5,Tryz.ntmps5
 go_wp2_with fail
 refine ynL.out.mono ?_
 rintro e w2 ⟨hb2,v,css,rfl,hfs⟩
 have Hfs:=yA hfs
 obtain ⟨po,cap,hv⟩:∃ po cap,v=.slice po fs.length cap:=by
  rcases hfs.row.1.2 with ⟨h1,h2⟩|⟨g,cap,cur,h1,-⟩
  ·exact ⟨none,0,by rw [h1,h2]⟩
  ·exact ⟨_,_,h1⟩
 subst hv
 have yeB:=yA (yP.out.next hb2)
 have hpr1:=hpr _ _ _ _ yeB.out.below hfs
 clear hb2 hfs hpr
 go_wp2_with fail
 refine hpr1.out.mono ?_
 rintro e w3 ⟨fr,orr,y0,y1,y2,y3,y4,y5,y6,rfl,htU,hb3⟩
 have HtU:=yA htU
 have Hres2:=yA (yeB.out.next hb3)
 obtain ⟨z0,z1,z2,z3,z4,z5,z6,z7,z8,⟨l0,l1,l2,l3,l4,l5,l6,l7,l8⟩,⟨f0,f1,f2,f3,f4,f5,f6,f7,f8⟩⟩:=Hres2.out.slots
 have yE:Hid (∀ W,W=((((((((((w3).setCell ⟨w.heap.size,0,none⟩ (.string fr)).setCell ⟨w.heap.size,1,none⟩ (.string orr)).setCell ⟨w.heap.size,2,none⟩ (.int .i64 y0)).setCell ⟨w.heap.size,3,none⟩ (.int .i64 y1)).setCell ⟨w.heap.size,4,none⟩ (.int .i64 y2)).setCell ⟨w.heap.size,5,none⟩ (.int .i64 y3)).setCell ⟨w.heap.size,6,none⟩ (.int .i64 y4)).setCell ⟨w.heap.size,7,none⟩ (.int .i64 y5)).setCell ⟨w.heap.size,8,none⟩ (.int .i64 y6))→zS r w (.returned (.tuple #[.agg #[.string fr,.string orr,.int .i64 y0,.int .i64 y1,.int .i64 y2,.int .i64 y3,.int .i64 y4,.int .i64 y5,.int .i64 y6],.int .i64 r.2])) W):=yA (by
  rintro W rfl
  exact ⟨_,_,_,_,_,_,_,_,_,rfl,HtU.out,Hres2.out.put9 (Nat.le_refl _) (.string fr) (.string orr) (.int .i64 y0) (.int .i64 y1) (.int .i64 y2) (.int .i64 y3) (.int .i64 y4) (.int .i64 y5) (.int .i64 y6)⟩)
 clear hb3 htU
 go_wp2_with fail
 have hcells:=Hres2.out.put9_heap (.string fr) (.string orr) (.int .i64 y0) (.int .i64 y1) (.int .i64 y2) (.int .i64 y3) (.int .i64 y4) (.int .i64 y5) (.int .i64 y6)
 generalize (((((((((w3).setCell ⟨w.heap.size,0,none⟩ (.string fr)).setCell ⟨w.heap.size,1,none⟩ (.string orr)).setCell ⟨w.heap.size,2,none⟩ (.int .i64 y0)).setCell ⟨w.heap.size,3,none⟩ (.int .i64 y1)).setCell ⟨w.heap.size,4,none⟩ (.int .i64 y2)).setCell ⟨w.heap.size,5,none⟩ (.int .i64 y3)).setCell ⟨w.heap.size,6,none⟩ (.int .i64 y4)).setCell ⟨w.heap.size,7,none⟩ (.int .i64 y5)).setCell ⟨w.heap.size,8,none⟩ (.int .i64 y6)=WW at hcells yE ⊢
 have c0:=yB hcells 0
 have c1:=yB hcells 1
 have c2:=yB hcells 2
 have c3:=yB hcells 3
 have c4:=yB hcells 4
 have c5:=yB hcells 5
 have c6:=yB hcells 6
 have c7:=yB hcells 7
 have c8:=yB hcells 8
 refine bodyPost_ret (v:=.tuple #[.agg #[.string fr,.string orr,.int .i64 y0,.int .i64 y1,.int .i64 y2,.int .i64 y3,.int .i64 y4,.int .i64 y5,.int .i64 y6],.int .i64 r.2]) (by simp [results,Tryz.results5,go_sem,c0,c1,c2,c3,c4,c5,c6,c7,c8]) rfl ?_
 exact yE.out _ rfl
theorem yc5 (s:ByteArray) (w:World) (htab:Tab w):Calls Tryz.prog 5 #[.string s] w (zS (yad s.data.toList) w):=by
 have hlen:s.data.toList.length=s.size:=by simp
 have hc:=yfr s [100,101,103,67]
 have hf:=yfr s [100,101,103,70]
 unfold yad
 by_cases h:1000<s.size
 ·rw [if_pos (by omega)]
  exact yms s w (by omega)
 ·rw [if_neg (by omega)]
  by_cases h2:s.data.toList=[100,101,103,67]
  ·rw [if_pos (by rw [beq_iff_eq];exact h2)]
   rw [decide_eq_true h2] at hc
   exact ymt s w (by omega) hc
  ·rw [if_neg (by rw [beq_iff_eq];exact h2)]
   rw [decide_eq_false h2] at hc
   by_cases h3:s.data.toList=[100,101,103,70]
   ·rw [if_pos (by rw [beq_iff_eq];exact h3)]
    rw [decide_eq_true h3] at hf
    exact ymu s w (by omega) hc hf
   ·rw [if_neg (by rw [beq_iff_eq];exact h3)]
    rw [decide_eq_false h3] at hf
    have hsf:∀ W,Below w.heap.size w W→Calls Tryz.prog 13 #[.string s] W (ycp (zL s.data.toList 1 [] (s.data.toList.length+1)) W):=fun W hb=>by
     rw [hlen];exact yeX s W (by omega) (htab.below hb)
    cases ho:zL s.data.toList 1 [] (s.data.toList.length+1) with
    | none =>
     rw [ho] at hsf
     exact ymv s w (by omega) hc hf fun W hb=>yA (hsf W hb)
    | some fs =>
     rw [ho] at hsf
     simp only
     by_cases hm:12<fs.length
     ·rw [if_pos hm]
      exact ymw s fs w (by omega) hc hf (by omega) fun W hb=>yA (hsf W hb)
     ·rw [if_neg hm]
      exact ymx s fs _ w (by omega) hc hf (by omega) (fun W hb=>yA (hsf W hb)) fun W v css base hb hfs=>yA (yj5 v css fs base W hfs (by omega) (yfP (fun _ h=>by cases h) ho) (yjw (fun _ h=>by cases h) ho) (htab.below hb))
theorem yc6 {a:ByteArray} {l:List UInt8} (h:a.data.toList=l):a=⟨l.toArray⟩:=by
 rw [← h]
theorem yqn (w:World) (htab:Tab w):Calls Tryz.prog 5 #[.string ⟨#[107,109,47,104]⟩] w fun e w'=>e=.returned (.tuple #[.agg #[.string ⟨#[53,47,49,56]⟩,.string ⟨#[48]⟩,.int .i64 1,.int .i64 0,.int .i64 (-1),.int .i64 0,.int .i64 0,.int .i64 0,.int .i64 0],.int .i64 0])∧Below w.heap.size w w':=by
 have h:=yc5 ⟨#[107,109,47,104]⟩ w htab
 have e:yad (⟨#[107,109,47,104]⟩:ByteArray).data.toList=(⟨[53,47,49,56],[48],[1,0,-1,0,0,0,0]⟩,0):=kmh
 rw [e] at h
 refine h.mono ?_
 rintro e w' ⟨f,o,p0,p1,p2,p3,p4,p5,p6,rfl,htU,hb⟩
 unfold tU at htU
 simp only [UnitT.mk.injEq,List.cons.injEq,and_true] at htU
 obtain ⟨hf,ho,rfl,rfl,rfl,rfl,rfl,rfl,rfl⟩:=htU
 rw [yc6 hf,yc6 ho]
 exact ⟨rfl,hb⟩
theorem ymy (w:World) (htab:Tab w):Calls Tryz.prog 8 #[] w fun e w'=>e=.returned (.bool true)∧Below w.heap.size w w':=by
 have hk:=yA (yqn w htab)
 have ha:∀ W,Below w.heap.size w W→Hid (Calls Tryz.prog 22 #[.string ⟨#[49,47,51]⟩,.string ⟨#[49,47,54]⟩] W fun e w'=>e=.returned (.string ⟨#[49,47,50]⟩)∧Below W.heap.size W w'):=fun W hb=>yA (by
  have:=ysL ⟨#[49,47,51]⟩ ⟨#[49,47,54]⟩ W (htab.below hb)
  rw [show opT (·+·) (⟨#[49,47,51]⟩:ByteArray).data.toList (⟨#[49,47,54]⟩:ByteArray).data.toList=[49,47,50] from ym9] at this
  exact this)
 have heq:∀ W,(binOp .eql 24 (.agg #[.string ⟨#[53,47,49,56]⟩,.string ⟨#[48]⟩,.int .i64 1,.int .i64 0,.int .i64 (-1),.int .i64 0,.int .i64 0,.int .i64 0,.int .i64 0]) (.agg #[.string ⟨#[53,47,49,56]⟩,.string ⟨#[48]⟩,.int .i64 1,.int .i64 0,.int .i64 (-1),.int .i64 0,.int .i64 0,.int .i64 0,.int .i64 0])).run Tryz.prog W=.ok (.bool true) W:=fun _=>by kernel_rfl
 go_enter Tryz.func8,Tryz.ntmps8
 go_wp2_with fail
 refine hk.out.mono ?_
 rintro e w2 ⟨rfl,hb2⟩
 have hbw:=yA (hb2.trans ((zK w2 (.cells #[.string ⟨#[53,47,49,56]⟩,.string ⟨#[48]⟩,.int .i64 1,.int .i64 0,.int .i64 (-1),.int .i64 0,.int .i64 0,.int .i64 0,.int .i64 0] 24)).mono hb2.size))
 have hx0:=yA (yV w2 (.cells #[.string ⟨#[53,47,49,56]⟩,.string ⟨#[48]⟩,.int .i64 1,.int .i64 0,.int .i64 (-1),.int .i64 0,.int .i64 0,.int .i64 0,.int .i64 0] 24))
 have ha2:=ha _ hbw.out
 clear hb2 ha
 go_wp2_with fail
 refine ha2.out.mono ?_
 rintro e w3 ⟨rfl,hb3⟩
 have Hb3:=yA (hbw.out.trans (hb3.mono hbw.out.size))
 have hx:=(hb3.block w2.heap.size (by simp)).trans hx0.out
 have e0:=yB hx 0
 have e1:=yB hx 1
 have e2:=yB hx 2
 have e3:=yB hx 3
 have e4:=yB hx 4
 have e5:=yB hx 5
 have e6:=yB hx 6
 have e7:=yB hx 7
 have e8:=yB hx 8
 clear hb3 hx
 go_wp2_with fail
 go_ret
 exact ⟨rfl,Hb3.out⟩
end
section
open Go.Lib Big
theorem yoY {x:List UInt8}:yiD x=true↔num x=some (yiE x)∧0<yiE x:=by
 unfold yiD yiE
 cases h:num x with
 | none=>simp
 | some q=>simp
theorem ykM {u:UnitT}:ydH u=true↔num u.f=some (yiE u.f)∧0<yiE u.f∧(num u.o).isSome=true∧uP u.ps=true:=by
 unfold ydH
 rw [Bool.and_eq_true,Bool.and_eq_true,yoY,and_assoc]
end
section
open Go.RowKit Big
open Go.Lib
def yaM (q:Rat) (w:World) (e:Ending) (w':World):Prop:=∃ sb p n c p2 n2 c2,e=.returned (.agg #[.bool sb,.slice p n c,.slice p2 n2 c2])∧zH w' (.agg #[.bool sb,.slice p n c,.slice p2 n2 c2]) q∧Below w.heap.size w w'
theorem vD.c {q:Rat} {w w':World} {e:Ending} (h:vD q w e w'):yaM q w e w':=by
 obtain ⟨x,rfl,hx,hb⟩:=h
 obtain ⟨p,n,c,p2,n2,c2,rfl,h1,h2⟩:=hx.slices
 exact ⟨_,p,n,c,p2,n2,c2,rfl,hx,hb⟩
theorem Keep.put3 {w0 W:World} {L:List Blk} {g:Nat} {z0 z1 z2:Value} {T:TypeId} (h:Keep w0 W ((g,#[z0,z1,z2],T)::L)) (hg:w0.heap.size≤g) (hne:∀ x ∈ L,x.1≠g) (a b c:Value) :
  Keep w0 (((W.setCell ⟨g,0,none⟩ a).setCell ⟨g,1,none⟩ b).setCell ⟨g,2,none⟩ c) ((g,#[a,b,c],T)::L) :=
 ((h.put hg hne 0 a).put hg hne 1 b).put hg hne 2 c
theorem zH.put3 {B:Nat} {w0 W:World} {x:Value} {r:Rat} (hq:zH W x r) (h:Resa B w0 W) (hB:w0.heap.size≤B) (a:Bool) (p q:Option Addr) (n c m d:Nat):zH (((W.setCell ⟨B,0,none⟩ (.bool a)).setCell ⟨B,1,none⟩ (.slice p n c)).setCell ⟨B,2,none⟩ (.slice q m d)) x r:=by
 obtain ⟨u,v,rfl,hu,hv⟩:=hq
 exact ⟨u,v,rfl,h.nat3 hB hu a p q n c m d,hv.imp (fun h2=>h.nat3 hB h2 a p q n c m d) fun h2=>⟨h.nat3 hB h2.1 a p q n c m d,h2.2⟩⟩
theorem yqo {l:List UInt8} {q:Rat} (h:num l=some q):uK 5 q:=by
 have hs:=ym5 h
 unfold yim at hs
 have hb:∀ n:Nat,nDigits n≤40→n<B9^5:=by
  intro n hn
  have h1:=ybS (decDigits n) (yap n).1
  rw [(yap n).2,decDigits_length] at h1
  rw [yau]
  exact Nat.lt_of_lt_of_le h1 (Nat.pow_le_pow_right (by omega) (by omega))
 exact ⟨hb _ hs.1,hb _ hs.2⟩
theorem yaC {K:Nat} {q:Rat} {s:Bool} {a b:Nat} (h:zD s a b=q) (ha:a<B9^K) (hb:b<B9^K) (hb0:0<b):uK K q:=by
 rw [← h,← vO]
 exact yra _ ha hb hb0 (by intro h;simp at h;omega)
theorem uK.mul {K L:Nat} {a b:Rat} (ha:uK K a) (hb:uK L b):uK (K+L) (a*b) :=
 yaC (yfy a b) (uM ha.1 hb.1) (uM ha.2 hb.2) (Nat.mul_pos a.den_pos b.den_pos)
theorem uK.quo {K L:Nat} {a b:Rat} (ha:uK K a) (hb:uK L b):uK (K+L) (a/b):=by
 by_cases h:b.num.natAbs=0
 ·have hb0:b=0:=Rat.num_eq_zero.1 (by omega)
  have e:a/b=0:=by rw [hb0];grind
  rw [e]
  exact ⟨Nat.pow_pos jP,Nat.one_lt_pow (by have:=ha.2;have:=a.den_pos;intro h0;have hK:K=0:=(by omega);subst hK;rw [Nat.pow_zero] at *;omega) (by rw [zN];omega)⟩
 ·exact yaC (yfz a b) (uM ha.1 hb.2) (uM ha.2 hb.1) (Nat.mul_pos a.den_pos (by omega))
theorem yoZ (a b:Rat):∃ (s:Bool) (n:Nat),zD s n (a.den*b.den)=a+b∧n≤a.num.natAbs*b.den+b.num.natAbs*a.den:=by
 have e1:zD (decide (a.num<0)) (a.num.natAbs*b.den) (a.den*b.den)=a:=by rw [ybZ a.den_pos b.den_pos,yal]
 have e2:zD (decide (b.num<0)) (b.num.natAbs*a.den) (a.den*b.den)=b:=by rw [Nat.mul_comm a.den b.den,ybZ b.den_pos a.den_pos,yal]
 by_cases h:decide (a.num<0)=decide (b.num<0)
 ·rw [← h] at e2
  exact ⟨_,_,by rw [ygP,e1,e2],Nat.le_refl _⟩
 ·by_cases hle:b.num.natAbs*a.den≤a.num.natAbs*b.den
  ·exact ⟨_,_,by rw [yb0 h hle,e1,e2],by omega⟩
  ·exact ⟨_,_,by rw [yb0 (fun e=>h e.symm) (Nat.le_of_lt (Nat.lt_of_not_le hle)),e1,e2,Rat.add_comm],by omega⟩
theorem uK.add {K L:Nat} {a b:Rat} (ha:uK K a) (hb:uK L b):uK (K+L+1) (a+b):=by
 obtain ⟨s,n,h1,h2⟩:=yoZ a b
 have h3:=uM ha.1 hb.2
 have h4:=uM hb.1 ha.2
 rw [Nat.add_comm L K] at h4
 have h5:B9^(K+L+1)=B9^(K+L)*1000000000:=by rw [Nat.pow_succ,zN]
 exact yaC h1 (by omega) (ybI (uM ha.2 hb.2) (by omega)) (Nat.mul_pos a.den_pos b.den_pos)
theorem uK.sub {K L:Nat} {a b:Rat} (ha:uK K a) (hb:uK L b):uK (K+L+1) (a-b):=by
 rw [Rat.sub_eq_add_neg];exact ha.add hb.neg
def yaE (W:World) (g:Nat):Prop:=∃ c:Array Value,W.heap[g]?=some (.cells c 52 (0,0))∧c.size=13∧∀ (j:Nat) v,c[j]?=some v→vP v
theorem yaE.below {W W':World} {g:Nat} (h:yaE W g) (hb:Below W.heap.size W W'):yaE W' g:=by
 obtain ⟨c,h1,h2⟩:=h
 exact ⟨c,(hb.block g (Array.getElem?_eq_some_iff.1 h1).1).trans h1,h2⟩
theorem yaE.drew {W:World} {g:Nat} (h:yaE W g):yaE W.drew g:=h
theorem yaE.slots {W:World} {g:Nat} (h:yaE W g):∃ z0 z1 z2 z3 z4 z5 z6 z7 z8 z9 z10 z11 z12,W.cell? ⟨g,0,none⟩=some z0∧W.cell? ⟨g,1,none⟩=some z1∧W.cell? ⟨g,2,none⟩=some z2∧W.cell? ⟨g,3,none⟩=some z3∧W.cell? ⟨g,4,none⟩=some z4∧W.cell? ⟨g,5,none⟩=some z5∧W.cell? ⟨g,6,none⟩=some z6∧W.cell? ⟨g,7,none⟩=some z7∧W.cell? ⟨g,8,none⟩=some z8∧W.cell? ⟨g,9,none⟩=some z9∧W.cell? ⟨g,10,none⟩=some z10∧W.cell? ⟨g,11,none⟩=some z11∧W.cell? ⟨g,12,none⟩=some z12∧W.frozen? ⟨g,0,none⟩=false∧W.frozen? ⟨g,1,none⟩=false∧W.frozen? ⟨g,2,none⟩=false∧W.frozen? ⟨g,3,none⟩=false∧W.frozen? ⟨g,4,none⟩=false∧W.frozen? ⟨g,5,none⟩=false∧W.frozen? ⟨g,6,none⟩=false∧W.frozen? ⟨g,7,none⟩=false∧W.frozen? ⟨g,8,none⟩=false∧W.frozen? ⟨g,9,none⟩=false∧W.frozen? ⟨g,10,none⟩=false∧W.frozen? ⟨g,11,none⟩=false∧W.frozen? ⟨g,12,none⟩=false:=by
 obtain ⟨⟨l⟩,h1,h2,-⟩:=h
 have h2:l.length=13:=h2
 match l,h2 with
 | [z0,z1,z2,z3,z4,z5,z6,z7,z8,z9,z10,z11,z12],_=>exact ⟨z0,z1,z2,z3,z4,z5,z6,z7,z8,z9,z10,z11,z12,yB h1 0,yB h1 1,yB h1 2,yB h1 3,yB h1 4,yB h1 5,yB h1 6,yB h1 7,yB h1 8,yB h1 9,yB h1 10,yB h1 11,yB h1 12,vB h1 0,vB h1 1,vB h1 2,vB h1 3,vB h1 4,vB h1 5,vB h1 6,vB h1 7,vB h1 8,vB h1 9,vB h1 10,vB h1 11,vB h1 12⟩
theorem yqp {W:World} {g:Nat} (h:yaE W g) {p:Option Addr} {n:Nat} {l:List Nat} (hr:Rd W p n l) (k:Nat) (a:Value):Rd (W.setCell ⟨g,k,none⟩ a) p n l:=by
 obtain ⟨c,h1,h2,h3⟩:=h
 refine ⟨hr.len,?_⟩
 rcases hr.cell with h0|⟨b,off,hp,hlt,hc⟩
 ·exact .inl h0
 ·by_cases hn:n=0
  ·exact .inl hn
  refine .inr ⟨b,off,hp,by rw [World.size_setCell];exact hlt,fun j hj=>?_⟩
  have hne:b≠g:=by
   rintro rfl
   have h5:=hc 0 (by omega)
   rw [yB h1] at h5
   exact h3 _ _ h5 _ rfl
  rw [← hc j hj]
  exact World.cell?_of_block (w:=W) (Below.heap_setCell _ _ _ _ hne)
theorem yo0 {W:World} {g:Nat} (h:yaE W g) {v:Value} {q:Rat} (hx:zH W v q) (k:Nat) (a:Value):zH (W.setCell ⟨g,k,none⟩ a) v q:=by
 have one:∀ {v:Value} {x:Nat},yL W v x→yL (W.setCell ⟨g,k,none⟩ a) v x:=fun hx=>by
  obtain ⟨p,n,c,l,h1,h2,h3,h4⟩:=hx
  exact ⟨p,n,c,l,h1,h2,yqp h h3 k a,h4⟩
 obtain ⟨u,v,rfl,hu,hv⟩:=hx
 exact ⟨u,v,rfl,one hu,hv.imp one fun h=>⟨one h.1,h.2⟩⟩
theorem yaE.set {W:World} {g:Nat} (h:yaE W g) (k:Nat) (a:Value) (ha:vP a):yaE (W.setCell ⟨g,k,none⟩ a) g:=by
 obtain ⟨c,h1,h2,h3⟩:=h
 refine ⟨c.setIfInBounds k a,yK g k c 52 a h1,by rw [Array.size_setIfInBounds];exact h2,fun j v hj=>?_⟩
 by_cases e:k=j
 ·subst e
  rw [Array.getElem?_setIfInBounds_self] at hj
  split at hj
  ·cases hj;exact ha
  ·cases hj
 ·rw [Array.getElem?_setIfInBounds_ne e] at hj
  exact h3 _ _ hj
structure Stp (g:Nat) (W W':World):Prop where
 box:yaE W' g
 nums:∀ v q,zH W v q→zH W' v q
 keep:∀ w L,w.heap.size≤g→(∀ x ∈ L,x.1≠g)→Keep w W L→Keep w W' L
theorem Stp.refl {W:World} {g:Nat} (h:yaE W g):Stp g W W:=⟨h,fun _ _ h=>h,fun _ _ _ _ h=>h⟩
theorem Stp.more {W W':World} {g:Nat} (h:Stp g W W') (k:Nat) (a:Value) (ha:vP a):Stp g W (W'.setCell ⟨g,k,none⟩ a) :=
 ⟨h.box.set k a ha,fun v q hq=>yo0 h.box (h.nums v q hq) k a,fun w L hg hne hk=>by
  have hk':=h.keep w L hg hne hk
  exact ⟨hk'.below.setCell hg _,fun x hx=>(Below.heap_setCell _ _ _ _ (hne x hx)).trans (hk'.all x hx)⟩⟩
theorem Stp.scale {W:World} {g:Nat} (h:yaE W g) (b1:Bool) (x1:Option Addr) (n1 c1:Nat) (y1:Option Addr) (m1 d1:Nat) (b2:Bool) (x2:Option Addr) (n2 c2:Nat) (y2:Option Addr) (m2 d2:Nat) (p0 p1 p2 p3 p4 p5 p6:Int) :
  Stp g W ((((((((((((((W).setCell ⟨g,0,none⟩ (.bool b1)).setCell ⟨g,1,none⟩ (.slice x1 n1 c1)).setCell ⟨g,2,none⟩ (.slice y1 m1 d1)).setCell ⟨g,3,none⟩ (.bool b2)).setCell ⟨g,4,none⟩ (.slice x2 n2 c2)).setCell ⟨g,5,none⟩ (.slice y2 m2 d2)).setCell ⟨g,6,none⟩ (.int .i64 p0)).setCell ⟨g,7,none⟩ (.int .i64 p1)).setCell ⟨g,8,none⟩ (.int .i64 p2)).setCell ⟨g,9,none⟩ (.int .i64 p3)).setCell ⟨g,10,none⟩ (.int .i64 p4)).setCell ⟨g,11,none⟩ (.int .i64 p5)).setCell ⟨g,12,none⟩ (.int .i64 p6)) :=
 ((((((((((((Stp.more (Stp.refl h) 0 _ (jI _)).more 1 _ (zA _ _ _)).more 2 _ (zA _ _ _)).more 3 _ (jI _)).more 4 _ (zA _ _ _)).more 5 _ (zA _ _ _)).more 6 _ (yD _)).more 7 _ (yD _)).more 8 _ (yD _)).more 9 _ (yD _)).more 10 _ (yD _)).more 11 _ (yD _)).more 12 _ (yD _)
theorem yfo (n:Int) (w:World):Calls Tryz.prog 16 #[.int .i64 n] w fun e w'=>e=.returned (.bool (zP n))∧w=w':=by
 unfold zP
 by_cases h:-12≤n
 ·have h1:decide (-12≤n)=true:=decide_eq_true h
  go_enter Tryz.func16,Tryz.ntmps16
  go_wp2_with fail
  go_ret
  exact ⟨yck (by simp [h]),rfl⟩
 ·have h1:decide (-12≤n)=false:=decide_eq_false h
  go_enter Tryz.func16,Tryz.ntmps16
  go_wp2_with fail
  go_ret
  exact ⟨yck (by simp),rfl⟩
theorem yo1 {l:List Int} {k:Nat} (h:k<l.length):uP (l.take (k+1))=(uP (l.take k)&&zP (l.getD k 0)):=by
 unfold uP
 rw [List.take_add_one,List.all_append]
 congr 1
 rw [List.getElem?_eq_getElem h,List.getD_eq_getElem?_getD,List.getElem?_eq_getElem h]
 simp
theorem yot (p0 p1 p2 p3 p4 p5 p6:Int) (k:Nat) (hk:k<7) (W:World):(Instr.index 22 (.agg #[.int .i64 p0,.int .i64 p1,.int .i64 p2,.int .i64 p3,.int .i64 p4,.int .i64 p5,.int .i64 p6]) (.int .i64 (k:Int))).run Tryz.prog W=.ok (.int .i64 ([p0,p1,p2,p3,p4,p5,p6].getD k 0)) W:=by
 rcases (show k=0∨k=1∨k=2∨k=3∨k=4∨k=5∨k=6 by omega) with rfl|rfl|rfl|rfl|rfl|rfl|rfl<;>kernel_rfl
theorem yrM (q:Rat):decide (0<yeN q)=decide (0<q):=by
 have h:=@Rat.num_nonneg q
 unfold yeN
 by_cases h1:q.num<0
 ·have h2:¬ 0≤q:=fun e=>by have:=h.2 e;omega
  rw [if_pos h1,decide_eq_false (show ¬ 0<q from fun e=>h2 (Rat.le_of_lt e))];rfl
 ·rw [if_neg h1]
  by_cases h2:q.num=0
  ·have h3:=Rat.num_eq_zero.1 h2
   subst h3
   rw [if_pos h2];rfl
  ·have h3:0≤q:=h.1 (by omega)
   have h4:q≠0:=fun e=>h2 (by rw [e];rfl)
   rw [if_neg h2,decide_eq_true (show 0<q by grind)];rfl
theorem ycK (s:ByteArray) (k:Nat) (w:World) (hs:(s.size:Int)≤1000000) (hk:k≤s.size):Calls Tryz.prog 65 #[.string s,.int .i64 (k:Int)] w fun e w'=>e=.returned (.int .i64 (yF (s.data.toList.drop k)))∧w=w':=by
 have HD:Hid (s.data.toList.length=s.size):=yA (by simp)
 go_enter Tryz.func65,Tryz.ntmps65
 go_wp2_with fail
 go_loop [5] (fun i=>∃ j:Nat,k+j≤s.size∧i=.int .i64 j∧Hid (((s.data.toList.drop k).take j).all yG=true)) (fun i=>s.size-(intOf i).toNat)
 case atStart=>exact ⟨0,by omega,rfl,yA (by simp)⟩
 case round =>
  obtain ⟨j,hj,rfl,jR⟩:=hrel
  obtain ⟨J,HJ⟩:∃ J,Hid (J=k+j):=⟨_,yA rfl⟩
  have hE:(k:Int)+(j:Int)=(J:Int):=by rw [HJ.out];rfl
  have hWr:IntKind.i64.wrap (J:Int)=(J:Int):=IntWalk.i64_in _ (by have:=HJ.out;omega)
  have hJ2:J≤s.size:=by rw [HJ.out];exact hj
  have HLD:Hid ((s.data.toList.drop k).length=s.size-k):=yA (by simp)
  by_cases hlt:J<s.size
  ·have hjl:j<(s.data.toList.drop k).length:=by rw [HLD.out];have:=HJ.out;omega
   have hb:Hid (∀ d,yG s[J]=d→yG (s.data.toList.drop k)[j]=d):=yA (fun d h=>by
    have e:(s.data.toList.drop k)[j]=s[J]:=by
     rw [List.getElem_drop]
     have:k+j=J:=HJ.out.symm
     simp only [this];rfl
    rw [e];exact h)
   have hjs:j≤s.size:=by have:=HJ.out;omega
   rcases (show (s[J].toNat:Int)<48∨(57:Int)<s[J].toNat∨((48:Int)≤s[J].toNat∧(s[J].toNat:Int)≤57) from by omega) with h0|h1|⟨h2a,h2b⟩
   ·have hf:Hid (yF (s.data.toList.drop k)=j):=yA (uU _ _ j (by omega) jR.out (.inr ⟨hjl,hb.out _ (by simp [yG];omega)⟩))
    clear hb hj hjl
    go_wp2
    go_ret
    exact ⟨by rw [hf.out];rfl,rfl⟩
   ·have hf:Hid (yF (s.data.toList.drop k)=j):=yA (uU _ _ j (by omega) jR.out (.inr ⟨hjl,hb.out _ (by simp [yG];omega)⟩))
    clear hb hj hjl
    go_wp2
    go_ret
    exact ⟨by rw [hf.out];rfl,rfl⟩
   ·have hn:Hid (((s.data.toList.drop k).take (j+1)).all yG=true):=yA (uH _ _ j hjl jR.out (hb.out _ (by simp [yG];omega)))
    have hjn:Hid (k+(j+1)≤s.size):=yA (by have:=HJ.out;omega)
    clear hb hj hjl
    go_wp2
    go_round
    case rel=>exact ⟨j+1,hjn.out,by go_num,hn⟩
    case measure=>simp [intOf];omega
  ·have hf:Hid (yF (s.data.toList.drop k)=j):=yA (uU _ _ j (by rw [HLD.out];have:=HJ.out;omega) jR.out (.inl (by rw [HLD.out];have:=HJ.out;omega)))
   obtain rfl:J=s.size:=by omega
   clear hj
   go_wp2
   go_ret
   exact ⟨by rw [hf.out];rfl,rfl⟩
theorem ybp (s:ByteArray) (w:World) (hs:(s.size:Int)≤1000000):Calls Tryz.prog 63 #[.string s] w fun e w'=>e=.returned (.int .i64 (zG s.data.toList))∧w=w':=by
 go_enter Tryz.func63,Tryz.ntmps63
 go_wp2_with fail
 go_loop [3] (fun i=>∃ k:Nat,k≤s.size∧i=.int .i64 k∧Hid ((s.data.toList.take k).all GI=true)) (fun i=>s.size-(intOf i).toNat)
 case atStart=>exact ⟨0,Nat.zero_le _,rfl,yA (by simp)⟩
 case round =>
  obtain ⟨k,hk,rfl,jR⟩:=hrel
  by_cases hlt:k<s.size
  ·have hkl:k<s.data.toList.length:=by simpa using hlt
   have hb:Hid (∀ d,GI s[k]=d→GI s.data.toList[k]=d):=yA (fun d h=>h)
   have ya5:((97:Int)≤s[k].toNat∧(s[k].toNat:Int)≤122)∨(((s[k].toNat:Int)<97∨(122:Int)<s[k].toNat)∧((65:Int)≤s[k].toNat∧(s[k].toNat:Int)≤90))∨((s[k].toNat:Int)<65)∨((90:Int)<s[k].toNat∧(s[k].toNat:Int)<97)∨((122:Int)<s[k].toNat):=by omega
   rcases ya5 with ⟨h1,h2⟩|⟨h0,h1,h2⟩|h1|⟨h1,h2⟩|h1
   ·have hn:Hid ((s.data.toList.take (k+1)).all GI=true):=yA (uH _ _ k hkl jR.out (hb.out _ (by simp [GI];omega)))
    go_wp2
    go_round
    case rel=>exact ⟨k+1,by omega,by go_num,hn⟩
    case measure=>simp [intOf];omega
   ·have hn:Hid ((s.data.toList.take (k+1)).all GI=true):=yA (uH _ _ k hkl jR.out (hb.out _ (by simp [GI];omega)))
    have h3:(s[k].toNat:Int)<97:=by omega
    clear h0
    go_wp2
    go_round
    case rel=>exact ⟨k+1,by omega,by go_num,hn⟩
    case measure=>simp [intOf];omega
   ·have hf:Hid (zG s.data.toList=k):=yA (uU _ _ k (by omega) jR.out (.inr ⟨hkl,hb.out _ (by simp [GI];omega)⟩))
    have h3:(s[k].toNat:Int)<97:=by omega
    go_wp2
    go_ret
    exact ⟨by rw [hf.out];rfl,rfl⟩
   ·have hf:Hid (zG s.data.toList=k):=yA (uU _ _ k (by omega) jR.out (.inr ⟨hkl,hb.out _ (by simp [GI];omega)⟩))
    have h3:(65:Int)≤s[k].toNat:=by omega
    go_wp2
    go_ret
    exact ⟨by rw [hf.out];rfl,rfl⟩
   ·have hf:Hid (zG s.data.toList=k):=yA (uU _ _ k (by omega) jR.out (.inr ⟨hkl,hb.out _ (by simp [GI];omega)⟩))
    have h3:(97:Int)≤s[k].toNat:=by omega
    have h4:(65:Int)≤s[k].toNat:=by omega
    have h5:(90:Int)<s[k].toNat:=by omega
    go_wp2
    go_ret
    exact ⟨by rw [hf.out];rfl,rfl⟩
  ·have hf:Hid (zG s.data.toList=k):=yA (uU _ _ k (by simpa using hk) jR.out (.inl (by simp;omega)))
   obtain rfl:k=s.size:=by omega
   go_wp2
   go_ret
   exact ⟨by rw [hf.out];rfl,rfl⟩
def ycg (l:List UInt8):Nat:=if yF l=0 then 0 else vH l
theorem yqq {l:List UInt8} (h:l.length≤yF l+1):vH l=yF l:=by
 unfold vH
 split
 ·rename_i c t e
  have:=congrArg List.length e
  rw [List.length_drop,List.length_cons] at this
  obtain rfl:t=[]:=List.eq_nil_of_length_eq_zero (by omega)
  rw [if_neg (by simp [yF])]
 ·rfl
theorem yrN {l:List UInt8} {c:UInt8} (h:yF l<l.length) (hc:l[yF l]=c):vH l=if (c==46 || c==47)&&decide (0<yF (l.drop (yF l+1))) then yF l+1+yF (l.drop (yF l+1)) else yF l:=by
 unfold vH
 rw [List.drop_eq_getElem_cons h,hc]
def whF (e:Int) (c:UInt8):Int:=if e<1000 then 10*e+((c.toNat:Int)-48) else e
def whL (l:List UInt8):Int:=l.foldl whF 0
def whT (l:List UInt8):Int:=min (whL l) 1000
theorem yrO (l:List UInt8):∀ (e1 e2:Int),l.all yG=true→(e1=e2∧0≤e1)∨(12<e1∧12<e2) →
  (
   let a:=l.foldl (fun (e:Int) c=>if e≤12 then e*10+((c.toNat:Int)-48) else e) e1
   let b:=l.foldl whF e2
   (a=b∧0≤a)∨(12<a∧12<b)):=by
 induction l with
 | nil=>intro e1 e2 _ h;exact h
 | cons c l ih =>
  intro e1 e2 hd h
  simp only [List.all_cons,Bool.and_eq_true] at hd
  have hc:(48:Int)≤c.toNat:=by
   have:=hd.1
   unfold yG at this
   simp only [Bool.and_eq_true,decide_eq_true_eq] at this
   omega
  simp only [List.foldl_cons]
  refine ih _ _ hd.2 ?_
  unfold whF
  rcases h with ⟨rfl,h0⟩|⟨h1,h2⟩
  ·by_cases h12:e1≤12
   ·rw [if_pos h12,if_pos (by omega)];exact .inl ⟨by omega,by omega⟩
   ·rw [if_neg h12]
    refine .inr ⟨by omega,?_⟩
    split<;>omega
  ·rw [if_neg (by omega)]
   refine .inr ⟨h1,?_⟩
   split<;>omega
theorem ye0 {l:List UInt8} (h:l.all yG=true):(vG l=whT l∧0≤whT l∧whT l≤1000)∨(12<vG l∧12<whT l∧whT l≤1000):=by
 have:=yrO l 0 0 h (.inl ⟨rfl,by omega⟩)
 unfold vG whT whL
 simp only at this
 generalize List.foldl whF 0 l=b at this ⊢
 generalize List.foldl (fun (e:Int) c=>if e≤12 then e*10+((c.toNat:Int)-48) else e) 0 l=a at this ⊢
 rcases this with ⟨rfl,h0⟩|⟨h1,h2⟩
 ·by_cases h1:a≤1000
  ·exact .inl ⟨by omega,by omega,by omega⟩
  ·exact .inr ⟨by omega,by omega,by omega⟩
 ·exact .inr ⟨by omega,by omega,by omega⟩
theorem yaQ (s:ByteArray) (w:World) (hs:(s.size:Int)≤1000000):Calls Tryz.prog 61 #[.string s] w fun e w'=>e=.returned (.int .i64 (ycg s.data.toList:Nat))∧w=w':=by
 have HR:=yA (fun W=>ybj s W hs)
 obtain ⟨n,HN⟩:∃ n,Hid (yF s.data.toList=n):=⟨_,yA rfl⟩
 rw [HN.out] at HR
 have HL:Hid (s.data.toList.length=s.size):=yA (by simp)
 have HNS:Hid (n≤s.size):=yA (by rw [← HN.out,← HL.out];exact vN _)
 by_cases h0:n=0
 ·subst h0
  have HV:Hid (ycg s.data.toList=0):=yA (by unfold ycg;rw [if_pos HN.out])
  rw [HV.out]
  go_enter Tryz.func61,Tryz.ntmps61
  go_wp2_with fail
  refine (HR.out _).mono ?_
  rintro e w' ⟨rfl,rfl⟩
  go_wp2_with fail
  go_ret
  exact ⟨rfl,rfl⟩
 have HV:Hid (ycg s.data.toList=vH s.data.toList):=yA (by unfold ycg;rw [if_neg (by rw [HN.out];exact h0)])
 rw [HV.out]
 have hn0:(0:Int)<(n:Int):=by omega
 have hns:(n:Int)≤1000000:=by have:=HNS.out;omega
 by_cases h1:s.size≤n+1
 ·have HT:Hid (vH s.data.toList=n):=yA (by rw [yqq (by rw [HL.out,HN.out];exact h1),HN.out])
  rw [HT.out]
  have h1n:¬ (n:Int)+1<(s.size:Int):=by omega
  go_enter Tryz.func61,Tryz.ntmps61
  go_wp2_with fail
  refine (HR.out _).mono ?_
  rintro e w' ⟨rfl,rfl⟩
  go_wp2_with fail
  go_ret
  exact ⟨rfl,rfl⟩
 have hlt:n<s.size:=by omega
 have h1i:(n:Int)+1<(s.size:Int):=by omega
 have HAT:Hid (∀ c,s[n]=c→vH s.data.toList=if (c==46 || c==47)&&decide (0<yF (s.data.toList.drop (n+1))) then n+1+yF (s.data.toList.drop (n+1)) else n):=yA (fun c hc=>by
  have h:=yrN (l:=s.data.toList) (c:=c) (by rw [HN.out,HL.out];exact hlt) (by
   have e:yF s.data.toList=n:=HN.out
   simp only [e];exact hc)
  rwa [HN.out] at h)
 have HR2:Hid (∀ W,Calls Tryz.prog 65 #[.string s,.int .i64 ((n:Int)+1)] W fun e w'=>e=.returned (.int .i64 (yF (s.data.toList.drop (n+1))))∧W=w'):=yA (fun W=>ycK s (n+1) W hs (by omega))
 obtain ⟨k,HK⟩:∃ k,Hid (yF (s.data.toList.drop (n+1))=k):=⟨_,yA rfl⟩
 rw [HK.out] at HR2 HAT
 have hk:(k:Int)≤1000000:=by
  rw [← HK.out]
  have:=vN (s.data.toList.drop (n+1))
  rw [List.length_drop,HL.out] at this
  omega
 obtain ⟨b,HB⟩:∃ b,Hid (s[n]=b):=⟨_,yA rfl⟩
 have HAB:=yA (HAT.out b HB.out)
 by_cases hp:b=46∨b=47
 ·have ya5:((b.toNat:Int)==46)=true∨(((b.toNat:Int)==46)=false∧((b.toNat:Int)==47)=true):=by
   rcases hp with rfl|rfl
   ·exact .inl rfl
   ·exact .inr ⟨rfl,rfl⟩
  have hpb:(b==46 || b==47)=true:=by rcases hp with rfl|rfl<;>rfl
  by_cases hk0:k=0
  ·subst hk0
   have HT:Hid (vH s.data.toList=n):=yA (by rw [HAB.out];simp)
   rw [HT.out]
   rcases ya5 with hb1|⟨hb1,hb2⟩
   all_goals
    go_enter Tryz.func61,Tryz.ntmps61
    go_wp2_with fail
    refine (HR.out _).mono ?_
    rintro e w' ⟨rfl,rfl⟩
    go_wp2_with (rw [HB.out])
    refine (HR2.out _).mono ?_
    rintro e w' ⟨rfl,rfl⟩
    go_wp2_with fail
    go_ret
    exact ⟨rfl,rfl⟩
  ·have HT:Hid (vH s.data.toList=n+1+k):=yA (by rw [HAB.out,hpb];simp;omega)
   rw [HT.out]
   have hkp:(0:Int)<(k:Int):=by omega
   rcases ya5 with hb1|⟨hb1,hb2⟩
   all_goals
    go_enter Tryz.func61,Tryz.ntmps61
    go_wp2_with fail
    refine (HR.out _).mono ?_
    rintro e w' ⟨rfl,rfl⟩
    go_wp2_with (rw [HB.out])
    refine (HR2.out _).mono ?_
    rintro e w' ⟨rfl,rfl⟩
    go_wp2_with fail
    go_ret
    exact ⟨by simp,rfl⟩
 ·have HT:Hid (vH s.data.toList=n):=yA (by
   rw [HAB.out,show (b==46 || b==47)=false by simp only [not_or] at hp;simp [hp.1,hp.2]];simp)
  rw [HT.out]
  have hb1:((b.toNat:Int)==46)=false:=by
   rw [beq_eq_false_iff_ne];intro e;exact hp (.inl (UInt8.toNat_inj.1 ((by omega:b.toNat=46))))
  have hb2:((b.toNat:Int)==47)=false:=by
   rw [beq_eq_false_iff_ne];intro e;exact hp (.inr (UInt8.toNat_inj.1 ((by omega:b.toNat=47))))
  go_enter Tryz.func61,Tryz.ntmps61
  go_wp2_with fail
  refine (HR.out _).mono ?_
  rintro e w' ⟨rfl,rfl⟩
  go_wp2_with (rw [HB.out])
  go_ret
  exact ⟨rfl,rfl⟩
theorem ydO (s:ByteArray) (w:World) (hs:(s.size:Int)≤1000000) (hd:Hid (s.data.toList.all yG=true)):Calls Tryz.prog 66 #[.string s] w fun e w'=>e=.returned (.int .i64 (whT s.data.toList))∧w=w':=by
 have HL:Hid (s.data.toList.length=s.size):=yA (by simp)
 have HDB:Hid (∀ k (h:k<s.size),(48:Int)≤s[k].toNat∧(s[k].toNat:Int)≤57):=yA (fun k h=>by
  have h1:=List.all_eq_true.1 hd.out s[k] (by rw [show s[k]=s.data.toList[k]'(by simpa using h) from rfl];exact List.getElem_mem _)
  unfold yG at h1
  simp only [Bool.and_eq_true,decide_eq_true_eq] at h1
  omega)
 go_enter Tryz.func66,Tryz.ntmps66
 go_wp2_with fail
 go_loop [3,4] (fun nv iv=>∃ (k:Nat) (x:Int),k≤s.size∧iv=.int .i64 (k:Int)∧nv=.int .i64 x∧0≤x∧x≤10000∧Hid ((s.data.toList.take k).foldl whF 0=x)) (fun _ iv=>s.size-(intOf iv).toNat)
 case atStart=>exact ⟨0,0,Nat.zero_le _,rfl,rfl,by omega,by omega,yA rfl⟩
 case round =>
  obtain ⟨k,x,hk,rfl,rfl,hx0,hx1,HF⟩:=hrel
  by_cases hlt:k<s.size
  ·have hkl:k<s.data.toList.length:=by simpa using hlt
   have HS:Hid (whF x s[k]=(s.data.toList.take (k+1)).foldl whF 0):=yA (by
    rw [List.take_succ_eq_append_getElem hkl,List.foldl_append,HF.out];rfl)
   have hb:=HDB.out k hlt
   by_cases hm:x<1000
   ·have yhf:((s[k].toNat:Int)-48)=((s[k].toNat-48:Nat):Int):=by omega
    have HN:Hid (10*x+((s[k].toNat:Int)-48)=(s.data.toList.take (k+1)).foldl whF 0):=yA (by rw [← HS.out];unfold whF;rw [if_pos hm])
    have hw1:IntKind.u8.wrap ((s[k].toNat:Int)-48)=(s[k].toNat:Int)-48:=IntWalk.u8_in _ (by omega)
    clear yhf
    go_wp2_with fail
    go_round
    case rel=>exact ⟨k+1,10*x+((s[k].toNat:Int)-48),by omega,by go_num,by first|rfl|go_num,by omega,by omega,yA HN.out.symm⟩
    case measure=>simp [intOf];omega
   ·have HW:Hid (whT s.data.toList=1000):=yA (by
     have hfix:∀ (l:List UInt8) (y:Int),1000≤y→l.foldl whF y=y:=by
      intro l
      induction l with
      | nil=>intro y _;rfl
      | cons c l ih=>intro y hy;rw [List.foldl_cons,show whF y c=y by unfold whF;rw [if_neg (by omega)]];exact ih y hy
     unfold whT whL
     conv=>lhs;rw [← List.take_append_drop k s.data.toList]
     rw [List.foldl_append,HF.out,hfix _ x (by omega)]
     omega)
    have hmn:¬ x≤1000∨x=1000:=by omega
    go_wp2_with fail
    go_ret
    exact ⟨by rw [HW.out];simp;omega,rfl⟩
  ·obtain rfl:k=s.size:=by omega
   have HW:Hid (whT s.data.toList=min x 1000):=yA (by
    unfold whT whL
    rw [← HF.out,List.take_of_length_le (by rw [HL.out];exact Nat.le_refl _)])
   go_wp2_with fail
   go_ret
   exact ⟨by rw [HW.out];rfl,rfl⟩
end
end Go.Proofs.YtfjnipkpfbkegaaGreatDoor
