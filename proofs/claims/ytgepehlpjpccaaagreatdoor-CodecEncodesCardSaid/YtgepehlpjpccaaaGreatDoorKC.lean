/- Contracts. -/
import Derived.Test.YtgepehlpjpccaaaGreatDoorQM
set_option maxHeartbeats 4000000
set_option maxRecDepth 100000
namespace Go.Proofs.YtgepehlpjpccaaaGreatDoor
section
open Go.RowKit Big List
open Go.Lib
theorem yto (w:World):Calls Tryz.prog 96 #[.string ⟨#[]⟩] w (Rp (.bool true) w):=by
 go_in
 go_wp2
 go_ret
 exact ⟨rfl,Below.refl _ _⟩
theorem yqq (l:Lb) (_hl:¬ l=[]) (hl2:l.isEmpty=false) (f:Bool) (w:World) (h20:Hid (∀ W,Be w W→Calls Tryz.prog 118 #[.string ⟨l.toArray⟩] W (Rp (.bool f) W))):Calls Tryz.prog 96 #[.string ⟨l.toArray⟩] w (Rp (.bool f) w):=by
 go_in
 go_wp2_with fail
 refine (h20.out _ bR).mono ?_
 rintro e w1 ⟨rfl,hb⟩
 have B1:=yA (hb)
 clear hb
 go_wp2
 go_ret
 exact ⟨rfl,B1.out⟩
theorem yqr (x:ByteArray) (k:Int) (h1:k<1) (w:World):Calls Tryz.prog 50 #[.int .i64 k,.string x] w (Rp (.bool false) w):=by
 go_in
 go_wp2
 go_ret
 exact ⟨rfl,Below.refl _ _⟩
theorem yoe (x:ByteArray) (k:Int) (h1:¬ k<1) (h2:5<k) (w:World):Calls Tryz.prog 50 #[.int .i64 k,.string x] w (Rp (.bool false) w):=by
 go_in
 go_wp2
 go_ret
 exact ⟨rfl,Below.refl _ _⟩
theorem yqs (x:ByteArray) (k:Int) (h1:¬ k<1) (h2:¬ 5<k) (w:World) (ygw:Hid (∀ W,Be w W→Calls Tryz.prog 96 #[.string x] W (Rp (.bool false) W))):Calls Tryz.prog 50 #[.int .i64 k,.string x] w (Rp (.bool false) w):=by
 go_in
 go_wp2_with fail
 refine (ygw.out _ bR).mono ?_
 rintro e w1 ⟨rfl,hb⟩
 have B1:=yA (hb)
 clear hb
 go_wp2
 go_ret
 exact ⟨rfl,B1.out⟩
theorem yqt (k:Int) (h1:¬ k<1) (h2:¬ 5<k) (w:World) (ygw:Hid (∀ W,Be w W→Calls Tryz.prog 96 #[.string ⟨#[]⟩] W (Rp (.bool true) W))):Calls Tryz.prog 50 #[.int .i64 k,.string ⟨#[]⟩] w (Rp (.bool true) w):=by
 go_in
 go_wp2_with fail
 refine (ygw.out _ bR).mono ?_
 rintro e w1 ⟨rfl,hb⟩
 have B1:=yA (hb)
 clear hb
 go_wp2
 go_ret
 exact ⟨rfl,B1.out⟩
theorem yqu (l:Lb) (_hl:¬ l=[]) (hl2:l.isEmpty=false) (w:World) (ygw:Hid (∀ W,Be w W→Calls Tryz.prog 96 #[.string ⟨l.toArray⟩] W (Rp (.bool true) W))):Calls Tryz.prog 50 #[.int .i64 5,.string ⟨l.toArray⟩] w (Rp (.bool true) w):=by
 go_in
 go_wp2_with fail
 refine (ygw.out _ bR).mono ?_
 rintro e w1 ⟨rfl,hb⟩
 have B1:=yA (hb)
 clear hb
 go_wp2
 go_ret
 exact ⟨rfl,B1.out⟩
theorem yof (l:Lb) (_hl:¬ l=[]) (hl2:l.isEmpty=false) (k:Int) (C:Nat) (hk:(k=1∧C=7)∨(k=2∧C=15)∨(k=3∧C=31)∨(k=4∧C=63)) (q lim:Rat) (f res:Bool) (c1 c2:Int)
  (ygd:Hid ((f=false∧res=false)∨(f=true∧¬ 0≤c1∧res=false)∨(f=true∧0≤c1∧res=decide (c2<0)))) (w:World)
  (ygw:Hid (∀ W,Be w W→Calls Tryz.prog 96 #[.string ⟨l.toArray⟩] W (Rp (.bool true) W))) (h40:Hid (∀ W,Be w W→Calls Tryz.prog 31 #[.string ⟨l.toArray⟩] W (zY q true W)))
  (h97:Hid (∀ W,Calls Tryz.prog 67 #[] W (zC 1 W))) (h78:Hid (∀ W,Calls Tryz.prog 66 #[.int .u64 2] W (zC 2 W))) (h99:Hid (∀ W u v i,i≤63→yE W u (2^i)→yE W v 2→Calls Tryz.prog 70 #[u,v] W (zC (2^(i+1)) W)))
  (h98:Hid (∀ W u v,yE W u (2^C)→yE W v 1→Calls Tryz.prog 65 #[.bool false,u,v] W (ye3 lim W))) (h44:Hid (∀ W u,jL W u q→Calls Tryz.prog 97 #[u] W (Rp (.bool f) W)))
  (h43:Hid (∀ W u,jL W u lim→Calls Tryz.prog 53 #[u] W (ye3 (-lim) W))) (h46:Hid (∀ W u v,jL W u q→jL W v (-lim)→Calls Tryz.prog 52 #[u,v] W (Rp (.int .i64 c1) W)))
  (h47:Hid (∀ W u v,jL W u q→jL W v lim→Calls Tryz.prog 52 #[u,v] W (Rp (.int .i64 c2) W))):Calls Tryz.prog 50 #[.int .i64 k,.string ⟨l.toArray⟩] w (Rp (.bool res) w):=by
 rcases hk with ⟨rfl,hC⟩|⟨rfl,hC⟩|⟨rfl,hC⟩|⟨rfl,hC⟩
 all_goals
  have HC:=yA hC
  clear hC
  go_in
  go_wp2_with fail
  refine (ygw.out _ bR).mono ?_
  rintro e w1 ⟨rfl,hb⟩
  have B1:=yA hb
  clear hb
  go_wp2_with fail
  refine (h40.out _ B1.out).mono ?_
  rintro e w2 ⟨g2,p2,n2,c2',q2,m2,d2,rfl,hb,hq⟩
  have K2:=yA ((Keep.next (L:=[]) ⟨B1.out,fun _ h=>by cases h⟩ hb).more #[.bool g2,.slice p2 n2 c2',.slice q2 m2 d2] 59)
  have Q2:=yA ((hq rfl).below (yC w2 (.cells #[.bool g2,.slice p2 n2 c2',.slice q2 m2 d2] 59)))
  clear hb hq B1
  go_wp2_with fail
  refine (h97.out _).mono ?_
  rintro e w3 ⟨v3,rfl,hv,hb,-⟩
  have hst:Hid (∃ i:Nat,i≤C∧Value.int .i64 0=.int .i64 (i:Int)∧Hid (Keep w w3 [(w2.heap.size,#[.bool g2,.slice p2 n2 c2',.slice q2 m2 d2],59)]∧jL w3 (.agg #[.bool g2,.slice p2 n2 c2',.slice q2 m2 d2]) q∧yE w3 v3 (2^i))):=yA ⟨0,by omega,rfl,yA ⟨K2.out.next hb,Q2.out.below hb,hv⟩⟩
  clear hb hv K2 Q2
  go_wp2
  go_loopw [7,37] (fun mv iv wr=>∃ i:Nat,i≤C∧iv=.int .i64 (i:Int)∧Hid (Keep w wr [(w2.heap.size,#[.bool g2,.slice p2 n2 c2',.slice q2 m2 d2],59)]∧jL wr (.agg #[.bool g2,.slice p2 n2 c2',.slice q2 m2 d2]) q∧yE wr mv (2^i))) (fun _ iv _=>C-(intOf iv).toNat)
  case atStart=>exact hst.out
  case round =>
   obtain ⟨i,hi,rfl,yK⟩:=hrel
   by_cases hlt:i<C
   ·have hC:=HC.out
    first|have hlt':(i:Int)<7:=by omega|have hlt':(i:Int)<15:=by omega|have hlt':(i:Int)<31:=by omega|have hlt':(i:Int)<63:=by omega
    have hi63:Hid (i≤63):=yA (by omega)
    clear hC
    clear hlt
    go_wp2_with fail
    refine (h78.out _).mono ?_
    rintro e w4 ⟨v4,rfl,hv4,hb4,-⟩
    have hc:=yA (h99.out w4 _ _ i hi63.out (yK.out.2.2.below hb4) hv4)
    have hk4:=yA (yK.out.1.next hb4)
    have hq4:=yA (yK.out.2.1.below hb4)
    clear hv4 hb4 yK
    go_wp2_with fail
    refine hc.out.mono ?_
    rintro e w5 ⟨v5,rfl,hv5,hb5,-⟩
    have hnx:=yA (And.intro (hk4.out.next hb5) (And.intro (hq4.out.below hb5) hv5))
    clear hv5 hb5 hc
    go_wp2
    go_roundw
    case rel=>exact ⟨i+1,by have:=HC.out;omega,by go_num,hnx⟩
    case measure=>simp [intOf];have:=HC.out;omega
   ·obtain rfl:i=C:=by omega
    have hC:=HC.out
    subst hC
    clear HC
    go_wp2_with fail
    refine (h97.out _).mono ?_
    rintro e w5 ⟨v5,rfl,hv5,hb5,-⟩
    have hc:=yA (h98.out w5 _ _ (yK.out.2.2.below hb5) hv5)
    have hk5:=yA (yK.out.1.next hb5)
    have hq5:=yA (yK.out.2.1.below hb5)
    clear hv5 hb5 yK
    go_wp2_with fail
    refine hc.out.mono ?_
    rintro e w6 ⟨g6,p6,n6,c6,q6,m6,d6,rfl,hz,hb⟩
    have K6:=yA ((hk5.out.next hb).more #[.bool g6,.slice p6 n6 c6,.slice q6 m6 d6] 59)
    have QL:=yA (hz.below (yC w6 (.cells #[.bool g6,.slice p6 n6 c6,.slice q6 m6 d6] 59)))
    have QR:=yA ((hq5.out.below hb).below (yC w6 (.cells #[.bool g6,.slice p6 n6 c6,.slice q6 m6 d6] 59)))
    have HR:=yA K6.out.below
    have KR:=yA (Keep.mk bR K6.out.all:Keep (w6.alloc (.cells #[.bool g6,.slice p6 n6 c6,.slice q6 m6 d6] 59)) (w6.alloc (.cells #[.bool g6,.slice p6 n6 c6,.slice q6 m6 d6] 59)) [(w6.heap.size,#[.bool g6,.slice p6 n6 c6,.slice q6 m6 d6],59),(w2.heap.size,#[.bool g2,.slice p2 n2 c2',.slice q2 m2 d2],59)])
    have KB:Hid (∀ W,Keep (w6.alloc (.cells #[.bool g6,.slice p6 n6 c6,.slice q6 m6 d6] 59)) W [(w6.heap.size,#[.bool g6,.slice p6 n6 c6,.slice q6 m6 d6],59),(w2.heap.size,#[.bool g2,.slice p2 n2 c2',.slice q2 m2 d2],59)]→(fun w'=>Keep (w6.alloc (.cells #[.bool g6,.slice p6 n6 c6,.slice q6 m6 d6] 59)) w' [(w6.heap.size,#[.bool g6,.slice p6 n6 c6,.slice q6 m6 d6],59),(w2.heap.size,#[.bool g2,.slice p2 n2 c2',.slice q2 m2 d2],59)]∧w'.cell? ⟨w6.heap.size,0,none⟩=some (.bool g6)∧w'.cell? ⟨w6.heap.size,1,none⟩=some (.slice p6 n6 c6)∧w'.cell? ⟨w6.heap.size,2,none⟩=some (.slice q6 m6 d6)∧w'.cell? ⟨w2.heap.size,0,none⟩=some (.bool g2)∧w'.cell? ⟨w2.heap.size,1,none⟩=some (.slice p2 n2 c2')∧w'.cell? ⟨w2.heap.size,2,none⟩=some (.slice q2 m2 d2)) W):=yA fun W h=>⟨h,zO (h.one _ (List.mem_cons_self ..)) 0,zO (h.one _ (List.mem_cons_self ..)) 1,zO (h.one _ (List.mem_cons_self ..)) 2,zO (h.one _ (List.mem_cons_of_mem _ (List.mem_cons_self ..))) 0,zO (h.one _ (List.mem_cons_of_mem _ (List.mem_cons_self ..))) 1,zO (h.one _ (List.mem_cons_of_mem _ (List.mem_cons_self ..))) 2⟩
    clear hz hb K6 hk5 hq5 hc
    go_wp2_with fail
    refine wp_region_held_drew (S:=fun w'=>Keep (w6.alloc (.cells #[.bool g6,.slice p6 n6 c6,.slice q6 m6 d6] 59)) w' [(w6.heap.size,#[.bool g6,.slice p6 n6 c6,.slice q6 m6 d6],59),(w2.heap.size,#[.bool g2,.slice p2 n2 c2',.slice q2 m2 d2],59)]∧w'.cell? ⟨w6.heap.size,0,none⟩=some (.bool g6)∧w'.cell? ⟨w6.heap.size,1,none⟩=some (.slice p6 n6 c6)∧w'.cell? ⟨w6.heap.size,2,none⟩=some (.slice q6 m6 d6)∧w'.cell? ⟨w2.heap.size,0,none⟩=some (.bool g2)∧w'.cell? ⟨w2.heap.size,1,none⟩=some (.slice p2 n2 c2')∧w'.cell? ⟨w2.heap.size,2,none⟩=some (.slice q2 m2 d2)) (by kernel_rfl) (KB.out _ (Keep.drew KR.out)) (fun hHeld=>?_)
    refine tk (i:=0) (v:=(.agg #[.bool g2,.slice p2 n2 c2',.slice q2 m2 d2])) rfl (Or.inl ⟨by rfl,by intro W hSw;clear hHeld;go_split_ands;go_simp⟩) ?_
    simp only [getElem_toArray,getElem_cons_zero,Act.put,setIfInBounds_toArray,set_cons_zero,set_cons_succ]
    refine oN (i:=1) rfl fun K hK=>?_
    go_simp
    refine (h44.out _ _ (QR.out.below hHeld.1.below)).mono ?_
    rintro e v1 ⟨rfl,hb1⟩
    go_simp
    refine hK.out _ _ (KB.out _ (hHeld.1.next hb1)) (fun hHeld=>?_)
    clear hK K
    rcases ygd.out with h0|h0|h0
    ·obtain ⟨rfl,rfl⟩:=h0
     refine tk (i:=2) (v:=(.bool false)) rfl (Or.inl ⟨by rfl,by intro W hSw;clear hHeld;go_split_ands;go_simp⟩) ?_
     simp only [getElem_toArray,getElem_cons_zero,getElem_cons_succ,Act.put,setIfInBounds_toArray,set_cons_zero,set_cons_succ]
     refine tu (i:=3) rfl ?_
     simp only [getElem_toArray,getElem_cons_zero,getElem_cons_succ,Act.put,setIfInBounds_toArray,set_cons_zero,set_cons_succ]
     refine tu (i:=4) rfl ?_
     simp only [getElem_toArray,getElem_cons_zero,getElem_cons_succ,Act.put,setIfInBounds_toArray,set_cons_zero,set_cons_succ]
     refine tu (i:=5) rfl ?_
     simp only [getElem_toArray,getElem_cons_zero,getElem_cons_succ,Act.put,setIfInBounds_toArray,set_cons_zero,set_cons_succ]
     refine tu (i:=6) rfl ?_
     simp only [getElem_toArray,getElem_cons_zero,getElem_cons_succ,Act.put,setIfInBounds_toArray,set_cons_zero,set_cons_succ]
     refine tu (i:=7) rfl ?_
     simp only [getElem_toArray,getElem_cons_zero,getElem_cons_succ,Act.put,setIfInBounds_toArray,set_cons_zero,set_cons_succ]
     refine tk (i:=8) (v:=(.bool false)) rfl (Or.inl ⟨by rfl,by intro W hSw;clear hHeld;go_split_ands;go_simp⟩) ?_
     simp only [getElem_toArray,getElem_cons_zero,getElem_cons_succ,Act.put,setIfInBounds_toArray,set_cons_zero,set_cons_succ]
     refine tk (i:=9) (v:=(.bool false)) rfl (Or.inl ⟨by rfl,by intro W hSw;clear hHeld;go_split_ands;go_simp⟩) ?_
     simp only [getElem_toArray,getElem_cons_zero,getElem_cons_succ,Act.put,setIfInBounds_toArray,set_cons_zero,set_cons_succ]
     refine tu (i:=10) rfl ?_
     simp only [getElem_toArray,getElem_cons_zero,getElem_cons_succ,Act.put,setIfInBounds_toArray,set_cons_zero,set_cons_succ]
     refine tu (i:=11) rfl ?_
     simp only [getElem_toArray,getElem_cons_zero,getElem_cons_succ,Act.put,setIfInBounds_toArray,set_cons_zero,set_cons_succ]
     refine tu (i:=12) rfl ?_
     simp only [getElem_toArray,getElem_cons_zero,getElem_cons_succ,Act.put,setIfInBounds_toArray,set_cons_zero,set_cons_succ]
     refine tu (i:=13) rfl ?_
     simp only [getElem_toArray,getElem_cons_zero,getElem_cons_succ,Act.put,setIfInBounds_toArray,set_cons_zero,set_cons_succ]
     refine tk (i:=14) (v:=(.bool false)) rfl (Or.inl ⟨by rfl,by intro W hSw;clear hHeld;go_split_ands;go_simp⟩) ?_
     simp only [getElem_toArray,getElem_cons_zero,getElem_cons_succ,Act.put,setIfInBounds_toArray,set_cons_zero,set_cons_succ]
     refine tk (i:=15) (v:=(.bool false)) rfl (Or.inl ⟨by rfl,by intro W hSw;clear hHeld;go_split_ands;go_simp⟩) ?_
     simp only [getElem_toArray,getElem_cons_zero,getElem_cons_succ,Act.put,setIfInBounds_toArray,set_cons_zero,set_cons_succ]
     refine wpAnyH_done (by kernel_rfl) ?_ _
     go_wp2
     go_ret
     exact ⟨rfl,HR.out.trans (Below.mono hHeld.1.below HR.out.size)⟩
    all_goals
     obtain ⟨rfl,h1,rfl⟩:=h0
     refine tk (i:=2) (v:=(.bool true)) rfl (Or.inl ⟨by rfl,by intro W hSw;clear hHeld;go_split_ands;go_simp⟩) ?_
     simp only [getElem_toArray,getElem_cons_zero,getElem_cons_succ,Act.put,setIfInBounds_toArray,set_cons_zero,set_cons_succ]
     refine tk (i:=3) (v:=(.agg #[.bool g2,.slice p2 n2 c2',.slice q2 m2 d2])) rfl (Or.inl ⟨by rfl,by intro W hSw;clear hHeld;go_split_ands;go_simp⟩) ?_
     simp only [getElem_toArray,getElem_cons_zero,getElem_cons_succ,Act.put,setIfInBounds_toArray,set_cons_zero,set_cons_succ]
     refine tk (i:=4) (v:=(.agg #[.bool g6,.slice p6 n6 c6,.slice q6 m6 d6])) rfl (Or.inl ⟨by rfl,by intro W hSw;clear hHeld;go_split_ands;go_simp⟩) ?_
     simp only [getElem_toArray,getElem_cons_zero,getElem_cons_succ,Act.put,setIfInBounds_toArray,set_cons_zero,set_cons_succ]
     refine oN (i:=5) rfl fun K hK=>?_
     go_simp
     refine (h43.out _ _ (QL.out.below hHeld.1.below)).mono ?_
     rintro e v2 ⟨e0,e1,e2,e3,e4,e5,e6,rfl,hz2,hb2⟩
     go_simp
     refine hK.out _ _ (KB.out _ (hHeld.1.next hb2)) (fun hHeld=>?_)
     clear hK K
     refine oN (i:=6) rfl fun K hK=>?_
     go_simp
     refine (h46.out _ _ _ (QR.out.below hHeld.1.below) hz2).mono ?_
     rintro e v3 ⟨rfl,hb3⟩
     go_simp
     refine hK.out _ _ (KB.out _ (hHeld.1.next hb3)) (fun hHeld=>?_)
     clear hK K
    ·refine tk (i:=7) (v:=(.bool false)) rfl (Or.inl ⟨by rfl,by intro W hSw;clear hHeld;go_split_ands;go_simp⟩) ?_
     simp only [getElem_toArray,getElem_cons_zero,getElem_cons_succ,Act.put,setIfInBounds_toArray,set_cons_zero,set_cons_succ]
     refine tk (i:=8) (v:=(.bool false)) rfl (Or.inl ⟨by rfl,by intro W hSw;clear hHeld;go_split_ands;go_simp⟩) ?_
     simp only [getElem_toArray,getElem_cons_zero,getElem_cons_succ,Act.put,setIfInBounds_toArray,set_cons_zero,set_cons_succ]
     refine tk (i:=9) (v:=(.bool false)) rfl (Or.inl ⟨by rfl,by intro W hSw;clear hHeld;go_split_ands;go_simp⟩) ?_
     simp only [getElem_toArray,getElem_cons_zero,getElem_cons_succ,Act.put,setIfInBounds_toArray,set_cons_zero,set_cons_succ]
     refine tu (i:=10) rfl ?_
     simp only [getElem_toArray,getElem_cons_zero,getElem_cons_succ,Act.put,setIfInBounds_toArray,set_cons_zero,set_cons_succ]
     refine tu (i:=11) rfl ?_
     simp only [getElem_toArray,getElem_cons_zero,getElem_cons_succ,Act.put,setIfInBounds_toArray,set_cons_zero,set_cons_succ]
     refine tu (i:=12) rfl ?_
     simp only [getElem_toArray,getElem_cons_zero,getElem_cons_succ,Act.put,setIfInBounds_toArray,set_cons_zero,set_cons_succ]
     refine tu (i:=13) rfl ?_
     simp only [getElem_toArray,getElem_cons_zero,getElem_cons_succ,Act.put,setIfInBounds_toArray,set_cons_zero,set_cons_succ]
     refine tk (i:=14) (v:=(.bool false)) rfl (Or.inl ⟨by rfl,by intro W hSw;clear hHeld;go_split_ands;go_simp⟩) ?_
     simp only [getElem_toArray,getElem_cons_zero,getElem_cons_succ,Act.put,setIfInBounds_toArray,set_cons_zero,set_cons_succ]
     refine tk (i:=15) (v:=(.bool false)) rfl (Or.inl ⟨by rfl,by intro W hSw;clear hHeld;go_split_ands;go_simp⟩) ?_
     simp only [getElem_toArray,getElem_cons_zero,getElem_cons_succ,Act.put,setIfInBounds_toArray,set_cons_zero,set_cons_succ]
     refine wpAnyH_done (by kernel_rfl) ?_ _
     go_wp2
     go_ret
     exact ⟨rfl,HR.out.trans (Below.mono hHeld.1.below HR.out.size)⟩
    ·refine tk (i:=7) (v:=(.bool true)) rfl (Or.inl ⟨by rfl,by intro W hSw;clear hHeld;go_split_ands;go_simp⟩) ?_
     simp only [getElem_toArray,getElem_cons_zero,getElem_cons_succ,Act.put,setIfInBounds_toArray,set_cons_zero,set_cons_succ]
     refine tk (i:=8) (v:=(.bool true)) rfl (Or.inl ⟨by rfl,by intro W hSw;clear hHeld;go_split_ands;go_simp⟩) ?_
     simp only [getElem_toArray,getElem_cons_zero,getElem_cons_succ,Act.put,setIfInBounds_toArray,set_cons_zero,set_cons_succ]
     refine tk (i:=9) (v:=(.bool true)) rfl (Or.inl ⟨by rfl,by intro W hSw;clear hHeld;go_split_ands;go_simp⟩) ?_
     simp only [getElem_toArray,getElem_cons_zero,getElem_cons_succ,Act.put,setIfInBounds_toArray,set_cons_zero,set_cons_succ]
     refine tk (i:=10) (v:=(.agg #[.bool g2,.slice p2 n2 c2',.slice q2 m2 d2])) rfl (Or.inl ⟨by rfl,by intro W hSw;clear hHeld;go_split_ands;go_simp⟩) ?_
     simp only [getElem_toArray,getElem_cons_zero,getElem_cons_succ,Act.put,setIfInBounds_toArray,set_cons_zero,set_cons_succ]
     refine tk (i:=11) (v:=(.agg #[.bool g6,.slice p6 n6 c6,.slice q6 m6 d6])) rfl (Or.inl ⟨by rfl,by intro W hSw;clear hHeld;go_split_ands;go_simp⟩) ?_
     simp only [getElem_toArray,getElem_cons_zero,getElem_cons_succ,Act.put,setIfInBounds_toArray,set_cons_zero,set_cons_succ]
     refine oN (i:=12) rfl fun K hK=>?_
     go_simp
     refine (h47.out _ _ _ (QR.out.below hHeld.1.below) (QL.out.below hHeld.1.below)).mono ?_
     rintro e v4 ⟨rfl,hb4⟩
     go_simp
     refine hK.out _ _ (KB.out _ (hHeld.1.next hb4)) (fun hHeld=>?_)
     clear hK K
     refine tk (i:=13) (v:=(.bool (decide (c2<0)))) rfl (Or.inl ⟨by rfl,by intro W hSw;clear hHeld;go_split_ands;go_simp⟩) ?_
     simp only [getElem_toArray,getElem_cons_zero,getElem_cons_succ,Act.put,setIfInBounds_toArray,set_cons_zero,set_cons_succ]
     refine tk (i:=14) (v:=(.bool (decide (c2<0)))) rfl (Or.inl ⟨by rfl,by intro W hSw;clear hHeld;go_split_ands;go_simp⟩) ?_
     simp only [getElem_toArray,getElem_cons_zero,getElem_cons_succ,Act.put,setIfInBounds_toArray,set_cons_zero,set_cons_succ]
     refine tk (i:=15) (v:=(.bool (decide (c2<0)))) rfl (Or.inl ⟨by rfl,by intro W hSw;clear hHeld;go_split_ands;go_simp⟩) ?_
     simp only [getElem_toArray,getElem_cons_zero,getElem_cons_succ,Act.put,setIfInBounds_toArray,set_cons_zero,set_cons_succ]
     refine wpAnyH_done (by kernel_rfl) ?_ _
     go_wp2
     go_ret
     exact ⟨rfl,HR.out.trans (Below.mono hHeld.1.below HR.out.size)⟩
end
section
open Go.RowKit Big
open Go.Lib
theorem ypq (z:Int):GK (z:Rat)=if z<0 then -1 else if z=0 then 0 else 1:=by
 unfold GK;rw [Rat.num_intCast]
theorem ytp {q:Rat} (h:q.den=1):q=((q.num:Int):Rat):=by
 apply Rat.ext
 ·rw [Rat.num_intCast]
 ·rw [Rat.den_intCast,h]
theorem yss (D:Nat):yM false D 1=(((D:Int)):Rat):=by
 have h:=yg7 (D:Int)
 rw [show decide ((D:Int)<0)=false from by simp] at h
 exact h
theorem yqv (B C:Nat) (hB:B-1=C) (l:Lb) (q:Rat) (hq:num l=some q) :
  (decide (q.den=1)=false∧(GL B l).isSome=false)∨(decide (q.den=1)=true∧¬ 0≤GK (q - -yM false (2^C) 1)∧(GL B l).isSome=false) ∨
  (decide (q.den=1)=true∧0≤GK (q - -yM false (2^C) 1)∧(GL B l).isSome=decide (GK (q-yM false (2^C) 1)<0)):=by
 have hi:GL B l=if q.den=1∧-((2^C:Nat):Int)≤q.num∧q.num<((2^C:Nat):Int) then some q.num else none:=by
  unfold GL;rw [hq,hB]
 rw [hi,yss]
 generalize 2^C=D
 by_cases hd:q.den=1
 ·have e:=ytp hd
  generalize q.num=z at e
  subst e
  have e1:((z:Int):Rat) - -((D:Int):Rat)=((z+D:Int):Rat):=by rw [Rat.intCast_add];grind
  have e2:((z:Int):Rat)-((D:Int):Rat)=((z-D:Int):Rat):=by rw [Rat.intCast_sub]
  rw [e1,e2,ypq,ypq,Rat.den_intCast]
  right
  by_cases h1:-(D:Int)≤z
  ·right
   refine ⟨by simp,?_,?_⟩
   ·split<;>(try split)<;>omega
   ·by_cases h2:z<(D:Int)
    ·rw [if_pos ⟨rfl,h1,h2⟩,if_pos (show z-(D:Int)<0 by omega)];rfl
    ·rw [if_neg (by omega),if_neg (show ¬ z-(D:Int)<0 by omega)]
     split<;>rfl
  ·left
   refine ⟨by simp,?_,?_⟩
   ·rw [if_pos (by omega)];omega
   ·rw [if_neg (by omega)];rfl
 ·left
  refine ⟨by simpa using hd,?_⟩
  rw [if_neg (by simp [hd])];rfl
theorem yjF {i:Nat} (h:i≤63):2^i<B9^4:=by
 have h1:2^i≤2^63:=Nat.pow_le_pow_right (by omega) h
 rw [zA]
 omega
theorem yhk (k:Int) (l:Lb) (w:World):Calls Tryz.prog 50 #[.int .i64 k,.string ⟨l.toArray⟩] w (Rp (.bool (zK k l)) w):=by
 by_cases h1:k<1
 ·have e:zK k l=false:=by unfold zK;rw [if_neg (by omega),if_neg (by omega),if_neg (by omega),if_neg (by omega),if_neg (by omega)]
  rw [e];exact yqr _ k h1 w
 by_cases h2:5<k
 ·have e:zK k l=false:=by unfold zK;rw [if_neg (by omega),if_neg (by omega),if_neg (by omega),if_neg (by omega),if_neg (by omega)]
  rw [e];exact yoe _ k h1 h2 w
 have hk5:k=1∨k=2∨k=3∨k=4∨k=5:=by omega
 by_cases hl:l=[]
 ·subst hl
  have e:zK k []=true:=by rcases hk5 with rfl|rfl|rfl|rfl|rfl<;>rfl
  rw [e]
  exact yqt k h1 h2 w (yA fun W _=>yto W)
 ·have hl2:l.isEmpty=false:=by simpa using hl
  have ygw:∀ f,(num l).isSome=f→Hid (∀ W,Be w W→Calls Tryz.prog 96 #[.string ⟨l.toArray⟩] W (Rp (.bool f) W)):=fun f hf=>yA fun W _=>yqq l hl hl2 f W (yA fun W2 _=>by
   have h:=yoy ⟨l.toArray⟩ W2
   have e:(⟨l.toArray⟩:ByteArray).data.toList=l:=rfl
   rw [e,hf] at h
   exact h)
  cases hq:num l with
  | none =>
   have e:zK k l=false:=by
    have hi:∀ B,GL B l=none:=fun B=>by unfold GL;rw [hq]
    unfold zK
    rw [hl2,hi,hi,hi,hi,hq]
    rcases hk5 with rfl|rfl|rfl|rfl|rfl<;>rfl
   rw [e]
   exact yqs _ k h1 h2 w (ygw false (by rw [hq];rfl))
  | some q =>
   have g105:=ygw true (by rw [hq];rfl)
   by_cases h5:k=5
   ·subst h5
    have e:zK 5 l=true:=by unfold zK;rw [hl2,hq];rfl
    rw [e]
    exact yqu l hl hl2 w g105
   ·obtain ⟨C,B,hk,hB,ycd⟩:∃ C B:Nat,((k=1∧C=7)∨(k=2∧C=15)∨(k=3∧C=31)∨(k=4∧C=63))∧B-1=C∧zK k l=(GL B l).isSome:=by
     rcases hk5 with rfl|rfl|rfl|rfl|rfl
     ·exact ⟨7,8,by omega,rfl,by unfold zK;rw [hl2];rfl⟩
     ·exact ⟨15,16,by omega,rfl,by unfold zK;rw [hl2];rfl⟩
     ·exact ⟨31,32,by omega,rfl,by unfold zK;rw [hl2];rfl⟩
     ·exact ⟨63,64,by omega,rfl,by unfold zK;rw [hl2];rfl⟩
     ·exact absurd rfl h5
    have hC:C≤63:=by omega
    have lq:=ycM hq
    have hlim:uA 4 (yM false (2^C) 1):=by
     rw [yss]
     exact ⟨by rw [Rat.num_intCast];exact yjF hC,by rw [Rat.den_intCast,zA];omega⟩
    rw [ycd]
    exact yof l hl hl2 k C hk q (yM false (2^C) 1) _ _ _ _ (yA (yqv B C hB l q hq)) w g105
     (yA fun W _=>yg6 ⟨l.toArray⟩ (some q) hq W) (yA fun W=>ybk W) (yA fun W=>yaW 2 W (by omega))
     (yA fun W u v i hi hu hv=>by
      rw [Nat.pow_succ]
      exact jN u v (2^i) 2 4 1 W (by unfold yF;omega) (by unfold yF;omega) (yjF hi) (by rw [Nat.pow_one,zA];omega) hu hv)
     (yA fun W u v hu hv=>(GR false u v (2^C) 1 4 W (by omega) (yjF hC) (by rw [zA];omega) hu hv).mono fun e w' h=>h.c)
     (yA fun W u hu=>yqR u q 5 W (by omega) (by omega) lq hu)
     (yA fun W u hu=>(yjP u _ W hu).mono fun e w' h=>h.c)
     (yA fun W u v hu hv=>yez u v q _ 5 4 W (by omega) lq hlim.neg hu hv)
     (yA fun W u v hu hv=>yez u v q _ 5 4 W (by omega) lq hlim hu hv)
end
section
open Go.RowKit
open Go.Lib
def vG (k:Int):Nat:=if k=1 then 1 else if k=2 then 2 else if k=3 then 4 else if k=4 then 8 else 0
def isT (k:Int):Bool:=decide (1≤k)&&decide (k≤5)
theorem ydu (k:Int):vG k≤8:=by
 unfold vG
 repeat' split
 all_goals omega
theorem ygX {k:Int} (h:k<1∨4<k):vG k=0:=by
 unfold vG
 rw [if_neg (by omega),if_neg (by omega),if_neg (by omega),if_neg (by omega)]
theorem kinds (k:Int):k=1∨k=2∨k=3∨k=4∨k=5∨k<1∨5<k:=by omega
def vH (k:Int) (xs:List Lb):Int:=if isT k=false then 2 else if xs.all (zK k)=false then 41 else 0
theorem ycA (k:Int) (w:World):Calls Tryz.prog 13 #[.int .i64 k] w (Qp (.int .i64 (vG k:Int)) w):=by
 by_cases h1:k=1
 ·subst h1
  go_in
  go_wp2
  go_ret
  exact ⟨rfl,rfl⟩
 by_cases h2:k=2
 ·subst h2
  go_in
  go_wp2
  go_ret
  exact ⟨rfl,rfl⟩
 by_cases h3:k=3
 ·subst h3
  go_in
  go_wp2
  go_ret
  exact ⟨rfl,rfl⟩
 by_cases h4:k=4
 ·subst h4
  go_in
  go_wp2
  go_ret
  exact ⟨rfl,rfl⟩
 have e:vG k=0:=by unfold vG;rw [if_neg h1,if_neg h2,if_neg h3,if_neg h4]
 rw [e]
 have g1:(k==1)=false:=by simpa using h1
 have g2:(k==2)=false:=by simpa using h2
 have g3:(k==3)=false:=by simpa using h3
 have g4:(k==4)=false:=by simpa using h4
 go_in
 go_wp2
 go_ret
 exact ⟨rfl,rfl⟩
theorem yeh (k:Int) (w:World):Calls Tryz.prog 39 #[.int .i64 k] w (Qp (.bool (isT k)) w):=by
 have HW:=h_ (ycA k w)
 obtain ⟨d,HD⟩:=ey (vG k)
 rw [← HD.out] at HW
 obtain ⟨b,HB⟩:=ey (isT k)
 rw [← HB.out]
 by_cases h:1≤k∧k≤4
 ·obtain rfl:b=true:=by rw [HB.out];unfold isT;rw [decide_eq_true h.1,decide_eq_true (by omega)];rfl
  have hd:(0:Int)<(d:Int):=by
   have:0<d:=by
    rw [HD.out];unfold vG
    have:k=1∨k=2∨k=3∨k=4:=by omega
    rcases this with rfl|rfl|rfl|rfl<;>decide
   omega
  go_in
  go_wp2_with fail
  refine (HW.out).mono ?_
  rintro e w' ⟨rfl,rfl⟩
  go_wp2
  go_ret
  exact ⟨rfl,rfl⟩
 ·obtain rfl:d=0:=by rw [HD.out];exact ygX (by omega)
  by_cases h5:k=5
  ·subst h5
   obtain rfl:b=true:=HB.out
   go_in
   go_wp2_with fail
   refine (HW.out).mono ?_
   rintro e w' ⟨rfl,rfl⟩
   go_wp2
   go_ret
   exact ⟨rfl,rfl⟩
  ·obtain rfl:b=false:=by
    rw [HB.out];unfold isT
    by_cases h1:1≤k
    ·rw [decide_eq_false (show ¬ k≤5 by omega),Bool.and_false]
    ·rw [decide_eq_false h1];rfl
   have g5:(k==5)=false:=by simpa using h5
   go_in
   go_wp2_with fail
   refine (HW.out).mono ?_
   rintro e w' ⟨rfl,rfl⟩
   go_wp2
   go_ret
   exact ⟨rfl,rfl⟩
theorem yog (k:Int) (w:World):Calls Tryz.prog 14 #[.int .i64 k] w (Qp (.int .i64 (vG k:Int)) w):=by
 rcases kinds k with rfl|rfl|rfl|rfl|rfl|h|h
 case inr.inr.inr.inr.inr.inl =>
  rw [ygX (.inl h)]
  go_in
  go_wp2
  go_ret
  exact ⟨rfl,rfl⟩
 case inr.inr.inr.inr.inr.inr =>
  rw [ygX (.inr (by omega))]
  have h1:¬ k<1:=by omega
  have h4:4<k:=by omega
  go_in
  go_wp2
  go_ret
  exact ⟨rfl,rfl⟩
 all_goals
  go_in
  go_wp2
  go_ret
  exact ⟨rfl,rfl⟩
theorem yb5 (k:Int) (w:World):Calls Tryz.prog 41 #[.int .i64 k] w (Qp (.bool (isT k)) w):=by
 obtain ⟨b,HB⟩:=ey (isT k)
 rw [← HB.out]
 by_cases h1:1≤k
 ·by_cases h5:k≤5
  ·obtain rfl:b=true:=by rw [HB.out];unfold isT;rw [decide_eq_true h1,decide_eq_true h5];rfl
   go_in
   go_wp2
   go_ret
   exact ⟨rfl,rfl⟩
  ·obtain rfl:b=false:=by rw [HB.out];unfold isT;rw [decide_eq_false h5,Bool.and_false]
   have h6:5<k:=by omega
   go_in
   go_wp2
   go_ret
   exact ⟨rfl,rfl⟩
 ·obtain rfl:b=false:=by rw [HB.out];unfold isT;rw [decide_eq_false h1];rfl
  have h6:k<1:=by omega
  go_in
  go_wp2
  go_ret
  exact ⟨rfl,rfl⟩
theorem ycQ (k:Int) (p:Oa) (c n:Nat) (xs:List Lb) (w:World) (hx:Hid (xs.length=n)) (hn:n≤4096) (hs:Ss w p xs) (he:Env w) :
  Calls Tryz.prog 44 #[.int .i64 k,.slice p n c] w (Rp (.int .i64 (vH k xs)) w):=by
 have HS:=h_ hs
 have hn':(n:Int)≤4096:=by omega
 have HT:=h_ (fun W=>yeh k W)
 have HE:=h_ he
 clear he
 obtain ⟨b,HBT⟩:=ez (isT k)
 rw [HBT.out] at HT
 obtain ⟨v,HV⟩:=ey (vH k xs)
 rw [← HV.out]
 have GU:=h_ (Below.refl w.heap.size w)
 clear hs
 cases b with
 | false =>
  obtain rfl:v=2:=by rw [HV.out];unfold vH;rw [if_pos HBT.out]
  go_in
  go_wp2_with fail
  refine (HT.out _).mono ?_
  rintro e w' ⟨rfl,rfl⟩
  go_wp2
  go_ret
  exact ⟨rfl,GU.out⟩
 | true =>
  have HNO:Hid (∀ j,j<n→zK k (xs.getD j [])=false→v=41):=h_ (fun j hj h=>by
   rw [HV.out];unfold vH
   rw [if_neg (by rw [HBT.out];simp),if_pos]
   rw [List.all_eq_false]
   have hj2:j<xs.length:=by rw [hx.out];exact hj
   rw [gD hj2] at h
   exact ⟨_,List.getElem_mem hj2,by simpa using h⟩)
  have yfI:Hid ((∀ j,j<n→zK k (xs.getD j [])=true)→v=0):=h_ (fun h=>by
   rw [HV.out];unfold vH
   rw [if_neg (by rw [HBT.out];simp),if_neg]
   rw [Bool.not_eq_false,List.all_eq_true]
   intro x hx2
   obtain ⟨j,hj,rfl⟩:=List.getElem_of_mem hx2
   have:=h j (by rw [← hx.out];exact hj)
   rwa [List.getD_eq_getElem?_getD,List.getElem?_eq_getElem hj] at this)
  go_in
  go_wp2_with fail
  refine (HT.out _).mono ?_
  rintro e w' ⟨rfl,rfl⟩
  go_wp2_with fail
  refine (yb9 n hn' _).mono ?_
  rintro e w' ⟨rfl,rfl⟩
  go_wp2
  go_loopw [16] (fun iv wr=>∃ i:Nat,i≤n∧iv=.int .i64 i∧Hid (Be w wr)∧Hid (∀ j,j<i→zK k (xs.getD j [])=true)) (fun iv _=>n-(intOf iv).toNat)
  case atStart=>exact ⟨0,Nat.zero_le _,rfl,GU,h_ (fun j hj=>by omega)⟩
  case round =>
   obtain ⟨i,hi,rfl,HB,HA⟩:=hrel
   have ii:(i:Int)≤(n:Int):=by omega
   by_cases hlt:i<n
   ·have ilt:(i:Int)<(n:Int):=by omega
    obtain ⟨b1,o1,x,e1,hb1,hc1,hxx⟩:=(HS.out.below HB.out).at (k:=i) (by rw [hx.out];exact hlt)
    subst e1
    have HC:=h_ (yel k x wr (HE.out.below HB.out))
    obtain ⟨f,HF⟩:=ez (zK k x)
    rw [HF.out] at HC
    cases f with
    | true =>
     have HA2:Hid (∀ j,j<i+1→zK k (xs.getD j [])=true):=h_ (fun j hj=>by
      by_cases e:j=i
      ·rw [e,hxx.out];exact HF.out
      ·exact HA.out j (by omega))
     go_wp2_with fail
     refine (HC.out).mono ?_
     rintro e w2 ⟨rfl,hb2⟩
     have jQ:=th HB hb2
     clear hb2
     go_wp2
     go_roundw
     case rel=>exact ⟨i+1,by omega,by go_num,jQ,HA2⟩
     case measure=>simp [intOf];omega
    | false =>
     obtain rfl:v=41:=HNO.out i hlt (by rw [hxx.out];exact HF.out)
     go_wp2_with fail
     refine (HC.out).mono ?_
     rintro e w2 ⟨rfl,hb2⟩
     have jQ:=th HB hb2
     clear hb2
     go_wp2
     go_ret
     exact ⟨rfl,jQ.out⟩
   ·obtain rfl:i=n:=by omega
    have ilt:¬ (i:Int)<(i:Int):=by omega
    obtain rfl:v=0:=yfI.out HA.out
    go_wp2
    go_ret
    exact ⟨rfl,HB.out⟩
theorem ycR (k:Int) (p:Oa) (c n:Nat) (xs:List Lb) (w:World) (hx:Hid (xs.length=n)) (hn:n≤4096) (hs:Ss w p xs) :
  Calls Tryz.prog 48 #[.int .i64 k,.slice p n c] w (Rp (.int .i64 (vH k xs)) w):=by
 have HS:=h_ hs
 have hn':(n:Int)≤4096:=by omega
 have HT:=h_ (fun W=>yb5 k W)
 obtain ⟨b,HBT⟩:=ez (isT k)
 rw [HBT.out] at HT
 obtain ⟨v,HV⟩:=ey (vH k xs)
 rw [← HV.out]
 have GU:=h_ (Below.refl w.heap.size w)
 clear hs
 cases b with
 | false =>
  obtain rfl:v=2:=by rw [HV.out];unfold vH;rw [if_pos HBT.out]
  go_in
  go_wp2_with fail
  refine (HT.out _).mono ?_
  rintro e w' ⟨rfl,rfl⟩
  go_wp2
  go_ret
  exact ⟨rfl,GU.out⟩
 | true =>
  have HNO:Hid (∀ j,j<n→zK k (xs.getD j [])=false→v=41):=h_ (fun j hj h=>by
   rw [HV.out];unfold vH
   rw [if_neg (by rw [HBT.out];simp),if_pos]
   rw [List.all_eq_false]
   have hj2:j<xs.length:=by rw [hx.out];exact hj
   rw [gD hj2] at h
   exact ⟨_,List.getElem_mem hj2,by simpa using h⟩)
  have yfI:Hid ((∀ j,j<n→zK k (xs.getD j [])=true)→v=0):=h_ (fun h=>by
   rw [HV.out];unfold vH
   rw [if_neg (by rw [HBT.out];simp),if_neg]
   rw [Bool.not_eq_false,List.all_eq_true]
   intro x hx2
   obtain ⟨j,hj,rfl⟩:=List.getElem_of_mem hx2
   have:=h j (by rw [← hx.out];exact hj)
   rwa [List.getD_eq_getElem?_getD,List.getElem?_eq_getElem hj] at this)
  go_in
  go_wp2_with fail
  refine (HT.out _).mono ?_
  rintro e w' ⟨rfl,rfl⟩
  go_wp2
  go_loopw [5] (fun iv wr=>∃ i:Nat,i≤n∧iv=.int .i64 i∧Hid (Be w wr)∧Hid (∀ j,j<i→zK k (xs.getD j [])=true)) (fun iv _=>n-(intOf iv).toNat)
  case atStart=>exact ⟨0,Nat.zero_le _,rfl,GU,h_ (fun j hj=>by omega)⟩
  case round =>
   obtain ⟨i,hi,rfl,HB,HA⟩:=hrel
   have ii:(i:Int)≤(n:Int):=by omega
   by_cases hlt:i<n
   ·have ilt:(i:Int)<(n:Int):=by omega
    obtain ⟨b1,o1,x,e1,hb1,hc1,hxx⟩:=(HS.out.below HB.out).at (k:=i) (by rw [hx.out];exact hlt)
    subst e1
    have HC:=h_ (yhk k x wr)
    obtain ⟨f,HF⟩:=ez (zK k x)
    rw [HF.out] at HC
    cases f with
    | true =>
     have HA2:Hid (∀ j,j<i+1→zK k (xs.getD j [])=true):=h_ (fun j hj=>by
      by_cases e:j=i
      ·rw [e,hxx.out];exact HF.out
      ·exact HA.out j (by omega))
     go_wp2_with fail
     refine (HC.out).mono ?_
     rintro e w2 ⟨rfl,hb2⟩
     have jQ:=th HB hb2
     clear hb2
     go_wp2
     go_roundw
     case rel=>exact ⟨i+1,by omega,by go_num,jQ,HA2⟩
     case measure=>simp [intOf];omega
    | false =>
     obtain rfl:v=41:=HNO.out i hlt (by rw [hxx.out];exact HF.out)
     go_wp2_with fail
     refine (HC.out).mono ?_
     rintro e w2 ⟨rfl,hb2⟩
     have jQ:=th HB hb2
     clear hb2
     go_wp2
     go_ret
     exact ⟨rfl,jQ.out⟩
   ·obtain rfl:i=n:=by omega
    have ilt:¬ (i:Int)<(i:Int):=by omega
    obtain rfl:v=0:=yfI.out HA.out
    go_wp2
    go_ret
    exact ⟨rfl,HB.out⟩
theorem yaJ {w w':World} (h:Be w w') (r:Option Nat):w.grownBy w' r:=⟨h.os,h.tape,h.output,h.size,fun k hk _=>h.block k hk⟩
theorem jW {w w':World} {B e size n:Nat} {v:Value} {xs:List Value} (h:w.ownsRow B e size v n xs) (hb:Be w w'):w'.ownsRow B e size v n xs:=by
 refine h.kept (row:=none) (yaJ hb none) ?_
 cases v.ownBlock with
 | none=>exact .inl rfl
 | some a=>exact .inr (by simp)
theorem Grew.of_below {B:Nat} {w w':World} {v:Value} {l:Lb} (h:w.ownsRow B 5 1 v l.length (zG l)) (hb:Be w w'):Grew B w v l w' v:=⟨jW h hb,yaJ hb _,.inl rfl⟩
theorem ya8 (B:Nat) (v:Value) (l x:Lb) (z:Int) (y n:Nat) (w:World) (hn:n≤8) (hl:l.length≤100000000) (hB:B≤w.heap.size) (hv:w.ownsRow B 5 1 v l.length (zG l)) (hx:x.length≤100) (hp:parseIntB 64 x=.ok z) (hy:IntKind.u64.wrap z=(y:Int)) (hy2:y<18446744073709551616) :
  Calls Tryz.prog 77 #[v,.string ⟨x.toArray⟩,.int .i64 (n:Int)] w (App B w v (l++be n y)):=by
 have HP:=h_ (Tryz.strconv_ParseInt_10_at64_ok ⟨x.toArray⟩ (by rw [← ByteArray.size_data];simp;omega) z (by simpa using hp) w)
 have HW:Hid (∀ W,Be w W→Calls Tryz.prog 128 #[v,.int .u64 (y:Int),.int .i64 (n:Int)] W (App B W v (l++be n y))):=h_ fun W hW=>vM B v l y n W hn hl (Nat.le_trans hB hW.size) (jW hv hW) hy2
 have HG:=h_ hv
 clear hv hp hx hl hB
 clear hy2 hn
 go_in
 go_wp2_with fail
 refine (HP.out).mono ?_
 rintro e w1 ⟨rfl,hb1⟩
 have yX:=h_ (ydl hb1)
 clear hb1
 go_wp2_with fail
 refine (HW.out _ yX.out).mono ?_
 rintro e w2 ⟨v2,rfl,hg2⟩
 have HG2:=h_ ((Grew.of_below HG.out yX.out).trans hg2)
 clear hg2
 go_wp2
 go_ret
 exact ⟨_,rfl,HG2.out⟩
theorem ycf (B:Nat) (v:Value) (l x:Lb) (n:Nat) (w:World) (hn:n≤8) (hl:l.length≤100000000) (hB:B≤w.heap.size) (hv:w.ownsRow B 5 1 v l.length (zG l)) (hx:x.length≤100) (hp:parseIntB 64 x=parseIntB 64 []) (he:Env w) :
  Calls Tryz.prog 77 #[v,.string ⟨x.toArray⟩,.int .i64 (n:Int)] w (App B w v (l++be n 0)):=by
 obtain ⟨ev,h1,k1⟩:=he.syn
 have HP:Hid (Calls Tryz.prog 127 #[.string ⟨x.toArray⟩,.int .i64 10,.int .i64 64] w fun e w'=>Be w w'∧∃ z T N,e=.returned (.tuple #[.int .i64 z,.iface T (.pointer (some ⟨N,0,none⟩))])):=h_
  ((Tryz.strconv_ParseInt_10_at64_syntax ⟨x.toArray⟩ (by rw [← ByteArray.size_data];simp;omega) (by simpa using hp) ev w h1 k1).mono fun e w' ⟨N,h,_,_,hb⟩=>⟨hb,_,_,N,h⟩)
 have HW:Hid (∀ W,Be w W→Calls Tryz.prog 128 #[v,.int .u64 ((0:Nat):Int),.int .i64 (n:Int)] W (App B W v (l++be n 0))):=h_ fun W hW=>vM B v l 0 n W hn hl (Nat.le_trans hB hW.size) (jW hv hW) (by omega)
 have HG:=h_ hv
 clear hv hp hx hl hB he h1 k1
 clear hn
 go_in
 go_wp2_with fail
 refine (HP.out).mono ?_
 rintro e w1 ⟨hb1,z,T,N,rfl⟩
 have yX:=h_ hb1
 clear hb1
 go_wp2_with fail
 refine (HW.out _ yX.out).mono ?_
 rintro e w2 ⟨v2,rfl,hg2⟩
 have HG2:=h_ ((Grew.of_below HG.out yX.out).trans hg2)
 clear hg2
 go_wp2
 go_ret
 exact ⟨_,rfl,HG2.out⟩
def vT (x:Lb):Nat:=match num x with
 | some q=>(q.num%18446744073709551616).toNat
 | none=>0
def jZ (k:Int) (x:Lb):Lb:=if k=5 then (if x=[] then [] else UInt8.ofNat x.length::x) else be (vG k) (vT x)
theorem yw6 (x:Lb):vT x<18446744073709551616:=by
 unfold vT
 split
 ·omega
 ·omega
theorem yst:vT []=0:=by unfold vT;rw [ycN]
structure Gro (B:Nat) (w:World) (v:Value) (l:Lb) (w':World) (v':Value):Prop where
 own:w'.ownsRow B 5 1 v' l.length (zG l)
 grown:w.grownBy w' v.ownBlock
def yjj (B:Nat) (w:World) (v:Value) (l:Lb) (e:Ending) (w':World):Prop:=∃ v',e=.returned v'∧Gro B w v l w' v'
theorem yw7 {B:Nat} {w w':World} {v:Value} {l:Lb} {e:Ending} (h:App B w v l e w'):yjj B w v l e w':=by
 obtain ⟨v',h1,h2⟩:=h
 exact ⟨v',h1,h2.own,h2.grown⟩
theorem yjG {k:Int} {x:Lb} (h:zK k x=true) (h1:1≤k) (h4:k≤4) (hx:x≠[]):∃ q:Rat,num x=some q∧q.den=1∧-((2^(8*vG k-1):Nat):Int)≤q.num∧q.num<((2^(8*vG k-1):Nat):Int):=by
 have key:∀ B,(x.isEmpty || (GL B x).isSome)=true→∃ q:Rat,num x=some q∧q.den=1∧-((2^(B-1):Nat):Int)≤q.num∧q.num<((2^(B-1):Nat):Int):=fun B hB=>by
  have he:x.isEmpty=false:=by cases x with
   | nil=>exact absurd rfl hx
   | cons=>rfl
  rw [he,Bool.false_or] at hB
  unfold GL at hB
  cases hn:num x with
  | none=>rw [hn] at hB;cases hB
  | some q =>
   rw [hn] at hB
   simp only at hB
   by_cases hc:q.den=1∧-((2^(B-1):Nat):Int)≤q.num∧q.num<((2^(B-1):Nat):Int)
   ·exact ⟨q,rfl,hc.1,hc.2.1,hc.2.2⟩
   ·rw [if_neg hc] at hB;cases hB
 have hk:k=1∨k=2∨k=3∨k=4:=by omega
 unfold zK at h
 rcases hk with rfl|rfl|rfl|rfl
 ·exact key 8 h
 ·exact key 16 h
 ·exact key 32 h
 ·exact key 64 h
theorem yk9 (k:Int):(2^(8*vG k-1):Nat)≤9223372036854775808:=by
 have:=ydu k
 calc 2^(8*vG k-1)≤2^63:=Nat.pow_le_pow_right (by omega) (by omega)
  _=9223372036854775808:=by decide
theorem yqw {k:Int} {x:Lb} (h:zK k x=true) (h1:1≤k) (h4:k≤4) (hx:x≠[]):∃ z:Int,parseIntB 64 x=.ok z∧IntKind.u64.wrap z=(vT x:Int):=by
 obtain ⟨q,hq,hd,hl,hh⟩:=yjG h h1 h4 hx
 have hp:=yk9 k
 have h64:GL 64 x=some q.num:=by
  unfold GL
  rw [hq]
  simp only
  rw [if_pos ⟨hd,by show -((2^63:Nat):Int)≤q.num;omega,by show q.num<((2^63:Nat):Int);omega⟩]
 have:=ygM (B:=64) (by decide) (by decide) hq
 rw [h64] at this
 refine ⟨q.num,this,?_⟩
 rw [IntKind.wrap_u64]
 unfold vT
 rw [hq]
 show q.num%18446744073709551616=((q.num%18446744073709551616).toNat:Int)
 omega
theorem ydv {k:Int} {x:Lb} (h:zK k x=true):x.length≤82:=by
 have key:(x.isEmpty || (num x).isSome)=true→x.length≤82:=fun h=>by
  cases x with
  | nil=>simp
  | cons a r =>
   rw [show (a::r).isEmpty=false from rfl,Bool.false_or] at h
   obtain ⟨q,hq⟩:=Option.isSome_iff_exists.1 h
   exact yjN hq
 by_cases hx:x=[]
 ·rw [hx];simp
 unfold zK at h
 have e:∀ B,(x.isEmpty || (GL B x).isSome)=true→(x.isEmpty || (num x).isSome)=true:=fun B hB=>by
  rw [Bool.or_eq_true] at hB ⊢
  refine hB.imp id (fun hB=>?_)
  unfold GL at hB
  cases hn:num x with
  | none=>rw [hn] at hB;cases hB
  | some q=>rfl
 repeat' split at h
 ·exact key (e _ h)
 ·exact key (e _ h)
 ·exact key (e _ h)
 ·exact key (e _ h)
 ·exact key h
 ·cases h
theorem ycg (B:Nat) (v:Value) (k:Int) (l x:Lb) (w:World) (hf:zK k x=true) (h1:1≤k) (h4:k≤4) (hl:l.length≤100000000) (hB:B≤w.heap.size) (hv:w.ownsRow B 5 1 v l.length (zG l)) (he:Env w) :
  Calls Tryz.prog 77 #[v,.string ⟨x.toArray⟩,.int .i64 (vG k:Int)] w (yjj B w v (l++jZ k x)):=by
 have e5:jZ k x=be (vG k) (vT x):=by unfold jZ;rw [if_neg (by omega)]
 rw [e5]
 by_cases hx:x=[]
 ·subst hx
  rw [yst]
  exact (ycf B v l [] (vG k) w (ydu k) hl hB hv (by simp) rfl he).mono fun _ _=>yw7
 ·obtain ⟨z,hz,hw⟩:=yqw hf h1 h4 hx
  exact (ya8 B v l x z (vT x) (vG k) w (ydu k) hl hB hv (by have:=ydv hf;omega) hz hw (yw6 x)).mono fun _ _=>yw7
theorem yjH (a b:Lb):zG (a++b)=zG a++zG b:=by simp [zG]
theorem ypr (x:Lb):strCells ⟨x.toArray⟩=zG x:=by simp [strCells,zG]
theorem ydD (B:Nat) (v:Value) (l x:Lb) (w:World) (hx:x.length≤82) (hl:l.length≤100000000) (hB:B≤w.heap.size) (hv:w.ownsRow B 5 1 v l.length (zG l)) :
  Calls Tryz.prog 76 #[v,.string ⟨x.toArray⟩] w (yjj B w v (l++(if x=[] then [] else UInt8.ofNat x.length::x))):=by
 obtain ⟨i0,hi,hz0,hz1,hz2⟩:=info_parts GE
 have HG:=h_ hv
 have HL:=h_ hl
 have HBB:=h_ hB
 clear hv hl hB
 by_cases he:x=[]
 ·subst he
  rw [if_pos rfl,List.append_nil]
  have HR:Hid (yjj B w v l (.returned v) w):=h_ ⟨v,rfl,HG.out,yeg _ _⟩
  go_in
  go_wp2
  go_ret
  exact HR.out
 rw [if_neg he]
 obtain ⟨m,HM⟩:=ez (x.length)
 have hne:x.isEmpty=false:=by
  cases x with
  | nil=>exact absurd rfl he
  | cons=>rfl
 have hm82:(m:Int)≤82:=by rw [← HM.out];omega
 have hsz:(⟨x.toArray⟩:ByteArray).size=m:=by rw [← ByteArray.size_data];simpa using HM.out
 have hwr:IntKind.u8.wrap (m:Int)=((UInt8.ofNat m).toNat:Int):=by rw [UInt8.toNat_ofNat'];simp [IntKind.wrap_u8]
 have HX:=h_ hx
 clear hx
 obtain ⟨c,HC⟩:=ey (UInt8.ofNat m)
 have hcv:(m:Int)%256=((c.toNat:Nat):Int):=by rw [HC.out,UInt8.toNat_ofNat'];simp
 have hbl:Hid (l.length+1≤maxLen∧(l.length+1)*1≤140737488355328∧B≤w.heap.size+1):=h_ (by
  have h2:=HL.out
  have h3:=HBB.out
  unfold maxLen;omega)
 have zF:Hid (l++UInt8.ofNat x.length::x=(l++[c])++x):=h_ (by rw [HM.out,← HC.out];simp)
 rw [zF.out]
 go_in
 go_wp2_with (at_builtin;refine wpList_append_own_at _ rfl (.tmp 8) (.tmp 12) 39 rfl B 5 i0 (.int .u8 0) 1 1 Tryz.underlying39 hi hz0 hz1 hz2 rfl (by decide) _ _ _ rfl ((HG.out).alloc _) ⟨_,0,none⟩ 1 1 [.int .u8 (c.toNat:Int)] rfl rfl (cell_one_new _ _ _) (by intro u hu;simp at hu;subst hu;rfl) hbl.out.1 hbl.out.2.1 (by simp;exact hbl.out.2.2) ?_)
 intro v5 w5 yP yL _ yby
 have HG5:=h_ ((Grew.refl HG.out).next rfl yP yL yby)
 have yfJ:Hid ((l++[c]).length+(⟨x.toArray⟩:ByteArray).size≤maxLen∧(l++[c]).length+(⟨x.toArray⟩:ByteArray).size≤140737488355328∧B≤w5.heap.size):=h_ (by
  have h2:=HL.out
  have h3:=HBB.out
  have h4:=HG5.out.grown.size
  rw [hsz,List.length_append,List.length_singleton]
  unfold maxLen;omega)
 clear yP yL yby hbl
 go_wp2_with (at_builtin;refine wpList_append_own_string _ rfl (.tmp 14) (.tmp 15) 39 9 rfl B 5 i0 Tryz.underlying39 Tryz.underlying9 hi hz0 hz1 hz2 _ _ _ rfl HG5.out.own ⟨x.toArray⟩ rfl yfJ.out.1 yfJ.out.2.1 yfJ.out.2.2 ?_)
 intro v6 w6 yaN ybq _
 have HG6:Hid (Gro B w v (l++[c]++x) w6 v6):=h_ (by
  refine ⟨?_,?_⟩
  ·rw [ypr,← yjH] at yaN
   have e:l.length+1+m=(l++[c]++x).length:=by simp only [List.length_append,HM.out,List.length_singleton]
   rw [e] at yaN
   exact yaN
  ·refine ydA HG5.out.grown ybq (fun j hj=>?_)
   rcases HG5.out.lies with h|⟨i,h,h2⟩
   ·exact .inl h
   ·rw [h] at hj;cases hj;exact .inr h2)
 clear yaN ybq
 go_wp2
 go_ret
 exact ⟨_,rfl,HG6.out⟩
def orB (c:UInt8) (r:Nat):UInt8:=UInt8.ofNat (c.toNat ||| 2^r)
theorem yfp (c:UInt8) {r:Nat} (h:r<8):(orB c r).toNat=c.toNat ||| 2^r:=by
 unfold orB
 have h1:c.toNat<2^8:=c.toNat_lt
 have h2:2^r<2^8:=Nat.pow_lt_pow_right (by omega) h
 rw [UInt8.toNat_ofNat',Nat.mod_eq_of_lt (Nat.or_lt_two_pow h1 h2)]
def stP (xs:List Lb) (P:Nat):Nat→Lb
 | 0=>List.replicate P 0
 | i+1=>if xs.getD i []=[] then stP xs P i else (stP xs P i).set (i/8) (orB ((stP xs P i).getD (i/8) 0) (i%8))
theorem vZ (xs:List Lb) (P:Nat):∀ i,(stP xs P i).length=P
 | 0=>by simp [stP]
 | i+1=>by
  rw [stP]
  split
  ·exact vZ xs P i
  ·rw [List.length_set];exact vZ xs P i
def els (k:Int) (xs:List Lb) (i:Nat):Lb:=(xs.take i).flatMap (jZ k)
theorem yfq {k:Int} {x:Lb} (h:zK k x=true):(jZ k x).length≤83:=by
 unfold jZ
 have h1:=ydv h
 have h2:=ydu k
 split
 ·split
  ·simp
  ·rw [List.length_cons];omega
 ·rw [zE];omega
theorem yps {xs:List Lb} {i:Nat} (h:i<xs.length):xs.take (i+1)=xs.take i++[xs.getD i []]:=by
 rw [List.take_succ_eq_append_getElem h,List.getD_eq_getElem?_getD,List.getElem?_eq_getElem h];rfl
theorem yeJ {k:Int} {xs:List Lb} {i:Nat} (h:i<xs.length):els k xs (i+1)=els k xs i++jZ k (xs.getD i []):=by
 unfold els
 rw [yps h,List.flatMap_append];simp
theorem ygk {k:Int} {xs:List Lb} (hf:∀ x ∈ xs,zK k x=true):∀ i,i≤xs.length→(els k xs i).length≤83*i
 | 0,_=>by simp [els]
 | i+1,h=>by
  have h1:=ygk hf i (by omega)
  rw [yeJ (by omega),List.length_append]
  have h2:=yfq (hf (xs.getD i []) (by rw [gD (by omega)];exact List.getElem_mem _))
  omega
def ybw (k:Int) (xs:List Lb) (i:Nat):Lb:=stP xs ((xs.length+7)/8) i++els k xs i
def yal (k:Int) (xs:List Lb):Lb:=ybw k xs xs.length
structure PutG (w:World) (L:Lb) (wr:World) (v:Value):Prop where
 own:wr.ownsRow w.heap.size 5 1 v L.length (zG L)
 below:Be w wr
theorem yaz {W:World} {B n:Nat} {v:Value} {xs:List Value} {g0:Nat} (h:W.ownsRow B 5 1 v n xs) (e:v.ownBlock=some g0):B≤g0:=by
 obtain ⟨-,⟨rfl,-⟩|⟨g,cap,cur,rfl,hg,-⟩⟩:=h
 ·cases e
 ·cases e;exact hg
theorem PutG.next {w W w':World} {v v':Value} {L L':Lb} (h:PutG w L W v) (hg:Gro w.heap.size W v L' w' v'):PutG w L' w' v' :=
 ⟨hg.own,h.below.grown hg.grown h.below.size (fun _ e=>yaz h.own e)⟩
theorem ysu (P:Nat):zG (List.replicate P 0)=(madeCells #[Value.int .u8 0] P).toList:=by
 apply List.ext_getElem
 ·simp [zG,madeCells]
 ·intro i h1 h2
  simp [zG,madeCells,Nat.mod_one]
theorem yvS (k:Int) (p:Oa) (c n:Nat) (xs:List Lb) (w:World) (hx:Hid (xs.length=n)) (hn:n≤4096) (hs:Ss w p xs) (he:Env w) (z:Int) (HZ:Hid (vH k xs=z)) (hz:z≠0) :
  Calls Tryz.prog 34 #[.int .i64 k,.slice p n c] w (Rp (.tuple #[.slice none 0 0,.int .i64 z]) w):=by
 have HC:=h_ (ycQ k p c n xs w hx hn hs he)
 rw [HZ.out] at HC
 clear hs he
 have gz:(z != 0)=true:=by rw [bne_iff_ne];exact hz
 go_in
 go_wp2_with fail
 refine (HC.out).mono ?_
 rintro e w1 ⟨rfl,hb1⟩
 have yX:=h_ hb1
 clear hb1
 go_wp2
 go_ret2
 exact ⟨rfl,yX.out⟩
theorem ygY (k:Int) (p:Oa) (c n:Nat) (xs:List Lb) (w:World) (hx:Hid (xs.length=n)) (hn:n≤4096) (hs:Ss w p xs) (he:Env w) (HZ:Hid (vH k xs=0)) :
  Calls Tryz.prog 34 #[.int .i64 k,.slice p n c] w fun e w'=>∃ v,e=.returned (.tuple #[v,.int .i64 0])∧PutG w (yal k xs) w' v:=by
 have HS:=h_ hs
 have HE:=h_ he
 have HC:=h_ (ycQ k p c n xs w hx hn hs he)
 rw [HZ.out] at HC
 clear hs he
 have hk:isT k=true∧xs.all (zK k)=true:=by
  have h:=HZ.out
  unfold vH at h
  by_cases h1:isT k=false
  ·rw [if_pos h1] at h;cases h
  ·rw [if_neg h1] at h
   by_cases h2:xs.all (zK k)=false
   ·rw [if_pos h2] at h;cases h
   ·exact ⟨by simpa using h1,by simpa using h2⟩
 have HK1:Hid (1≤k∧k≤5):=h_ (by
  have h:=hk.1
  unfold isT at h
  rw [Bool.and_eq_true,decide_eq_true_eq,decide_eq_true_eq] at h
  exact h)
 have HFA:Hid (∀ x ∈ xs,zK k x=true):=h_ (List.all_eq_true.1 hk.2)
 obtain ⟨P,HPD⟩:=ez ((n+7)/8)
 have yu3:Hid ((xs.length+7)/8=P):=h_ (by rw [hx.out];exact HPD.out)
 have hP:P≤512:=by have:=HPD.out;omega
 have hPi:((n:Int)+7)/8=(P:Int):=by have:=HPD.out;omega
 have hni:(n:Int)≤4096:=by omega
 have HPR:=h_ (fun W=>ybs n hni W)
 rw [hPi] at HPR
 obtain ⟨i0,hi,hz0,hz1,hz2⟩:=info_parts GE
 clear hk hPi
 go_in
 go_wp2_with fail
 refine (HC.out).mono ?_
 rintro e w1 ⟨rfl,hb1⟩
 have yX:=h_ hb1
 clear hb1
 go_wp2_with fail
 refine (HPR.out _).mono ?_
 rintro e w' ⟨rfl,rfl⟩
 go_wp2_with (at_make;refine wpList_make_full _ rfl _ _ 39 rfl w.heap.size 5 i0 (.int .u8 0) 1 Tryz.underlying39 hi hz0 hz1 _ _ _ _ P rfl rfl (by rfl) (by rfl) ?b2 ?b3 yX.out.size ?_)
 case b2=>rw [hz2];omega
 case b3=>unfold maxLen;omega
 intro w2 yR yZ
 have HP0:Hid (PutG w (ybw k xs 0) w2 (.slice (some ⟨w1.heap.size,0,none⟩) P P)):=h_ (by
  have e:ybw k xs 0=List.replicate P 0:=by unfold ybw els;rw [yu3.out];simp [stP]
  rw [e]
  refine ⟨?_,yX.out.grown yZ yX.out.size (fun _ h=>by cases h)⟩
  rw [ysu,List.length_replicate]
  exact yR)
 clear yR yZ
 go_wp2
 go_loopw [7,22] (fun v iv wr=>∃ i:Nat,i≤n∧iv=.int .i64 i∧Hid (PutG w (ybw k xs i) wr v)) (fun _ iv _=>n-(intOf iv).toNat)
 case atStart=>exact ⟨0,Nat.zero_le _,rfl,HP0⟩
 case round =>
  obtain ⟨i,hi9,rfl,HK⟩:=hrel
  have ii:(i:Int)≤(n:Int):=by omega
  by_cases hlt:i<n
  ·have ilt:(i:Int)<(n:Int):=by omega
   have hil:i<xs.length:=by rw [hx.out];exact hlt
   obtain ⟨b1,o1,x,e1,hb1,hc1,hxx⟩:=(HS.out.below HK.out.below).at hil
   subst e1
   have HF:Hid (zK k x=true):=h_ (HFA.out x (by rw [← hxx.out,List.getD_eq_getElem?_getD,List.getElem?_eq_getElem hil];exact List.getElem_mem _))
   have HEL:Hid (P+(els k xs i).length≤100000000):=h_ (by have:=ygk HFA.out i (by omega);omega)
   have HNX:Hid (ybw k xs (i+1)=stP xs P (i+1)++(els k xs i++jZ k x)):=h_ (by
    unfold ybw;rw [yeJ hil,hxx.out,yu3.out])
   have HCU:Hid (ybw k xs i=stP xs P i++els k xs i):=h_ (by unfold ybw;rw [yu3.out])
   by_cases hxe:x=[]
   ·subst hxe
    have HP1:Hid (PutG w (stP xs P (i+1)++els k xs i) wr u7):=h_ (by
     rw [stP,if_pos hxx.out,← HCU.out];exact HK.out)
    clear hil hb1
    by_cases h5:k=5
    ·have g5:(k==5)=true:=by simpa using h5
     have H5:=h_ h5
     clear h5
     have HA:Hid (Calls Tryz.prog 76 #[u7,.string ⟨#[]⟩] wr (yjj w.heap.size wr u7 (ybw k xs (i+1)))):=h_ (by
      have:=ydD w.heap.size u7 (stP xs P (i+1)++els k xs i) [] wr (ydv HF.out) (by rw [List.length_append,vZ];have:=HEL.out;omega) HP1.out.below.size HP1.out.own
      rw [HNX.out]
      unfold jZ
      rw [if_pos H5.out,← List.append_assoc]
      exact this)
     go_wp2_with fail
     refine (HA.out).mono ?_
     rintro e w3 ⟨v3,rfl,hg3⟩
     have HP3:=h_ (HP1.out.next hg3)
     clear hg3
     go_wp2
     go_roundw
     case rel=>exact ⟨i+1,by omega,by go_num,HP3⟩
     case measure=>simp [intOf];omega
    ·have g5:(k==5)=false:=by simpa using h5
     have H5:=h_ h5
     clear h5
     have HA:Hid (Calls Tryz.prog 77 #[u7,.string ⟨#[]⟩,.int .i64 (vG k:Int)] wr (yjj w.heap.size wr u7 (ybw k xs (i+1)))):=h_ (by
      have:=ycg w.heap.size u7 k (stP xs P (i+1)++els k xs i) [] wr HF.out HK1.out.1 (by have:=HK1.out.2;have:=H5.out;omega) (by rw [List.length_append,vZ];have:=HEL.out;omega) HP1.out.below.size HP1.out.own (HE.out.below HP1.out.below)
      rw [HNX.out,← List.append_assoc]
      exact this)
     go_wp2_with fail
     refine (ycA k _).mono ?_
     rintro e w' ⟨rfl,rfl⟩
     go_wp2_with fail
     refine (HA.out).mono ?_
     rintro e w3 ⟨v3,rfl,hg3⟩
     have HP3:=h_ (HP1.out.next hg3)
     clear hg3
     go_wp2
     go_roundw
     case rel=>exact ⟨i+1,by omega,by go_num,HP3⟩
     case measure=>simp [intOf];omega
   ·have hxb:x.isEmpty=false:=by
     cases x with
     | nil=>exact absurd rfl hxe
     | cons=>rfl
    have hi8:i/8<P:=by have:=HPD.out;omega
    obtain ⟨j,HJ⟩:=ez (i/8)
    obtain ⟨r,HR⟩:=ez (i%8)
    have hr8:r<8:=by have:=HR.out;omega
    rw [HJ.out] at hi8
    have hjl:j<(ybw k xs i).length:=by rw [HCU.out,List.length_append,vZ];omega
    obtain ⟨g,cap,hv5,hcap,hg,hgl,zU,uQ,yaG⟩:=ybi HK.out.own (by omega)
    subst hv5
    have gc:=zU j hjl
    have gf:=uQ j
    obtain ⟨M,HM⟩:=ez ((ybw k xs i).length)
    rw [HM.out] at hjl yaG HK ⊢
    obtain ⟨c0,HC0⟩:=ez ((ybw k xs i).getD j 0)
    rw [HC0.out] at gc
    obtain ⟨y,HY⟩:=ez (orB c0 r)
    have hor:bits .or .u8 (c0.toNat:Int) (2^r%256)=((y.toNat:Nat):Int):=by
     have h2:2^r<2^8:=Nat.pow_lt_pow_right (by omega) hr8
     have e:(2:Int)^r%256=((2^r:Nat):Int):=by
      have e0:(2:Int)^r=((2^r:Nat):Int):=by simp
      have h3:2^r<256:=h2
      rw [e0]
      generalize 2^r=t at h3
      omega
     rw [e,u8_or_nat _ _ c0.toNat_lt h2,← HY.out,yfp c0 hr8]
    obtain ⟨W1,vI⟩:=ez ((wr.setCell ⟨g,j,none⟩ (.int .u8 (y.toNat:Int))).drew)
    have HP1:Hid (PutG w (stP xs P (i+1)++els k xs i) W1 (.slice (some ⟨g,0,none⟩) M cap)):=h_ (by
     have e1:(ybw k xs i).set j y=stP xs P (i+1)++els k xs i:=by
      have hjs:j<(stP xs P i).length:=by rw [vZ];exact hi8
      rw [HCU.out,List.set_append_left _ _ hjs,stP,if_neg (by rw [hxx.out];exact hxe),HJ.out,HR.out,← HY.out,← HC0.out,HCU.out]
      congr 3
      rw [List.getD_eq_getElem?_getD,List.getD_eq_getElem?_getD,List.getElem?_append_left hjs]
     have e2:(stP xs P (i+1)++els k xs i).length=M:=by rw [← e1,List.length_set,HM.out]
     refine ⟨?_,?_⟩
     ·rw [e2,← e1,← vI.out];exact yaG j y hjl
     ·rw [← vI.out];exact (HK.out.below.setCell hg _).drew)
    have ijM:(j:Int)<(M:Int):=by omega
    have ij5:(j:Int)≤512:=by omega
    have hdi:(i:Int)/8=(j:Int):=by have:=HJ.out;omega
    have hmi:(i:Int)%8=(r:Int):=by have:=HR.out;omega
    clear hil hb1
    go_wp2_with fail
    go_region
    rw [vI.out]
    clear hor gc gf zU uQ yaG hdi hmi
    by_cases h5:k=5
    ·have g5:(k==5)=true:=by simpa using h5
     have H5:=h_ h5
     clear h5
     have HA:Hid (Calls Tryz.prog 76 #[(.slice (some ⟨g,0,none⟩) M cap),.string ⟨x.toArray⟩] W1 (yjj w.heap.size W1 (.slice (some ⟨g,0,none⟩) M cap) (ybw k xs (i+1)))):=h_ (by
      have:=ydD w.heap.size (.slice (some ⟨g,0,none⟩) M cap) (stP xs P (i+1)++els k xs i) x W1 (ydv HF.out) (by rw [List.length_append,vZ];have:=HEL.out;omega) HP1.out.below.size HP1.out.own
      rw [HNX.out]
      unfold jZ
      rw [if_pos H5.out,← List.append_assoc]
      exact this)
     go_wp2_with fail
     refine (HA.out).mono ?_
     rintro e w3 ⟨v3,rfl,hg3⟩
     have HP3:=h_ (HP1.out.next hg3)
     clear hg3
     go_wp2
     go_roundw
     case rel=>exact ⟨i+1,by omega,by go_num,HP3⟩
     case measure=>simp [intOf];omega
    ·have g5:(k==5)=false:=by simpa using h5
     have H5:=h_ h5
     clear h5
     have HA:Hid (Calls Tryz.prog 77 #[(.slice (some ⟨g,0,none⟩) M cap),.string ⟨x.toArray⟩,.int .i64 (vG k:Int)] W1 (yjj w.heap.size W1 (.slice (some ⟨g,0,none⟩) M cap) (ybw k xs (i+1)))):=h_ (by
      have:=ycg w.heap.size (.slice (some ⟨g,0,none⟩) M cap) k (stP xs P (i+1)++els k xs i) x W1 HF.out HK1.out.1 (by have:=HK1.out.2;have:=H5.out;omega) (by rw [List.length_append,vZ];have:=HEL.out;omega) HP1.out.below.size HP1.out.own (HE.out.below HP1.out.below)
      rw [HNX.out,← List.append_assoc]
      exact this)
     go_wp2_with fail
     refine (ycA k _).mono ?_
     rintro e w' ⟨rfl,rfl⟩
     go_wp2_with fail
     refine (HA.out).mono ?_
     rintro e w3 ⟨v3,rfl,hg3⟩
     have HP3:=h_ (HP1.out.next hg3)
     clear hg3
     go_wp2
     go_roundw
     case rel=>exact ⟨i+1,by omega,by go_num,HP3⟩
     case measure=>simp [intOf];omega
  ·obtain rfl:i=n:=by omega
   have ilt:¬ (i:Int)<(i:Int):=by omega
   have GB:Hid (PutG w (yal k xs) wr u7):=h_ (by unfold yal;rw [hx.out];exact HK.out)
   go_wp2
   go_ret2
   exact ⟨_,rfl,GB.out⟩
end
end Go.Proofs.YtgepehlpjpccaaaGreatDoor
