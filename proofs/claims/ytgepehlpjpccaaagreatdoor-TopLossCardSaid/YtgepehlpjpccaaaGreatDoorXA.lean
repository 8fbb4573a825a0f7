/- Contracts. -/
import Derived.Test.YtgepehlpjpccaaaGreatDoorZLA
import Derived.Test.YtgepehlpjpccaaaGreatDoorCards
import Derived.Test.YtgepehlpjpccaaaGreatDoorTie
import Derived.ProofKit
import Derived.OpenShut
import Derived.ShutString
import Derived.LaidMore
import Derived.Stop.LaidErr
import Derived.Deep.DeepHandedRow
import Derived.Deep.Strs
namespace Go.Proofs.YtgepehlpjpccaaaGreatDoor
set_option maxHeartbeats 8000000
set_option maxRecDepth 100000
section
open Go.RowKit
open Go.Lib
theorem yok (k:Int) (p q:Option Addr) (c d n m:Nat) (ps:List (List Sg)) (xs:List (List UInt8)) (w:World) (he:Env w) (hx:Hid (ps.length=n)) (hs:RdP w p ps) (hy:Hid (xs.length=m)) (hq:Ss w q xs) :
  Calls Tryz.prog 8 #[.agg #[.int .i64 k,.slice p n c,.slice q m d]] w fun e w'=>Below w.heap.size w w'∧e=.returned (.bool true):=by
 have HE:=Lib.hid he
 have HS:=Lib.hid hs
 have HQ:=Lib.hid hq
 have HHV:Hid (∀ W,Below w.heap.size w W→Calls Tryz.prog 28 #[] W fun e w'=>e=.returned (.bool true)∧Below W.heap.size W w'):=Lib.hid (fun W hW=>yoy W (HE.out.below hW).tab)
 obtain ⟨W0,HW0⟩:∃ W0,Hid (w.alloc (.cells #[.int .i64 k,.slice p n c,.slice q m d] 54)=W0):=⟨_,Lib.hid rfl⟩
 have HB0:Hid (Below w.heap.size w W0):=Lib.hid (by rw [← HW0.out];exact (Below.refl _ _).alloc (Nat.le_refl _) _)
 obtain ⟨B,HBX⟩:∃ B,Hid (w.heap.size=B):=⟨_,rfl⟩
 have HBB:Hid (Below B w W0):=Lib.hid (by rw [← HBX.out];exact HB0.out)
 have uZ:Hid (W0.heap[B]?=some (.cells #[.int .i64 k,.slice p n c,.slice q m d] 54 (0,0))):=Lib.hid (by rw [← HW0.out,← HBX.out];exact World.alloc_heap_new w _)
 have ynb:Hid (∀ W:World,W.heap[B]?=W0.heap[B]?→W.cell? ⟨B,0,none⟩=some (.int .i64 k)∧W.cell? ⟨B,1,none⟩=some (.slice p n c)∧W.cell? ⟨B,2,none⟩=some (.slice q m d)):=Lib.hid (fun W hW=>by
  have h:=hW.trans uZ.out
  exact ⟨by simp [World.cell?,h],by simp [World.cell?,h],by simp [World.cell?,h]⟩)
 obtain ⟨hc0,hc1,hc2⟩:=ynb.out W0 rfl
 have HLO:=Lib.hid (yoz k p q c d n m ps xs W0 hx (hs.below HB0.out) hy (hq.below HB0.out))
 clear he hs hq
 go_enter Tryz.func8,Tryz.ntmps8
 go_wp2_with fail
 rw [HW0.out,HBX.out]
 go_wp2_with fail
 refine (HLO.out).mono ?_
 rintro e w1 ⟨hb1,rfl|⟨rfl,hn4,hm30⟩⟩
 ·have zG:Hid (Below w.heap.size w w1):=Lib.hid (HB0.out.trans (hb1.mono HB0.out.size))
  clear hb1
  go_wp2_with fail
  refine (HHV.out _ zG.out).mono ?_
  rintro e w9 ⟨rfl,hb9⟩
  have HB9:=Lib.hid (zG.out.trans (hb9.mono zG.out.size))
  clear hb9
  go_wp2_with fail
  go_ret
  exact ⟨by first|exact HB9.out|(rw [← HBX.out];exact HB9.out),rfl⟩
 have hni:(n:Int)≤4:=by omega
 have hmi:(m:Int)≤30:=by omega
 have hmm:((m:Int) != (m:Int))=false:=by simp
 have zG:Hid (Below w.heap.size w w1):=Lib.hid (HB0.out.trans (hb1.mono HB0.out.size))
 have HX1:Hid (w1.heap[B]?=some (.cells #[.int .i64 k,.slice p n c,.slice q m d] 54 (0,0))):=Lib.hid ((hb1.block _ (Array.getElem?_eq_some_iff.1 uZ.out).1).trans uZ.out)
 have e1:w1.heap[B]?=W0.heap[B]?:=HX1.out.trans uZ.out.symm
 clear hc0 hc1 hc2
 obtain ⟨hc0,hc1,hc2⟩:=ynb.out w1 e1
 have HIQ:=Lib.hid ((ytr 0 w1 (by decide) (by decide)).mono fun _ _ h=>h.c)
 clear hb1 e1
 go_wp2_with fail
 refine (HIQ.out).mono ?_
 rintro e w2 ⟨bS,pS,nS,cS,qS,mS,dS,rfl,hqs,hb2⟩
 obtain ⟨GS,ync⟩:∃ GS,Hid (w2.heap.size=GS):=⟨_,rfl⟩
 obtain ⟨W2,HW2⟩:∃ W2,Hid (w2.alloc (.cells #[.bool bS,.slice pS nS cS,.slice qS mS dS] 59)=W2):=⟨_,Lib.hid rfl⟩
 have yev:Below w2.heap.size w2 W2:=by rw [← HW2.out];exact (Below.refl _ _).alloc (Nat.le_refl _) _
 have HR2:Hid (Below w1.heap.size w1 W2):=Lib.hid (hb2.trans (yev.mono hb2.size))
 have HBG:Hid (B<GS):=Lib.hid (by rw [← ync.out];exact Nat.lt_of_lt_of_le (Array.getElem?_eq_some_iff.1 HX1.out).1 hb2.size)
 have HWG:Hid (w.heap.size≤GS):=Lib.hid (by rw [HBX.out];exact Nat.le_of_lt HBG.out)
 have HI2:Hid (LossI w B GS k p q n c m d 0 W2):=Lib.hid ⟨zG.out.trans (HR2.out.mono zG.out.size),(HR2.out.block _ (Array.getElem?_eq_some_iff.1 HX1.out).1).trans HX1.out,bS,pS,nS,cS,qS,mS,dS,by rw [← HW2.out,← ync.out];exact World.alloc_heap_new w2 _,by have h:=hqs.below yev;rwa [show (((0:Int)):Rat)=0 from rfl] at h⟩
 have HBW:Hid (∀ W,Below w.heap.size w W→Below B w W):=Lib.hid (fun W h=>by rw [← HBX.out];exact h)
 clear hb2 yev hqs hc0 hc1 hc2
 go_wp2_with fail
 rw [HW2.out,ync.out]
 go_loopw [3,5] (fun nv iv wr=>∃ (i:Nat) (ys:List (List UInt8)) (qn:Option Addr) (cn:Nat) (s:Rat),i≤n∧nv=.slice qn m cn∧iv=.int .i64 i∧Hid (ys.length=m)∧Hid (Ss wr qn ys)∧Hid (LossI w B GS k p q n c m d s wr)∧Hid (QLt (6*i+10) s)∧Hid (∀ j,j<m→yc7 s (xs.getD j []) (ys.getD j []))) (fun _ iv _=>n-(intOf iv).toNat)
 case atStart=>exact ⟨0,xs,q,d,0,Nat.zero_le _,rfl,rfl,hy,Lib.hid (HQ.out.below HI2.out.below),HI2,Lib.hid ygK,Lib.hid (fun j _=>yc7.refl0 _)⟩
 case round =>
  obtain ⟨i,ys,qn,cn,s,hi,rfl,rfl,HYL,HSY,HI,HQL,HFA⟩:=hrel
  have ii:(i:Int)≤(n:Int):=by omega
  obtain ⟨hc0,hc1,hc2⟩:=HI.out.cells
  by_cases hlt:i<n
  ·have ilt:(i:Int)<(n:Int):=by omega
   obtain ⟨b1,o1,q1,c1,ss,e1,hl1,hp1,hsc,hrg,hss⟩:=(HS.out.below HI.out.below).at (k:=i) (by rw [hx.out];exact hlt)
   subst e1
   have HL1:=Lib.hid hl1
   obtain ⟨ns,HNS⟩:∃ ns,Hid (ss.length=ns):=⟨_,rfl⟩
   rw [HNS.out] at hp1 hsc
   have HRG:=Lib.hid hrg
   have HP1:=Lib.hid hp1
   have GP:Hid (∀ W,Below wr.heap.size wr W→Below wr.heap.size wr W∧W.cell? ⟨B,0,none⟩=some (.int .i64 k)∧W.cell? ⟨B,1,none⟩=some (.slice (some ⟨b1,o1,none⟩) n c)∧W.cell? ⟨b1,o1+i,none⟩=some (.slice q1 ns c1)):=Lib.hid (fun W hW=>by
    obtain ⟨g0,g1,-⟩:=(HI.out.next hW).cells
    exact ⟨hW,g0,g1,(hW.cell (p:=⟨b1,o1+i,none⟩) HL1.out).trans HP1.out⟩)
   obtain ⟨z,HZ⟩:∃ z,Hid (ydG k ss ys=z):=⟨_,rfl⟩
   have HEW:=Lib.hid (HE.out.below HI.out.below)
   by_cases hz:z=0
   case neg =>
    have HEN:Hid (∀ W,Below wr.heap.size wr W→Calls Tryz.prog 22 #[.int .i64 k,.slice q1 ns c1,.slice qn m cn] W fun e w'=>e=.returned (.tuple #[.slice none 0 0,.int .i64 z])∧Hid (Below wr.heap.size wr w')):=Lib.hid (fun W hW=>(yub k q1 qn c1 cn ns m ss ys W (HEW.out.below hW) HNS (HRG.out.below hW) HYL (by omega) (HSY.out.below hW) z hz HZ.out).mono fun _ _ h=>⟨h.1,Lib.hid (hW.trans (h.2.mono hW.size))⟩)
    have gz:(z != 0)=true:=by rw [bne_iff_ne];exact hz
    have HZN:=Lib.hid hz
    clear hz hl1 hrg
    go_wp2_with fail
    clear hp1 hc0 hc1 hc2
    go_region_held3 (fun W=>Below wr.heap.size wr W∧W.cell? ⟨B,0,none⟩=some (.int .i64 k)∧W.cell? ⟨B,1,none⟩=some (.slice (some ⟨b1,o1,none⟩) n c)∧W.cell? ⟨b1,o1+i,none⟩=some (.slice q1 ns c1))
     (first|exact GP.out _ (Below.refl _ _)|exact GP.out _ (Below.refl _ _).drew|(go_split_ands;exact GP.out _ h3.out))
     ((go_at_call 22;go_split_ands;refine (HEN.out _ (by assumption)).mono ?_;rintro e w3 ⟨rfl,h3⟩))
    all_goals
     have HB3:=Lib.hid (HI.out.below.trans (h3.out.mono HI.out.below.size))
     go_wp2_with fail
     refine (HHV.out _ HB3.out).mono ?_
     rintro e w9 ⟨rfl,hb9⟩
     have HB9:=Lib.hid (HB3.out.trans (hb9.mono HB3.out.size))
     clear hb9
     go_wp2_with fail
     go_ret
     exact ⟨by first|exact HB9.out|exact HBW.out _ HB9.out,rfl⟩
   case pos =>
   subst hz
   obtain ⟨zs,HZS⟩:∃ zs,Hid (uE ss ys=zs):=⟨_,rfl⟩
   have HEN:Hid (∀ W,Below wr.heap.size wr W→Calls Tryz.prog 22 #[.int .i64 k,.slice q1 ns c1,.slice qn m cn] W fun e w3=>∃ b off mm cv,e=.returned (.tuple #[.slice (some ⟨b,off,none⟩) mm cv,.int .i64 0])∧Hid (Below wr.heap.size wr w3)∧Hid (∀ W,Below w3.heap.size w3 W→Calls Tryz.prog 25 #[.int .i64 k,.slice q1 ns c1,.int .i64 (m:Int),.slice (some ⟨b,off,none⟩) mm cv] W fun e w'=>∃ q,e=.returned (.tuple #[.slice q m m,.int .i64 0])∧Ss w' q zs∧Below W.heap.size W w')):=Lib.hid (fun W hW=>by
    refine (ykE k q1 qn c1 cn ns m ss ys W (HEW.out.below hW) HNS (HRG.out.below hW) HYL (by omega) (HSY.out.below hW) HZ.out).mono ?_
    rintro e w3 ⟨v,rfl,hg⟩
    obtain ⟨b,off,mm,cv,rfl,-,HD⟩:=ypm (c:=c1) (HEW.out.below hW) HNS (HRG.out.below hW) HYL (by omega) HZ.out HZS hg.below hg.own
    exact ⟨b,off,mm,cv,rfl,Lib.hid (hW.trans (hg.below.mono hW.size)),HD⟩)
   obtain ⟨t,ytH,yeI⟩:=ypn (yae HZ.out).1
   have HLC:=Lib.hid yeI
   have HLT:=Lib.hid ytH
   have HLS:Hid (∀ W,Below wr.heap.size wr W→Calls Tryz.prog 11 #[.int .i64 k,.slice q1 ns c1] W (ygx (t,0) W)):=Lib.hid (fun W hW=>by
    have h:=yk9 k q1 c1 ns ss W (HEW.out.below hW).tab HNS (HRG.out.below hW)
    rwa [HLT.out] at h)
   obtain ⟨T,HT⟩:∃ T:ByteArray,Hid (⟨t.toArray⟩=T):=⟨_,rfl⟩
   clear hl1 hrg yeI ytH
   go_wp2_with fail
   clear hp1 hc0 hc1 hc2
   go_region_held3 (fun W=>Below wr.heap.size wr W∧W.cell? ⟨B,0,none⟩=some (.int .i64 k)∧W.cell? ⟨B,1,none⟩=some (.slice (some ⟨b1,o1,none⟩) n c)∧W.cell? ⟨b1,o1+i,none⟩=some (.slice q1 ns c1))
    (first|exact GP.out _ (Below.refl _ _)|exact GP.out _ (Below.refl _ _).drew|(go_split_ands;exact GP.out _ h3.out))
    ((go_at_call 22;go_split_ands;refine (HEN.out _ (by assumption)).mono ?_;rintro e w3 ⟨b,off,mm,cv,rfl,h3,hd3⟩))
   all_goals
    go_wp2_with fail
    go_region_held3 (fun W=>(Below w3.heap.size w3 W∧Below wr.heap.size wr W)∧W.cell? ⟨B,0,none⟩=some (.int .i64 k)∧W.cell? ⟨B,1,none⟩=some (.slice (some ⟨b1,o1,none⟩) n c)∧W.cell? ⟨b1,o1+i,none⟩=some (.slice q1 ns c1))
     (first|exact ⟨⟨Below.refl _ _,h3.out⟩,(GP.out _ h3.out).2⟩|exact ⟨⟨(Below.refl _ _).drew,h3.out.drew⟩,(GP.out _ h3.out.drew).2⟩|(go_split_ands;exact ⟨⟨h4b.out,h4.out⟩,(GP.out _ h4.out).2⟩))
     ((go_at_call 25;go_split_ands;refine (hd3.out _ (by assumption)).mono ?_;rintro e w4 ⟨q4,rfl,hs4,hb4⟩;have h4b:Hid (Below w3.heap.size w3 w4):=Lib.hid (Below.trans (by assumption) (hb4.mono (Below.size (by assumption))));have h4:Hid (Below wr.heap.size wr w4):=Lib.hid (h3.out.trans (h4b.out.mono h3.out.size));have hs4':=Lib.hid hs4))
    all_goals
     have HS4:=Lib.hid hs4'.out
     clear hs4 hs4' hb4 h4b hd3
     go_wp2_with fail
     go_region_held3 (fun W=>(Below w4.heap.size w4 W∧Below wr.heap.size wr W)∧W.cell? ⟨B,0,none⟩=some (.int .i64 k)∧W.cell? ⟨B,1,none⟩=some (.slice (some ⟨b1,o1,none⟩) n c)∧W.cell? ⟨b1,o1+i,none⟩=some (.slice q1 ns c1))
      (first|exact ⟨⟨Below.refl _ _,h4.out⟩,(GP.out _ h4.out).2⟩|exact ⟨⟨(Below.refl _ _).drew,h4.out.drew⟩,(GP.out _ h4.out.drew).2⟩|(go_split_ands;exact ⟨⟨h5b.out,h5.out⟩,(GP.out _ h5.out).2⟩))
      ((go_at_call 11;go_split_ands;refine (HLS.out _ (by assumption)).mono ?_;rintro e w5 ⟨rfl,hb5⟩;have h5b:Hid (Below w4.heap.size w4 w5):=Lib.hid (Below.trans (by assumption) (hb5.mono (Below.size (by assumption))));have h5:Hid (Below wr.heap.size wr w5):=Lib.hid (h4.out.trans (h5b.out.mono h4.out.size))))
     all_goals
      have HS5:Hid (Ss w5 q4 zs):=Lib.hid (HS4.out.below h5b.out)
      clear hb5 h5b
      have HZL:Hid (zs.length=m):=Lib.hid (by rw [← HZS.out,ybf,HYL.out])
      rw [HT.out]
      go_wp2_with fail
      go_cut [111] (fun sl wx=>sl=.bool false∧Hid (Below w5.heap.size w5 wx))
      case first =>
       by_cases g1:1<ns
       case neg =>
        have g1i:¬ (1:Int)<(ns:Int):=by omega
        have g1d:decide ((1:Int)<(ns:Int))=false:=by simpa using g1i
        obtain ⟨-,hc0,hc1,hp1⟩:=GP.out w5 h5.out
        go_quiet ((fail))
        go_wp2_with fail
        go_meet
        case rel=>exact ⟨rfl,Lib.hid (yG _ _ nq)⟩
       case pos =>
        have g1i:(1:Int)<(ns:Int):=by omega
        have g1d:decide ((1:Int)<(ns:Int))=true:=by simpa using g1i
        have hns0:(0:Int)<(ns:Int):=by omega
        have hnsn:0<ns:=by omega
        have hns4:(ns:Int)≤4:=by have:=(vM (yae HZ.out).1).2.1;rw [HNS.out] at this;omega
        have hsci:(ns:Int)≤(c1:Int):=by omega
        have hsc1:(1:Int)≤(c1:Int):=by omega
        obtain ⟨b2,o2,x,y,sx,e2,hbl,hd1,-,-,hx2⟩:=(HRG.out.below h5.out).at (k:=0) (by rw [HNS.out];omega)
        subst e2
        rw [Nat.zero_mul,Nat.add_zero] at hd1
        have HKIND:Hid (∀ W,Below w5.heap.size w5 W→W.cell? ⟨b2,o2,none⟩=some (.int .i64 x)):=Lib.hid (fun W hW=>(hW.cell (p:=⟨b2,o2,none⟩) hbl).trans hd1)
        by_cases gx:x=1
        case neg =>
         have gxd:(x==1)=false:=by simpa using gx
         obtain ⟨-,hc0,hc1,hp1⟩:=GP.out w5 h5.out
         go_quiet ((fail))
         go_wp2_with fail
         go_meet
         case rel=>exact ⟨rfl,Lib.hid (yG _ _ nq)⟩
        case pos =>
         subst gx
         have hrf:uU ss=true:=by
          unfold uU
          rw [hx2.out,decide_eq_true (by rw [HNS.out];omega)];rfl
         have HEF:=Lib.hid (yqm HZ.out HZS.out hrf (by rw [HNS.out];exact g1))
         have HAL:Hid (∀ W,Below w5.heap.size w5 W→Calls Tryz.prog 30 #[.slice q4 m m,.int .i64 k,.slice (some ⟨b2,o2,none⟩) 1 c1,.slice qn m cn] W fun e w'=>e=.returned (.bool true)∧Below W.heap.size W w'):=Lib.hid (fun W hW=>by
          have hB:Below wr.heap.size wr W:=h5.out.trans (hW.mono h5.out.size)
          exact yql k q4 (some ⟨b2,o2,none⟩) qn m c1 cn 1 m (ss.take 1) ys zs W (HEW.out.below hB) (Lib.hid (by rw [List.length_take,HNS.out];omega)) (yty (HRG.out.below hB)) HYL (by omega) (HSY.out.below hB) HEF.out.1 (Lib.hid HEF.out.2) (HS5.out.below hW))
         have yrn:Hid (∀ W,Below w5.heap.size w5 W→(Below w5.heap.size w5 W∧W.cell? ⟨b2,o2,none⟩=some (.int .i64 1))∧W.cell? ⟨B,0,none⟩=some (.int .i64 k)∧W.cell? ⟨B,1,none⟩=some (.slice (some ⟨b1,o1,none⟩) n c)∧W.cell? ⟨b1,o1+i,none⟩=some (.slice (some ⟨b2,o2,none⟩) ns c1)):=Lib.hid (fun W hW=>⟨⟨hW,HKIND.out W hW⟩,(GP.out W (h5.out.trans (hW.mono h5.out.size))).2⟩)
         clear hd1 hbl hrf
         go_region_held3 (fun W=>(Below w5.heap.size w5 W∧W.cell? ⟨b2,o2,none⟩=some (.int .i64 1))∧W.cell? ⟨B,0,none⟩=some (.int .i64 k)∧W.cell? ⟨B,1,none⟩=some (.slice (some ⟨b1,o1,none⟩) n c)∧W.cell? ⟨b1,o1+i,none⟩=some (.slice (some ⟨b2,o2,none⟩) ns c1))
          (first|exact yrn.out _ (Below.refl _ _)|exact yrn.out _ (Below.refl _ _).drew|(go_split_ands;exact yrn.out _ h6.out))
          ((go_at_call 30;go_split_ands;refine (HAL.out _ (by assumption)).mono ?_;rintro e w6 ⟨rfl,hb6⟩;have h6:Hid (Below w5.heap.size w5 w6):=Lib.hid (Below.trans (by assumption) (hb6.mono (Below.size (by assumption))))))
         all_goals
          go_wp2_with fail
          go_meet
          case rel=>exact ⟨rfl,h6⟩
      case rest =>
       obtain ⟨rfl,h6⟩:=hcut
       have HT6:Hid (Below wr.heap.size wr wc):=Lib.hid (h5.out.trans (h6.out.mono h5.out.size))
       have HST:Hid (Ss wc q4 zs):=Lib.hid (HS5.out.below h6.out)
       go_wp2_with fail
       rcases HLC.out with ⟨ht0,htn⟩|⟨ql,hql,-⟩
       ·have HGL:Hid (∀ W,Calls Tryz.prog 31 #[.string T] W (ya7 (gq t) false W)):=Lib.hid (fun W=>by
         have h:=ytA t W
         rwa [HT.out,htn] at h)
        obtain rfl:T=(⟨#[]⟩:ByteArray):=by rw [← HT.out,ht0]
        have HRV:Hid (∀ W,Below wr.heap.size wr W→Calls Tryz.prog 16 #[.int .i64 k,.slice q1 ns c1] W fun e w'=>e=.returned (.bool true)∧Below W.heap.size W w'):=Lib.hid (fun W hW=>by
         have h:=ymg k q1 c1 ns ss W HNS (HRG.out.below hW)
         rwa [(yae HZ.out).1] at h)
        clear ht0 htn
        refine (HGL.out _).mono ?_
        rintro e w7 ⟨bQ,pQ,nQ,cQ,qQ,mQ,dQ,rfl,hb7,-⟩
        obtain ⟨GQ,HGQx⟩:∃ G,Hid (w7.heap.size=G):=⟨_,rfl⟩
        obtain ⟨W8,HW8⟩:∃ W8,Hid (w7.alloc (.cells #[.bool bQ,.slice pQ nQ cQ,.slice qQ mQ dQ] 59)=W8):=⟨_,Lib.hid rfl⟩
        have yfc:Below w7.heap.size w7 W8:=by rw [← HW8.out];exact (Below.refl _ _).alloc (Nat.le_refl _) _
        have h8:Hid (Below wr.heap.size wr W8):=Lib.hid (HT6.out.trans ((hb7.trans (yfc.mono hb7.size)).mono HT6.out.size))
        clear hb7 yfc
        go_wp2_with fail
        rw [HW8.out,HGQx.out]
        go_region_held3 (fun W=>Below wr.heap.size wr W∧W.cell? ⟨B,0,none⟩=some (.int .i64 k)∧W.cell? ⟨B,1,none⟩=some (.slice (some ⟨b1,o1,none⟩) n c)∧W.cell? ⟨b1,o1+i,none⟩=some (.slice q1 ns c1))
         (first|exact GP.out _ h8.out|exact GP.out _ h8.out.drew|(go_split_ands;exact GP.out _ hC.out)|(go_split_ands;exact GP.out _ hA.out))
         (first|(go_at_call 16;go_split_ands;refine (HRV.out _ (by assumption)).mono ?_;rintro e wA ⟨rfl,hbA⟩;have hA:Hid (Below wr.heap.size wr wA):=Lib.hid (Below.trans (by assumption) (hbA.mono (Below.size (by assumption)))))|(go_at_call 28;go_split_ands;refine (HHV.out _ (HI.out.next (by assumption)).below).mono ?_;rintro e wC ⟨rfl,hbC⟩;have hC:Hid (Below wr.heap.size wr wC):=Lib.hid (Below.trans (by assumption) (hbC.mono (Below.size (by assumption))))))
        all_goals
         have HB9:=Lib.hid (HI.out.next hC.out).below
         go_wp2_with fail
         go_ret
         exact ⟨by first|exact HB9.out|exact HBW.out _ HB9.out,rfl⟩
       ·have HGL:Hid (∀ W,Calls Tryz.prog 31 #[.string T] W (ya7 ql true W)):=Lib.hid (fun W=>by
         have h:=ytA t W
         rwa [HT.out,ymB hql,hql] at h)
        have HQ5:Hid (QLt 5 ql):=Lib.hid (yi8 hql)
        refine (HGL.out _).mono ?_
        rintro e w7 ⟨bQ,pQ,nQ,cQ,qQ,mQ,dQ,rfl,hb7,hq7⟩
        obtain ⟨GQ,HGQx⟩:∃ G,Hid (w7.heap.size=G):=⟨_,rfl⟩
        obtain ⟨W8,HW8⟩:∃ W8,Hid (w7.alloc (.cells #[.bool bQ,.slice pQ nQ cQ,.slice qQ mQ dQ] 59)=W8):=⟨_,Lib.hid rfl⟩
        have yfc:Below w7.heap.size w7 W8:=by rw [← HW8.out];exact (Below.refl _ _).alloc (Nat.le_refl _) _
        have h8:Hid (Below wr.heap.size wr W8):=Lib.hid (HT6.out.trans ((hb7.trans (yfc.mono hb7.size)).mono HT6.out.size))
        have HS8:Hid (Ss W8 q4 zs):=Lib.hid ((HST.out.below hb7).below yfc)
        have HI8:=Lib.hid (HI.out.next h8.out)
        obtain ⟨bs,p3,n3,c3,p4,n4,c4,hg3,hq3⟩:=HI8.out.sum
        have k0:W8.cell? ⟨GS,0,none⟩=some (.bool bs):=by simp [World.cell?,hg3]
        have k1:W8.cell? ⟨GS,1,none⟩=some (.slice p3 n3 c3):=by simp [World.cell?,hg3]
        have k2:W8.cell? ⟨GS,2,none⟩=some (.slice p4 n4 c4):=by simp [World.cell?,hg3]
        rw [← HW8.out] at k0 k1 k2
        have HPL:Hid (Calls Tryz.prog 32 #[.agg #[.bool bs,.slice p3 n3 c3,.slice p4 n4 c4],.agg #[.bool bQ,.slice pQ nQ cQ,.slice qQ mQ dQ]] W8 (yiB (s+ql) W8)):=Lib.hid ((ykY _ _ s ql (6*i+10) 5 W8 (by omega) HQL.out HQ5.out hq3 (hq7.below yfc)).mono fun _ _ h=>h.c)
        clear hb7 yfc hq7 hg3 hq3
        go_wp2_with fail
        rw [HW8.out]
        refine (HPL.out).mono ?_
        rintro e w9 ⟨bD,pD,nD,cD,qD,mD,dD,rfl,hqd,hb9⟩
        have HI9:=Lib.hid (HI8.out.next hb9)
        have HS9:=Lib.hid (HS8.out.below hb9)
        have HQD:=Lib.hid hqd
        obtain ⟨z0,z1,z2,l0,l1,l2,f0,f1,f2⟩:=HI9.out.resa.slots
        clear hb9 hqd k0 k1 k2
        go_wp2_with fail
        go_roundw
        case rel =>
         refine ⟨i+1,zs,q4,m,s+ql,by omega,rfl,by go_num,HZL,Lib.hid ?_,Lib.hid (HI9.out.put HWG.out (Nat.ne_of_lt HBG.out) HQD.out),Lib.hid ?_,Lib.hid ?_⟩
         ·obtain ⟨_,_,_,_,_,_,_,hg9,-⟩:=HI9.out.sum
          exact ywJ HS9.out hg9 _ _ _
         ·exact yvo HQL.out HQ5.out
         ·intro j hj
          exact (HFA.out j hj).trans (ytx HZ.out HZS.out HLT.out hql j (by rw [HYL.out];exact hj))
        case measure=>simp [intOf];omega
  ·obtain rfl:i=n:=by omega
   have ilt:¬ (i:Int)<(i:Int):=by omega
   obtain ⟨bs,p3,n3,c3,p4,n4,c4,hg3,hq3⟩:=HI.out.sum
   have k0:wr.cell? ⟨GS,0,none⟩=some (.bool bs):=by simp [World.cell?,hg3]
   have k1:wr.cell? ⟨GS,1,none⟩=some (.slice p3 n3 c3):=by simp [World.cell?,hg3]
   have k2:wr.cell? ⟨GS,2,none⟩=some (.slice p4 n4 c4):=by simp [World.cell?,hg3]
   have HNB:=Lib.hid (yox q qn d cn m (6*i+10) xs ys s bs p3 p4 n3 c3 n4 c4 wr hy HYL (by omega) (HQ.out.below HI.out.below) HSY.out hq3 (by omega) HQL HFA)
   clear hg3 hq3
   go_wp2_with fail
   refine (HNB.out).mono ?_
   rintro e w9 ⟨rfl,hb9⟩
   have HI9:=Lib.hid (HI.out.next hb9)
   clear hb9 k0 k1 k2
   go_wp2_with fail
   refine (HHV.out _ HI9.out.below).mono ?_
   rintro e w10 ⟨rfl,ycm⟩
   have HB9:=Lib.hid (HI9.out.next ycm).below
   clear ycm
   go_wp2_with fail
   go_ret
   exact ⟨by first|exact HB9.out|exact HBW.out _ HB9.out,rfl⟩
end
section
open Go.ChangeMaps Go.ChangeShapes Go.WideShapes Go.ChangeAt Go.RowKit
theorem yyo:ownKnob Tryz.prog.godebug=none:=by kernel_rfl
section
variable {H : Type} {enc : TypeId × Value → H} {P : Program}
theorem yhL {f:Func} {s:ChangeSpec} {apart fresh handsOn again:Bool} {W W':World} {args:Array Value} {v:Value} {ds gs:List (DataW H)} {before pa pv:List MemPlace}
  (hW:DataW.Whole enc P f.params.toList s.vars apart W args.toList ds gs before)
  (zA:∀ (b:Nat) (sp:Nat→Bool) (hd:Bool),DataW.TrodAll enc P W' b sp hd f.resultTypes.toList (v.resultList f.resultTypes.size) (s.fn H (ds++gs)).results [])
  (yro:∀ sp:Nat→Bool,(∀ p ∈ before,sp p.block=true)→DataW.TrodAll enc P W' 0 sp true f.params.toList args.toList (s.fn H (ds++gs)).args pa)
  (hvars:∀ sp:Nat→Bool,(∀ p ∈ before,sp p.block=true)→DataW.TrodVars enc P W' sp s.vars (s.fn H (ds++gs)).vars pv)
  (hps:before=pa++pv) (hb:Below W.heap.size W W')
  (hok:∀ (j:Nat) (t:TypeId) (r:Value),f.resultTypes[j]?=some t→(v.resultList f.resultTypes.size)[j]?=some r→Value.okWide P W' .any 0 t r) :
  s.post enc P f apart fresh handsOn again W args v W':=by
 have hlt:∀ p ∈ before,p.block<W.heap.size:=fun p hp=>hW.lt p hp
 have hold:∀ p ∈ before,(fun b=>decide (b<W.heap.size)) p.block=true:=fun p hp=>by simpa using hlt p hp
 refine ⟨ds,gs,before,[],pa,pv,hW,zA _ _ _,yro _ hold,hvars _ hold,World.keptBut_mono (fun p hp=>⟨hp,?_⟩) (hb.frame (· ∈ before)),fun _=>?_⟩
 ·rw [hps,List.mem_append] at hp
  exact Or.inr hp
 ·obtain ⟨_,_,_,_,_,hz,hn⟩:=hW
  refine ⟨hok,_,_,([]++pa)++pv,⟨[]++pa,pv,trodAll_append (yro _ (fun _ _=>rfl)) (zA _ _ _),hvars _ (fun _ _=>rfl),rfl,?_,?_⟩,?_⟩
  ·intro b off hp
   have hin:MemPlace.cell b off ∈ before:=by rw [hps];simpa using hp
   rw [hb.frozen (hlt _ hin)]
   exact hz b off hin
  ·intro ha
   have:=hn ha
   rw [hps] at this
   simpa using this
  ·intro p hp _
   rw [hps]
   simpa using hp
end
section
variable {H : Type} {enc : TypeId × Value → H} {P : Program}
theorem yhM (hl:laidOutB P=true) {W W':World} (hb:Below W.heap.size W W') (sp:Nat→Bool) :
  ∀ (ts:List TypeId) (vs:List Value) (ds:List (DataW H)) (ps:List MemPlace),(∀ t ∈ ts,P.readableRec t=true)→(∀ t ∈ ts,t<P.types.size) →
   DataW.TrodAll enc P W 0 (fun _=>true) true ts vs ds ps→(∀ x ∈ ps,x.block<W.heap.size)→(∀ x ∈ ps,sp x.block=true)→DataW.TrodAll enc P W' 0 sp true ts vs ds ps:=by
 intro ts
 induction ts with
 | nil =>
  intro vs ds ps _ _ h _ _
  obtain ⟨rfl,rfl,rfl⟩:=trodAll_nil h
  exact trodAll_mk0
 | cons t ts ih =>
  intro vs ds ps hr jG h hlt hsp
  obtain ⟨v,vs',d,ds',p,q,rfl,rfl,rfl,h0,h1⟩:=trodAll_cons h
  exact trodAll_cons_mk (WideElems.Trod_stays hl (hr t (by simp)) (jG t (by simp)) h0 (fun x hx=>hb.same (hlt x (by simp [hx]))) (fun x hx=>hsp x (by simp [hx])))
   (ih vs' ds' q (fun t ht=>hr t (by simp [ht])) (fun t ht=>jG t (by simp [ht])) h1 (fun x hx=>hlt x (by simp [hx])) (fun x hx=>hsp x (by simp [hx])))
end
theorem yyp : Tryz.prog.globalNamed "internal/strconv.uint64pow10" = some 4 := by kernel_rfl
theorem ys3:(Tryz.prog.globals[4]?).map (·.type)=some 259:=by kernel_rfl
theorem ys4:Tryz.prog.cellsOf 259=20:=by kernel_rfl
theorem yu6:Tryz.prog.cellsOf 86=1:=by kernel_rfl
theorem yxb : Tryz.prog.globalNamed "strconv.ErrSyntax" = some 0 := by kernel_rfl
theorem ys5:(Tryz.prog.globals[0]?).map (·.type)=some 125:=by kernel_rfl
theorem yxc : Tryz.prog.globalNamed "strconv.ErrRange" = some 1 := by kernel_rfl
theorem ys6:(Tryz.prog.globals[1]?).map (·.type)=some 125:=by kernel_rfl
theorem ypf : "*" ++ "errors.errorString" = "*errors.errorString" := by decide
theorem yrM (u : TypeId) (h : Tryz.prog.typeName? 3 u = some "*errors.errorString") : u = 252 :=
 typeName_ptr_named (nm := "errors.errorString") (by rw [ypf]; kernel_rfl) (by kernel_rfl) (by decide) u (by rw [ypf]; exact h)
theorem yu7 {W:World} (h:laidMet Tryz.prog Rows.codecValidRow.laid W):Env W:=by
 have h3:=laidMet.tail (laidMet.tail h)
 have h4:=laidMet.tail h3
 have h5:=laidMet.tail h4
 refine ⟨Lib.tabIs_of_head yyp ys3 Tryz.underlying259 Tryz.underlying86 yu6 ys4 h3,?_,?_⟩
 ·obtain ⟨a,s,hv,-,-,-⟩:=laid_sentinel h5 yxb ys5 Tryz.underlying125 yrM Tryz.underlying252 Tryz.underlying254 rfl rfl Tryz.underlying9 (by kernel_rfl) (by kernel_rfl)
  exact ⟨_,by simpa using World.var?_cell yxb hv 0,.inr ⟨_,_,rfl⟩⟩
 ·obtain ⟨a,s,hv,-,-,-⟩:=laid_sentinel h4 yxc ys6 Tryz.underlying125 yrM Tryz.underlying252 Tryz.underlying254 rfl rfl Tryz.underlying9 (by kernel_rfl) (by kernel_rfl)
  exact ⟨_,by simpa using World.var?_cell yxc hv 0,.inr ⟨_,_,rfl⟩⟩
theorem ys7 {W:World} (h:laidMetH Tryz.prog Rows.codecValidRow.laid W):Env W:=by
 rw [MakeChecks.laidMetH_plain _ _ _ (by kernel_rfl)] at h
 exact yu7 h
theorem yu8:laidOutB Tryz.prog=true:=by kernel_rfl
theorem yol:Tryz.prog.readableRec 54=true:=by kernel_rfl
theorem yp9:54<Tryz.prog.types.size:=of_decide_eq_true (by kernel_rfl)
section
variable {H : Type} {enc : TypeId × Value → H} {w : World} {base b0 : Nat} {spare : Nat → Bool} {yhn : Bool} {r : Reach} {v : Value} {d : DataW H} {p : List MemPlace}
end
theorem yrN:Tryz.prog.cellsOf 9=1:=by kernel_rfl
theorem yjl {w:World} {a:Addr} {x:Value} (h:w.cell? a=some x):∃ b off,a=⟨b,off,none⟩∧b<w.heap.size:=by
 have hs:=World.cell?_spot h
 obtain ⟨b,off,sp⟩:=a
 simp only at hs
 subst hs
 refine ⟨b,off,rfl,Classical.byContradiction fun hx=>?_⟩
 simp [World.cell?,hx] at h
section
open Go.Deep
variable {H : Type} {enc : TypeId × Value → H} {w : World} {base b0 : Nat} {spare : Nat → Bool} {yhn : Bool} {v : Value} {y : DataW H × List MemPlace} {n : Nat} {r : Reach} {d : DataW H} {p : List MemPlace}
theorem yu9 (h:DataW.trod enc Tryz.prog w base spare yhn n 30 [v]=some y):∃ (q:Option Addr) (c:Nat) (l:List (List UInt8)),v=.slice q l.length c∧Ss w q l:=by
 rcases open_strings Tryz.underlying30 Tryz.underlying9 yrN h with ⟨e,-⟩|⟨a,len,cap,ss,e,hb,hl,hm,hlen,-,hc,-⟩
 ·simp at e
  exact ⟨none,0,[],e,.inl rfl⟩
 ·simp at e
  have hz:len≤ss.length:=by rw [hlen];split<;>omega
  have hll:((ss.take len).map (·.data.toList)).length=len:=by simp [hz]
  refine ⟨some a,cap,(ss.take len).map (·.data.toList),by rw [hll];exact e,?_⟩
  by_cases h0:len=0
  ·exact .inl (by rw [hll];exact h0)
  ·have h1:=hc 0 (by omega)
   rw [Addr.add_zero'] at h1
   obtain ⟨b,off,rfl,hlt⟩:=yjl h1
   refine .inr ⟨b,off,rfl,hlt,fun j hj=>?_⟩
   rw [hll] at hj
   have h2:=hc j (by omega)
   rw [Addr.add_lit] at h2
   have hj2:j<ss.length:=by omega
   rw [h2]
   simp [List.getD_eq_getElem?_getD,hj,hj2]
end
section
open Go.Deep
variable {H : Type} {enc : TypeId × Value → H} {w : World} {base b0 : Nat} {spare : Nat → Bool} {yhn : Bool} {v : Value} {y : DataW H × List MemPlace} {n : Nat} {r : Reach} {d : DataW H} {p : List MemPlace}
theorem ypg:Tryz.prog.cellsOf 3=1:=by kernel_rfl
theorem ys8:Tryz.prog.cellsOf 45=3:=by kernel_rfl
theorem yqa (h:DataW.trod enc Tryz.prog w base spare yhn n 22 [v]=some y):∃ (q:Option Addr) (c:Nat) (l:List Sg),v=.slice q l.length c∧RdG w q l:=by
 rcases open_slice Tryz.underlying22 h with ⟨e,-⟩|⟨a,len,cap,m,n2,D,Pl,e,hb,hl,hm,hmm,-,hi⟩
 ·simp at e
  exact ⟨none,0,[],e,.inl rfl⟩
 ·simp at e
  have hlm:len≤m:=by rw [hmm];split<;>omega
  rw [ys8] at hi
  have each:∀ i,i<len→∃ z:Sg,w.cell? (a.add (i*3))=some (.int .i64 z.1)∧w.cell? (a.add (i*3+1))=some (.int .i64 z.2.1)∧w.cell? (a.add (i*3+2))=some (.string ⟨z.2.2.toArray⟩):=fun i hil=>by
   obtain ⟨cs,hcs,ht⟩:=hi i (by omega)
   obtain ⟨-,hlen,hat⟩:=World.cells?_some hcs
   obtain ⟨y0,y1,y2,n3,-,-,g0,g1,g2⟩:=trod_struct3 Tryz.underlying45 ht
   obtain ⟨z0,e0,-,-⟩:=DataW.trod_int Tryz.underlying3 g0
   obtain ⟨z1,e1,-,-⟩:=DataW.trod_int Tryz.underlying3 g1
   obtain ⟨s2,e2,-⟩:=DataW.trod_string Tryz.underlying9 g2
   have c0:=hat 0 (by omega)
   have c1:=hat 1 (by omega)
   have c2:=hat 2 (by omega)
   match cs,hlen with
   | [x0,x1,x2],_ =>
    simp [ypg,yrN] at e0 e1 e2
    subst e0 e1 e2
    refine ⟨(z0,z1,s2.data.toList),?_,?_,?_⟩
    ·simpa [Addr.add] using c0
    ·rw [← Go.Deep.add_add];exact c1
    ·rw [← Go.Deep.add_add];simpa using c2
  refine ⟨some a,cap,(List.range len).map (fun i=>if hil:i<len then (each i hil).choose else (0,0,[])),by simpa using e,?_⟩
  by_cases h0:len=0
  ·exact .inl (by simpa using h0)
  ·obtain ⟨zz,h1,-⟩:=each 0 (by omega)
   rw [Nat.zero_mul,Addr.add_zero'] at h1
   obtain ⟨b,off,rfl,hlt⟩:=yjl h1
   refine .inr ⟨b,off,rfl,hlt,fun j hj=>?_⟩
   have hjl:j<len:=by simpa using hj
   have h2:=(each j hjl).choose_spec
   have e3:((List.range len).map (fun i=>if hil:i<len then (each i hil).choose else (0,0,[]))).getD j (0,0,[])=(each j hjl).choose:=by
    rw [List.getD_eq_getElem?_getD,List.getElem?_map,List.getElem?_range hjl]
    show (if hil:j<len then (each j hil).choose else (0,0,[]))=_
    rw [dif_pos hjl]
   rw [e3]
   revert h2
   generalize (each j hjl).choose=zc
   intro h2
   rw [Addr.add_lit,Addr.add_lit,Addr.add_lit] at h2
   simpa [Nat.add_assoc] using h2
end
end
end Go.Proofs.YtgepehlpjpccaaaGreatDoor
