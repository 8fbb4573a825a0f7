/- The document's Add, Sub, Mul on texts. -/
import Derived.Test.YtigicjakloiliaaGreatDoorSA
namespace Go.Proofs.YtigicjakloiliaaGreatDoor
open Go.RowKit Big
open Go.Lib
theorem num_lt9 {l:List UInt8} {q:Rat} (h:num l=some q):QLt 5 q:=by
 have hs:=num_short h
 unfold short at hs
 have hb:∀ n:Nat,nDigits n≤40→n<B9^5:=by
  intro n hn
  have h1:=dval_lt (decDigits n) (dec_all n).1
  rw [(dec_all n).2,decDigits_length] at h1
  rw [B9_pow]
  exact Nat.lt_of_lt_of_le h1 (Nat.pow_le_pow_right (by omega) (by omega))
 exact ⟨hb _ hs.1,hb _ hs.2⟩
theorem lt_of_ratv {K:Nat} {q:Rat} {s:Bool} {a b:Nat} (h:ratv s a b=q) (ha:a<B9^K) (hb:b<B9^K) (hb0:0<b):QLt K q:=by
 rw [← h,← ratv_drop]
 exact ratv_lt _ ha hb hb0 (by intro h;simp at h;omega)
theorem QLt.mul {K L:Nat} {a b:Rat} (ha:QLt K a) (hb:QLt L b):QLt (K+L) (a*b) :=
 lt_of_ratv (prod_parts a b) (pow9_mul ha.1 hb.1) (pow9_mul ha.2 hb.2) (Nat.mul_pos a.den_pos b.den_pos)
theorem QLt.quo {K L:Nat} {a b:Rat} (ha:QLt K a) (hb:QLt L b):QLt (K+L) (a/b):=by
 by_cases h:b.num.natAbs=0
 ·have hb0:b=0:=Rat.num_eq_zero.1 (by omega)
  have e:a/b=0:=by rw [hb0];grind
  rw [e]
  exact ⟨Nat.pow_pos B9_pos,Nat.one_lt_pow (by
                         have:=ha.2;have:=a.den_pos;intro h0;have hK:K=0:=by omega
                         subst hK;rw [Nat.pow_zero] at *;omega) (by rw [B9_eq];omega)⟩
 ·exact lt_of_ratv (quot_parts a b) (pow9_mul ha.1 hb.2) (pow9_mul ha.2 hb.1) (Nat.mul_pos a.den_pos (by omega))
theorem plus_num (a b:Rat):∃ (s:Bool) (n:Nat),ratv s n (a.den*b.den)=a+b∧n≤a.num.natAbs*b.den+b.num.natAbs*a.den:=by
 have e1:ratv (decide (a.num<0)) (a.num.natAbs*b.den) (a.den*b.den)=a:=by rw [ratv_scale a.den_pos b.den_pos,ratv_self]
 have e2:ratv (decide (b.num<0)) (b.num.natAbs*a.den) (a.den*b.den)=b:=by rw [Nat.mul_comm a.den b.den,ratv_scale b.den_pos a.den_pos,ratv_self]
 by_cases h:decide (a.num<0)=decide (b.num<0)
 ·rw [← h] at e2
  exact ⟨_,_,by rw [ratv_plus,e1,e2],Nat.le_refl _⟩
 ·by_cases hle:b.num.natAbs*a.den≤a.num.natAbs*b.den
  ·exact ⟨_,_,by rw [ratv_minus h hle,e1,e2],by omega⟩
  ·exact ⟨_,_,by rw [ratv_minus (fun e=>h e.symm) (Nat.le_of_lt (Nat.lt_of_not_le hle)),e1,e2,Rat.add_comm],by omega⟩
theorem QLt.add {K L:Nat} {a b:Rat} (ha:QLt K a) (hb:QLt L b):QLt (K+L+1) (a+b):=by
 obtain ⟨s,n,h1,h2⟩:=plus_num a b
 have h3:=pow9_mul ha.1 hb.2
 have h4:=pow9_mul hb.1 ha.2
 rw [Nat.add_comm L K] at h4
 have h5:B9^(K+L+1)=B9^(K+L)*1000000000:=by rw [Nat.pow_succ,B9_eq]
 exact lt_of_ratv h1 (by omega) (pow9_mono (pow9_mul ha.2 hb.2) (by omega)) (Nat.mul_pos a.den_pos b.den_pos)
theorem QLt.sub {K L:Nat} {a b:Rat} (ha:QLt K a) (hb:QLt L b):QLt (K+L+1) (a-b):=by
 rw [Rat.sub_eq_add_neg];exact ha.add hb.neg
end Go.Proofs.YtigicjakloiliaaGreatDoor
