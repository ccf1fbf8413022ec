import PyProof.Rows.All
import Wide.All
import OpenK.AllK
import Wide.FinOn
import HandS.ForMost
import HandS.WideBits
import HandS.Gcd
import HandS.IsInst
import HandS.Style
import HandS.SetFor
import HandS.EndBits
import HandS.Codes
import HandS.ForExc
import HandS.Small
import HandS.Exc
import HandS.ExcOwn
import HandS.TryOnly
import HandS.WordsExc
import HandS.ExcInit
import HandS.ExcField
import Flt.RightSqrt
import PySem.Challenge.RW_rootstalls_k04_roots_of_products
set_option Elab.async false
set_option linter.all false
set_option maxRecDepth 100000
set_option maxHeartbeats 4000000
namespace My
/-! ### fractions in lowest terms are the rationals -/
theorem rat_of {n : Int} {d : Nat} {r : Rat} (hd : d ≠ 0) (hc : n.natAbs.Coprime d) (h : Rat.divInt n (d : Int) = r) : r.num = n ∧ r.den = d := by
  subst h
  rw [← Rat.mk_eq_divInt (nz := hd) (c := hc)]
  exact ⟨rfl, rfl⟩
theorem rat_cross {n d : Int} {r : Rat} (hd : d ≠ 0) : Rat.divInt n d = r ↔ n * r.den = r.num * d := by
  have h := Rat.num_divInt_den r
  have hz : (r.den : Int) ≠ 0 := by
    have := r.den_pos
    omega
  constructor
  · intro e
    rw [← h] at e
    exact (Rat.divInt_eq_divInt_iff hd hz).mp e
  · intro e
    rw [← h]
    exact (Rat.divInt_eq_divInt_iff hd hz).mpr e
theorem den_pos (r : Rat) : (0 : Int) < r.den := by
  have := r.den_pos
  omega
theorem gcd_den (r : Rat) : Nat.gcd r.num.natAbs r.den = 1 := r.reduced
/-- the sum -/
theorem add_form (r s : Rat) (g ad bd : Nat) (top : Int) (g1 : Nat) (hg : g = r.den.gcd s.den) (had : ad = r.den / g) (hbd : bd = s.den / g) (ht : top = r.num * bd + s.num * ad) (h1 : g1 = top.natAbs.gcd g) :
    (r + s).num = top / g1 ∧ (r + s).den = ad * (s.den / g1) := by
  have hd := r.den_pos
  have hs := s.den_pos
  have gpos : 0 < g := hg ▸ Nat.gcd_pos_of_pos_left _ hd
  have ae : ad * g = r.den := had ▸ Nat.div_mul_cancel (hg ▸ Nat.gcd_dvd_left ..)
  have be : bd * g = s.den := hbd ▸ Nat.div_mul_cancel (hg ▸ Nat.gcd_dvd_right ..)
  have adpos : 0 < ad := by
    rcases Nat.eq_zero_or_pos ad with e | e
    · rw [e] at ae
      omega
    · exact e
  have aux : top.natAbs.gcd g = top.natAbs.gcd (ad * s.den) := by
    rw [ht]
    exact Rat.add.aux r s hg had hbd
  have g1pos : 0 < g1 := h1 ▸ Nat.gcd_pos_of_pos_right _ gpos
  have d1 : g1 ∣ top.natAbs := h1 ▸ Nat.gcd_dvd_left ..
  have d2 : g1 ∣ g := h1 ▸ Nat.gcd_dvd_right ..
  have d3 : g1 ∣ s.den := Nat.dvd_trans d2 ⟨bd, by rw [← be, Nat.mul_comm]⟩
  have e1 : ad * (s.den / g1) = ad * s.den / g1 := (Nat.mul_div_assoc ad d3).symm
  have d4 : g1 ∣ ad * s.den := Nat.dvd_trans d3 (Nat.dvd_mul_left ..)
  rw [e1]
  have tz : (g1 : Int) ∣ top := Int.ofNat_dvd_left.mpr d1
  have tm : top / g1 * g1 = top := Int.ediv_mul_cancel tz
  have dm : ad * s.den / g1 * g1 = ad * s.den := Nat.div_mul_cancel d4
  have nz : ad * s.den / g1 ≠ 0 := by
    intro e
    rw [e] at dm
    have : 0 < ad * s.den := Nat.mul_pos adpos hs
    omega
  refine rat_of nz ?_ ?_
  · have na : (top / (g1 : Int)).natAbs = top.natAbs / g1 := by
      rw [Int.natAbs_ediv_of_dvd tz, Int.natAbs_natCast]
    rw [na, h1, aux]
    exact Nat.coprime_div_gcd_div_gcd (Nat.gcd_pos_of_pos_right _ (Nat.mul_pos adpos hs))
  · have z1 : (g1 : Int) ≠ 0 := by omega
    have z2 : (g : Int) ≠ 0 := by omega
    rw [← Rat.divInt_mul_right z1, tm, ← Int.natCast_mul, dm, ← Rat.divInt_mul_right z2]
    have er := Rat.num_divInt_den r
    have es := Rat.num_divInt_den s
    have rz : (r.den : Int) ≠ 0 := by omega
    have sz : (s.den : Int) ≠ 0 := by omega
    have key := Rat.divInt_add_divInt r.num s.num rz sz
    rw [er, es] at key
    rw [key]
    have k1 : top * g = r.num * s.den + s.num * r.den := by
      rw [ht, ← be, ← ae, Int.natCast_mul, Int.natCast_mul, Int.add_mul, Int.mul_assoc, Int.mul_assoc]
    have k2 : ((ad * s.den : Nat) : Int) * (g : Int) = r.den * s.den := by
      rw [← ae, Int.natCast_mul, Int.natCast_mul, Int.mul_assoc, Int.mul_comm (s.den : Int), ← Int.mul_assoc]
    rw [k1, k2]
/-- the product -/
theorem mul_form (r s : Rat) (g1 g2 : Nat) (h1 : g1 = r.num.natAbs.gcd s.den) (h2 : g2 = s.num.natAbs.gcd r.den) :
    (r * s).num = r.num / g1 * (s.num / g2) ∧ (r * s).den = r.den / g2 * (s.den / g1) := by
  subst h1 h2
  have e : r * s = Rat.mul r s := rfl
  rw [e]
  unfold Rat.mul
  refine ⟨?_, ?_⟩
  · show r.num.divExact _ _ * s.num.divExact _ _ = _
    rw [Int.divExact_eq_tdiv, Int.divExact_eq_tdiv, Int.tdiv_eq_ediv_of_dvd, Int.tdiv_eq_ediv_of_dvd]
    · exact Int.ofNat_dvd_left.mpr (Nat.gcd_dvd_left ..)
    · exact Int.ofNat_dvd_left.mpr (Nat.gcd_dvd_left ..)
  · show r.den.divExact _ _ * s.den.divExact _ _ = _
    rw [Nat.divExact_eq_div, Nat.divExact_eq_div]
/-- lowest terms of any pair -/
theorem low_form (n d : Int) (hd : d ≠ 0) : (Rat.divInt n d).num = (if d < 0 then n / (-(n.natAbs.gcd d.natAbs : Nat) : Int) else n / (n.natAbs.gcd d.natAbs : Nat)) ∧
    ((Rat.divInt n d).den : Int) = (if d < 0 then d / (-(n.natAbs.gcd d.natAbs : Nat) : Int) else d / (n.natAbs.gcd d.natAbs : Nat)) := by
  have pos : ∀ (n d : Int), 0 < d → (Rat.divInt n d).num = n / (n.natAbs.gcd d.natAbs : Nat) ∧ ((Rat.divInt n d).den : Int) = d / (n.natAbs.gcd d.natAbs : Nat) := by
    intro n d h
    have gp : 0 < n.natAbs.gcd d.natAbs := Nat.gcd_pos_of_pos_right _ (by omega)
    have z1 : ((n.natAbs.gcd d.natAbs : Nat) : Int) ≠ 0 := by omega
    have dn : ((n.natAbs.gcd d.natAbs : Nat) : Int) ∣ n := Int.ofNat_dvd_left.mpr (Nat.gcd_dvd_left ..)
    have dd : ((n.natAbs.gcd d.natAbs : Nat) : Int) ∣ d := Int.ofNat_dvd_left.mpr (Nat.gcd_dvd_right ..)
    have e : d / ((n.natAbs.gcd d.natAbs : Nat) : Int) = ((d.natAbs / n.natAbs.gcd d.natAbs : Nat) : Int) := by
      rw [Int.natCast_ediv]
      congr 1
      omega
    have dpos : d.natAbs / n.natAbs.gcd d.natAbs ≠ 0 := Nat.ne_of_gt (Nat.div_pos (Nat.le_of_dvd (by omega) (Nat.gcd_dvd_right ..)) gp)
    have key := rat_of (n := n / ((n.natAbs.gcd d.natAbs : Nat) : Int)) (d := d.natAbs / n.natAbs.gcd d.natAbs) (r := Rat.divInt n d) dpos
      (by
        rw [Int.natAbs_ediv_of_dvd dn, Int.natAbs_natCast]
        exact Nat.coprime_div_gcd_div_gcd gp)
      (by rw [← e, ← Rat.divInt_mul_right z1, Int.ediv_mul_cancel dn, Int.ediv_mul_cancel dd])
    exact ⟨key.1, by rw [key.2, e]⟩
  rcases Int.lt_or_gt_of_ne hd with h | h
  · rw [if_pos h, if_pos h, ← Rat.neg_divInt_neg]
    have k := pos (-n) (-d) (by omega)
    rw [Int.natAbs_neg, Int.natAbs_neg] at k
    rw [k.1, k.2]
    have dn : ((n.natAbs.gcd d.natAbs : Nat) : Int) ∣ n := Int.ofNat_dvd_left.mpr (Nat.gcd_dvd_left ..)
    have dd : ((n.natAbs.gcd d.natAbs : Nat) : Int) ∣ d := Int.ofNat_dvd_left.mpr (Nat.gcd_dvd_right ..)
    rw [Int.neg_ediv_of_dvd dn, Int.neg_ediv_of_dvd dd, Int.ediv_neg, Int.ediv_neg]
    exact ⟨rfl, rfl⟩
  · have k := pos n d h
    rw [if_neg (by omega), if_neg (by omega)]
    exact k
theorem low_self (r : Rat) : Rat.divInt r.num r.den = r := Rat.num_divInt_den r
/-! ### sizes -/
def Bd (k : Nat) (r : Rat) : Prop := r.num.natAbs < 2 ^ k ∧ r.den < 2 ^ k
theorem Bd.mono {k l : Nat} {r : Rat} (h : Bd k r) (hl : k ≤ l) : Bd l r := ⟨Nat.lt_of_lt_of_le h.1 (Nat.pow_le_pow_right (by decide) hl), Nat.lt_of_lt_of_le h.2 (Nat.pow_le_pow_right (by decide) hl)⟩
theorem nat_mul_lt {a b k l : Nat} (ha : a < 2 ^ k) (hb : b < 2 ^ l) : a * b < 2 ^ (k + l) := by
  rw [Nat.pow_add]
  exact Nat.mul_lt_mul'' ha hb
theorem Bd.divInt {k : Nat} {n d : Int} (hd : d ≠ 0) (h1 : n.natAbs < 2 ^ k) (h2 : d.natAbs < 2 ^ k) : Bd k (Rat.divInt n d) := by
  obtain ⟨a, b⟩ := low_form n d hd
  have dn : ((n.natAbs.gcd d.natAbs : Nat) : Int) ∣ n := Int.ofNat_dvd_left.mpr (Nat.gcd_dvd_left ..)
  have dd : ((n.natAbs.gcd d.natAbs : Nat) : Int) ∣ d := Int.ofNat_dvd_left.mpr (Nat.gcd_dvd_right ..)
  have dp := (Rat.divInt n d).den_pos
  refine ⟨Nat.lt_of_le_of_lt ?_ h1, Nat.lt_of_le_of_lt ?_ h2⟩
  · rw [a]
    split
    · rw [Int.ediv_neg, Int.natAbs_neg, Int.natAbs_ediv_of_dvd dn]
      exact Nat.div_le_self _ _
    · rw [Int.natAbs_ediv_of_dvd dn]
      exact Nat.div_le_self _ _
  · have e : (Rat.divInt n d).den = ((Rat.divInt n d).den : Int).natAbs := (Int.natAbs_natCast _).symm
    rw [e, b]
    split
    · rw [Int.ediv_neg, Int.natAbs_neg, Int.natAbs_ediv_of_dvd dd]
      exact Nat.div_le_self _ _
    · rw [Int.natAbs_ediv_of_dvd dd]
      exact Nat.div_le_self _ _
theorem Bd.add {k l : Nat} {r s : Rat} (hr : Bd k r) (hs : Bd l s) : Bd (k + l + 1) (r + s) := by
  have rz : (r.den : Int) ≠ 0 := Int.ne_of_gt (den_pos r)
  have sz : (s.den : Int) ≠ 0 := Int.ne_of_gt (den_pos s)
  have key := Rat.divInt_add_divInt r.num s.num rz sz
  rw [low_self, low_self] at key
  rw [key]
  have a := nat_mul_lt hr.1 hs.2
  have b := nat_mul_lt hs.1 hr.2
  have c := nat_mul_lt hr.2 hs.2
  rw [Nat.add_comm l k] at b
  refine Bd.divInt (Int.mul_ne_zero rz sz) ?_ ?_
  · have h1 : (r.num * (s.den : Int) + s.num * (r.den : Int)).natAbs ≤ (r.num * (s.den : Int)).natAbs + (s.num * (r.den : Int)).natAbs := Int.natAbs_add_le _ _
    rw [Int.natAbs_mul, Int.natAbs_mul, Int.natAbs_natCast, Int.natAbs_natCast] at h1
    rw [Nat.pow_succ]
    omega
  · rw [Int.natAbs_mul, Int.natAbs_natCast, Int.natAbs_natCast, Nat.pow_succ]
    omega
theorem Bd.mul {k l : Nat} {r s : Rat} (hr : Bd k r) (hs : Bd l s) : Bd (k + l) (r * s) := by
  have rz : (r.den : Int) ≠ 0 := Int.ne_of_gt (den_pos r)
  have sz : (s.den : Int) ≠ 0 := Int.ne_of_gt (den_pos s)
  have key := Rat.divInt_mul_divInt r.num s.num (d₁ := r.den) (d₂ := s.den)
  rw [low_self, low_self] at key
  rw [key]
  refine Bd.divInt (Int.mul_ne_zero rz sz) ?_ ?_
  · rw [Int.natAbs_mul]
    exact nat_mul_lt hr.1 hs.1
  · rw [Int.natAbs_mul, Int.natAbs_natCast, Int.natAbs_natCast]
    exact nat_mul_lt hr.2 hs.2
theorem Bd.neg {k : Nat} {r : Rat} (hr : Bd k r) : Bd k (-r) := by
  refine ⟨?_, ?_⟩
  · rw [Rat.neg_num, Int.natAbs_neg]
    exact hr.1
  · rw [Rat.neg_den]
    exact hr.2
theorem Bd.sub {k l : Nat} {r s : Rat} (hr : Bd k r) (hs : Bd l s) : Bd (k + l + 1) (r - s) := by
  rw [Rat.sub_eq_add_neg]
  exact hr.add hs.neg
theorem inv_num {s : Rat} (h : s ≠ 0) : (if s.num < 0 then -(s.den : Int) else s.den) = (s⁻¹).num ∧ (if s.num < 0 then -s.num else s.num) = (s⁻¹).den := by
  have hn : s.num ≠ 0 := fun e => h (Rat.num_eq_zero.mp e)
  rw [Rat.num_inv, Rat.den_inv, if_neg hn]
  split
  · rename_i g
    rw [Int.sign_eq_neg_one_of_neg g]
    omega
  · rename_i g
    rw [Int.sign_eq_one_of_pos (by omega)]
    omega
theorem Bd.inv {k : Nat} {s : Rat} (h : s ≠ 0) (hs : Bd k s) : Bd k s⁻¹ := by
  obtain ⟨a, b⟩ := inv_num h
  have dp := den_pos s
  refine ⟨?_, ?_⟩
  · rw [← a]
    have := hs.2
    split <;> omega
  · have := hs.1
    have e : (s⁻¹).den = ((s⁻¹).den : Int).natAbs := (Int.natAbs_natCast _).symm
    rw [e, ← b]
    split <;> omega
theorem Bd.div {k l : Nat} {r s : Rat} (h : s ≠ 0) (hr : Bd k r) (hs : Bd l s) : Bd (k + l) (r / s) := by
  rw [Rat.div_def]
  exact hr.mul (hs.inv h)
end My
namespace My
/-! ### square roots of fractions -/
def IsRt (x t : Int) : Prop := 0 ≤ t ∧ t * t ≤ x ∧ x < (t + 1) * (t + 1)
theorem IsRt.eq {u t : Int} (hu : 0 ≤ u) (h : IsRt (u * u) t) : t = u := by
  obtain ⟨h0, h1, h2⟩ := h
  rcases Int.lt_trichotomy t u with h | h | h
  · have : (t + 1) * (t + 1) ≤ u * u := Int.mul_le_mul (by omega) (by omega) (by omega) hu
    omega
  · exact h
  · have : (u + 1) * (u + 1) ≤ t * t := Int.mul_le_mul (by omega) (by omega) (by omega) h0
    have e : (u + 1) * (u + 1) = u * u + 2 * u + 1 := by
      rw [Int.add_mul, Int.mul_add]
      omega
    omega
theorem sq_num (s : Rat) : (s * s).num = s.num * s.num ∧ (s * s).den = s.den * s.den := by
  obtain ⟨h1, h2⟩ := mul_form s s 1 1 (gcd_den s).symm (gcd_den s).symm
  rw [h1, h2]
  simp
theorem sqrt_yes {r s : Rat} (h : s * s = r) (hs : 0 ≤ s) {t b : Int} (ht : IsRt r.num t) (hb : IsRt r.den b) : t = s.num ∧ b = s.den := by
  subst h
  obtain ⟨h1, h2⟩ := sq_num s
  rw [h1] at ht
  rw [h2, Int.natCast_mul] at hb
  exact ⟨ht.eq (Rat.num_nonneg.mpr hs), hb.eq (by omega)⟩
theorem sqrt_no {r : Rat} {t b : Int} (h0 : 0 ≤ t) (b0 : 0 ≤ b) (e1 : t * t = r.num) (e2 : b * b = r.den) : ∃ s : Rat, 0 ≤ s ∧ s * s = r := by
  have hb : b ≠ 0 := by
    rintro rfl
    have := den_pos r
    omega
  have hr : Rat.divInt t b * Rat.divInt t b = r := by
    rw [Rat.divInt_mul_divInt, e1, e2]
    exact Rat.num_divInt_den r
  by_cases hs : 0 ≤ Rat.divInt t b
  · exact ⟨_, hs, hr⟩
  · refine ⟨-Rat.divInt t b, ?_, ?_⟩
    · have : Rat.divInt t b ≤ 0 := by grind
      grind
    · rw [Rat.neg_mul, Rat.mul_neg, Rat.neg_neg]
      exact hr
/-- the root of it, or none -/
def Rt (r : Rat) (o : Option Rat) : Prop := match o with
  | some s => 0 ≤ s ∧ s * s = r
  | none => ∀ s : Rat, 0 ≤ s → s * s ≠ r
theorem rt_ex (r : Rat) : ∃ o, Rt r o := by
  by_cases h : ∃ s : Rat, 0 ≤ s ∧ s * s = r
  · obtain ⟨s, h⟩ := h
    exact ⟨some s, h⟩
  · exact ⟨none, fun s h0 e => h ⟨s, h0, e⟩⟩
theorem rt_no {r : Rat} {o : Option Rat} (h : Rt r o) {t b : Int} (ht : IsRt r.num t) (hb : IsRt r.den b) (n : t * t ≠ r.num ∨ b * b ≠ r.den) : o = none := by
  match o, h with
  | none, _ => rfl
  | some s, ⟨h0, e⟩ =>
    obtain ⟨e1, e2⟩ := sqrt_yes e h0 ht hb
    subst e
    obtain ⟨f1, f2⟩ := sq_num s
    rw [f1, f2, e1, e2, Int.natCast_mul] at n
    simp at n
theorem rt_yes {r : Rat} {o : Option Rat} (h : Rt r o) {t b : Int} (ht : IsRt r.num t) (hb : IsRt r.den b) (e1 : t * t = r.num) (e2 : b * b = r.den) : ∃ s, o = some s ∧ t = s.num ∧ b = s.den := by
  match o, h with
  | some s, ⟨h0, e⟩ => exact ⟨s, rfl, sqrt_yes e h0 ht hb⟩
  | none, h =>
    obtain ⟨s, h0, e⟩ := sqrt_no ht.1 hb.1 e1 e2
    exact absurd e (h s h0)
theorem rt_lt {x t : Int} {k : Nat} (h : IsRt x t) (hx : x.natAbs < 2 ^ k) : t.natAbs < 2 ^ k := by
  obtain ⟨h0, h1, h2⟩ := h
  have : t ≤ t * t := by
    rcases Int.lt_or_eq_of_le h0 with h | h
    · have := Int.mul_le_mul_of_nonneg_left (show 1 ≤ t by omega) h0
      omega
    · subst h
      decide
  omega
theorem no2 : Rt 2 none := by
  intro s _ e
  have h := (sq_num s).1
  rw [e] at h
  have h2 : s.num * s.num = 2 := h.symm
  have h3 : s.num.natAbs * s.num.natAbs = 2 := by
    rw [← Int.natAbs_mul, h2]
    rfl
  match hm : s.num.natAbs with
  | 0 => rw [hm] at h3; cases h3
  | 1 => rw [hm] at h3; cases h3
  | n + 2 =>
    rw [hm] at h3
    have : 2 * 2 ≤ (n + 2) * (n + 2) := Nat.mul_le_mul (by omega) (by omega)
    rw [h3] at this
    exact absurd this (by decide)
end My
namespace My
open PySem PySem.Spec PyProof.Rows L2
theorem and_sw {A B : Prop} (b : B) (a : A) : A ∧ B := ⟨a, b⟩
theorem if_dec {p : Prop} [Decidable p] {A B : Prop} (h1 : p → A) (h2 : ¬ p → B) : if decide p = true then A else B := by
  by_cases h : p
  · rw [if_pos (decide_eq_true h)]
    exact h1 h
  · rw [if_neg (fun q => h (of_decide_eq_true q))]
    exact h2 h
theorem if_ndec {p : Prop} [Decidable p] {A B : Prop} (h1 : ¬ p → A) (h2 : p → B) : if (!decide p) = true then A else B := by
  by_cases h : p
  · rw [decide_eq_true h]
    exact iteF (h2 h)
  · rw [decide_eq_false h]
    exact iteT (h1 h)
/-- // by a divisor that is not 0, below 2 ^ 9000 -/
def CDivX (_ j : Int) : Prop := j ≠ 0 ∧ j.natAbs.log2 < 9000
section
variable {X : Cx}
theorem op_fdivX : OpR X (binaryOp .FloorDiv) (rI CDivX fun i j => .int (i.fdiv j)) := opI fun _ _ _ _ _ _ _ hc q => floordiv_int hc.1 q (.inl (PyProof.noPylong_of_log2 hc.2))
end
theorem cdivx {i j : Int} {b : Nat} (h : j ≠ 0) (hb : j.natAbs < 2 ^ b) (h9 : b ≤ 9000) : CDivX i j := by
  refine ⟨h, ?_⟩
  by_cases h0 : b = 0
  · subst h0
    omega
  · exact Nat.lt_of_lt_of_le (PySem.Flt.log2_lt_of (by omega) hb) h9
/-! ### heaps: all that was there, but what stands at D, stands -/
def Fw (D : Addr) (H H' : Hp) : Prop := ∀ b o, b ≠ D → H b = some o → H' b = some o
theorem Fw.refl (D : Addr) (H : Hp) : Fw D H H := fun _ _ _ h => h
theorem Fw.trans {D : Addr} {H H1 H2 : Hp} (a : Fw D H H1) (b : Fw D H1 H2) : Fw D H H2 := fun c o n h => b c o n (a c o n h)
theorem Same.fw {D : Addr} {H H' : Hp} (s : Same H H') : Fw D H H' := fun b o _ h => s b o h
theorem same_upd {H : Hp} {p : Addr} {o : HO} (h : H p = none) : Same H (upd H p o) := fun b x e => by
  rw [upd_ne (ne_of_none e h)]
  exact e
theorem fw_upd {D : Addr} {H : Hp} {o : HO} : Fw D H (upd H D o) := fun b x n e => by
  rw [upd_ne n]
  exact e
/-! ### the deck -/
def Deck (M : Nat) (D : Addr) (H : Hp) (c : Nat) : Prop := ∃ (C : Addr) (cells : List Int) (pl rest cnt : Int), C ≠ D ∧ H D = some (.lst [.ref C, .int pl, .int rest, .int cnt]) ∧ H C = some (.lst (cells.map V.int)) ∧
  cells.length ≤ 63 ∧ (∀ z ∈ cells, z.natAbs < 2 ^ M) ∧ (0 ≤ rest ∧ rest.natAbs < 2 ^ M) ∧ 0 ≤ cnt ∧ cnt ≤ c
theorem Deck.same {M : Nat} {D : Addr} {H H' : Hp} {c : Nat} (d : Deck M D H c) (s : Same H H') : Deck M D H' c := by
  obtain ⟨C, cells, pl, rest, cnt, h0, h1, h2, h3⟩ := d
  exact ⟨C, cells, pl, rest, cnt, h0, s _ _ h1, s _ _ h2, h3⟩
theorem Deck.mono {M : Nat} {D : Addr} {H : Hp} {c c' : Nat} (d : Deck M D H c) (h : c ≤ c') : Deck M D H c' := by
  obtain ⟨C, cells, pl, rest, cnt, h0, h1, h2, h3, h4, h5, h6, h7⟩ := d
  exact ⟨C, cells, pl, rest, cnt, h0, h1, h2, h3, h4, h5, h6, by omega⟩
theorem Deck.some {M : Nat} {D : Addr} {H : Hp} {c : Nat} (d : Deck M D H c) : ∃ o, H D = some o := by
  obtain ⟨C, cells, pl, rest, cnt, h0, h1, h2⟩ := d
  exact ⟨_, h1⟩
theorem Deck.ne {M : Nat} {D p : Addr} {H : Hp} {c : Nat} (d : Deck M D H c) (h : H p = none) : p ≠ D := by
  obtain ⟨o, e⟩ := d.some
  exact (ne_of_none e h).symm
theorem pow_le {a b : Nat} (h : a ≤ b) : (2 : Nat) ^ a ≤ 2 ^ b := Nat.pow_le_pow_right (by decide) h
theorem div_small {i j : Int} {M : Nat} (h0 : 0 ≤ i) (h : i.natAbs < 2 ^ M) (hj : 0 < j) : 0 ≤ i.fdiv j ∧ (i.fdiv j).natAbs < 2 ^ M := by
  rw [Int.fdiv_eq_ediv_of_nonneg i (by omega)]
  have a := Int.ediv_nonneg h0 (Int.le_of_lt hj)
  have b : i / j ≤ i := Int.ediv_le_self j h0
  exact ⟨a, by omega⟩
end My
namespace My
open PySem PySem.Spec PyProof.Rows L2
theorem at_ints {cells : List Int} {i : Int} (h0 : 0 ≤ i) (h1 : i < ((cells.map V.int).length : Nat)) : ∃ z, z ∈ cells ∧ atI (cells.map V.int) i = some (.int z) := by
  obtain ⟨j, rfl⟩ := Int.eq_ofNat_of_zero_le h0
  rw [List.length_map] at h1
  have hj : j < cells.length := by omega
  refine ⟨cells[j], List.getElem_mem hj, atI_nat ?_⟩
  rw [List.getElem?_map, List.getElem?_eq_getElem hj]
  rfl
theorem bits_lt {z : Int} {M : Nat} (h : Builtin.Int.intBits z ≤ M) : z.natAbs < 2 ^ M := by
  unfold Builtin.Int.intBits at h
  split at h
  · rename_i e
    have e' : z = 0 := by simpa using e
    subst e'
    exact Nat.two_pow_pos M
  · have := Nat.lt_log2_self (n := z.natAbs)
    exact Nat.lt_of_lt_of_le this (pow_le h)
theorem pw_big {z cnt : Int} {c M : Nat} (hz : z.natAbs < 2 ^ M) (hM : 64 ≤ M) (h0 : 0 ≤ cnt) (h1 : cnt ≤ c) (hc : c ≤ 2 ^ 40) : (z + 7919 * (cnt + 1) + 1).natAbs < 2 ^ (M + 1) := by
  have e : (2 : Nat) ^ 64 ≤ 2 ^ M := pow_le hM
  rw [Nat.pow_succ]
  generalize (2 : Nat) ^ M = p at *
  omega
theorem fdiv_dvd {a b : Int} (h : b ∣ a) : a.fdiv b = a / b := by
  obtain ⟨c, rfl⟩ := h
  by_cases hb : b = 0
  · subst hb
    rw [Int.zero_mul]
    simp
  · rw [Int.mul_fdiv_cancel_left _ hb, Int.mul_ediv_cancel_left _ hb]
theorem mod_rng (x : Int) {m : Int} (h : 0 < m) : 0 ≤ x % m ∧ x % m < m := ⟨Int.emod_nonneg _ (by omega), Int.emod_lt_of_pos _ h⟩
end My
namespace My
open PySem PySem.Spec PyProof.Rows L2
theorem cpow_of {i j : Int} (h : 0 ≤ j ∧ j ≤ 1000000 ∧ i.natAbs < 2 ^ 64) : CPow i j := h
theorem ten18 : (0 : Int) ≤ 10 ^ (18 : Int).toNat := by decide
theorem cmul_small {i j : Int} (h : i.natAbs < 2 ^ 64) (h2 : j.natAbs < 2 ^ 64) : CMulX i j := mulx_ok h h2 (by decide)
theorem cmul_big {i j : Int} {M : Nat} (h : i.natAbs < 2 ^ M) (h2 : j.natAbs < 2 ^ 64) (hM : M ≤ 100000000) : CMulX i j := mulx_ok h h2 (by omega)
theorem pick_mul2 (x : Int) {m k : Int} (h0 : 0 < m) (hm : m.natAbs < 2 ^ 32) (hk : k.natAbs < 2 ^ 32) {d : Int} (hd : 0 < d) : CMulX (x % m) ((x % m).fdiv d + k) := by
  obtain ⟨a, b⟩ := mod_rng x h0
  rw [Int.fdiv_eq_ediv_of_nonneg _ (by omega)]
  have c := Int.ediv_nonneg a (Int.le_of_lt hd)
  have e : (x % m) / d ≤ x % m := Int.ediv_le_self d a
  exact cmul_small (by omega) (by omega)
end My
namespace My
open PySem PySem.Spec PyProof.Rows L2
/-! ### isinstance -/
section
variable {K : PySem.W.Frag} {H : Hp} {Q : VK}
theorem isi_int_int {i : Int} (q : Q (.bl true) H) : rIsi K [.int i, .ty "int"] H Q := ⟨_, _, _, _, _, rfl, .ty _, .base (.int _), kit_ty (by decide +kernel), q⟩
theorem isi_int_bool {i : Int} (q : Q (.bl false) H) : rIsi K [.int i, .ty "bool"] H Q := ⟨_, _, _, _, _, rfl, .ty _, .base (.int _), kit_ty (by decide +kernel), q⟩
theorem isi_bl_bool {b : Bool} (q : Q (.bl true) H) : rIsi K [.bl b, .ty "bool"] H Q := ⟨_, _, _, _, _, rfl, .ty _, .base (.bl _), kit_ty (by decide +kernel), q⟩
theorem isi_tup_tup {p : Addr} {xs : List V} (h : H p = some (.tup xs)) (q : Q (.bl true) H) : rIsi K [.ref p, .ty "tuple"] H Q := ⟨_, _, _, _, _, rfl, .ty _, .base (.tup h), kit_ty (by decide +kernel), q⟩
end
/-! ### a fraction that stands in the heap -/
abbrev frV (r : Rat) : List V := [.int r.num, .int r.den]
def IsF (H : Hp) (v : V) (r : Rat) : Prop := ∃ p, v = .ref p ∧ H p = some (.tup (frV r))
theorem IsF.same {H H' : Hp} {v : V} {r : Rat} (s : Same H H') (h : IsF H v r) : IsF H' v r := by
  obtain ⟨p, e, h⟩ := h
  exact ⟨p, e, s _ _ h⟩
theorem IsF.fw {M : Nat} {D : Addr} {c : Nat} {H H' : Hp} {v : V} {r : Rat} (d : Deck M D H c) (s : Fw D H H') (h : IsF H v r) : IsF H' v r := by
  obtain ⟨p, e, h⟩ := h
  obtain ⟨C, cells, pl, rest, cnt, h0, h1, h2⟩ := d
  exact ⟨p, e, s _ _ (ne_of h h1 (by intro z; cases z)) h⟩
theorem IsF.at {H : Hp} {p : Addr} {r : Rat} (h : IsF H (.ref p) r) : H p = some (.tup (frV r)) := by
  obtain ⟨p', e, h⟩ := h
  cases e
  exact h
theorem isF_new {H : Hp} {p : Addr} {a b : Int} {r : Rat} (h1 : r.num = a) (h2 : (r.den : Int) = b) : IsF (upd H p (.tup [.int a, .int b])) (.ref p) r := by
  subst h1 h2
  exact ⟨p, rfl, upd_same⟩
def frD (r : Rat) : PyData := .tuple [.int r.num, .int r.den]
theorem IsF.dp {K : PySem.W.Frag} {H : Hp} {v : V} {r : Rat} (h : IsF H v r) : Dp K H v (frD r) := by
  obtain ⟨p, rfl, h⟩ := h
  exact .tup (.of h) (.cons (.int _) (.cons (.int _) .nil))
theorem frD_shaped (r : Rat) : SeqAt.shaped (frD r) = true := by rfl
theorem frD_eqv (r s : Rat) : PyData.eqv (frD r) (frD s) = decide (r = s) := by
  have e : PyData.eqv (frD r) (frD s) = (decide (r.num = s.num) && decide ((r.den : Int) = s.den)) := by
    simp only [frD, PyData.eqv, PyData.eqvAll, Bool.and_true, Bool.beq_eq_decide_eq]
  rw [e, Bool.eq_iff_iff]
  simp only [Bool.and_eq_true, decide_eq_true_eq]
  constructor
  · rintro ⟨a, b⟩
    exact Rat.ext a (by omega)
  · rintro rfl
    exact ⟨rfl, rfl⟩
theorem eqF {K : PySem.W.Frag} {H : Hp} {v w : V} {r s : Rat} {Q : VK} (h1 : IsF H v r) (h2 : IsF H w s) (q : Q (.bl (decide (r = s))) H) : rEqD K v w H Q := ⟨_, _, h1.dp, h2.dp, frD_shaped r, frD_shaped s, by rw [frD_eqv]; exact q⟩
theorem neF {K : PySem.W.Frag} {H : Hp} {v w : V} {r s : Rat} {Q : VK} (h1 : IsF H v r) (h2 : IsF H w s) (q : Q (.bl (!decide (r = s))) H) : rNeD K v w H Q := ⟨_, _, h1.dp, h2.dp, frD_shaped r, frD_shaped s, by rw [frD_eqv]; exact q⟩
end My
namespace My
open PySem PySem.Spec PyProof.Rows L2
/-! ### calls of built-ins by named readings -/
def rInt : List V → Hp → VK → Prop := fun xs H Q => (∃ i, xs = [.int i] ∧ Q (.int i) H) ∨ ∃ k, xs = [.bl k] ∧ Q (.int (if k then 1 else 0)) H
def rLen (K : PySem.W.Frag) : List V → Hp → VK → Prop := fun xs H Q => ∃ p ys, xs = [.ref p] ∧ (SqL K H p ys ∨ SqT K H p ys) ∧ Q (.int ys.length) H
def rAbs : List V → Hp → VK → Prop := fun xs H Q => ∃ i, xs = [.int i] ∧ Q (.int (if i < 0 then -i else i)) H
def rMin : List V → Hp → VK → Prop := fun xs H Q => ∃ i j, xs = [.int i, .int j] ∧ Q (.int (if j < i then j else i)) H
theorem call_intN {X : Cx} : CallR X (.type "int") rInt := call_int1
theorem call_lenN {X : Cx} : CallR X (.builtin "len") (rLen X.K) := call_len_seq
theorem call_absN {X : Cx} : CallR X (.builtin "abs") rAbs := call_abs
theorem call_minN {X : Cx} (hc : X.calm = true) : CallR X (.builtin "min") rMin := call_min2 hc
/-! ### a reading, one step a rule: each says what its left side asks first -/
section
variable {σ : L2.St} {H : Hp} {Q : VK} {K : PySem.W.Frag} {D : Ends} {ta tb te : TE} {t : TA} {i : Nat} {v x y : V}
theorem rd_var (e : σ[i]? = some (some v)) (q : Q v H) : tVar i σ H Q := ⟨v, e, q⟩
theorem rd_C (q : Q v H) : tC v σ H Q := q
theorem rd_op {r : R2} (h : ta σ H fun x H1 => tb σ H1 fun y H2 => r x y H2 Q) : tOp r ta tb σ H Q := h
theorem rd_un {r : V → Hp → VK → Prop} (h : ta σ H fun x H1 => r x H1 Q) : tUn r ta σ H Q := h
theorem rd_CB {r : List V → Hp → VK → Prop} (h : t σ H fun vs H1 => r vs H1 Q) : tCB r t σ H Q := h
theorem rd_nil {Q : List V → Hp → Prop} (q : Q [] H) : tNil σ H Q := q
theorem rd_cons {Q : List V → Hp → Prop} (h : ta σ H fun x H1 => t σ H1 fun xs H2 => Q (x :: xs) H2) : tCons ta t σ H Q := h
theorem rd_call {sp : Sp} {dvs : List V} {E : XK} (h : t σ H fun vs H1 => sp (vs ++ dvs) H1 Q E) : tCall sp dvs E t σ H Q := h
theorem rd_rI {C : Int → Int → Prop} {g : Int → Int → V} {i j : Int} (q : Q (g i j) H) (c : C i j) : rI C g (.int i) (.int j) H Q := ⟨i, j, rfl, rfl, c, q⟩
theorem rd_rI0 {g : Int → Int → V} {i j : Int} (q : Q (g i j) H) : rI0 g (.int i) (.int j) H Q := ⟨i, j, rfl, rfl, q⟩
theorem rd_rU {g : Int → V} {i : Int} (q : Q (g i) H) : rU g (.int i) H Q := ⟨i, rfl, q⟩
theorem rd_eq (s : scal x y = true) (q : Q (.bl (decide (x = y))) H) : rEq x y H Q := ⟨s, q⟩
theorem rd_ne (s : scal x y = true) (q : Q (.bl (!decide (x = y))) H) : rNe x y H Q := ⟨s, q⟩
theorem int_eq {i j : Int} : (V.int i = V.int j) = (i = j) := by simp
theorem rd_eqI {i j : Int} (q : Q (.bl (decide (i = j))) H) : rEq (.int i) (.int j) H Q := ⟨rfl, by simpa using q⟩
theorem rd_neI {i j : Int} (q : Q (.bl (!decide (i = j))) H) : rNe (.int i) (.int j) H Q := ⟨rfl, by simpa using q⟩
theorem rd_ixL {p : Addr} {xs : List V} {i : Int} {v : V} (h : H p = some (.lst xs)) (e : atI xs i = some v) (q : Q v H) : rIxL K (.ref p) (.int i) H Q := ⟨p, xs, i, v, rfl, rfl, .of h, e, q⟩
theorem rd_ixT {p : Addr} {xs : List V} {i : Int} {v : V} (h : H p = some (.tup xs)) (e : atI xs i = some v) (q : Q v H) : rIxT K (.ref p) (.int i) H Q := ⟨p, xs, i, v, rfl, rfl, .of h, e, q⟩
theorem rd_setL {p : Addr} {xs : List V} {k : Int} {j : Nat} {Q : Hp → Prop} (h : H p = some (.lst xs)) (e : ixN xs.length k = some j) (q : Q (upd H p (.lst (xs.set j v)))) : rSetL (.ref p) (.int k) v H Q := ⟨p, xs, k, j, rfl, rfl, h, e, q⟩
theorem rd_gcd {a b : Int} (q : Q (.int ((Nat.gcd a.natAbs b.natAbs : Nat) : Int)) H) : rGcd [.int a, .int b] H Q := ⟨a, b, rfl, q⟩
theorem rd_bits (h : te σ H fun x H1 => ∃ i, x = .int i ∧ Q (.int (Builtin.Int.intBits i : Nat)) H1) : tBits te σ H Q := h
theorem rd_tup (h : t σ H fun xs H1 => xs.length ≤ sizeLine ∧ ∀ p, H1 p = none → Q (.ref p) (upd H1 p (.tup xs))) : tTup t σ H Q := h
theorem rd_lst (h : t σ H fun xs H1 => xs.length ≤ sizeLine ∧ ∀ p, H1 p = none → Q (.ref p) (upd H1 p (.lst xs))) : tLst t σ H Q := h
theorem rd_sl {r : V → Option Int → Option Int → Hp → VK → Prop} {tl th : TO} (h : te σ H fun x H1 => tl σ H1 fun l H2 => th σ H2 fun u H3 => r x l u H3 Q) : tSl r te tl th σ H Q := h
theorem rd_part {Q : Option Int → Hp → Prop} (h : te σ H fun x H1 => ∃ i, x = .int i ∧ Q (some i) H1) : tPart te σ H Q := h
theorem rd_nopart {Q : Option Int → Hp → Prop} (h : Q none H) : tNoPart σ H Q := h
theorem rd_slL {a : Addr} {xs : List V} {lo hi : Option Int} (h : SqL K H a xs) (q : ∀ p, H p = none → Q (.ref p) (upd H p (.lst (cutV xs lo hi)))) : rSlL K (.ref a) lo hi H Q := ⟨a, xs, rfl, h, q⟩
theorem rd_bm {T : String} {r : V → List V → Hp → VK → Prop} (h : te σ H fun x H1 => tyV K T x H1 ∧ t σ H1 fun xs H2 => r x xs H2 Q) : tBM K T r te t σ H Q := h
theorem rd_chain {r r' : R2} (h : ta σ H fun x H1 => tb σ H1 fun y H2 => r x y H2 fun z H3 => ∃ k, z = .bl k ∧ (if k = true then te σ H3 fun w' H4 => r' y w' H4 Q else Q (.bl false) H3)) : tChain r r' ta tb te σ H Q := h
theorem rd_andV (h : ta σ H fun x H1 => ∃ c, x = .bl c ∧ if c = true then tb σ H1 Q else Q (.bl false) H1) : tAndV ta tb σ H Q := h
theorem rd_orV (h : ta σ H fun x H1 => ∃ c, x = .bl c ∧ if c = true then Q (.bl true) H1 else tb σ H1 Q) : tOrV ta tb σ H Q := h
theorem rd_notV (h : ta σ H fun x H1 => ∃ c, x = .bl c ∧ Q (.bl (!c)) H1) : tNotV ta σ H Q := h
theorem rd_ifE {c : TT} (h : c σ H fun c H1 => if c = true then ta σ H1 Q else tb σ H1 Q) : tIf c ta tb σ H Q := h
section
variable {Q : Bool → Hp → Prop} {u u' : TT}
theorem rd_test (h : te σ H fun x H' => ∃ k, x = .bl k ∧ Q k H') : tTest te σ H Q := h
theorem rd_B (h : te σ H fun x H1 => ∃ c, x = .bl c ∧ Q c H1) : tB te σ H Q := h
theorem rd_not (h : u σ H fun c H1 => Q (!c) H1) : tNot u σ H Q := h
theorem rd_and (h : u σ H fun c H1 => if c = true then u' σ H1 Q else Q false H1) : tAnd u u' σ H Q := h
theorem rd_or (h : u σ H fun c H1 => if c = true then Q true H1 else u' σ H1 Q) : tOr u u' σ H Q := h
theorem rd_yes (q : Q true H) : tYes σ H Q := q
end
section
variable {s s' : TS} {g : TG} {gs : TGs}
theorem rd_seq (h : s { D with nx := s' D } σ H) : tSeq s s' D σ H := h
theorem rd_next (h : D.nx σ H) : tNext D σ H := h
theorem rd_drop (h : te σ H fun _ H1 => D.nx σ H1) : tDrop te D σ H := h
theorem rd_ret (h : te σ H D.rt) : tRet te D σ H := h
theorem rd_ifS {c : TT} (h : c σ H fun b H1 => if b = true then s D σ H1 else s' D σ H1) : tIfS c s s' D σ H := h
theorem rd_asg (h : te σ H fun x H1 => g x σ H1 D.nx) : tAsg te g D σ H := h
theorem rd_gName {Q : L2.St → Hp → Prop} (h : Q (σ.set i (some v)) H) : gName i v σ H Q := h
theorem rd_gSub {Q : L2.St → Hp → Prop} {ts : TSet} (h : ta σ H fun o H1 => tb σ H1 fun i H2 => ts o i v H2 fun H3 => Q σ H3) : gSub ta tb ts v σ H Q := h
theorem rd_gTup {Q : L2.St → Hp → Prop} {p : Addr} {xs : List V} {n : Nat} (h : H p = some (.tup xs)) (e : xs.length = n) (q : gs xs σ H Q) : gTup K n gs (.ref p) σ H Q := ⟨p, xs, rfl, .of h, e, q⟩
theorem rd_gNil {Q : L2.St → Hp → Prop} (q : Q σ H) : gNil [] σ H Q := ⟨rfl, q⟩
theorem rd_gCons {Q : L2.St → Hp → Prop} {r : List V} (h : g v σ H fun σ' H' => gs r σ' H' Q) : gCons g gs (v :: r) σ H Q := ⟨v, r, rfl, h⟩
theorem rd_for {wi : TI} (h : wi σ H fun J H1 => ∃ W : Nat → Nat → L2.St → Hp → Prop, (∃ m, W 0 m σ H1) ∧ ∀ i m σ H, W i m σ H →
  (J.stop i H ∧ D.nx σ H) ∨ (J.go i H ∧ ∃ N : L2.St → Hp → Prop, (∀ σ' H', N σ' H' → ∃ m', m' < m ∧ W (i + 1) m' σ' H') ∧ ∀ x H', J.yld i H x H' → g x σ H' fun σ2 H2 => s { D with nx := N, ct := N, bk := D.nx } σ2 H2)) : tFor wi g s D σ H := h
theorem rd_rng1 {R : It → Hp → Prop} (h : t σ H fun vs H1 => ∃ j : Int, vs = [.int j] ∧ -(2 ^ 62) ≤ j ∧ j < 2 ^ 62 ∧ R (Itr 0 j.toNat) H1) : iRng1 t σ H R := h
theorem rd_itL {R : It → Hp → Prop} (h : te σ H fun x H1 => ∃ a, x = .ref a ∧ (∃ xs, SqL K H1 a xs) ∧ R (Itl K a) H1) : iList K te σ H R := h
theorem rd_itT {R : It → Hp → Prop} (h : te σ H fun x H1 => ∃ a, x = .ref a ∧ (∃ xs, SqT K H1 a xs) ∧ R (Itt K a) H1) : iTup K te σ H R := h
end
theorem if_T {p : Prop} [Decidable p] {A B : Prop} (hp : p) (h : A) : if decide p = true then A else B := by
  rw [if_pos (decide_eq_true hp)]
  exact h
theorem if_F {p : Prop} [Decidable p] {A B : Prop} (hp : ¬ p) (h : B) : if decide p = true then A else B := by
  rw [if_neg (fun q => hp (of_decide_eq_true q))]
  exact h
theorem if_nF {p : Prop} [Decidable p] {A B : Prop} (hp : p) (h : B) : if (!decide p) = true then A else B := by
  rw [decide_eq_true hp]
  exact iteF h
theorem if_nT {p : Prop} [Decidable p] {A B : Prop} (hp : ¬ p) (h : A) : if (!decide p) = true then A else B := by
  rw [decide_eq_false hp]
  exact iteT h
theorem ite_nt {A B : Prop} (h : B) : if (!true) = true then A else B := iteF h
theorem ite_nf {A B : Prop} (h : A) : if (!false) = true then A else B := iteT h
theorem rd_len {xs : List V} {R : Prop} (q : R) (h : xs.length.ble sizeLine = true) : xs.length ≤ sizeLine ∧ R := ⟨Nat.le_of_ble_eq_true h, q⟩
theorem rd_lenL {p : Addr} {xs : List V} (q : Q (.int xs.length) H) (h : H p = some (.lst xs)) : rLen K [.ref p] H Q := ⟨p, xs, rfl, .inl (.of h), q⟩
theorem rd_lenS {p : Addr} {xs : List V} (q : Q (.int xs.length) H) (h : SqL K H p xs) : rLen K [.ref p] H Q := ⟨p, xs, rfl, .inl h, q⟩
theorem rd_lenT {p : Addr} {xs : List V} (q : Q (.int xs.length) H) (h : H p = some (.tup xs)) : rLen K [.ref p] H Q := ⟨p, xs, rfl, .inr (.of h), q⟩
theorem rd_int {i : Int} (q : Q (.int i) H) : rInt [.int i] H Q := .inl ⟨i, rfl, q⟩
theorem rd_intB {k : Bool} (q : Q (.int (if k then 1 else 0)) H) : rInt [.bl k] H Q := .inr ⟨k, rfl, q⟩
theorem rd_abs {i : Int} (q : Q (.int (i.natAbs : Nat)) H) : rAbs [.int i] H Q := ⟨i, rfl, by
  have e : (if i < 0 then -i else i) = (i.natAbs : Int) := by split <;> omega
  rw [e]
  exact q⟩
theorem rd_min {i j : Int} (q : Q (.int (min i j)) H) : rMin [.int i, .int j] H Q := ⟨i, j, rfl, by
  have e : (if j < i then j else i) = min i j := by split <;> omega
  rw [e]
  exact q⟩
theorem rd_neB {a b : Bool} (q : Q (.bl (!decide (a = b))) H) : rNe (.bl a) (.bl b) H Q := ⟨rfl, by simpa using q⟩
theorem rd_eqB {a b : Bool} (q : Q (.bl (decide (a = b))) H) : rEq (.bl a) (.bl b) H Q := ⟨rfl, by simpa using q⟩
theorem rd_neS {a b : Str} (q : Q (.bl (!decide (a = b))) H) : rNe (.str a) (.str b) H Q := ⟨rfl, by simpa using q⟩
theorem rd_eqS {a b : Str} (q : Q (.bl (decide (a = b))) H) : rEq (.str a) (.str b) H Q := ⟨rfl, by simpa using q⟩
theorem rd_isBl {a b : Bool} (q : Q (.bl (decide (a = b))) H) : rIsB (.bl a) (.bl b) H Q := ⟨a, b, rfl, rfl, q⟩
end
end My
namespace My
open PySem PySem.Spec PyProof.Rows L2
theorem rd_lc {wi : TI} {g : TG} {tt : TT} {te : TE} {vs : List Nat} {σ : L2.St} {H : Hp} {Q : VK} (h : wi σ H fun J H1 => ∀ D, H1 D = none → ∃ W : Nat → Nat → Hp → Prop, (∃ m, W 0 m (upd H1 D (.lst []))) ∧ ∀ i m H, W i m H →
  (J.stop i H ∧ Q (.ref D) H) ∨ (J.go i H ∧ ∃ Nx : Hp → Prop, (∀ H', Nx H' → ∃ m', m' < m ∧ W (i + 1) m' H') ∧ ∀ x H', J.yld i H x H' → g x (wipe σ vs) H' fun σ2 H2 => wipe σ2 vs = wipe σ vs ∧ tt σ2 H2 fun b H3 =>
    if b = true then te σ2 H3 fun y H4 => ∃ acc, H4 D = some (.lst acc) ∧ acc.length < sizeLine ∧ Nx (upd H4 D (.lst (acc ++ [y]))) else Nx H3)) : tLc wi g tt te vs σ H Q := h
theorem cut_all {xs : List V} {n : Nat} (h : xs.length ≤ n) : cutV xs none (some (n : Int)) = xs := by
  unfold cutV
  rw [HT.sIx_none, HT.sIx_nat, List.drop_zero]
  exact List.take_of_length_le (by omega)
theorem take_succ_map {ns : List Int} {i : Nat} {x : V} (h : (ns.map V.int)[i]? = some x) : ∃ z, x = .int z ∧ z ∈ ns ∧ (ns.take (i + 1)).map V.int = (ns.take i).map V.int ++ [x] := by
  rw [List.getElem?_map] at h
  cases e : ns[i]? with
  | none =>
    rw [e] at h
    cases h
  | some z =>
    rw [e] at h
    have hx : x = .int z := (Option.some.inj h).symm
    refine ⟨z, hx, List.mem_of_getElem? e, ?_⟩
    rw [List.take_add_one, e, List.map_append, hx]
    rfl
/-! ### list.count of flags -/
def eqb (k : Bool) (v : Value) : Bool := match v with
  | .bool b => b == k
  | _ => false
theorem eqb_at {A : Around} {s : Shared} {k : Bool} : ∀ {us : List Value} {bs : List Bool}, Vals (bs.map V.bl) us → ∀ y ∈ us, SeqAt.EqAt A s y (.bool k) (eqb k y)
  | [], bs, r => fun y hy => nomatch hy
  | u :: us, [], r => nomatch r
  | u :: us, b :: bs, r => fun y hy => by
    cases r with
    | cons r1 r2 =>
      rcases List.mem_cons.mp hy with e | e
      · rw [e]
        cases (show u = Value.bool b from r1)
        exact SeqAt.EqAt.bool_bool b k
      · exact eqb_at r2 y e
theorem eqb_count {k : Bool} : ∀ {us : List Value} {bs : List Bool}, Vals (bs.map V.bl) us → us.countP (eqb k) = bs.count k
  | [], [], _ => rfl
  | [], b :: bs, r => nomatch r
  | u :: us, [], r => nomatch r
  | u :: us, b :: bs, r => by
    cases r with
    | cons r1 r2 =>
      cases (show u = Value.bool b from r1)
      rw [List.countP_cons, List.count_cons, eqb_count r2] <;> rfl
def rCntB (K : PySem.W.Frag) : V → List V → Hp → VK → Prop := fun x xs H Q => ∃ (p : Addr) (bs : List Bool) (k : Bool), x = .ref p ∧ xs = [.bl k] ∧ SqL K H p (bs.map V.bl) ∧ Q (.int (bs.count k : Nat)) H
theorem mt_bcount {X : Cx} : MtR X "list.count" (rCntB X.K) := by
  intro pins s σ H x xs v us Q I rx rxs h
  obtain ⟨p, bs, k, rfl, rfl, hs, q⟩ := h
  cases rx
  obtain ⟨u, rfl, ru⟩ := rxs.one
  cases (show u = Value.bool k from ru)
  obtain ⟨its, rv, ⟨⟨cls, dd, data, sl⟩, n, ho, hc, hdn, hd⟩, hlen⟩ := I.list hs
  simp only at hc hd
  subst hc hd
  refine call_meets PySem.F.slot_list_count ⟨_, ho, rfl⟩ PySem.F.entry_list_count (PySem.F.args_list_count_2 _ _)
    (SeqAt.list_countAt p its.toArray n dd sl (.bool k) (eqb k)) ⟨ho, fun y hy => eqb_at rv y (by simpa using hy), ?_⟩
  have ec : its.toArray.toList.countP (eqb k) = bs.count k := eqb_count rv
  refine ⟨.int (bs.count k : Nat), H, I.tok _, ⟨s.toks, ?_⟩, q⟩
  show Value.int ((its.toArray.toList.countP (eqb k) : Nat) : Int) s.toks = Value.int ((bs.count k : Nat) : Int) s.toks
  rw [ec]
/-! ### greatest common divisors by remainders -/
structure Euc (G b i : Nat) (x y : Nat) : Prop where
  g : x.gcd y = G
  h : y * 2 ^ (i / 2) ≤ b
  m : i ≠ 0 → y < x ∧ x * 2 ^ ((i - 1) / 2) ≤ b
theorem Euc.step {G b i x y : Nat} (e : Euc G b i x y) (hy : y ≠ 0) : Euc G b (i + 1) y (x % y) := by
  have lt : x % y < y := Nat.mod_lt _ (by omega)
  refine ⟨?_, ?_, fun _ => ⟨lt, ?_⟩⟩
  · rw [← e.g, Nat.gcd_comm x y, Nat.gcd_comm y (x % y)]
    exact (Nat.gcd_rec y x).symm
  · rcases Nat.mod_two_eq_zero_or_one i with p | p
    · have q : (i + 1) / 2 = i / 2 := by omega
      rw [q]
      exact Nat.le_trans (Nat.mul_le_mul_right _ (Nat.le_of_lt lt)) e.h
    · have q : (i + 1) / 2 = (i - 1) / 2 + 1 := by omega
      obtain ⟨m1, m2⟩ := e.m (by omega)
      have half : 2 * (x % y) ≤ x := by
        have d := Nat.div_add_mod x y
        have dp : 1 ≤ x / y := Nat.div_pos (Nat.le_of_lt m1) (by omega)
        have : y ≤ y * (x / y) := Nat.le_mul_of_pos_right y dp
        omega
      rw [q, Nat.pow_succ]
      calc x % y * (2 ^ ((i - 1) / 2) * 2) = (2 * (x % y)) * 2 ^ ((i - 1) / 2) := by rw [Nat.mul_comm (2 ^ _) 2, ← Nat.mul_assoc, Nat.mul_comm (x % y) 2]
        _ ≤ x * 2 ^ ((i - 1) / 2) := Nat.mul_le_mul_right _ half
        _ ≤ b := m2
  · have q : (i + 1 - 1) / 2 = i / 2 := by omega
    rw [q]
    exact e.h
theorem Euc.done {G b k x y : Nat} (e : Euc G b (2 * k + 2) x y) (hb : b < 2 ^ k) : y = 0 ∧ x = G := by
  have h := e.h
  have q : (2 * k + 2) / 2 = k + 1 := by omega
  rw [q] at h
  have hy : y = 0 := by
    rcases Nat.eq_zero_or_pos y with z | z
    · exact z
    · have p : 2 ^ (k + 1) ≤ y * 2 ^ (k + 1) := Nat.le_mul_of_pos_left _ z
      rw [Nat.pow_succ] at p
      have : 0 < 2 ^ k := Nat.two_pow_pos k
      rw [Nat.pow_succ] at h
      omega
  have g := e.g
  rw [hy, Nat.gcd_zero_right] at g
  exact ⟨hy, g⟩
end My
namespace My
open PySem PySem.Spec PyProof.Rows L2
theorem cdv {j : Int} (h : 0 < j) (hb : j.natAbs < 2 ^ 8000) (i : Int) : CDivX i j := cdivx (by omega) hb (by decide)
theorem cmx {i j : Int} (h1 : i.natAbs < 2 ^ 20000) (h2 : j.natAbs < 2 ^ 20000) : CMulX i j := mulx_ok h1 h2 (by decide)
theorem div_nat (a b : Nat) : (a : Int).fdiv (b : Int) = ((a / b : Nat) : Int) := by
  rw [Int.fdiv_eq_ediv_of_nonneg _ (by omega), Int.natCast_ediv]
theorem p45 {n : Nat} (h : n < 2 ^ 4000) : n < 2 ^ 8000 := Nat.lt_of_lt_of_le h (pow_le (by decide))
theorem p46 {n : Nat} (h : n < 2 ^ 4000) : n < 2 ^ 20000 := Nat.lt_of_lt_of_le h (pow_le (by decide))
theorem added_math {r s : Rat} (hr : Bd 4000 r) (hs : Bd 4000 s) : ∀ g top sh : Int, g = ((Nat.gcd (r.den : Int).natAbs (s.den : Int).natAbs : Nat) : Int) → top = r.num * (s.den : Int).fdiv g + s.num * (r.den : Int).fdiv g →
    sh = ((Nat.gcd top.natAbs g.natAbs : Nat) : Int) → (∀ i, CDivX i g) ∧ CMulX r.num ((s.den : Int).fdiv g) ∧ CMulX s.num ((r.den : Int).fdiv g) ∧ (∀ i, CDivX i sh) ∧ CMulX ((r.den : Int).fdiv g) ((s.den : Int).fdiv sh) ∧
      (r + s).num = top.fdiv sh ∧ ((r + s).den : Int) = (r.den : Int).fdiv g * (s.den : Int).fdiv sh := by
  intro g top sh hg ht hsh
  have hd := r.den_pos
  have hs' := s.den_pos
  rw [Int.natAbs_natCast, Int.natAbs_natCast] at hg
  have gpos : 0 < r.den.gcd s.den := Nat.gcd_pos_of_pos_left _ hd
  have gle : r.den.gcd s.den ≤ r.den := Nat.gcd_le_left _ hd
  have gna : g.natAbs = r.den.gcd s.den := by rw [hg, Int.natAbs_natCast]
  have shpos : 0 < top.natAbs.gcd (r.den.gcd s.den) := Nat.gcd_pos_of_pos_right _ gpos
  have shle : top.natAbs.gcd (r.den.gcd s.den) ≤ r.den.gcd s.den := Nat.gcd_le_right _ gpos
  rw [gna] at hsh
  have hr2 := hr.2
  have hs2 := hs.2
  have e1 : (s.den : Int).fdiv g = ((s.den / r.den.gcd s.den : Nat) : Int) := by rw [hg, div_nat]
  have e2 : (r.den : Int).fdiv g = ((r.den / r.den.gcd s.den : Nat) : Int) := by rw [hg, div_nat]
  have l1 : s.den / r.den.gcd s.den ≤ s.den := Nat.div_le_self _ _
  have l2 : r.den / r.den.gcd s.den ≤ r.den := Nat.div_le_self _ _
  have form := add_form r s (r.den.gcd s.den) (r.den / r.den.gcd s.den) (s.den / r.den.gcd s.den) top (top.natAbs.gcd (r.den.gcd s.den)) rfl rfl rfl (by rw [ht, e1, e2]) rfl
  have e3 : (s.den : Int).fdiv sh = ((s.den / top.natAbs.gcd (r.den.gcd s.den) : Nat) : Int) := by rw [hsh, div_nat]
  have l3 : s.den / top.natAbs.gcd (r.den.gcd s.den) ≤ s.den := Nat.div_le_self _ _
  refine ⟨cdv (by omega) (by rw [gna]; exact p45 (by omega)), ?_, ?_, cdv (by omega) ?_, ?_, ?_, ?_⟩
  · rw [e1]
    exact cmx (p46 hr.1) (by rw [Int.natAbs_natCast]; exact p46 (by omega))
  · rw [e2]
    exact cmx (p46 hs.1) (by rw [Int.natAbs_natCast]; exact p46 (by omega))
  · rw [hsh, Int.natAbs_natCast]
    exact p45 (by omega)
  · rw [e2, e3]
    exact cmx (by rw [Int.natAbs_natCast]; exact p46 (by omega)) (by rw [Int.natAbs_natCast]; exact p46 (by omega))
  · rw [form.1, hsh, Int.fdiv_eq_ediv_of_nonneg _ (by omega)]
  · rw [form.2, e2, e3, Int.natCast_mul]
theorem mul_math {r s : Rat} (hr : Bd 4000 r) (hs : Bd 4000 s) : ∀ a b : Int, a = ((Nat.gcd r.num.natAbs (s.den : Int).natAbs : Nat) : Int) → b = ((Nat.gcd s.num.natAbs (r.den : Int).natAbs : Nat) : Int) →
    (∀ i, CDivX i a) ∧ (∀ i, CDivX i b) ∧ CMulX (r.num.fdiv a) (s.num.fdiv b) ∧ CMulX ((r.den : Int).fdiv b) ((s.den : Int).fdiv a) ∧
      (r * s).num = r.num.fdiv a * s.num.fdiv b ∧ ((r * s).den : Int) = (r.den : Int).fdiv b * (s.den : Int).fdiv a := by
  intro a b ha hb
  rw [Int.natAbs_natCast] at ha hb
  have hd := r.den_pos
  have hs' := s.den_pos
  have ap : 0 < r.num.natAbs.gcd s.den := Nat.gcd_pos_of_pos_right _ hs'
  have bp : 0 < s.num.natAbs.gcd r.den := Nat.gcd_pos_of_pos_right _ hd
  have al : r.num.natAbs.gcd s.den ≤ s.den := Nat.gcd_le_right _ hs'
  have bl : s.num.natAbs.gcd r.den ≤ r.den := Nat.gcd_le_right _ hd
  have da : a ∣ r.num := by rw [ha]; exact Int.ofNat_dvd_left.mpr (Nat.gcd_dvd_left ..)
  have db : b ∣ s.num := by rw [hb]; exact Int.ofNat_dvd_left.mpr (Nat.gcd_dvd_left ..)
  have hr2 := hr.2
  have hs2 := hs.2
  obtain ⟨f1, f2⟩ := mul_form r s _ _ rfl rfl
  have e1 : r.num.fdiv a = r.num / a := fdiv_dvd da
  have e2 : s.num.fdiv b = s.num / b := fdiv_dvd db
  have e3 : (r.den : Int).fdiv b = ((r.den / s.num.natAbs.gcd r.den : Nat) : Int) := by rw [hb, div_nat]
  have e4 : (s.den : Int).fdiv a = ((s.den / r.num.natAbs.gcd s.den : Nat) : Int) := by rw [ha, div_nat]
  have l3 : r.den / s.num.natAbs.gcd r.den ≤ r.den := Nat.div_le_self _ _
  have l4 : s.den / r.num.natAbs.gcd s.den ≤ s.den := Nat.div_le_self _ _
  have n1 : (r.num / a).natAbs ≤ r.num.natAbs := by
    rw [Int.natAbs_ediv_of_dvd da]
    exact Nat.div_le_self _ _
  have n2 : (s.num / b).natAbs ≤ s.num.natAbs := by
    rw [Int.natAbs_ediv_of_dvd db]
    exact Nat.div_le_self _ _
  have hr1 := hr.1
  have hs1 := hs.1
  refine ⟨cdv (by omega) (by rw [ha, Int.natAbs_natCast]; exact p45 (by omega)), cdv (by omega) (by rw [hb, Int.natAbs_natCast]; exact p45 (by omega)), ?_, ?_, ?_, ?_⟩
  · rw [e1, e2]
    exact cmx (p46 (by omega)) (p46 (by omega))
  · rw [e3, e4]
    exact cmx (by rw [Int.natAbs_natCast]; exact p46 (by omega)) (by rw [Int.natAbs_natCast]; exact p46 (by omega))
  · rw [f1, e1, e2, ha, hb]
  · rw [f2, e3, e4, Int.natCast_mul]
end My
namespace My
open PySem PySem.Spec PyProof.Rows L2
theorem low_math {n b : Int} (hb : 0 < b) (hl : b.natAbs < 2 ^ 8000) : ∀ g : Int, g = ((n.natAbs.gcd b.natAbs : Nat) : Int) → (∀ i, CDivX i g) ∧ (Rat.divInt n b).num = n.fdiv g ∧ ((Rat.divInt n b).den : Int) = b.fdiv g := by
  rintro g rfl
  have gp : 0 < n.natAbs.gcd b.natAbs := Nat.gcd_pos_of_pos_right _ (by omega)
  have gl : n.natAbs.gcd b.natAbs ≤ b.natAbs := Nat.gcd_le_right _ (by omega)
  obtain ⟨e1, e2⟩ := low_form n b (by omega)
  rw [if_neg (by omega)] at e1 e2
  refine ⟨cdv (by omega) (by rw [Int.natAbs_natCast]; omega), ?_, ?_⟩
  · rw [e1, fdiv_dvd (Int.ofNat_dvd_left.mpr (Nat.gcd_dvd_left ..))]
  · rw [e2, fdiv_dvd (Int.ofNat_dvd_left.mpr (Nat.gcd_dvd_right ..))]
theorem sign_na {t r : Int} (a : 0 ≤ r) (b : r < 2) : (t * (1 - 2 * r)).natAbs = t.natAbs := by
  have h : r = 0 ∨ r = 1 := by omega
  rcases h with rfl | rfl
  · simp
  · rw [Int.natAbs_mul]
    simp
end My
namespace My
open PySem PySem.Spec PyProof.Rows L2
/-! ### math.isqrt -/
theorem isqrt_rt {n : Int} (h : 0 ≤ n) : IsRt n ((PySem.Float64.isqrt n.toNat : Nat) : Int) := by
  obtain ⟨h1, h2⟩ := PySem.Float64.isqrt_spec n.toNat
  refine ⟨by omega, ?_, ?_⟩
  · rw [← Int.natCast_mul]
    omega
  · have e : ((PySem.Float64.isqrt n.toNat : Nat) : Int) + 1 = ((PySem.Float64.isqrt n.toNat + 1 : Nat) : Int) := by omega
    rw [e, ← Int.natCast_mul]
    omega
def rIsq : List V → Hp → VK → Prop := fun vs H Q => ∃ a : Int, vs = [.int a] ∧ 0 ≤ a ∧ a.natAbs < 2 ^ 8000 ∧ ∀ t, IsRt a t → Q (.int t) H
theorem cr_isqrt {X : Cx} : CallR X (.builtin "math.isqrt") rIsq := by
  intro pins s σ H vs us Q I r h
  obtain ⟨a, rfl, h0, h1, q⟩ := h
  obtain ⟨u, rfl, rx⟩ := vals1 r
  obtain ⟨t, rfl⟩ := rx
  have hl : a.toNat.log2 ≤ 7999 := PySem.W.mg_log (by
    show a.toNat < 2 ^ 8000
    have : a.toNat = a.natAbs := by omega
    rw [this]
    exact h1)
  exact call_function_meets PySem.W.MGF.kind_isqrt PySem.W.MGF.plain_isqrt PySem.W.MGF.entry_isqrt (PySem.W.MGF.args_isqrt _) (PySem.W.mg_run_isqrt a t (by omega) (by omega) (by omega)).meets ⟨.int _, H, I.tok _, ⟨_, rfl⟩, q _ (isqrt_rt h0)⟩
theorem rd_isq {a : Int} {H : Hp} {Q : VK} (h0 : 0 ≤ a) (h1 : a.natAbs < 2 ^ 8000) (q : ∀ t, IsRt a t → Q (.int t) H) : rIsq [.int a] H Q := ⟨a, rfl, h0, h1, q⟩
end My
namespace My
open PySem PySem.Spec PyProof.Rows L2
/-! ### an own error class without __init__, made without arguments -/
abbrev veChain : List Value := [.type "ValueError", .type "Exception", .type "BaseException", .type "object"]
theorem pmk_own0 {X : Cx} {C : Addr} {bmB : List Value} {B newId initId : String} {x : Str} {p pos : Pos} (F : ExcBaseFacts B newId initId bmB) (q : PySem.W.excIn X.K C bmB newId = true) (gC : X.mg x = some (.ref C))
    (kC : PySem.W.keepIn X.K (.ref C) = true) (r : Raises X (.ref C)) (hg : Gl X x) (hdb : (x == ("__debug__" : Str)) = false := by decide) :
    PMk X (.Call (.Name x p) [] [] pos) (fun _ H Q => Q (.ref C) none H) := by
  intro pins s σ H Q I h
  refine wpAny_Call_Name_kw (ld_glob I hg gC ?_ hdb)
  refine PySem.W.callWith_K0 I.kIn kC ?_
  show wpAny _ _ (call (.ref C) []) _ _ _
  obtain ⟨hp, g, d, t, os⟩ := s
  obtain ⟨bm, N, nm, qn, bs, hdct, sn, sub, ab, col, dd, k0, k1, k2, k3, k5, mN, hC, hN, hni, T⟩ := exc_obj I.kIn q
  refine wpAny_call_exc_subT F T hC hN hni (fun h' e hm => ?_) (Nat.zero_le _)
  exact mk_of I hm r h (I.hok.gone hm.new)
/-- what the top holds of such a class -/
structure ExC (K : PySem.W.Frag) (mg : Str → Option Value) (x : Str) (C : Addr) : Prop where
  g : mg x = some (.ref C)
  ex : PySem.W.excIn K C veChain "ValueError.__new__" = true
  kp : PySem.W.keepIn K (.ref C) = true
  be : PySem.W.subIn K (.ref C) (.type "BaseException") = some true
  ty : PySem.W.typeIn K (.ref C) = some (.type "type")
  ic : PySem.W.isClsIn K C = true
  sf : PySem.W.subIn K (.ref C) (.ref C) = some true
theorem exm_sub {K : PySem.W.Frag} {C S : Addr} {b : Bool} (h1 : PySem.W.subIn K (.ref S) (.type "BaseException") = some true) (h2 : PySem.W.isClsIn K S = true) (h3 : PySem.W.typeIn K (.ref S) = some (.type "type")) (h4 : PySem.W.subIn K (.ref C) (.ref S) = some b) :
    PySem.W.exmOne K (.ref C) (.ref S) = some b := by
  have e1 : (PySem.W.subIn K (.ref S) (.type "BaseException") == some true) = true := by rw [h1] <;> rfl
  have e2 : ((PySem.W.clsIn K S).isSome && PySem.W.typeIn K (.ref S) == some (.type "type")) = true := by
    have h2' : (PySem.W.clsIn K S).isSome = true := h2
    rw [h2', h3] <;> rfl
  show (if (PySem.W.subIn K (.ref S) (.type "BaseException") == some true) = true then (if ((PySem.W.clsIn K S).isSome && PySem.W.typeIn K (.ref S) == some (.type "type")) = true then PySem.W.subIn K (.ref C) (.ref S) else none) else none) = some b
  rw [if_pos e1, if_pos e2]
  exact h4
theorem ExC.te {K : PySem.W.Frag} {mg : Str → Option Value} {x : Str} {C : Addr} (e : ExC K mg x C) : PySem.W.exmOne K (.ref C) (.ref C) = some true := exm_sub e.be e.ic e.ty e.sf
/-- raise X() -/
theorem ps_raise0 {X : Cx} {W : WX} {C : Addr} {x : Str} {p pos pos2 : Pos} (hc : X.calm = true) (e : ExC X.K X.mg x C) (tk : Takes X W) (hg : Gl X x := by rfl) (hdb : (x == ("__debug__" : Str)) = false := by decide) :
    PS X (.Raise (some (.Call (.Name x p) [] [] pos)) none pos2) (fun _ σ H => W (.ref C) none σ H) :=
  ps_raise hc tk (pmk_own0 PySem.F.excBase_ValueError e.ex e.g e.kp (raises_own e.be e.ty) hg hdb)
theorem rd_callS {sp : Sp} {E : L2.St → XK} {t : TA} {σ : L2.St} {H : Hp} {Q : VK} (h : t σ H fun vs H1 => sp vs H1 Q (E σ)) : tCallS sp E t σ H Q := h
theorem rd_newK {σ : L2.St} {H : Hp} {Q : VK} (h : ∀ p, H p = none → Q (.ref p) (upd H p (.dK []))) : tDNewK σ H Q := h
theorem at_any {xs : List V} {i : Int} (h0 : 0 ≤ i) (h1 : i < (xs.length : Nat)) : ∃ v, v ∈ xs ∧ atI xs i = some v := by
  obtain ⟨j, rfl⟩ := Int.eq_ofNat_of_zero_le h0
  have hj : j < xs.length := by omega
  exact ⟨xs[j], List.getElem_mem hj, atI_nat (List.getElem?_eq_getElem hj)⟩
/-! ### things that are no integers -/
inductive Odd (D : Addr) (H : Hp) : V → Prop where
  | non : Odd D H .non
  | bl (b : Bool) : Odd D H (.bl b)
  | str (s : Str) : Odd D H (.str s)
  | lst {p : Addr} {xs : List V} (n : p ≠ D) (h : H p = some (.lst xs)) : Odd D H (.ref p)
  | tup {p : Addr} {xs : List V} (n : p ≠ D) (h : H p = some (.tup xs)) : Odd D H (.ref p)
  | dK {p : Addr} {kvs : List (Key × V)} (n : p ≠ D) (h : H p = some (.dK kvs)) : Odd D H (.ref p)
theorem Odd.fw {D : Addr} {H H' : Hp} {v : V} (o : Odd D H v) (f : Fw D H H') : Odd D H' v := by
  cases o with
  | non => exact .non
  | bl b => exact .bl b
  | str s => exact .str s
  | lst n h => exact .lst n (f _ _ n h)
  | tup n h => exact .tup n (f _ _ n h)
  | dK n h => exact .dK n (f _ _ n h)
theorem Odd.isi {D : Addr} {H : Hp} {v : V} (o : Odd D H v) (K : PySem.W.Frag) : ∃ b1 b2 : Bool, (b1 && !b2) = false ∧ (∀ Q : VK, Q (.bl b1) H → rIsi K [v, .ty "int"] H Q) ∧ (∀ Q : VK, Q (.bl b2) H → rIsi K [v, .ty "bool"] H Q) := by
  cases o with
  | non => exact ⟨false, false, rfl, fun Q q => ⟨_, _, _, _, _, rfl, .ty _, .base .non, kit_ty (by decide +kernel), q⟩, fun Q q => ⟨_, _, _, _, _, rfl, .ty _, .base .non, kit_ty (by decide +kernel), q⟩⟩
  | bl b => exact ⟨true, true, rfl, fun Q q => ⟨_, _, _, _, _, rfl, .ty _, .base (.bl _), kit_ty (by decide +kernel), q⟩, fun Q q => ⟨_, _, _, _, _, rfl, .ty _, .base (.bl _), kit_ty (by decide +kernel), q⟩⟩
  | str s => exact ⟨false, false, rfl, fun Q q => ⟨_, _, _, _, _, rfl, .ty _, .base (.str _), kit_ty (by decide +kernel), q⟩, fun Q q => ⟨_, _, _, _, _, rfl, .ty _, .base (.str _), kit_ty (by decide +kernel), q⟩⟩
  | lst n h => exact ⟨false, false, rfl, fun Q q => ⟨_, _, _, _, _, rfl, .ty _, .base (.lst h), kit_ty (by decide +kernel), q⟩, fun Q q => ⟨_, _, _, _, _, rfl, .ty _, .base (.lst h), kit_ty (by decide +kernel), q⟩⟩
  | tup n h => exact ⟨false, false, rfl, fun Q q => ⟨_, _, _, _, _, rfl, .ty _, .base (.tup h), kit_ty (by decide +kernel), q⟩, fun Q q => ⟨_, _, _, _, _, rfl, .ty _, .base (.tup h), kit_ty (by decide +kernel), q⟩⟩
  | dK n h => exact ⟨false, false, rfl, fun Q q => ⟨_, _, _, _, _, rfl, .ty _, .base (.dK h), kit_ty (by decide +kernel), q⟩, fun Q q => ⟨_, _, _, _, _, rfl, .ty _, .base (.dK h), kit_ty (by decide +kernel), q⟩⟩
end My
namespace My
open PySem PySem.Spec PyProof.Rows L2
/-! ### own error classes with one field -/
structure ExF (K : PySem.W.Frag) (mg : Str → Option Value) (x : Str) (C fI : Addr) (fl : Str) : Prop where
  g : mg x = some (.ref C)
  ox : OexC K C
  iC : PySem.W.findIn K (.ref C) "__init__" = some (some (.ref fI))
  tI : PySem.W.typeIn K (.ref fI) = some (.type "function")
  no : PySem.W.findIn K (.ref C) fl = some none
  xf : XfC K C
  ic : PySem.W.isClsIn K C = true
  sf : PySem.W.subIn K (.ref C) (.ref C) = some true
theorem ExF.te {K : PySem.W.Frag} {mg : Str → Option Value} {x : Str} {C fI : Addr} {fl : Str} (e : ExF K mg x C fI fl) : PySem.W.exmOne K (.ref C) (.ref C) = some true := exm_sub e.ox.exC e.ic e.ox.tyC e.sf
/-- what such an __init__ does -/
def sp_xinit (C : Addr) (fl : Str) : Sp := fun vs H Q _ => ∃ p v, vs = [.ref p, v] ∧ H p = some (exo p C none) ∧ ∀ dx, H dx = none → dx ≠ p → Q .non (upd (upd H dx (exd dx [(fl, v)])) p (exo p C (some dx)))
theorem rd_ost {K : PySem.W.Frag} {f : Str} {to te : TE} {D : Ends} {σ : L2.St} {H : Hp} (h : te σ H fun y H1 => to σ H1 fun x H2 => ∃ a C : Addr, x = .ref a ∧ OexC K C ∧ PySem.W.findIn K (.ref C) f = some none ∧
    ((H2 a = some (exo a C none) ∧ ∀ dx, H2 dx = none → dx ≠ a → D.nx σ (upd (upd H2 dx (exd dx [(f, y)])) a (exo a C (some dx)))) ∨
      ∃ (dx : Addr) (fs : List (Str × V)), H2 a = some (exo a C (some dx)) ∧ H2 dx = some (exd dx fs) ∧ fs.length ≤ 900 ∧ D.nx σ (upd H2 dx (exd dx ((f, y) :: fs))))) : tOst K f to te D σ H := h
theorem del_upd_back {H1 : Hp} {a d : Addr} {o1 o2 o3 : HO} {fs : List (Str × V)} (ha : H1 a = none) (hd : H1 d = none) (hn : d ≠ a) :
    upd (del (upd (upd (upd H1 a o1) d o2) a o3) a) d (.xd fs) = upd H1 d (.xd fs) := by
  funext b
  by_cases hb : b = d
  · rw [hb, upd_same, upd_same]
  · rw [upd_ne hb, upd_ne hb]
    by_cases hb2 : b = a
    · rw [hb2, del_same, ha]
    · rw [del_ne hb2, upd_ne hb2, upd_ne hb, upd_ne hb2]
theorem lk1 {f : Str} {v : V} : ([(f, v)] : List (Str × V)).lookup f = some v := by
  have e : (f == f) = true := beq_self_eq_true f
  simp only [List.lookup, e]
/-- raise X(e) -/
def tRaise1 (C : Addr) (fl : Str) (W : WX) (ta : TA) : TS := fun _ σ H => tMkO C (sp_xinit C fl) [] ta σ H fun cls d H' => W cls d σ H'
theorem rd_raise1 {C : Addr} {fl : Str} {W : WX} {ta : TA} {D : Ends} {σ : L2.St} {H : Hp} (h : ta σ H fun vs H1 => vs.length ≤ 1000 ∧ ∀ a, H1 a = none → sp_xinit C fl (.ref a :: (vs ++ [])) (upd H1 a (exo a C none))
    (fun v H2 => v = .non ∧ ∃ (d : Addr) (fs : List (Str × V)), H2 a = some (exo a C (some d)) ∧ H2 d = some (exd d fs) ∧ H1 d = none ∧ W (.ref C) (some d) σ (upd (del H2 a) d (.xd fs))) (fun _ _ _ => False)) : tRaise1 C fl W ta D σ H := h
theorem rd_x1 {C : Addr} {fl : Str} {v : V} {H1 : Hp} {Q : Value → Option Addr → Hp → Prop} (h : ∀ d, H1 d = none → Q (.ref C) (some d) (upd H1 d (.xd [(fl, v)]))) :
    [v].length ≤ 1000 ∧ ∀ a, H1 a = none → sp_xinit C fl (.ref a :: ([v] ++ [])) (upd H1 a (exo a C none))
      (fun v H2 => v = .non ∧ ∃ (d : Addr) (fs : List (Str × V)), H2 a = some (exo a C (some d)) ∧ H2 d = some (exd d fs) ∧ H1 d = none ∧ Q (.ref C) (some d) (upd (del H2 a) d (.xd fs))) (fun _ _ _ => False) := by
  refine ⟨by show 1 ≤ 1000; decide, fun a na => ⟨a, v, rfl, upd_same, fun dx nd ne => ⟨rfl, dx, [(fl, v)], upd_same, ?_, ?_, ?_⟩⟩⟩
  · rw [upd_ne ne, upd_same]
  · rw [upd_ne ne] at nd
    exact nd
  · rw [upd_ne ne] at nd
    rw [del_upd_back na nd ne]
    exact h dx nd
theorem ps_raise1 {X : Cx} {W : WX} {C fI : Addr} {x : Str} {fl : Str} {k : Nat} {fd : FuncData} {ta : TA} {e : Expr} {es : List Expr} {p pos pos2 : Pos} (hc : X.calm = true) (E : ExF X.K X.mg x C fI fl)
    (F1 : FnOk X.prog X.w X.K X.mg X.base CX0 k fI fd ["self", fl] (sp_xinit C fl)) (hr : Room (k + 1) X.A) (tk : Takes X W) (hb : Binds X.K fd ["self", fl] []) (ha : PA X (e :: es) ta) (hg : Gl X x := by rfl)
    (hdb : (x == ("__debug__" : Str)) = false := by decide) (he : starEach (e :: es) X.env = (false, eval e X.env) :: starEach es X.env := by rfl) (hpl : (backTo pos (starEach es X.env)).any (·.1) = false := by rfl) :
    PS X (.Raise (some (.Call (.Name x p) (e :: es) [] pos)) none pos2) (tRaise1 C fl W ta) :=
  ps_raise (pos := pos2) hc tk (pmk_oex (pos := pos) E.ox E.iC E.tI F1 hr hb .nil pass0 hg E.g ha hdb he hpl)
/-- e.f of the caught error -/
theorem rd_xf {a : Addr} {cls : Value} {d : Option Addr} {C : Addr} {f : Str} {te : TE} {σ : L2.St} {H : Hp} {Q : VK} (h : te σ H fun x H1 => x = .ref a ∧ cls = .ref C ∧ ∃ (dd : Addr) (fs : List (Str × V)) (v : V), d = some dd ∧ H1 dd = some (.xd fs) ∧ fs.lookup f = some v ∧ Q v H1) : tXf a cls d C f te σ H Q := h
theorem rd_xf1 {a : Addr} {C dd : Addr} {f : Str} {v : V} {H : Hp} {Q : VK} (h : H dd = some (.xd [(f, v)])) (q : Q v H) : (V.ref a) = .ref a ∧ (Value.ref C) = .ref C ∧ ∃ (dd2 : Addr) (fs : List (Str × V)) (v : V), some dd = some dd2 ∧ H dd2 = some (.xd fs) ∧ fs.lookup f = some v ∧ Q v H := ⟨rfl, rfl, dd, _, v, rfl, h, lk1, q⟩
/-! ### own classes with fields -/
structure InsT (K : PySem.W.Frag) (C : Addr) : Prop where
  cl : Cls K C
  ha : PySem.W.findIn K (.ref C) "__class__" = some (some (.builtin "object.__class__"))
  hn : PySem.W.specialIn K (.builtin "object.__class__") "__get__" = some (some (.builtin "getset_descriptor.__get__"))
  ht : PySem.W.takesIn K (.builtin "object.__class__") = some true
  mo : PySem.W.mroIn K C (.type "object") = some true
  ki : PySem.W.kitOne K (.ref C) (.type "int") = some false
  kb : PySem.W.kitOne K (.ref C) (.type "bool") = some false
  kt : PySem.W.kitOne K (.ref C) (.type "tuple") = some false
  kl : PySem.W.kitOne K (.ref C) (.type "list") = some false
structure WebC (K : PySem.W.Frag) (mg : Str → Option Value) (x : Str) (C fI : Addr) : Prop where
  g : mg x = some (.ref C)
  mks : Mk K C fI
  it : InsT K C
theorem rd_fldS {K : PySem.W.Frag} {ta tv : TE} {f : Str} {D : Ends} {σ : L2.St} {H : Hp} (h : tv σ H fun y H1 => ta σ H1 fun x H2 => ∃ a C dx fs, x = .ref a ∧ H2 a = some (.ins C dx fs) ∧ Cls K C ∧ NoAttr K C f ∧ fs.length < 1000 ∧ D.nx σ (upd H2 a (.ins C dx (putF f y fs)))) : sFld K ta tv f D σ H := h
theorem rd_make {C : Addr} {sp : Sp} {dvs : List V} {E : XK} {t : TA} {σ : L2.St} {H : Hp} {Q : VK} (h : t σ H fun vs H1 => ∀ x dx, H1 x = none → H1 dx = none → dx ≠ x → sp (.ref x :: (vs ++ dvs)) (upd (upd H1 dx (.own x)) x (.ins C dx [])) (fun v H2 => v = .non ∧ Q (.ref x) H2) E) : tMake C sp dvs E t σ H Q := h
theorem rd_enum {K : PySem.W.Frag} {ta : TA} {R : It → Hp → Prop} {σ : L2.St} {H : Hp} (h : ta σ H fun vs H1 => ∃ a xs, vs = [.ref a] ∧ SqL K H1 a xs ∧ R (Ite K a) H1) : iEnum K ta σ H R := h
/-! ### things of all kinds; D: the deck, which alone is changed -/
inductive Od (K : PySem.W.Frag) (D : Addr) (H : Hp) : V → Prop where
  | non : Od K D H .non
  | bl (b : Bool) : Od K D H (.bl b)
  | str (s : Str) : Od K D H (.str s)
  | lst {p : Addr} {xs : List V} (n : p ≠ D) (h : H p = some (.lst xs)) : Od K D H (.ref p)
  | tup {p : Addr} {xs : List V} (n : p ≠ D) (h : H p = some (.tup xs)) : Od K D H (.ref p)
  | dK {p : Addr} {kvs : List (Key × V)} (n : p ≠ D) (h : H p = some (.dK kvs)) : Od K D H (.ref p)
  | ins {p C dx : Addr} {fs : List (Str × V)} (n : p ≠ D) (h : H p = some (.ins C dx fs)) (c : InsT K C) : Od K D H (.ref p)
theorem Od.fw {K : PySem.W.Frag} {D : Addr} {H H' : Hp} {v : V} (o : Od K D H v) (f : Fw D H H') : Od K D H' v := by
  cases o with
  | non => exact .non
  | bl b => exact .bl b
  | str s => exact .str s
  | lst n h => exact .lst n (f _ _ n h)
  | tup n h => exact .tup n (f _ _ n h)
  | dK n h => exact .dK n (f _ _ n h)
  | ins n h c => exact .ins n (f _ _ n h) c
/-- what isinstance says of it -/
theorem Od.isi {K : PySem.W.Frag} {D : Addr} {H : Hp} {v : V} (o : Od K D H v) : ∃ b1 b2 b3 : Bool, (b1 && !b2) = false ∧ (∀ Q : VK, Q (.bl b1) H → rIsi K [v, .ty "int"] H Q) ∧ (∀ Q : VK, Q (.bl b2) H → rIsi K [v, .ty "bool"] H Q) ∧ (∀ Q : VK, Q (.bl b3) H → rIsi K [v, .ty "tuple"] H Q) ∧ (b3 = true → ∃ p xs, v = .ref p ∧ p ≠ D ∧ H p = some (.tup xs)) := by
  cases o with
  | non => exact ⟨false, false, false, rfl, fun Q q => ⟨_, _, _, _, _, rfl, .ty _, .base .non, kit_ty (by decide +kernel), q⟩, fun Q q => ⟨_, _, _, _, _, rfl, .ty _, .base .non, kit_ty (by decide +kernel), q⟩, fun Q q => ⟨_, _, _, _, _, rfl, .ty _, .base .non, kit_ty (by decide +kernel), q⟩, fun z => Bool.noConfusion z⟩
  | bl b => exact ⟨true, true, false, rfl, fun Q q => ⟨_, _, _, _, _, rfl, .ty _, .base (.bl _), kit_ty (by decide +kernel), q⟩, fun Q q => ⟨_, _, _, _, _, rfl, .ty _, .base (.bl _), kit_ty (by decide +kernel), q⟩, fun Q q => ⟨_, _, _, _, _, rfl, .ty _, .base (.bl _), kit_ty (by decide +kernel), q⟩, fun z => Bool.noConfusion z⟩
  | str s => exact ⟨false, false, false, rfl, fun Q q => ⟨_, _, _, _, _, rfl, .ty _, .base (.str _), kit_ty (by decide +kernel), q⟩, fun Q q => ⟨_, _, _, _, _, rfl, .ty _, .base (.str _), kit_ty (by decide +kernel), q⟩, fun Q q => ⟨_, _, _, _, _, rfl, .ty _, .base (.str _), kit_ty (by decide +kernel), q⟩, fun z => Bool.noConfusion z⟩
  | lst n h => exact ⟨false, false, false, rfl, fun Q q => ⟨_, _, _, _, _, rfl, .ty _, .base (.lst h), kit_ty (by decide +kernel), q⟩, fun Q q => ⟨_, _, _, _, _, rfl, .ty _, .base (.lst h), kit_ty (by decide +kernel), q⟩, fun Q q => ⟨_, _, _, _, _, rfl, .ty _, .base (.lst h), kit_ty (by decide +kernel), q⟩, fun z => Bool.noConfusion z⟩
  | tup n h => exact ⟨false, false, true, rfl, fun Q q => ⟨_, _, _, _, _, rfl, .ty _, .base (.tup h), kit_ty (by decide +kernel), q⟩, fun Q q => ⟨_, _, _, _, _, rfl, .ty _, .base (.tup h), kit_ty (by decide +kernel), q⟩, fun Q q => ⟨_, _, _, _, _, rfl, .ty _, .base (.tup h), kit_ty (by decide +kernel), q⟩, fun _ => ⟨_, _, rfl, n, h⟩⟩
  | dK n h => exact ⟨false, false, false, rfl, fun Q q => ⟨_, _, _, _, _, rfl, .ty _, .base (.dK h), kit_ty (by decide +kernel), q⟩, fun Q q => ⟨_, _, _, _, _, rfl, .ty _, .base (.dK h), kit_ty (by decide +kernel), q⟩, fun Q q => ⟨_, _, _, _, _, rfl, .ty _, .base (.dK h), kit_ty (by decide +kernel), q⟩, fun z => Bool.noConfusion z⟩
  | ins n h c => exact ⟨false, false, false, rfl, fun Q q => ⟨_, _, _, _, _, rfl, .ty _, .base (.ins h c.cl c.ha c.hn c.ht c.mo), c.ki, q⟩, fun Q q => ⟨_, _, _, _, _, rfl, .ty _, .base (.ins h c.cl c.ha c.hn c.ht c.mo), c.kb, q⟩, fun Q q => ⟨_, _, _, _, _, rfl, .ty _, .base (.ins h c.cl c.ha c.hn c.ht c.mo), c.kt, q⟩, fun z => Bool.noConfusion z⟩
/-- what is no fraction -/
inductive NoF (K : PySem.W.Frag) (D : Addr) (H : Hp) : V → Prop where
  | int (i : Int) : NoF K D H (.int i)
  | not {v : V} (o : Od K D H v) (h : ∀ p xs, v = .ref p → H p = some (.tup xs) → xs.length ≠ 2) : NoF K D H v
  | fst {p : Addr} {x y : V} (n : p ≠ D) (h : H p = some (.tup [x, y])) (o : Od K D H x) : NoF K D H (.ref p)
  | snd {p : Addr} {i : Int} {y : V} (n : p ≠ D) (h : H p = some (.tup [.int i, y])) (o : Od K D H y) : NoF K D H (.ref p)
  | low {p : Addr} {i j : Int} (n : p ≠ D) (h : H p = some (.tup [.int i, .int j])) (z : ¬ (0 < j ∧ Nat.gcd i.natAbs j.natAbs = 1)) (b : j.natAbs < 2 ^ 4000) : NoF K D H (.ref p)
theorem NoF.fw {K : PySem.W.Frag} {D : Addr} {H H' : Hp} {v : V} (o : NoF K D H v) (f : Fw D H H') : NoF K D H' v := by
  cases o with
  | int i => exact .int i
  | not o h =>
    refine .not (o.fw f) fun p xs e h2 => ?_
    subst e
    cases o with
    | lst n h3 =>
      rw [f _ _ n h3] at h2
      cases h2
    | tup n h3 =>
      rw [f _ _ n h3] at h2
      cases h2
      exact h _ _ rfl h3
    | dK n h3 =>
      rw [f _ _ n h3] at h2
      cases h2
    | ins n h3 c =>
      rw [f _ _ n h3] at h2
      cases h2
  | fst n h o => exact .fst n (f _ _ n h) (o.fw f)
  | snd n h o => exact .snd n (f _ _ n h) (o.fw f)
  | low n h z b => exact .low n (f _ _ n h) z b
/-- a thing with the word whether it is a fraction -/
def JF (K : PySem.W.Frag) (D : Addr) (H : Hp) (v : V) (b : Option Rat) : Prop := (∃ r, IsF H v r ∧ Bd 4000 r ∧ b = some r) ∨ (NoF K D H v ∧ b = none)
theorem isi_int_tup {K : PySem.W.Frag} {H : Hp} {Q : VK} {i : Int} (q : Q (.bl false) H) : rIsi K [.int i, .ty "tuple"] H Q := ⟨_, _, _, _, _, rfl, .ty _, .base (.int _), kit_ty (by decide +kernel), q⟩
end My
namespace My
open PySem PySem.Spec PyProof.Rows L2
def topS (i : Nat) : Stmt := PySem.Challenge.pw_rootstalls_k04_roots_of_products.main.body.getD i (.Pass ⟨0, 0, 0, 0⟩)
abbrev s_is_integer : Stmt := topS 7
abbrev N_is_integer : List Str := ["thing"]
theorem sc_is_integer : FnScope N_is_integer ["thing"] (defScope s_is_integer) := ⟨rfl, rfl, rfl, by decide +kernel, rfl, by decide +kernel, by decide +kernel⟩
abbrev s_is_row : Stmt := topS 8
abbrev N_is_row : List Str := ["thing"]
theorem sc_is_row : FnScope N_is_row ["thing"] (defScope s_is_row) := ⟨rfl, rfl, rfl, by decide +kernel, rfl, by decide +kernel, by decide +kernel⟩
abbrev s_is_fraction : Stmt := topS 9
abbrev N_is_fraction : List Str := ["thing", "top", "bottom"]
theorem sc_is_fraction : FnScope N_is_fraction ["thing"] (defScope s_is_fraction) := ⟨rfl, rfl, rfl, by decide +kernel, rfl, by decide +kernel, by decide +kernel⟩
abbrev s_is_some : Stmt := topS 10
abbrev N_is_some : List Str := ["thing"]
theorem sc_is_some : FnScope N_is_some ["thing"] (defScope s_is_some) := ⟨rfl, rfl, rfl, by decide +kernel, rfl, by decide +kernel, by decide +kernel⟩
abbrev s_multiplied : Stmt := topS 11
abbrev N_multiplied : List Str := ["one", "other", "left", "right"]
theorem sc_multiplied : FnScope N_multiplied ["one", "other"] (defScope s_multiplied) := ⟨rfl, rfl, rfl, by decide +kernel, rfl, by decide +kernel, by decide +kernel⟩
abbrev s_squared : Stmt := topS 12
abbrev N_squared : List Str := ["one"]
theorem sc_squared : FnScope N_squared ["one"] (defScope s_squared) := ⟨rfl, rfl, rfl, by decide +kernel, rfl, by decide +kernel, by decide +kernel⟩
abbrev s_square_root : Stmt := topS 13
abbrev N_square_root : List Str := ["amount", "top", "bottom"]
theorem sc_square_root : FnScope N_square_root ["amount"] (defScope s_square_root) := ⟨rfl, rfl, rfl, by decide +kernel, rfl, by decide +kernel, by decide +kernel⟩
abbrev s_is_stall : Stmt := topS 17
abbrev N_is_stall : List Str := ["wares", "thing", "one", "other", "kept", "other_kept", "root", "ware"]
theorem sc_is_stall : FnScope N_is_stall ["wares", "thing"] (defScope s_is_stall) := ⟨rfl, rfl, rfl, by decide +kernel, rfl, by decide +kernel, by decide +kernel⟩
abbrev s_root_of : Stmt := topS 19
abbrev N_root_of : List Str := ["held", "other"]
theorem sc_root_of : FnScope N_root_of ["held", "other"] (defScope s_root_of) := ⟨rfl, rfl, rfl, by decide +kernel, rfl, by decide +kernel, by decide +kernel⟩
abbrev s_l_deck : Stmt := topS 21
abbrev N_l_deck : List Str := ["_law_script", "_law_cell"]
theorem sc_l_deck : FnScope N_l_deck ["_law_script"] (defScope s_l_deck) := ⟨rfl, rfl, rfl, by decide +kernel, rfl, by decide +kernel, by decide +kernel⟩
abbrev s_l_pick : Stmt := topS 22
abbrev N_l_pick : List Str := ["_law_deck_here", "_law_many", "_law_found", "_law_cells", "_law_cell", "_law_number"]
theorem sc_l_pick : FnScope N_l_pick ["_law_deck_here", "_law_many"] (defScope s_l_pick) := ⟨rfl, rfl, rfl, by decide +kernel, rfl, by decide +kernel, by decide +kernel⟩
abbrev s_l_divisor : Stmt := topS 23
abbrev N_l_divisor : List Str := ["_law_one", "_law_other", "_law_turn", "_law_rest"]
theorem sc_l_divisor : FnScope N_l_divisor ["_law_one", "_law_other"] (defScope s_l_divisor) := ⟨rfl, rfl, rfl, by decide +kernel, rfl, by decide +kernel, by decide +kernel⟩
abbrev s_l_made : Stmt := topS 24
abbrev N_l_made : List Str := ["_law_top", "_law_bottom", "_law_divisor_here"]
theorem sc_l_made : FnScope N_l_made ["_law_top", "_law_bottom"] (defScope s_l_made) := ⟨rfl, rfl, rfl, by decide +kernel, rfl, by decide +kernel, by decide +kernel⟩
abbrev s_l_amount : Stmt := topS 25
abbrev N_l_amount : List Str := ["_law_deck_here", "_law_sort", "_law_size", "_law_top", "_law_bottom", "_law_part"]
theorem sc_l_amount : FnScope N_l_amount ["_law_deck_here"] (defScope s_l_amount) := ⟨rfl, rfl, rfl, by decide +kernel, rfl, by decide +kernel, by decide +kernel⟩
abbrev s_l_root : Stmt := topS 26
abbrev N_l_root : List Str := ["_law_number", "_law_low", "_law_high", "_law_turn", "_law_middle"]
theorem sc_l_root : FnScope N_l_root ["_law_number"] (defScope s_l_root) := ⟨rfl, rfl, rfl, by decide +kernel, rfl, by decide +kernel, by decide +kernel⟩
abbrev s_l_due : Stmt := topS 27
abbrev N_l_due : List Str := ["_law_one", "_law_other", "_law_product", "_law_top", "_law_bottom"]
theorem sc_l_due : FnScope N_l_due ["_law_one", "_law_other"] (defScope s_l_due) := ⟨rfl, rfl, rfl, by decide +kernel, rfl, by decide +kernel, by decide +kernel⟩
abbrev s_l_is_it : Stmt := topS 28
abbrev N_l_is_it : List Str := ["_law_thing", "_law_due_here"]
theorem sc_l_is_it : FnScope N_l_is_it ["_law_thing", "_law_due_here"] (defScope s_l_is_it) := ⟨rfl, rfl, rfl, by decide +kernel, rfl, by decide +kernel, by decide +kernel⟩
abbrev s_l_deep : Stmt := topS 29
abbrev N_l_deep : List Str := ["_law_deck_here", "_law_found", "_law_sort", "_law_turn"]
theorem sc_l_deep : FnScope N_l_deep ["_law_deck_here"] (defScope s_l_deep) := ⟨rfl, rfl, rfl, by decide +kernel, rfl, by decide +kernel, by decide +kernel⟩
abbrev s_l_odd : Stmt := topS 30
abbrev N_l_odd : List Str := ["_law_deck_here", "_law_one", "_law_menu"]
theorem sc_l_odd : FnScope N_l_odd ["_law_deck_here"] (defScope s_l_odd) := ⟨rfl, rfl, rfl, by decide +kernel, rfl, by decide +kernel, by decide +kernel⟩
abbrev s_l_place : Stmt := topS 31
abbrev N_l_place : List Str := ["_law_one", "_law_other", "_law_place_here", "e"]
theorem sc_l_place : FnScope N_l_place ["_law_one", "_law_other"] (defScope s_l_place) := ⟨rfl, rfl, rfl, by decide +kernel, rfl, by decide +kernel, by decide +kernel⟩
abbrev s_law : Stmt := topS 32
abbrev N_law : List Str := ["_law_script", "_law_deck_here", "_law_turn", "_law_root_here", "_law_factor", "_law_one", "_law_other", "_law_third", "_law_due_here", "_law_odd_here"]
theorem sc_law : FnScope N_law ["_law_script"] (defScope s_law) := ⟨rfl, rfl, rfl, by decide +kernel, rfl, by decide +kernel, by decide +kernel⟩
abbrev s_BadFraction_init : Stmt := inClass (topS 3) 0
abbrev N_BadFraction_init : List Str := ["self", "place"]
theorem sc_BadFraction_init : FnScope N_BadFraction_init ["self", "place"] (defScope s_BadFraction_init) := ⟨rfl, rfl, rfl, by decide +kernel, rfl, by decide +kernel, by decide +kernel⟩
abbrev s_Web_init : Stmt := inClass (topS 18) 0
abbrev N_Web_init : List Str := ["self", "wares", "stalls", "index", "stall"]
theorem sc_Web_init : FnScope N_Web_init ["self", "wares", "stalls"] (defScope s_Web_init) := ⟨rfl, rfl, rfl, by decide +kernel, rfl, by decide +kernel, by decide +kernel⟩
structure Txt (K : PySem.W.Frag) (mg : Str → Option Value) (f_is_integer f_is_row f_is_fraction f_is_some f_multiplied f_squared f_square_root f_is_stall f_root_of f_l_deck f_l_pick f_l_divisor f_l_made f_l_amount f_l_root f_l_due f_l_is_it f_l_deep f_l_odd f_l_place f_law f_BadFraction_init f_Web_init c_BadFraction c_Web : Addr) (d_is_integer d_is_row d_is_fraction d_is_some d_multiplied d_squared d_square_root d_is_stall d_root_of d_l_deck d_l_pick d_l_divisor d_l_made d_l_amount d_l_root d_l_due d_l_is_it d_l_deep d_l_odd d_l_place d_law d_BadFraction_init d_Web_init : FuncData) : Prop where
  z_abs : mg "abs" = none
  z_bool : mg "bool" = none
  z_enumerate : mg "enumerate" = none
  z_int : mg "int" = none
  z_isinstance : mg "isinstance" = none
  z_len : mg "len" = none
  z_list : mg "list" = none
  z_min : mg "min" = none
  z_range : mg "range" = none
  z_tuple : mg "tuple" = none
  m_gcd : mg "gcd" = some (.builtin "math.gcd")
  m_isqrt : mg "isqrt" = some (.builtin "math.isqrt")
  c_BadFraction : ExF K mg "BadFraction" c_BadFraction f_BadFraction_init "place"
  w_Web : WebC K mg "Web" c_Web f_Web_init
  n_Web_wares : NoAttr K c_Web "wares"
  n_Web_stalls : NoAttr K c_Web "stalls"
  v_MOST_STALLS : ∃ u, mg "MOST_STALLS" = some u ∧ RelV (.int 16) u
  v_MOST_WARES : ∃ u, mg "MOST_WARES" = some u ∧ RelV (.int 8) u
  g_is_integer : mg "is_integer" = some (.ref f_is_integer)
  F_is_integer : Fun K "is_integer" "is_integer" s_is_integer f_is_integer d_is_integer
  k_is_integer : PySem.W.keepIn K (.ref f_is_integer) = true
  b_is_integer : Binds K d_is_integer ["thing"] []
  g_is_row : mg "is_row" = some (.ref f_is_row)
  F_is_row : Fun K "is_row" "is_row" s_is_row f_is_row d_is_row
  k_is_row : PySem.W.keepIn K (.ref f_is_row) = true
  b_is_row : Binds K d_is_row ["thing"] []
  g_is_fraction : mg "is_fraction" = some (.ref f_is_fraction)
  F_is_fraction : Fun K "is_fraction" "is_fraction" s_is_fraction f_is_fraction d_is_fraction
  k_is_fraction : PySem.W.keepIn K (.ref f_is_fraction) = true
  b_is_fraction : Binds K d_is_fraction ["thing"] []
  g_is_some : mg "is_some" = some (.ref f_is_some)
  F_is_some : Fun K "is_some" "is_some" s_is_some f_is_some d_is_some
  k_is_some : PySem.W.keepIn K (.ref f_is_some) = true
  b_is_some : Binds K d_is_some ["thing"] []
  g_multiplied : mg "multiplied" = some (.ref f_multiplied)
  F_multiplied : Fun K "multiplied" "multiplied" s_multiplied f_multiplied d_multiplied
  k_multiplied : PySem.W.keepIn K (.ref f_multiplied) = true
  b_multiplied : Binds K d_multiplied ["one", "other"] []
  g_squared : mg "squared" = some (.ref f_squared)
  F_squared : Fun K "squared" "squared" s_squared f_squared d_squared
  k_squared : PySem.W.keepIn K (.ref f_squared) = true
  b_squared : Binds K d_squared ["one"] []
  g_square_root : mg "square_root" = some (.ref f_square_root)
  F_square_root : Fun K "square_root" "square_root" s_square_root f_square_root d_square_root
  k_square_root : PySem.W.keepIn K (.ref f_square_root) = true
  b_square_root : Binds K d_square_root ["amount"] []
  g_is_stall : mg "is_stall" = some (.ref f_is_stall)
  F_is_stall : Fun K "is_stall" "is_stall" s_is_stall f_is_stall d_is_stall
  k_is_stall : PySem.W.keepIn K (.ref f_is_stall) = true
  b_is_stall : Binds K d_is_stall ["wares", "thing"] []
  g_root_of : mg "root_of" = some (.ref f_root_of)
  F_root_of : Fun K "root_of" "root_of" s_root_of f_root_of d_root_of
  k_root_of : PySem.W.keepIn K (.ref f_root_of) = true
  b_root_of : Binds K d_root_of ["held", "other"] []
  g_l_deck : mg "_law_deck" = some (.ref f_l_deck)
  F_l_deck : Fun K "_law_deck" "_law_deck" s_l_deck f_l_deck d_l_deck
  k_l_deck : PySem.W.keepIn K (.ref f_l_deck) = true
  b_l_deck : Binds K d_l_deck ["_law_script"] []
  g_l_pick : mg "_law_pick" = some (.ref f_l_pick)
  F_l_pick : Fun K "_law_pick" "_law_pick" s_l_pick f_l_pick d_l_pick
  k_l_pick : PySem.W.keepIn K (.ref f_l_pick) = true
  b_l_pick : Binds K d_l_pick ["_law_deck_here", "_law_many"] []
  g_l_divisor : mg "_law_divisor" = some (.ref f_l_divisor)
  F_l_divisor : Fun K "_law_divisor" "_law_divisor" s_l_divisor f_l_divisor d_l_divisor
  k_l_divisor : PySem.W.keepIn K (.ref f_l_divisor) = true
  b_l_divisor : Binds K d_l_divisor ["_law_one", "_law_other"] []
  g_l_made : mg "_law_made" = some (.ref f_l_made)
  F_l_made : Fun K "_law_made" "_law_made" s_l_made f_l_made d_l_made
  k_l_made : PySem.W.keepIn K (.ref f_l_made) = true
  b_l_made : Binds K d_l_made ["_law_top", "_law_bottom"] []
  g_l_amount : mg "_law_amount" = some (.ref f_l_amount)
  F_l_amount : Fun K "_law_amount" "_law_amount" s_l_amount f_l_amount d_l_amount
  k_l_amount : PySem.W.keepIn K (.ref f_l_amount) = true
  b_l_amount : Binds K d_l_amount ["_law_deck_here"] []
  g_l_root : mg "_law_root" = some (.ref f_l_root)
  F_l_root : Fun K "_law_root" "_law_root" s_l_root f_l_root d_l_root
  k_l_root : PySem.W.keepIn K (.ref f_l_root) = true
  b_l_root : Binds K d_l_root ["_law_number"] []
  g_l_due : mg "_law_due" = some (.ref f_l_due)
  F_l_due : Fun K "_law_due" "_law_due" s_l_due f_l_due d_l_due
  k_l_due : PySem.W.keepIn K (.ref f_l_due) = true
  b_l_due : Binds K d_l_due ["_law_one", "_law_other"] []
  g_l_is_it : mg "_law_is_it" = some (.ref f_l_is_it)
  F_l_is_it : Fun K "_law_is_it" "_law_is_it" s_l_is_it f_l_is_it d_l_is_it
  k_l_is_it : PySem.W.keepIn K (.ref f_l_is_it) = true
  b_l_is_it : Binds K d_l_is_it ["_law_thing", "_law_due_here"] []
  g_l_deep : mg "_law_deep" = some (.ref f_l_deep)
  F_l_deep : Fun K "_law_deep" "_law_deep" s_l_deep f_l_deep d_l_deep
  k_l_deep : PySem.W.keepIn K (.ref f_l_deep) = true
  b_l_deep : Binds K d_l_deep ["_law_deck_here"] []
  g_l_odd : mg "_law_odd" = some (.ref f_l_odd)
  F_l_odd : Fun K "_law_odd" "_law_odd" s_l_odd f_l_odd d_l_odd
  k_l_odd : PySem.W.keepIn K (.ref f_l_odd) = true
  b_l_odd : Binds K d_l_odd ["_law_deck_here"] []
  g_l_place : mg "_law_place" = some (.ref f_l_place)
  F_l_place : Fun K "_law_place" "_law_place" s_l_place f_l_place d_l_place
  k_l_place : PySem.W.keepIn K (.ref f_l_place) = true
  b_l_place : Binds K d_l_place ["_law_one", "_law_other"] []
  g_law : mg "law" = some (.ref f_law)
  F_law : Fun K "law" "law" s_law f_law d_law
  k_law : PySem.W.keepIn K (.ref f_law) = true
  b_law : Binds K d_law ["_law_script"] []
  F_BadFraction_init : Fun K "__init__" "BadFraction.__init__" s_BadFraction_init f_BadFraction_init d_BadFraction_init
  b_BadFraction_init : Binds K d_BadFraction_init ["self", "place"] []
  F_Web_init : Fun K "__init__" "Web.__init__" s_Web_init f_Web_init d_Web_init
  b_Web_init : Binds K d_Web_init ["self", "wares", "stalls"] []
end My
/-! the steps of a reading, one after another; side conditions come last -/
local macro_rules | `(tactic| walk_at "hp") => `(tactic| (repeat (first | (with_reducible assumption) | (with_reducible exact L2.upd_same) | (refine (L2.upd_ne (by first | assumption | (apply Ne.symm; assumption))).trans ?_))))
local macro_rules | `(tactic| walk_at "sd") => `(tactic| first | assumption | decide | omega | (exact My.cpow_of (by decide)) | (exact My.cdivx (b := 64) (by decide) (by decide) (by decide)) | (exact My.cdivx (by omega) (by assumption) (by decide)))
local macro_rules | `(tactic| walk_at "rX") => `(tactic| fail)
local macro_rules | `(tactic| walk_at "rV") => `(tactic| first
  | (with_reducible refine My.rd_C ?_)
  | ((with_reducible refine' My.rd_var ?k1 ?_); (case k1 => rfl))
  | (with_reducible refine My.rd_op ?_) | (with_reducible refine My.rd_cons ?_) | (with_reducible refine My.rd_nil ?_) | (with_reducible refine My.rd_CB ?_) | (with_reducible refine My.rd_call ?_)
  | (with_reducible refine My.rd_rI0 ?_)
  | (with_reducible refine My.rd_rI ?_ (by walk_at "sd"))
  | (with_reducible refine My.rd_rI ?_ ?_)
  | ((with_reducible refine' My.rd_ixL ?k1 ?k2 ?_); (case k1 => walk_at "hp"); (case k2 => rfl))
  | ((with_reducible refine' My.rd_ixT ?k1 ?k2 ?_); (case k1 => walk_at "hp"); (case k2 => rfl))
  | (with_reducible refine My.rd_un ?_) | (with_reducible refine My.rd_rU ?_)
  | (with_reducible refine My.rd_eqI ?_) | (with_reducible refine My.rd_neI ?_) | (with_reducible refine My.rd_eqB ?_) | (with_reducible refine My.rd_neB ?_) | (with_reducible refine My.rd_eqS ?_) | (with_reducible refine My.rd_neS ?_)
  | (with_reducible refine My.rd_gcd ?_) | (with_reducible refine My.rd_bits ?_)
  | ((with_reducible refine' My.rd_lenL ?_ ?k1); (case k1 => walk_at "hp"))
  | ((with_reducible refine' My.rd_lenT ?_ ?k1); (case k1 => walk_at "hp"))
  | (with_reducible refine My.rd_int ?_) | (with_reducible refine My.rd_abs ?_) | (with_reducible refine My.rd_min ?_) | (with_reducible refine My.rd_intB ?_)
  | (with_reducible refine ⟨_, rfl, ?_⟩)
  | (with_reducible refine My.rd_len ?_ rfl)
  | (with_reducible refine My.rd_tup ?_) | (with_reducible refine My.rd_lst ?_)
  | (with_reducible refine My.isi_int_int ?_) | (with_reducible refine My.isi_int_bool ?_) | (with_reducible refine My.isi_bl_bool ?_)
  | ((with_reducible refine' My.isi_tup_tup ?k1 ?_); (case k1 => walk_at "hp"))
  | (with_reducible refine My.rd_isBl ?_))
local macro_rules | `(tactic| walk_at "rS") => `(tactic| first
  | (with_reducible refine My.rd_seq ?_) | (with_reducible refine My.rd_next ?_) | (with_reducible refine My.rd_asg ?_) | (with_reducible refine My.rd_gName ?_) | (with_reducible refine My.rd_ret ?_)
  | (with_reducible refine My.rd_ifS ?_) | (with_reducible refine My.rd_test ?_) | (with_reducible refine My.rd_B ?_) | (with_reducible refine My.rd_not ?_) | (with_reducible refine My.rd_and ?_) | (with_reducible refine My.rd_or ?_)
  | (with_reducible refine My.rd_andV ?_) | (with_reducible refine My.rd_orV ?_) | (with_reducible refine My.rd_notV ?_) | (with_reducible refine My.rd_ifE ?_) | (with_reducible refine My.rd_chain ?_)
  | (with_reducible refine My.rd_gSub ?_) | ((with_reducible refine' My.rd_setL ?k1 ?k2 ?_); (case k1 => walk_at "hp"); (case k2 => rfl))
  | ((with_reducible refine' My.rd_gTup ?k1 ?k2 ?_); (case k1 => walk_at "hp"); (case k2 => rfl)) | (with_reducible refine My.rd_gCons ?_) | (with_reducible refine My.rd_gNil ?_)
  | (with_reducible refine My.rd_drop ?_) | (with_reducible refine My.rd_for ?_) | (with_reducible refine My.rd_rng1 ?_) | (with_reducible refine My.rd_itL ?_) | (with_reducible refine My.rd_itT ?_)
  | (with_reducible refine My.rd_sl ?_) | (with_reducible refine My.rd_part ?_) | (with_reducible refine My.rd_nopart ?_) | (with_reducible refine My.rd_bm ?_) | (with_reducible refine My.rd_yes ?_) | (with_reducible refine My.rd_lc ?_)
  | (with_reducible refine My.ite_nt ?_) | (with_reducible refine My.ite_nf ?_)
  | (with_reducible refine L2.iteF ?_) | (with_reducible refine L2.iteT ?_))
local macro_rules | `(tactic| walk_at "dc") => `(tactic| first | (with_reducible assumption) | ((with_reducible show _ = _); rfl) | omega | decide)
local macro_rules | `(tactic| walk_at "rI") => `(tactic| first
  | ((with_reducible refine' My.if_T ?k1 ?_); (case k1 => walk_at "dc"))
  | ((with_reducible refine' My.if_F ?k1 ?_); (case k1 => walk_at "dc"))
  | ((with_reducible refine' My.if_nF ?k1 ?_); (case k1 => walk_at "dc"))
  | ((with_reducible refine' My.if_nT ?k1 ?_); (case k1 => walk_at "dc")))
local macro_rules | `(tactic| walk_at "r") => `(tactic| (repeat (first | (walk_at "rV") | (walk_at "rS") | (walk_at "rI") | (walk_at "rX"))))
local macro_rules | `(tactic| walk_at "if") => `(tactic| first | (with_reducible refine My.if_dec (fun h => ?_) (fun h => ?_)) | (with_reducible refine My.if_ndec (fun h => ?_) (fun h => ?_)))
local macro_rules | `(tactic| walk_at "st") => `(tactic| (set_option pp.maxSteps 150 in trace_state))
local macro_rules | `(tactic| walk_at "rX") => `(tactic| first | (with_reducible refine My.rd_callS ?_) | (with_reducible refine My.rd_newK ?_) | (with_reducible refine My.rd_raise1 ?_) | (with_reducible refine My.rd_x1 ?_) | (with_reducible refine My.rd_fldS ?_) | (with_reducible refine My.rd_make ?_) | (with_reducible refine My.rd_enum ?_) | (with_reducible refine My.rd_ost ?_) | (with_reducible refine My.rd_xf ?_) | (with_reducible refine My.isi_int_tup ?_))
namespace My
open PySem PySem.Spec PyProof.Rows L2
section
variable {P : Program} {w : World} {K : PySem.W.Frag} {mg : Str → Option Value} {base : Heap} {f_is_integer f_is_row f_is_fraction f_is_some f_multiplied f_squared f_square_root f_is_stall f_root_of f_l_deck f_l_pick f_l_divisor f_l_made f_l_amount f_l_root f_l_due f_l_is_it f_l_deep f_l_odd f_l_place f_law f_BadFraction_init f_Web_init c_BadFraction c_Web : Addr} {d_is_integer d_is_row d_is_fraction d_is_some d_multiplied d_squared d_square_root d_is_stall d_root_of d_l_deck d_l_pick d_l_divisor d_l_made d_l_amount d_l_root d_l_due d_l_is_it d_l_deep d_l_odd d_l_place d_law d_BadFraction_init d_Web_init : FuncData}
def sp_pick (M : Nat) : Sp := fun vs H Q _ => ∃ (D : Addr) (many : Int) (c : Nat), vs = [.ref D, .int many] ∧ (0 < many ∧ many.natAbs < 2 ^ 64) ∧ Deck M D H c ∧ c ≤ 2 ^ 40 ∧
  ∀ H' r, Fw D H H' → Deck M D H' (c + 1) → 0 ≤ r → r < many → Q (.int r) H'
theorem ok_pick {M : Nat} (hM : 64 ≤ M) (hM2 : M ≤ 1048576) (T : Txt K mg f_is_integer f_is_row f_is_fraction f_is_some f_multiplied f_squared f_square_root f_is_stall f_root_of f_l_deck f_l_pick f_l_divisor f_l_made f_l_amount f_l_root f_l_due f_l_is_it f_l_deep f_l_odd f_l_place f_law f_BadFraction_init f_Web_init c_BadFraction c_Web d_is_integer d_is_row d_is_fraction d_is_some d_multiplied d_squared d_square_root d_is_stall d_root_of d_l_deck d_l_pick d_l_divisor d_l_made d_l_amount d_l_root d_l_due d_l_is_it d_l_deep d_l_odd d_l_place d_law d_BadFraction_init d_Web_init) : FnOk P w K mg base CX0 1 f_l_pick d_l_pick ["_law_deck_here", "_law_many"] (sp_pick M) := by
  refine T.F_l_pick.ok sc_l_pick (fun vs H Q E h => ?_) (fun cdv A outer s H vs Q E hr h => ?_)
  · obtain ⟨D, many, c, rfl, _⟩ := h
    rfl
  · obtain ⟨D, many, c, rfl, ⟨hm0, hm1⟩, ⟨C, cells, pl, rest, cnt, hCD, hD, hC, hlen, hb, ⟨hr0, hr1⟩, hc0, hc1⟩, hc, q⟩ := h
    have cd : ∀ i : Int, CDivX i many := fun i => cdivx (by omega) hm1 (by decide)
    refine ⟨_, (pss_cons (ps_asg (pe_op op_add (pe_ix ix_list (pv 0) pe_int (fun _ _ => rfl)) pe_int) (pg_sub (pv 0) pe_int set_list))
      (pss_cons (ps_if (pt_cmpR op_gt (pe_ix ix_list (pv 0) pe_int (fun _ _ => rfl)) pe_int (nomark _))
        (pss_cons (ps_set (i := 2) sc_l_pick.nd rfl (Or.inl rfl) (pe_op op_mod (pe_callTy call_intN (by rfl) T.z_int (by decide +kernel) (pa_cons (pe_ix ix_list (pv 0) pe_int (fun _ _ => rfl)) pa_nil)) (pv 1)))
          (pss_cons (ps_asg (pe_op op_fdivX (pe_callTy call_intN (by rfl) T.z_int (by decide +kernel) (pa_cons (pe_ix ix_list (pv 0) pe_int (fun _ _ => rfl)) pa_nil)) (pv 1)) (pg_sub (pv 0) pe_int set_list))
          (pss_one (ps_ret (pv 2)))))
        pss_nil)
      (pss_cons (ps_set (i := 3) sc_l_pick.nd rfl (Or.inl rfl) (pe_ix ix_list (pv 0) pe_int (fun _ _ => rfl)))
      (pss_cons (ps_set (i := 4) sc_l_pick.nd rfl (Or.inl rfl) pe_int)
      (pss_cons (ps_if (pt_cmpR op_gt (pe_callB call_lenN (by rfl) T.z_len (by decide +kernel) (pa_cons (pv 3) pa_nil)) pe_int (nomark _))
        (pss_one (ps_set (i := 4) sc_l_pick.nd rfl (Or.inl rfl) (pe_ix ix_list (pv 3) (pe_op op_mod (pe_callTy call_intN (by rfl) T.z_int (by decide +kernel) (pa_cons (pe_ix ix_list (pv 0) pe_int (fun _ _ => rfl)) pa_nil)) (pe_callB call_lenN (by rfl) T.z_len (by decide +kernel) (pa_cons (pv 3) pa_nil))) (fun _ _ => rfl))))
        pss_nil)
      (pss_cons (ps_asg (pe_op op_add (pe_ix ix_list (pv 0) pe_int (fun _ _ => rfl)) pe_int) (pg_sub (pv 0) pe_int set_list))
      (pss_cons (ps_if (PW.pt (pw_and (pt_cmpR op_ge (pv 4) (pe_op op_pow pe_int pe_int) (nomark _)) (pw_and1 (pt_cmpR op_le (pe_ix ix_list (pv 0) pe_int (fun _ _ => rfl)) (pe_callB call_lenN (by rfl) T.z_len (by decide +kernel) (pa_cons (pv 3) pa_nil)) (nomark _)))))
        (pss_cons (ps_asg (pe_op op_fdivX (pe_callTy call_intN (by rfl) T.z_int (by decide +kernel) (pa_cons (pv 4) pa_nil)) (pv 1)) (pg_sub (pv 0) pe_int set_list))
          (pss_one (ps_ret (pe_op op_mod (pe_callTy call_intN (by rfl) T.z_int (by decide +kernel) (pa_cons (pv 4) pa_nil)) (pv 1)))))
        pss_nil)
      (pss_cons (ps_set (i := 5) sc_l_pick.nd rfl (Or.inl rfl) (pe_op op_mod (pe_op op_mulX (pe_callTy call_intN (by rfl) T.z_int (by decide +kernel) (pa_cons (pe_op op_add (pe_op op_add (pv 4) (pe_op op_mulX pe_int (pe_ix ix_list (pv 0) pe_int (fun _ _ => rfl)))) pe_int) pa_nil)) pe_int) pe_int))
      (pss_cons (ps_set (i := 5) sc_l_pick.nd rfl (Or.inl rfl) (pe_op op_mod (pe_op op_mulX (pv 5) (pe_op op_add (pe_op op_fdivX (pv 5) pe_int) pe_int)) pe_int))
      (pss_cons (ps_set (i := 5) sc_l_pick.nd rfl (Or.inl rfl) (pe_op op_mod (pe_op op_mulX (pv 5) (pe_op op_add (pe_op op_fdivX (pv 5) pe_int) pe_int)) pe_int))
      (pss_one (ps_ret (pe_op op_mod (pv 5) (pv 1)))))))))))))), ?_⟩
    walk_at "r"
    walk_at "if"
    · walk_at "r"
      refine q _ _ (fw_upd.trans fw_upd) ?_ (mod_rng _ hm0).1 (mod_rng _ hm0).2
      exact ⟨C, cells, pl, rest.fdiv many, cnt + 1, hCD, upd_same, by walk_at "hp", hlen, hb, div_small hr0 hr1 hm0, by omega, by omega⟩
    · walk_at "r"
      have hcl : 0 < (cells.map V.int).length → ∃ z, z ∈ cells ∧ atI (cells.map V.int) (pl % ((cells.map V.int).length : Nat)) = some (.int z) := fun h => at_ints (mod_rng _ (by omega)).1 (mod_rng _ (by omega)).2
      have hz0 : (0 : Int).natAbs < 2 ^ M := Nat.two_pow_pos M
      walk_at "if"
      · obtain ⟨z, hz, ez⟩ := hcl (by omega)
        have hz0 := hb z hz
        walk_at "r"
        refine ⟨_, _, _, .int z, rfl, rfl, SqL.of ?_, ez, ?_⟩
        · walk_at "hp"
        walk_at "r"
        walk_at "if"
        · walk_at "r"
          walk_at "if"
          · walk_at "r"
            have t18 := ten18
            refine q _ _ ((fw_upd.trans fw_upd).trans fw_upd) ?_ (mod_rng _ hm0).1 (mod_rng _ hm0).2
            exact ⟨C, cells, pl + 1, z.fdiv many, cnt + 1, hCD, upd_same, by walk_at "hp", hlen, hb, div_small (by omega) hz0 hm0, by omega, by omega⟩
          · walk_at "r"
            · refine q _ _ (fw_upd.trans fw_upd) ?_ (mod_rng _ hm0).1 (mod_rng _ hm0).2
              exact ⟨C, cells, pl + 1, rest, cnt + 1, hCD, upd_same, by walk_at "hp", hlen, hb, ⟨hr0, hr1⟩, by omega, by omega⟩
            · exact pick_mul2 _ (by decide) (by decide) (by decide) (by decide)
            · exact pick_mul2 _ (by decide) (by decide) (by decide) (by decide)
            · exact cmul_big (pw_big hz0 hM hc0 hc1 hc) (by decide) (by omega)
            · exact cmul_small (by decide) (by omega)
        · walk_at "r"
          · refine q _ _ (fw_upd.trans fw_upd) ?_ (mod_rng _ hm0).1 (mod_rng _ hm0).2
            exact ⟨C, cells, pl + 1, rest, cnt + 1, hCD, upd_same, by walk_at "hp", hlen, hb, ⟨hr0, hr1⟩, by omega, by omega⟩
          · exact pick_mul2 _ (by decide) (by decide) (by decide) (by decide)
          · exact pick_mul2 _ (by decide) (by decide) (by decide) (by decide)
          · exact cmul_big (pw_big hz0 hM hc0 hc1 hc) (by decide) (by omega)
          · exact cmul_small (by decide) (by omega)
      · walk_at "r"
        · refine q _ _ (fw_upd.trans fw_upd) ?_ (mod_rng _ hm0).1 (mod_rng _ hm0).2
          exact ⟨C, cells, pl + 1, rest, cnt + 1, hCD, upd_same, by walk_at "hp", hlen, hb, ⟨hr0, hr1⟩, by omega, by omega⟩
        · exact pick_mul2 _ (by decide) (by decide) (by decide) (by decide)
        · exact pick_mul2 _ (by decide) (by decide) (by decide) (by decide)
        · exact cmul_big (pw_big hz0 hM hc0 hc1 hc) (by decide) (by omega)
        · exact cmul_small (by decide) (by omega)
end
end My
namespace My
open PySem PySem.Spec PyProof.Rows L2
section
variable {P : Program} {w : World} {K : PySem.W.Frag} {mg : Str → Option Value} {base : Heap} {f_is_integer f_is_row f_is_fraction f_is_some f_multiplied f_squared f_square_root f_is_stall f_root_of f_l_deck f_l_pick f_l_divisor f_l_made f_l_amount f_l_root f_l_due f_l_is_it f_l_deep f_l_odd f_l_place f_law f_BadFraction_init f_Web_init c_BadFraction c_Web : Addr} {d_is_integer d_is_row d_is_fraction d_is_some d_multiplied d_squared d_square_root d_is_stall d_root_of d_l_deck d_l_pick d_l_divisor d_l_made d_l_amount d_l_root d_l_due d_l_is_it d_l_deep d_l_odd d_l_place d_law d_BadFraction_init d_Web_init : FuncData}
def sp_deck (K : PySem.W.Frag) : Sp := fun vs H Q _ => ∃ (a : Addr) (ns : List Int), vs = [.ref a] ∧ SqL K H a (ns.map V.int) ∧ ns.length ≤ 63 ∧ (∀ z ∈ ns, Builtin.Int.intBits z ≤ 1048576) ∧
  ∀ H' D, Same H H' → Deck 1048576 D H' 0 → Q (.ref D) H'
theorem ok_l_deck (T : Txt K mg f_is_integer f_is_row f_is_fraction f_is_some f_multiplied f_squared f_square_root f_is_stall f_root_of f_l_deck f_l_pick f_l_divisor f_l_made f_l_amount f_l_root f_l_due f_l_is_it f_l_deep f_l_odd f_l_place f_law f_BadFraction_init f_Web_init c_BadFraction c_Web d_is_integer d_is_row d_is_fraction d_is_some d_multiplied d_squared d_square_root d_is_stall d_root_of d_l_deck d_l_pick d_l_divisor d_l_made d_l_amount d_l_root d_l_due d_l_is_it d_l_deep d_l_odd d_l_place d_law d_BadFraction_init d_Web_init) : FnOk P w K mg base CX0 1 f_l_deck d_l_deck ["_law_script"] (sp_deck K) := by
  refine T.F_l_deck.ok sc_l_deck (fun vs H Q E h => ?_) (fun cdv A outer s H vs Q E hr h => ?_)
  · obtain ⟨a, ns, rfl, _⟩ := h
    rfl
  · obtain ⟨a, ns, rfl, hS, hl, hb, q⟩ := h
    refine ⟨_, (pss_one (ps_ret (pe_lst (pa_cons (pe_lc (own := [("_law_cell", 1)]) (g := gName 1) rfl sc_l_deck.nd (pi_list (pe_slice sl_list (pv 0) po_none (po_some pe_int))) (blkOk_by (own := [("_law_cell", 1)]) (N := N_l_deck) (sc := defScope s_l_deck) (by decide +kernel)) (fun _ _ _ _ _ => pg_name (i := 1) sc_l_deck.nd rfl (Or.inl rfl)) (fun _ _ _ _ _ => pts_nil) (fun _ _ _ _ _ => (pe_callTy call_intN (by rfl) T.z_int (by decide +kernel) (pa_cons (pv 1) pa_nil)))) (pa_cons pe_int (pa_cons pe_int (pa_cons pe_int pa_nil))))))), ?_⟩
    walk_at "r"
    refine rd_slL hS (fun p np => ?_)
    refine ⟨_, rfl, ⟨_, .of upd_same⟩, fun D nD => ?_⟩
    have hDp : D ≠ p := fun e => by
      rw [e, upd_same] at nD
      cases nD
    have hcut : cutV (ns.map V.int) none (some 63) = ns.map V.int := cut_all (n := 63) (by rw [List.length_map]; exact hl)
    refine lc_list (K := K) (a := p) (xs := ns.map V.int) (fun i H' => Same H H' ∧ H' p = some (.lst (ns.map V.int)) ∧ H' D = some (.lst ((ns.take i).map V.int))) ?_ ?_ ?_ ?_
    · refine ⟨(same_upd np).trans (same_upd nD), ?_, upd_same⟩
      rw [upd_ne hDp.symm, upd_same, hcut]
    · intro i H' _ h
      exact .of h.2.1
    · rintro i x H' hx ⟨s1, s2, s3⟩
      obtain ⟨z, rfl, hz, et⟩ := take_succ_map hx
      walk_at "r"
      refine ⟨rfl, ?_⟩
      walk_at "r"
      refine ⟨_, s3, ?_, fun b o e => ?_, ?_, ?_⟩
      · rw [List.length_map, List.length_take]
        exact Nat.lt_of_le_of_lt (Nat.min_le_right _ _) (small1000 (by omega))
      · have nb : b ≠ D := fun e' => by
          rw [e', (same_upd np).free nD] at e
          cases e
        rw [upd_ne nb]
        exact s1 b o e
      · rw [upd_ne hDp.symm]
        exact s2
      · rw [upd_same, et]
    · rintro H' ⟨s1, s2, s3⟩
      have hlen : (ns.map V.int).length = ns.length := List.length_map ..
      rw [hlen, List.take_of_length_le (Nat.le_refl _)] at s3
      walk_at "r"
      intro D' nD'
      have hDD : D ≠ D' := ne_of_none s3 nD'
      refine q _ _ (s1.trans (same_upd nD')) ⟨D, ns, 0, 0, 0, hDD, upd_same, ?_, hl, fun z hz => bits_lt (hb z hz), ⟨by decide, Nat.two_pow_pos _⟩, by decide, by decide⟩
      rw [upd_ne hDD]
      exact s3
def sp_divisor : Sp := fun vs H Q _ => ∃ a b : Int, vs = [.int a, .int b] ∧ b.natAbs < 2 ^ 20000 ∧ Q (.int (a.natAbs.gcd b.natAbs : Nat)) H
theorem ok_l_divisor (T : Txt K mg f_is_integer f_is_row f_is_fraction f_is_some f_multiplied f_squared f_square_root f_is_stall f_root_of f_l_deck f_l_pick f_l_divisor f_l_made f_l_amount f_l_root f_l_due f_l_is_it f_l_deep f_l_odd f_l_place f_law f_BadFraction_init f_Web_init c_BadFraction c_Web d_is_integer d_is_row d_is_fraction d_is_some d_multiplied d_squared d_square_root d_is_stall d_root_of d_l_deck d_l_pick d_l_divisor d_l_made d_l_amount d_l_root d_l_due d_l_is_it d_l_deep d_l_odd d_l_place d_law d_BadFraction_init d_Web_init) : FnOk P w K mg base CX0 1 f_l_divisor d_l_divisor ["_law_one", "_law_other"] sp_divisor := by
  refine T.F_l_divisor.ok sc_l_divisor (fun vs H Q E h => ?_) (fun cdv A outer s H vs Q E hr h => ?_)
  · obtain ⟨a, b, rfl, _⟩ := h
    rfl
  · obtain ⟨a, b, rfl, hb, q⟩ := h
    have hbits : Builtin.Int.intBits (b.natAbs : Nat) ≤ 20000 := by
      have h := PyProof.Rows.intBits_le (a := (b.natAbs : Int)) (by rw [Int.natAbs_natCast]; exact hb)
      exact h
    have hlt := bits_lt (z := (b.natAbs : Int)) (Nat.le_refl _)
    rw [Int.natAbs_natCast] at hlt
    refine ⟨_, (pss_cons (ps_set (i := 0) sc_l_divisor.nd rfl (Or.inl rfl) (pe_callB call_absN (by rfl) T.z_abs (by decide +kernel) (pa_cons (pv 0) pa_nil)))
      (pss_cons (ps_set (i := 1) sc_l_divisor.nd rfl (Or.inl rfl) (pe_callB call_absN (by rfl) T.z_abs (by decide +kernel) (pa_cons (pv 1) pa_nil)))
      (pss_cons (ps_for PassesOwn.never rfl (pi_range1 (by rfl) T.z_range (pa_cons (pe_op op_add (pe_op op_mulX pe_int (pe_bits (pv 1))) pe_int) pa_nil)) (pg_name (i := 2) sc_l_divisor.nd rfl (Or.inl rfl))
        (pss_cons (ps_if (pt_cmpR op_eq (pv 1) pe_int (nomark _))
            (pss_one (ps_ret (pv 0)))
            pss_nil)
          (pss_cons (ps_set (i := 3) sc_l_divisor.nd rfl (Or.inl rfl) (pe_op op_mod (pe_callTy call_intN (by rfl) T.z_int (by decide +kernel) (pa_cons (pv 0) pa_nil)) (pv 1)))
          (pss_cons (ps_set (i := 0) sc_l_divisor.nd rfl (Or.inl rfl) (pv 1))
          (pss_one (ps_set (i := 1) sc_l_divisor.nd rfl (Or.inl rfl) (pv 3)))))))
      (pss_one (ps_ret (pv 0)))))), ?_⟩
    walk_at "r"
    · refine ⟨by omega, by omega, ?_⟩
      generalize Builtin.Int.intBits (b.natAbs : Int) = k at *
      have hN : (2 * (k : Int) + 2).toNat = 2 * k + 2 := by omega
      rw [hN]
      refine for_range (lo := 0) (n := 2 * k + 2) (fun i σ H' => ∃ (x y : Nat) (t r : Option V), σ = [some (.int x), some (.int y), t, r] ∧ H' = H ∧ Euc (a.natAbs.gcd b.natAbs) b.natAbs i x y) ?_ ?_ ?_
      · exact ⟨a.natAbs, b.natAbs, none, none, rfl, rfl, ⟨rfl, by simp, fun h => absurd rfl h⟩⟩
      · rintro i σ H' hi ⟨x, y, t, r, rfl, rfl, e⟩
        walk_at "r"
        walk_at "if"
        · rename_i hy
          have hy0 : y = 0 := by omega
          have g := e.g
          rw [hy0, Nat.gcd_zero_right] at g
          walk_at "r"
          rw [g]
          exact q
        · rename_i hy
          walk_at "r"
          exact ⟨y, x % y, _, _, rfl, rfl, e.step (by omega)⟩
      · rintro σ H' ⟨x, y, t, r, rfl, rfl, e⟩
        obtain ⟨_, hx⟩ := e.done hlt
        walk_at "r"
        rw [hx]
        exact q
    · exact cmul_small (by decide) (by omega)
end
end My
namespace My
open PySem PySem.Spec PyProof.Rows L2
section
variable {P : Program} {w : World} {K : PySem.W.Frag} {mg : Str → Option Value} {base : Heap} {f_is_integer f_is_row f_is_fraction f_is_some f_multiplied f_squared f_square_root f_is_stall f_root_of f_l_deck f_l_pick f_l_divisor f_l_made f_l_amount f_l_root f_l_due f_l_is_it f_l_deep f_l_odd f_l_place f_law f_BadFraction_init f_Web_init c_BadFraction c_Web : Addr} {d_is_integer d_is_row d_is_fraction d_is_some d_multiplied d_squared d_square_root d_is_stall d_root_of d_l_deck d_l_pick d_l_divisor d_l_made d_l_amount d_l_root d_l_due d_l_is_it d_l_deep d_l_odd d_l_place d_law d_BadFraction_init d_Web_init : FuncData}
/-- two fractions in, one out -/
def sp_two (f : Rat → Rat → Rat) (C : Rat → Rat → Prop) : Sp := fun vs H Q _ => ∃ x y r s, vs = [x, y] ∧ IsF H x r ∧ IsF H y s ∧ Bd 4000 r ∧ Bd 4000 s ∧ C r s ∧ ∀ H' v, Same H H' → IsF H' v (f r s) → Q v H'
def sp_multiplied : Sp := sp_two (· * ·) fun _ _ => True
theorem ok_multiplied (T : Txt K mg f_is_integer f_is_row f_is_fraction f_is_some f_multiplied f_squared f_square_root f_is_stall f_root_of f_l_deck f_l_pick f_l_divisor f_l_made f_l_amount f_l_root f_l_due f_l_is_it f_l_deep f_l_odd f_l_place f_law f_BadFraction_init f_Web_init c_BadFraction c_Web d_is_integer d_is_row d_is_fraction d_is_some d_multiplied d_squared d_square_root d_is_stall d_root_of d_l_deck d_l_pick d_l_divisor d_l_made d_l_amount d_l_root d_l_due d_l_is_it d_l_deep d_l_odd d_l_place d_law d_BadFraction_init d_Web_init) : FnOk P w K mg base CX0 1 f_multiplied d_multiplied ["one", "other"] sp_multiplied := by
  refine T.F_multiplied.ok sc_multiplied (fun vs H Q E h => ?_) (fun cdv A outer s H vs Q E hr h => ?_)
  · obtain ⟨x, y, r, s, rfl, _⟩ := h
    rfl
  · obtain ⟨x, y, r, s, rfl, ⟨p1, rfl, h1⟩, ⟨p2, rfl, h2⟩, b1, b2, -, q⟩ := h
    obtain ⟨m1, m2, m3, m4, m5, m6⟩ := mul_math b1 b2 _ _ rfl rfl
    refine ⟨_, (pss_cons (ps_set (i := 2) sc_multiplied.nd rfl (Or.inl rfl) (pe_callBfun cr_gcd (by rfl) T.m_gcd (pa_cons (pe_ix ix_tup (pv 0) pe_int (fun _ _ => rfl)) (pa_cons (pe_ix ix_tup (pv 1) pe_int (fun _ _ => rfl)) pa_nil))))
      (pss_cons (ps_set (i := 3) sc_multiplied.nd rfl (Or.inl rfl) (pe_callBfun cr_gcd (by rfl) T.m_gcd (pa_cons (pe_ix ix_tup (pv 1) pe_int (fun _ _ => rfl)) (pa_cons (pe_ix ix_tup (pv 0) pe_int (fun _ _ => rfl)) pa_nil))))
      (pss_one (ps_ret (pe_tup (pa_cons (pe_op op_mulX (pe_op op_fdivX (pe_ix ix_tup (pv 0) pe_int (fun _ _ => rfl)) (pv 2)) (pe_op op_fdivX (pe_ix ix_tup (pv 1) pe_int (fun _ _ => rfl)) (pv 3))) (pa_cons (pe_op op_mulX (pe_op op_fdivX (pe_ix ix_tup (pv 0) pe_int (fun _ _ => rfl)) (pv 3)) (pe_op op_fdivX (pe_ix ix_tup (pv 1) pe_int (fun _ _ => rfl)) (pv 2))) pa_nil))))))), ?_⟩
    walk_at "r"
    · intro p np
      exact q _ _ (same_upd np) (isF_new m5 m6)
    all_goals first | assumption | exact m1 _ | exact m2 _
end
end My
namespace My
open PySem PySem.Spec PyProof.Rows L2
section
variable {P : Program} {w : World} {K : PySem.W.Frag} {mg : Str → Option Value} {base : Heap} {f_is_integer f_is_row f_is_fraction f_is_some f_multiplied f_squared f_square_root f_is_stall f_root_of f_l_deck f_l_pick f_l_divisor f_l_made f_l_amount f_l_root f_l_due f_l_is_it f_l_deep f_l_odd f_l_place f_law f_BadFraction_init f_Web_init c_BadFraction c_Web : Addr} {d_is_integer d_is_row d_is_fraction d_is_some d_multiplied d_squared d_square_root d_is_stall d_root_of d_l_deck d_l_pick d_l_divisor d_l_made d_l_amount d_l_root d_l_due d_l_is_it d_l_deep d_l_odd d_l_place d_law d_BadFraction_init d_Web_init : FuncData}
theorem ok_BadFraction_init (T : Txt K mg f_is_integer f_is_row f_is_fraction f_is_some f_multiplied f_squared f_square_root f_is_stall f_root_of f_l_deck f_l_pick f_l_divisor f_l_made f_l_amount f_l_root f_l_due f_l_is_it f_l_deep f_l_odd f_l_place f_law f_BadFraction_init f_Web_init c_BadFraction c_Web d_is_integer d_is_row d_is_fraction d_is_some d_multiplied d_squared d_square_root d_is_stall d_root_of d_l_deck d_l_pick d_l_divisor d_l_made d_l_amount d_l_root d_l_due d_l_is_it d_l_deep d_l_odd d_l_place d_law d_BadFraction_init d_Web_init) : FnOk P w K mg base CX0 1 f_BadFraction_init d_BadFraction_init ["self", "place"] (sp_xinit c_BadFraction "place") := by
  refine T.F_BadFraction_init.ok sc_BadFraction_init (fun vs H Q E h => ?_) (fun cdv A outer s H vs Q E hr h => ?_)
  · obtain ⟨p, v, rfl, _⟩ := h
    rfl
  · obtain ⟨p, v, rfl, hp, q⟩ := h
    refine ⟨_, (pss_one (ps_ost (pv 0) (pv 1))), ?_⟩
    walk_at "r"
    exact ⟨p, _, rfl, T.c_BadFraction.ox, T.c_BadFraction.no, .inl ⟨hp, fun dx n1 n2 => q dx n1 n2⟩⟩
def sp_is_integer (K : PySem.W.Frag) : Sp := fun vs H Q _ => ∃ v b, vs = [v] ∧ ((∃ i : Int, v = .int i) ∧ b = true ∨ (∃ D, Od K D H v) ∧ b = false) ∧ Q (.bl b) H
theorem ok_is_integer (T : Txt K mg f_is_integer f_is_row f_is_fraction f_is_some f_multiplied f_squared f_square_root f_is_stall f_root_of f_l_deck f_l_pick f_l_divisor f_l_made f_l_amount f_l_root f_l_due f_l_is_it f_l_deep f_l_odd f_l_place f_law f_BadFraction_init f_Web_init c_BadFraction c_Web d_is_integer d_is_row d_is_fraction d_is_some d_multiplied d_squared d_square_root d_is_stall d_root_of d_l_deck d_l_pick d_l_divisor d_l_made d_l_amount d_l_root d_l_due d_l_is_it d_l_deep d_l_odd d_l_place d_law d_BadFraction_init d_Web_init) : FnOk P w K mg base CX0 1 f_is_integer d_is_integer ["thing"] (sp_is_integer K) := by
  refine T.F_is_integer.ok sc_is_integer (fun vs H Q E h => ?_) (fun cdv A outer s H vs Q E hr h => ?_)
  · obtain ⟨v, b, rfl, _⟩ := h
    rfl
  · obtain ⟨v, b, rfl, h, q⟩ := h
    refine ⟨_, (pss_one (ps_ret (pe_and (pe_callB call_isi (by rfl) T.z_isinstance (by decide +kernel) (pa_cons (pv 0) (pa_cons (pe_bltn (v := .ty "int") (u := .type "int") (by rfl) T.z_int (by decide +kernel) rfl) pa_nil))) (pe_one (pe_not (pe_callB call_isi (by rfl) T.z_isinstance (by decide +kernel) (pa_cons (pv 0) (pa_cons (pe_bltn (v := .ty "bool") (u := .type "bool") (by rfl) T.z_bool (by decide +kernel) rfl) pa_nil)))))))), ?_⟩
    rcases h with ⟨⟨i, rfl⟩, rfl⟩ | ⟨⟨D, o⟩, rfl⟩
    · walk_at "r"
      exact q
    · obtain ⟨b1, b2, b3, hb, h1, h2, -⟩ := o.isi
      walk_at "r"
      refine h1 _ ?_
      cases b1 with
      | false =>
        walk_at "r"
        exact q
      | true =>
        have e : b2 = true := by
          cases b2
          · cases hb
          · rfl
        subst e
        walk_at "r"
        refine h2 _ ?_
        walk_at "r"
        exact q
def sp_isf (K : PySem.W.Frag) : Sp := fun vs H Q _ => ∃ v D o, vs = [v] ∧ JF K D H v o ∧ Q (.bl o.isSome) H
theorem ok_is_fraction (T : Txt K mg f_is_integer f_is_row f_is_fraction f_is_some f_multiplied f_squared f_square_root f_is_stall f_root_of f_l_deck f_l_pick f_l_divisor f_l_made f_l_amount f_l_root f_l_due f_l_is_it f_l_deep f_l_odd f_l_place f_law f_BadFraction_init f_Web_init c_BadFraction c_Web d_is_integer d_is_row d_is_fraction d_is_some d_multiplied d_squared d_square_root d_is_stall d_root_of d_l_deck d_l_pick d_l_divisor d_l_made d_l_amount d_l_root d_l_due d_l_is_it d_l_deep d_l_odd d_l_place d_law d_BadFraction_init d_Web_init) : FnOk P w K mg base CX0 2 f_is_fraction d_is_fraction ["thing"] (sp_isf K) := by
  have G_is_integer : FnOk P w K mg base CX0 1 f_is_integer d_is_integer ["thing"] (sp_is_integer K) := ok_is_integer T
  refine T.F_is_fraction.ok sc_is_fraction (fun vs H Q E h => ?_) (fun cdv A outer s H vs Q E hr h => ?_)
  · obtain ⟨v, D, o, rfl, _⟩ := h
    rfl
  · obtain ⟨v, D, o, rfl, j, q⟩ := h
    refine ⟨_, (pss_cons (ps_if (PW.pt (pw_or (pt_not (pt_val (pe_callB call_isi (by rfl) T.z_isinstance (by decide +kernel) (pa_cons (pv 0) (pa_cons (pe_bltn (v := .ty "tuple") (u := .type "tuple") (by rfl) T.z_tuple (by decide +kernel) rfl) pa_nil))))) (pw_or1 (pt_cmpR op_ne (pe_callB call_lenN (by rfl) T.z_len (by decide +kernel) (pa_cons (pv 0) pa_nil)) pe_int (nomark _)))))
        (pss_one (ps_ret pe_bl))
        pss_nil)
      (pss_cons (ps_asg (pv 0) (pg_tup rfl (pgs_cons (pg_name (i := 1) sc_is_fraction.nd rfl (Or.inl rfl)) (pgs_cons (pg_name (i := 2) sc_is_fraction.nd rfl (Or.inl rfl)) pgs_nil))))
      (pss_cons (ps_if (PW.pt (pw_or (pt_not (pt_val (pe_call G_is_integer (hr.mono (by decide)) (by rfl) T.g_is_integer T.k_is_integer T.b_is_integer .nil pass0 (pa_cons (pv 1) pa_nil)))) (pw_or1 (pt_not (pt_val (pe_call G_is_integer (hr.mono (by decide)) (by rfl) T.g_is_integer T.k_is_integer T.b_is_integer .nil pass0 (pa_cons (pv 2) pa_nil)))))))
        (pss_one (ps_ret pe_bl))
        pss_nil)
      (pss_one (ps_ret (pe_and (pe_cmpR op_ge (pv 2) pe_int (nomark _)) (pe_one (pe_cmpR op_eq (pe_callBfun cr_gcd (by rfl) T.m_gcd (pa_cons (pv 1) (pa_cons (pv 2) pa_nil))) pe_int (nomark _))))))))), ?_⟩
    rcases j with ⟨r, ⟨p, rfl, hp⟩, bd, rfl⟩ | ⟨nf, rfl⟩
    · walk_at "r"
      refine ⟨_, _, rfl, .inl ⟨⟨_, rfl⟩, rfl⟩, ?_⟩
      walk_at "r"
      refine ⟨_, _, rfl, .inl ⟨⟨_, rfl⟩, rfl⟩, ?_⟩
      walk_at "r"
      have h1 := den_pos r
      have h2 := gcd_den r
      walk_at "r"
      rw [Int.natAbs_natCast, h2]
      exact q
    · cases nf with
      | int i =>
        walk_at "r"
        exact q
      | not o h =>
        obtain ⟨b1, b2, b3, hb, -, -, h3, ht⟩ := o.isi
        walk_at "r"
        refine h3 _ ?_
        cases b3 with
        | false =>
          walk_at "r"
          exact q
        | true =>
          obtain ⟨p, xs, rfl, np, hp⟩ := ht rfl
          have hl : ¬ ((xs.length : Int) = 2) := by
            have := h p xs rfl hp
            omega
          walk_at "r"
          exact q
      | fst n h o =>
        walk_at "r"
        refine ⟨_, _, rfl, .inr ⟨⟨_, o⟩, rfl⟩, ?_⟩
        walk_at "r"
        exact q
      | snd n h o =>
        walk_at "r"
        refine ⟨_, _, rfl, .inl ⟨⟨_, rfl⟩, rfl⟩, ?_⟩
        walk_at "r"
        refine ⟨_, _, rfl, .inr ⟨⟨_, o⟩, rfl⟩, ?_⟩
        walk_at "r"
        exact q
      | @low p i j n h z b =>
        walk_at "r"
        refine ⟨_, _, rfl, .inl ⟨⟨_, rfl⟩, rfl⟩, ?_⟩
        walk_at "r"
        refine ⟨_, _, rfl, .inl ⟨⟨_, rfl⟩, rfl⟩, ?_⟩
        walk_at "r"
        walk_at "if"
        · rename_i h0
          walk_at "r"
          have h1 : ¬ (((Nat.gcd i.natAbs j.natAbs : Nat) : Int) = 1) := fun e => z ⟨by omega, by omega⟩
          rw [decide_eq_false h1]
          exact q
        · walk_at "r"
          exact q
end
end My
namespace My
open PySem PySem.Spec PyProof.Rows L2
theorem for_enum {K : PySem.W.Frag} {a : Addr} {xs : List V} {g : TG} {tb : TS} {D : Ends} {σ : L2.St} {H : Hp} (Pv : Nat → L2.St → Hp → Prop) (h0 : Pv 0 σ H) (hl : ∀ i σ H, i ≤ xs.length → Pv i σ H → SqL K H a xs)
    (hs : ∀ i x T σ H, xs[i]? = some x → Pv i σ H → H T = none → g (.ref T) σ (upd H T (.tup [.int (i : Nat), x])) fun σ2 H2 => tb { D with nx := Pv (i + 1), ct := Pv (i + 1), bk := D.nx } σ2 H2) (hd : ∀ σ H, Pv xs.length σ H → D.nx σ H) :
    ∃ W : Nat → Nat → L2.St → Hp → Prop, (∃ m, W 0 m σ H) ∧ ∀ i m σ H, W i m σ H →
      ((Ite K a).stop i H ∧ D.nx σ H) ∨ ((Ite K a).go i H ∧ ∃ N : L2.St → Hp → Prop, (∀ σ' H', N σ' H' → ∃ m', m' < m ∧ W (i + 1) m' σ' H') ∧ ∀ x H', (Ite K a).yld i H x H' → g x σ H' fun σ2 H2 => tb { D with nx := N, ct := N, bk := D.nx } σ2 H2) := by
  refine ⟨fun i m σ H => m = xs.length - i ∧ i ≤ xs.length ∧ Pv i σ H, ⟨xs.length, by simp, Nat.zero_le _, h0⟩, ?_⟩
  rintro i m σ H ⟨rfl, hi, p⟩
  have q := hl i σ H hi p
  by_cases hlt : i < xs.length
  · refine .inr ⟨⟨xs, xs[i], q, by simp [hlt]⟩, Pv (i + 1), fun σ' H' p' => ⟨xs.length - (i + 1), by omega, rfl, hlt, p'⟩, fun x H' y => ?_⟩
    obtain ⟨T, x, rfl, nT, rfl, y⟩ := y
    exact hs i x T σ H (y xs q) p nT
  · have e : i = xs.length := by omega
    subst e
    exact .inl ⟨⟨xs, q, Nat.le_refl _⟩, hd σ H p⟩
theorem ten6e : (10 : Int) ^ (6 : Int).toNat = 1000000 := by decide
theorem ten11e : (10 : Int) ^ (11 : Int).toNat = 100000000000 := by decide
theorem size3 {i : Int} (h0 : 0 ≤ i) (h1 : i < 3) : ∃ z : Int, (4 ≤ z ∧ z ≤ 1000000) ∧ atI [V.int 4, V.int 10, V.int (10 ^ (6 : Int).toNat)] i = some (.int z) := by
  obtain ⟨z, hz, e⟩ := at_ints (cells := [4, 10, 10 ^ (6 : Int).toNat]) h0 (by simpa using h1)
  refine ⟨z, ?_, e⟩
  rw [ten6e] at hz
  simp only [List.mem_cons, List.not_mem_nil, or_false] at hz
  omega
theorem Deck.ne' {M : Nat} {D p : Addr} {H : Hp} {c : Nat} {r : Rat} (d : Deck M D H c) (h : IsF H (.ref p) r) : p ≠ D := by
  obtain ⟨C, cells, pl, rest, cnt, h0, h1, h2⟩ := d
  exact ne_of h.at h1 (by intro z; cases z)
/-! ### a bag of things -/
def Oi (K : PySem.W.Frag) (D : Addr) (H : Hp) (v : V) : Prop := (∃ i : Int, v = .int i ∧ i.natAbs < 2 ^ 40) ∨ (Od K D H v ∧ ∀ p xs, v = .ref p → H p = some (.tup xs) → xs.length ≠ 2)
theorem Od.two {K : PySem.W.Frag} {D : Addr} {H H' : Hp} {v : V} (o : Od K D H v) (f : Fw D H H') (h : ∀ p xs, v = .ref p → H p = some (.tup xs) → xs.length ≠ 2) : ∀ p xs, v = .ref p → H' p = some (.tup xs) → xs.length ≠ 2 := by
  rintro p xs rfl h2
  cases o with
  | lst n h3 =>
    rw [f _ _ n h3] at h2
    cases h2
  | tup n h3 =>
    rw [f _ _ n h3] at h2
    cases h2
    exact h _ _ rfl h3
  | dK n h3 =>
    rw [f _ _ n h3] at h2
    cases h2
  | ins n h3 c =>
    rw [f _ _ n h3] at h2
    cases h2
theorem Oi.fw {K : PySem.W.Frag} {D : Addr} {H H' : Hp} {v : V} (o : Oi K D H v) (f : Fw D H H') : Oi K D H' v := by
  rcases o with h | ⟨o, h⟩
  · exact .inl h
  · exact .inr ⟨o.fw f, o.two f h⟩
def Bag (K : PySem.W.Frag) (D : Addr) (H : Hp) (vs : List V) : Prop := ∀ v ∈ vs, Oi K D H v
theorem Bag.fw {K : PySem.W.Frag} {D : Addr} {H H' : Hp} {vs : List V} (b : Bag K D H vs) (f : Fw D H H') : Bag K D H' vs := fun v hv => (b v hv).fw f
theorem Bag.nil {K : PySem.W.Frag} {D : Addr} {H : Hp} : Bag K D H [] := fun v hv => absurd hv (by simp)
theorem Bag.cons {K : PySem.W.Frag} {D : Addr} {H : Hp} {v : V} {vs : List V} (o : Oi K D H v) (b : Bag K D H vs) : Bag K D H (v :: vs) := fun u hu => by
  rcases List.mem_cons.mp hu with rfl | h
  · exact o
  · exact b u h
theorem Bag.new {K : PySem.W.Frag} {M c : Nat} {D p : Addr} {H : Hp} {ob : HO} {vs : List V} (b : Bag K D H vs) (dk : Deck M D H c) (np : H p = none) (ho : p ≠ D → Oi K D (upd H p ob) (.ref p)) : Bag K D (upd H p ob) (.ref p :: vs) :=
  .cons (ho (dk.ne np)) (b.fw (Same.fw (same_upd np)))
def JB (K : PySem.W.Frag) (D : Addr) (H : Hp) (vs : List V) : Prop := ∀ v ∈ vs, ∃ o, JF K D H v o
theorem JF.fw {K : PySem.W.Frag} {M c : Nat} {D : Addr} {H H' : Hp} {v : V} {o : Option Rat} (j : JF K D H v o) (dk : Deck M D H c) (f : Fw D H H') : JF K D H' v o := by
  rcases j with ⟨r, h, b, e⟩ | ⟨h, e⟩
  · exact .inl ⟨r, h.fw dk f, b, e⟩
  · exact .inr ⟨h.fw f, e⟩
theorem Oi.jf {K : PySem.W.Frag} {D : Addr} {H : Hp} {v : V} (o : Oi K D H v) : ∃ o, JF K D H v o := by
  rcases o with ⟨i, rfl, _⟩ | ⟨o, h⟩
  · exact ⟨none, .inr ⟨.int i, rfl⟩⟩
  · exact ⟨none, .inr ⟨.not o h, rfl⟩⟩
theorem jf_pair {K : PySem.W.Frag} {D p : Addr} {H : Hp} {i j : Int} (n : p ≠ D) (h : H p = some (.tup [.int i, .int j])) (hi : i.natAbs < 2 ^ 40) (hj : j.natAbs < 2 ^ 40) : ∃ o, JF K D H (.ref p) o := by
  by_cases z : 0 < j ∧ Nat.gcd i.natAbs j.natAbs = 1
  · obtain ⟨z1, z2⟩ := z
    have ej : ((j.natAbs : Nat) : Int) = j := by omega
    obtain ⟨r1, r2⟩ := rat_of (n := i) (d := j.natAbs) (r := Rat.divInt i j) (by omega) z2 (by rw [ej])
    refine ⟨_, .inl ⟨Rat.divInt i j, ⟨p, rfl, ?_⟩, (Bd.divInt (by omega) hi hj).mono (by decide), rfl⟩⟩
    show H p = some (.tup [.int (Rat.divInt i j).num, .int (Rat.divInt i j).den])
    rw [r1, r2, ej]
    exact h
  · exact ⟨none, .inr ⟨.low n h z (Nat.lt_of_lt_of_le hj (pow_le (by decide))), rfl⟩⟩
theorem jf_fst {K : PySem.W.Frag} {D p : Addr} {H : Hp} {x : V} {j : Int} (n : p ≠ D) (h : H p = some (.tup [x, .int j])) (o : Oi K D H x) (hj : j.natAbs < 2 ^ 40) : ∃ o, JF K D H (.ref p) o := by
  rcases o with ⟨i, rfl, hi⟩ | ⟨o, _⟩
  · exact jf_pair n h hi hj
  · exact ⟨none, .inr ⟨.fst n h o, rfl⟩⟩
theorem jf_snd {K : PySem.W.Frag} {D p : Addr} {H : Hp} {y : V} {i : Int} (n : p ≠ D) (h : H p = some (.tup [.int i, y])) (o : Oi K D H y) (hi : i.natAbs < 2 ^ 40) : ∃ o, JF K D H (.ref p) o := by
  rcases o with ⟨j, rfl, hj⟩ | ⟨o, _⟩
  · exact jf_pair n h hi hj
  · exact ⟨none, .inr ⟨.snd n h o, rfl⟩⟩
theorem jf_lst {K : PySem.W.Frag} {D p : Addr} {H : Hp} {xs : List V} (n : p ≠ D) (h : H p = some (.lst xs)) : ∃ o, JF K D H (.ref p) o :=
  ⟨none, .inr ⟨.not (.lst n h) (fun q ys e h2 => by cases e; rw [h] at h2; cases h2), rfl⟩⟩
theorem jf_len {K : PySem.W.Frag} {D p : Addr} {H : Hp} {xs : List V} (n : p ≠ D) (h : H p = some (.tup xs)) (hl : xs.length ≠ 2) : ∃ o, JF K D H (.ref p) o :=
  ⟨none, .inr ⟨.not (.tup n h) (fun q ys e h2 => by cases e; rw [h] at h2; cases h2; exact hl), rfl⟩⟩
structure S3 (K : PySem.W.Frag) (M : Nat) (D : Addr) (c : Nat) (H0 H : Hp) (one : Addr) (r : Rat) (odd : V) (vs : List V) : Prop where
  dk : Deck M D H c
  w : Fw D H0 H
  o : Oi K D H odd
  fo : IsF H (.ref one) r
  B : JB K D H vs
theorem S3.skip {K : PySem.W.Frag} {M c : Nat} {D one p : Addr} {H0 H : Hp} {r : Rat} {odd : V} {vs : List V} (s : S3 K M D c H0 H one r odd vs) {ob : HO} (np : H p = none) : S3 K M D c H0 (upd H p ob) one r odd vs where
  dk := s.dk.same (same_upd np)
  w := s.w.trans (Same.fw (same_upd np))
  o := s.o.fw (Same.fw (same_upd np))
  fo := s.fo.same (same_upd np)
  B := fun v hv => (s.B v hv).imp fun _ j => j.fw s.dk (Same.fw (same_upd np))
theorem S3.new {K : PySem.W.Frag} {M c : Nat} {D one p : Addr} {H0 H : Hp} {r : Rat} {odd : V} {vs : List V} (s : S3 K M D c H0 H one r odd vs) {ob : HO} (np : H p = none)
    (h : p ≠ D → (upd H p ob) p = some ob → S3 K M D c H0 (upd H p ob) one r odd vs → ∃ o, JF K D (upd H p ob) (.ref p) o) : S3 K M D c H0 (upd H p ob) one r odd (.ref p :: vs) := by
  have s' := s.skip (ob := ob) np
  refine ⟨s'.dk, s'.w, s'.o, s'.fo, fun v hv => ?_⟩
  rcases List.mem_cons.mp hv with rfl | h2
  · exact h (s.dk.ne np) upd_same s'
  · exact s'.B v h2
def sp_fr (M B n : Nat) : Sp := fun vs H Q _ => ∃ (D : Addr) (c : Nat), vs = [.ref D] ∧ Deck M D H c ∧ c ≤ 2 ^ 39 ∧ ∀ H' v r, Fw D H H' → Deck M D H' (c + n) → IsF H' v r → Bd B r → Q v H'
end My
namespace My
open PySem PySem.Spec PyProof.Rows L2
section
variable {P : Program} {w : World} {K : PySem.W.Frag} {mg : Str → Option Value} {base : Heap} {f_is_integer f_is_row f_is_fraction f_is_some f_multiplied f_squared f_square_root f_is_stall f_root_of f_l_deck f_l_pick f_l_divisor f_l_made f_l_amount f_l_root f_l_due f_l_is_it f_l_deep f_l_odd f_l_place f_law f_BadFraction_init f_Web_init c_BadFraction c_Web : Addr} {d_is_integer d_is_row d_is_fraction d_is_some d_multiplied d_squared d_square_root d_is_stall d_root_of d_l_deck d_l_pick d_l_divisor d_l_made d_l_amount d_l_root d_l_due d_l_is_it d_l_deep d_l_odd d_l_place d_law d_BadFraction_init d_Web_init : FuncData}
def sp_odd (K : PySem.W.Frag) (M n : Nat) : Sp := fun vs H Q _ => ∃ (D : Addr) (c : Nat), vs = [.ref D] ∧ Deck M D H c ∧ c ≤ 2 ^ 39 ∧ ∀ H' v, Fw D H H' → Deck M D H' (c + n) → Oi K D H' v → Q v H'
theorem ok_l_deep {M : Nat} (hM : 64 ≤ M) (hM2 : M ≤ 1048576) (T : Txt K mg f_is_integer f_is_row f_is_fraction f_is_some f_multiplied f_squared f_square_root f_is_stall f_root_of f_l_deck f_l_pick f_l_divisor f_l_made f_l_amount f_l_root f_l_due f_l_is_it f_l_deep f_l_odd f_l_place f_law f_BadFraction_init f_Web_init c_BadFraction c_Web d_is_integer d_is_row d_is_fraction d_is_some d_multiplied d_squared d_square_root d_is_stall d_root_of d_l_deck d_l_pick d_l_divisor d_l_made d_l_amount d_l_root d_l_due d_l_is_it d_l_deep d_l_odd d_l_place d_law d_BadFraction_init d_Web_init) : FnOk P w K mg base CX0 2 f_l_deep d_l_deep ["_law_deck_here"] (sp_odd K M 5) := by
  have G_l_pick : FnOk P w K mg base CX0 1 f_l_pick d_l_pick ["_law_deck_here", "_law_many"] (sp_pick M) := ok_pick hM hM2 T
  refine T.F_l_deep.ok sc_l_deep (fun vs H Q E h => ?_) (fun cdv A outer s H vs Q E hr h => ?_)
  · obtain ⟨D, c, rfl, _⟩ := h
    rfl
  · obtain ⟨D, c, rfl, dk, hc, q⟩ := h
    refine ⟨_, (pss_cons (ps_set (i := 1) sc_l_deep.nd rfl (Or.inl rfl) (pe_ix ix_list (pe_lst (pa_cons pe_non (pa_cons pe_int (pa_cons pe_str (pa_cons (pe_tup pa_nil) pa_nil))))) (pe_call G_l_pick (hr.mono (by decide)) (by rfl) T.g_l_pick T.k_l_pick T.b_l_pick .nil pass0 (pa_cons (pv 0) (pa_cons pe_int pa_nil))) (fun _ _ => rfl)))
      (pss_cons (ps_set (i := 2) sc_l_deep.nd rfl (Or.inl rfl) (pe_call G_l_pick (hr.mono (by decide)) (by rfl) T.g_l_pick T.k_l_pick T.b_l_pick .nil pass0 (pa_cons (pv 0) (pa_cons pe_int pa_nil))))
      (pss_cons (ps_for PassesOwn.never rfl (pi_range1 (by rfl) T.z_range (pa_cons (pe_op op_add pe_int (pe_call G_l_pick (hr.mono (by decide)) (by rfl) T.g_l_pick T.k_l_pick T.b_l_pick .nil pass0 (pa_cons (pv 0) (pa_cons pe_int pa_nil)))) pa_nil)) (pg_name (i := 3) sc_l_deep.nd rfl (Or.inl rfl))
        (pss_one (ps_if (pt_cmpR op_eq (pe_op op_mod (pe_callTy call_intN (by rfl) T.z_int (by decide +kernel) (pa_cons (pe_op op_add (pv 3) (pv 2)) pa_nil)) pe_int) pe_int (nomark _))
            (pss_one (ps_set (i := 1) sc_l_deep.nd rfl (Or.inl rfl) (pe_lst (pa_cons (pv 1) pa_nil))))
            (pss_one (ps_set (i := 1) sc_l_deep.nd rfl (Or.inl rfl) (pe_tup (pa_cons (pv 1) pa_nil)))))))
      (pss_one (ps_ret (pv 1)))))), ?_⟩
    walk_at "r"
    intro p np
    have dk := dk.same (same_upd (o := .tup []) np)
    walk_at "r"
    intro L nL
    have hL := dk.ne nL
    have dk := dk.same (same_upd (o := .lst [V.non, V.int 0, V.str "0", V.ref p]) nL)
    have w0 : Fw D H _ := Same.fw ((same_upd np).trans (same_upd (o := .lst [V.non, V.int 0, V.str "0", V.ref p]) nL))
    walk_at "r"
    refine ⟨_, _, _, rfl, ⟨by decide, by decide⟩, dk, by omega, fun H1 r1 w1 k1 a1 b1 => ?_⟩
    obtain ⟨v0, _, e0⟩ := at_any (xs := [V.non, V.int 0, V.str "0", V.ref p]) a1 b1
    refine rd_ixL (w1 _ _ hL upd_same) e0 ?_
    have w1 := w0.trans w1
    walk_at "r"
    refine ⟨_, _, _, rfl, ⟨by decide, by decide⟩, k1, by omega, fun H2 r2 w2 k2 a2 b2 => ?_⟩
    have w2 := w1.trans w2
    walk_at "r"
    refine ⟨_, _, _, rfl, ⟨by decide, by decide⟩, k2, by omega, fun H3 r3 w3 k3 a3 b3 => ?_⟩
    have w3 := w2.trans w3
    walk_at "r"
    refine ⟨by omega, by omega, ?_⟩
    refine for_range (lo := 0) (n := (20 + r3).toNat) (fun i σ H' => ∃ (v : V) (t : Option V), σ = [some (.ref D), some v, some (.int r2), t] ∧ Fw D H H' ∧ Deck M D H' (c + 5) ∧ (i ≠ 0 → Oi K D H' v)) ?_ ?_ ?_
    · exact ⟨_, _, rfl, w3, k3.mono (by omega), fun h => absurd rfl h⟩
    · rintro i σ H' hi ⟨v, t, rfl, w', k', o⟩
      walk_at "r"
      walk_at "if"
      · walk_at "r"
        intro p np
        walk_at "r"
        exact ⟨_, _, rfl, w'.trans (Same.fw (same_upd np)), k'.same (same_upd np), fun _ => .inr ⟨.lst (k'.ne np) upd_same, fun q ys e h2 => by cases e; rw [upd_same] at h2; cases h2⟩⟩
      · walk_at "r"
        intro p np
        walk_at "r"
        exact ⟨_, _, rfl, w'.trans (Same.fw (same_upd np)), k'.same (same_upd np), fun _ => .inr ⟨.tup (k'.ne np) upd_same, fun q ys e h2 => by cases e; rw [upd_same] at h2; cases h2; show 1 ≠ 2; decide⟩⟩
    · rintro σ H' ⟨v, t, rfl, w', k', o⟩
      walk_at "r"
      exact q _ _ w' k' (o (by omega))
def sp_no : Sp := fun _ _ _ _ => False
theorem ok_is_stall (T : Txt K mg f_is_integer f_is_row f_is_fraction f_is_some f_multiplied f_squared f_square_root f_is_stall f_root_of f_l_deck f_l_pick f_l_divisor f_l_made f_l_amount f_l_root f_l_due f_l_is_it f_l_deep f_l_odd f_l_place f_law f_BadFraction_init f_Web_init c_BadFraction c_Web d_is_integer d_is_row d_is_fraction d_is_some d_multiplied d_squared d_square_root d_is_stall d_root_of d_l_deck d_l_pick d_l_divisor d_l_made d_l_amount d_l_root d_l_due d_l_is_it d_l_deep d_l_odd d_l_place d_law d_BadFraction_init d_Web_init) : FnOk P w K mg base CX0 4 f_is_stall d_is_stall ["wares", "thing"] sp_no :=
  T.F_is_stall.ok sc_is_stall (fun vs H Q E h => h.elim) (fun cdv A outer s H vs Q E hr h => h.elim)
def sp_is_row : Sp := fun vs H Q _ => ∃ L xs, vs = [.ref L] ∧ H L = some (.lst xs) ∧ ∀ H', Same H H' → Q (.bl true) H'
theorem ok_is_row (T : Txt K mg f_is_integer f_is_row f_is_fraction f_is_some f_multiplied f_squared f_square_root f_is_stall f_root_of f_l_deck f_l_pick f_l_divisor f_l_made f_l_amount f_l_root f_l_due f_l_is_it f_l_deep f_l_odd f_l_place f_law f_BadFraction_init f_Web_init c_BadFraction c_Web d_is_integer d_is_row d_is_fraction d_is_some d_multiplied d_squared d_square_root d_is_stall d_root_of d_l_deck d_l_pick d_l_divisor d_l_made d_l_amount d_l_root d_l_due d_l_is_it d_l_deep d_l_odd d_l_place d_law d_BadFraction_init d_Web_init) : FnOk P w K mg base CX0 1 f_is_row d_is_row ["thing"] sp_is_row := by
  refine T.F_is_row.ok sc_is_row (fun vs H Q E h => ?_) (fun cdv A outer s H vs Q E hr h => ?_)
  · obtain ⟨L, xs, rfl, _⟩ := h
    rfl
  · obtain ⟨L, xs, rfl, h, q⟩ := h
    refine ⟨_, (pss_one (ps_ret (pe_callB call_isiT (by rfl) T.z_isinstance (by decide +kernel) (pa_cons (pv 0) (pa_cons (pe_tup (pa_cons (pe_bltn (v := .ty "list") (u := .type "list") (by rfl) T.z_list (by decide +kernel) rfl) (pa_cons (pe_bltn (v := .ty "tuple") (u := .type "tuple") (by rfl) T.z_tuple (by decide +kernel) rfl) pa_nil))) pa_nil))))), ?_⟩
    walk_at "r"
    intro p np
    walk_at "r"
    refine ⟨_, _, _, _, _, true, rfl, upd_same, .cons (.ty _) (.cons (.ty _) .nil), .base (.lst (same_upd np _ _ h)), kitAny_cons (b := true) (kit_ty (by decide +kernel)) (fun z => Bool.noConfusion z) (fun _ => rfl), ?_⟩
    exact q _ (same_upd np)
def sp_web0 (C : Addr) : Sp := fun vs H Q _ => ∃ p dx L n, vs = [.ref p, .int n, .ref L] ∧ 1 ≤ n ∧ n ≤ 8 ∧ H p = some (.ins C dx []) ∧ H L = some (.lst []) ∧ ∀ H' fs, H' p = some (.ins C dx fs) → (∀ b o, H b = some o → b ≠ p → H' b = some o) → Q .non H'
theorem ok_Web_init (T : Txt K mg f_is_integer f_is_row f_is_fraction f_is_some f_multiplied f_squared f_square_root f_is_stall f_root_of f_l_deck f_l_pick f_l_divisor f_l_made f_l_amount f_l_root f_l_due f_l_is_it f_l_deep f_l_odd f_l_place f_law f_BadFraction_init f_Web_init c_BadFraction c_Web d_is_integer d_is_row d_is_fraction d_is_some d_multiplied d_squared d_square_root d_is_stall d_root_of d_l_deck d_l_pick d_l_divisor d_l_made d_l_amount d_l_root d_l_due d_l_is_it d_l_deep d_l_odd d_l_place d_law d_BadFraction_init d_Web_init) : FnOk P w K mg base CX0 5 f_Web_init d_Web_init ["self", "wares", "stalls"] (sp_web0 c_Web) := by
  have G_is_integer : FnOk P w K mg base CX0 1 f_is_integer d_is_integer ["thing"] (sp_is_integer K) := ok_is_integer T
  have G_is_row : FnOk P w K mg base CX0 1 f_is_row d_is_row ["thing"] sp_is_row := ok_is_row T
  have G_is_stall : FnOk P w K mg base CX0 4 f_is_stall d_is_stall ["wares", "thing"] sp_no := ok_is_stall T
  refine T.F_Web_init.ok sc_Web_init (fun vs H Q E h => ?_) (fun cdv A outer s H vs Q E hr h => ?_)
  · obtain ⟨p, dx, L, n, rfl, _⟩ := h
    rfl
  · obtain ⟨p, dx, L, n, rfl, hn1, hn8, hp, hL, q⟩ := h
    have nL : L ≠ p := fun z => by
      rw [z, hp] at hL
      cases hL
    refine ⟨_, (pss_cons (ps_if (PW.pt (pw_or (pt_not (pt_val (pe_call G_is_integer (hr.mono (by decide)) (by rfl) T.g_is_integer T.k_is_integer T.b_is_integer .nil pass0 (pa_cons (pv 1) pa_nil)))) (pw_or1 (pt_not (pt_chain op_le op_le pe_int (pv 1) (C8.pe_gc (by rfl) T.v_MOST_WARES))))))
        (pss_one ps_never)
        pss_nil)
      (pss_cons (ps_if (PW.pt (pw_or (pt_not (pt_val (pe_call G_is_row (hr.mono (by decide)) (by rfl) T.g_is_row T.k_is_row T.b_is_row .nil pass0 (pa_cons (pv 2) pa_nil)))) (pw_or1 (pt_cmpR op_gt (pe_callB call_lenN (by rfl) T.z_len (by decide +kernel) (pa_cons (pv 2) pa_nil)) (C8.pe_gc (by rfl) T.v_MOST_STALLS) (nomark _)))))
        (pss_one ps_never)
        pss_nil)
      (pss_cons (ps_for PassesOwn.never rfl (pi_enum (by rfl) T.z_enumerate (pa_cons (pv 2) pa_nil)) (pg_tup rfl (pgs_cons (pg_name (i := 3) sc_Web_init.nd rfl (Or.inl rfl)) (pgs_cons (pg_name (i := 4) sc_Web_init.nd rfl (Or.inl rfl)) pgs_nil)))
        (pss_one (ps_if (pt_not (pt_val (pe_call G_is_stall (hr.mono (by decide)) (by rfl) T.g_is_stall T.k_is_stall T.b_is_stall .nil pass0 (pa_cons (pv 1) (pa_cons (pv 4) pa_nil)))))
            (pss_one ps_never)
            pss_nil)))
      (pss_cons (ps_fld (pv 0) (pv 1) rfl)
      (pss_one (ps_fld (pv 0) (pe_callTy call_tuple_of (by rfl) T.z_tuple (by decide +kernel) (pa_cons (pv 2) pa_nil)) rfl)))))), ?_⟩
    walk_at "r"
    refine ⟨_, _, rfl, .inl ⟨⟨_, rfl⟩, rfl⟩, ?_⟩
    walk_at "r"
    refine ⟨_, _, rfl, hL, fun H1 s1 => ?_⟩
    have hL := s1 _ _ hL
    have hp := s1 _ _ hp
    walk_at "r"
    refine ⟨_, _, rfl, .of hL, ?_⟩
    refine for_enum (K := K) (a := L) (xs := []) (fun i σ H' => σ = [some (.ref p), some (.int n), some (.ref L), none, none] ∧ H' = H1) ⟨rfl, rfl⟩ ?_ ?_ ?_
    · rintro i σ H' _ ⟨rfl, rfl⟩
      exact .of hL
    · intro i x T2 σ H' hx
      cases hx
    · rintro σ H' ⟨rfl, rfl⟩
      walk_at "r"
      refine ⟨_, _, _, _, rfl, hp, T.w_Web.it.cl, T.n_Web_wares, (by decide), ?_⟩
      walk_at "r"
      refine ⟨_, _, rfl, .inl ⟨.of ((upd_ne nL).trans hL), fun l nl => ?_⟩⟩
      have hlp : l ≠ p := fun z => by
        rw [z, upd_same] at nl
        cases nl
      walk_at "r"
      refine ⟨_, _, _, _, rfl, (upd_ne (Ne.symm hlp)).trans upd_same, T.w_Web.it.cl, T.n_Web_stalls, (by show 1 < 1000; decide), ?_⟩
      refine q _ _ upd_same fun b o hb hbp => ?_
      rw [upd_ne hbp, upd_ne ?_, upd_ne hbp]
      · exact s1 _ _ hb
      · intro z
        rw [← z, upd_ne hbp, s1 _ _ hb] at nl
        cases nl
end
end My
namespace My
open PySem PySem.Spec PyProof.Rows L2
/-- some amount -/
def sa (o : Option Rat) : Bool := match o with
  | some r => decide (0 < r)
  | none => false
theorem sa_some {o : Option Rat} (h : sa o = true) : ∃ r, o = some r ∧ 0 < r := by
  match o, h with
  | some r, h => exact ⟨r, rfl, of_decide_eq_true h⟩
theorem JF.isF {K : PySem.W.Frag} {D : Addr} {H : Hp} {v : V} {r : Rat} (j : JF K D H v (some r)) : IsF H v r ∧ Bd 4000 r := by
  rcases j with ⟨r2, h, b, e⟩ | ⟨_, e⟩
  · cases e
    exact ⟨h, b⟩
  · cases e
section
variable {P : Program} {w : World} {K : PySem.W.Frag} {mg : Str → Option Value} {base : Heap} {f_is_integer f_is_row f_is_fraction f_is_some f_multiplied f_squared f_square_root f_is_stall f_root_of f_l_deck f_l_pick f_l_divisor f_l_made f_l_amount f_l_root f_l_due f_l_is_it f_l_deep f_l_odd f_l_place f_law f_BadFraction_init f_Web_init c_BadFraction c_Web : Addr} {d_is_integer d_is_row d_is_fraction d_is_some d_multiplied d_squared d_square_root d_is_stall d_root_of d_l_deck d_l_pick d_l_divisor d_l_made d_l_amount d_l_root d_l_due d_l_is_it d_l_deep d_l_odd d_l_place d_law d_BadFraction_init d_Web_init : FuncData}
def sp_iss (K : PySem.W.Frag) : Sp := fun vs H Q _ => ∃ v D o, vs = [v] ∧ JF K D H v o ∧ Q (.bl (sa o)) H
theorem ok_is_some (T : Txt K mg f_is_integer f_is_row f_is_fraction f_is_some f_multiplied f_squared f_square_root f_is_stall f_root_of f_l_deck f_l_pick f_l_divisor f_l_made f_l_amount f_l_root f_l_due f_l_is_it f_l_deep f_l_odd f_l_place f_law f_BadFraction_init f_Web_init c_BadFraction c_Web d_is_integer d_is_row d_is_fraction d_is_some d_multiplied d_squared d_square_root d_is_stall d_root_of d_l_deck d_l_pick d_l_divisor d_l_made d_l_amount d_l_root d_l_due d_l_is_it d_l_deep d_l_odd d_l_place d_law d_BadFraction_init d_Web_init) : FnOk P w K mg base CX0 3 f_is_some d_is_some ["thing"] (sp_iss K) := by
  have G_is_fraction : FnOk P w K mg base CX0 2 f_is_fraction d_is_fraction ["thing"] (sp_isf K) := ok_is_fraction T
  refine T.F_is_some.ok sc_is_some (fun vs H Q E h => ?_) (fun cdv A outer s H vs Q E hr h => ?_)
  · obtain ⟨v, D, o, rfl, _⟩ := h
    rfl
  · obtain ⟨v, D, o, rfl, j, q⟩ := h
    refine ⟨_, (pss_one (ps_ret (pe_and (pe_call G_is_fraction (hr.mono (by decide)) (by rfl) T.g_is_fraction T.k_is_fraction T.b_is_fraction .nil pass0 (pa_cons (pv 0) pa_nil)) (pe_one (pe_cmpR op_gt (pe_ix ix_tup (pv 0) pe_int (fun _ _ => rfl)) pe_int (nomark _)))))), ?_⟩
    walk_at "r"
    refine ⟨_, _, _, rfl, j, ?_⟩
    cases o with
    | none =>
      rw [Option.isSome_none]
      walk_at "r"
      exact q
    | some r =>
      rw [Option.isSome_some]
      obtain ⟨h, b⟩ := j.isF
      obtain ⟨p, rfl, hp⟩ := id h
      walk_at "r"
      have e : decide (0 < r.num) = decide (0 < r) := by
        rw [Bool.eq_iff_iff, decide_eq_true_eq, decide_eq_true_eq]
        rw [Rat.lt_iff]
        simp
      rw [e]
      exact q
/-- what a root's word says -/
def It (H : Hp) (u : V) : Option Rat → Prop
  | some s => IsF H u s
  | none => u = .non
def RtQ (o : Option Rat) (H : Hp) (Q : VK) : Prop := ∀ H' u, Same H H' → It H' u o → Q u H'
def sp_sqrt : Sp := fun vs H Q _ => ∃ v r o, vs = [v] ∧ IsF H v r ∧ 0 ≤ r.num ∧ Bd 8000 r ∧ Rt r o ∧ RtQ o H Q
theorem ok_square_root (T : Txt K mg f_is_integer f_is_row f_is_fraction f_is_some f_multiplied f_squared f_square_root f_is_stall f_root_of f_l_deck f_l_pick f_l_divisor f_l_made f_l_amount f_l_root f_l_due f_l_is_it f_l_deep f_l_odd f_l_place f_law f_BadFraction_init f_Web_init c_BadFraction c_Web d_is_integer d_is_row d_is_fraction d_is_some d_multiplied d_squared d_square_root d_is_stall d_root_of d_l_deck d_l_pick d_l_divisor d_l_made d_l_amount d_l_root d_l_due d_l_is_it d_l_deep d_l_odd d_l_place d_law d_BadFraction_init d_Web_init) : FnOk P w K mg base CX0 1 f_square_root d_square_root ["amount"] sp_sqrt := by
  refine T.F_square_root.ok sc_square_root (fun vs H Q E h => ?_) (fun cdv A outer s H vs Q E hr h => ?_)
  · obtain ⟨v, r, o, rfl, _⟩ := h
    rfl
  · obtain ⟨v, r, o, rfl, ⟨p, rfl, hp⟩, h0, ⟨b1, b2⟩, ho, q⟩ := h
    refine ⟨_, (pss_cons (ps_set (i := 1) sc_square_root.nd rfl (Or.inl rfl) (pe_callBfun cr_isqrt (by rfl) T.m_isqrt (pa_cons (pe_ix ix_tup (pv 0) pe_int (fun _ _ => rfl)) pa_nil)))
      (pss_cons (ps_set (i := 2) sc_square_root.nd rfl (Or.inl rfl) (pe_callBfun cr_isqrt (by rfl) T.m_isqrt (pa_cons (pe_ix ix_tup (pv 0) pe_int (fun _ _ => rfl)) pa_nil)))
      (pss_cons (ps_if (PW.pt (pw_or (pt_cmpR op_ne (pe_op op_mulX (pv 1) (pv 1)) (pe_ix ix_tup (pv 0) pe_int (fun _ _ => rfl)) (nomark _)) (pw_or1 (pt_cmpR op_ne (pe_op op_mulX (pv 2) (pv 2)) (pe_ix ix_tup (pv 0) pe_int (fun _ _ => rfl)) (nomark _)))))
        (pss_one (ps_ret pe_non))
        pss_nil)
      (pss_one (ps_ret (pe_tup (pa_cons (pv 1) (pa_cons (pv 2) pa_nil)))))))), ?_⟩
    walk_at "r"
    refine rd_isq h0 b1 fun t ht => ?_
    walk_at "r"
    refine rd_isq (Int.natCast_nonneg _) (by rw [Int.natAbs_natCast]; exact b2) fun b hb => ?_
    have lt := Nat.lt_of_lt_of_le (rt_lt ht b1) (pow_le (show 8000 ≤ 20000 by decide))
    have lb := Nat.lt_of_lt_of_le (rt_lt (k := 8000) hb (by rw [Int.natAbs_natCast]; exact b2)) (pow_le (show 8000 ≤ 20000 by decide))
    walk_at "r"
    · walk_at "if"
      · rename_i n1
        have e := rt_no ho ht hb (.inl n1)
        subst e
        walk_at "r"
        exact q _ _ (Same.refl _) rfl
      · rename_i e1
        walk_at "r"
        · walk_at "if"
          · rename_i n1
            have e := rt_no ho ht hb (.inr n1)
            subst e
            walk_at "r"
            exact q _ _ (Same.refl _) rfl
          · rename_i e2
            obtain ⟨s', rfl, es1, es2⟩ := rt_yes ho ht hb e1 e2
            walk_at "r"
            intro p2 n2
            exact q _ _ (same_upd n2) (isF_new es1.symm es2.symm)
        · exact cmx lb lb
    · exact cmx lt lt
/-- the place of what is no some amount -/
def pr (a b : Option Rat) : Option Int := if sa a = false then some 0 else if sa b = false then some 1 else none
def sp_root_of (K : PySem.W.Frag) (C : Addr) : Sp := fun vs H Q E => ∃ x y D o1 o2, vs = [x, y] ∧ JF K D H x o1 ∧ JF K D H y o2 ∧ (∀ k, pr o1 o2 = some k → ∀ d, H d = none → E (.ref C) (some d) (upd H d (.xd [("place", .int k)]))) ∧
  (∀ r t, o1 = some r → o2 = some t → 0 < r → 0 < t → ∃ o, Rt (r * t) o ∧ RtQ o H Q)
theorem ok_root_of (T : Txt K mg f_is_integer f_is_row f_is_fraction f_is_some f_multiplied f_squared f_square_root f_is_stall f_root_of f_l_deck f_l_pick f_l_divisor f_l_made f_l_amount f_l_root f_l_due f_l_is_it f_l_deep f_l_odd f_l_place f_law f_BadFraction_init f_Web_init c_BadFraction c_Web d_is_integer d_is_row d_is_fraction d_is_some d_multiplied d_squared d_square_root d_is_stall d_root_of d_l_deck d_l_pick d_l_divisor d_l_made d_l_amount d_l_root d_l_due d_l_is_it d_l_deep d_l_odd d_l_place d_law d_BadFraction_init d_Web_init) : FnOk P w K mg base (L2.CX P w) 4 f_root_of d_root_of ["held", "other"] (sp_root_of K c_BadFraction) := by
  have G_is_some : FnOk P w K mg base CX0 3 f_is_some d_is_some ["thing"] (sp_iss K) := ok_is_some T
  have G_square_root : FnOk P w K mg base CX0 1 f_square_root d_square_root ["amount"] sp_sqrt := ok_square_root T
  have G_multiplied : FnOk P w K mg base CX0 1 f_multiplied d_multiplied ["one", "other"] sp_multiplied := ok_multiplied T
  have G_BadFraction_init : FnOk P w K mg base CX0 1 f_BadFraction_init d_BadFraction_init ["self", "place"] (sp_xinit c_BadFraction "place") := ok_BadFraction_init T
  refine T.F_root_of.okX sc_root_of (fun vs H Q E h => ?_) (fun cdv A outer s H vs Q E hr h => ?_)
  · obtain ⟨x, y, D, o1, o2, rfl, _⟩ := h
    rfl
  · obtain ⟨x, y, D, o1, o2, rfl, j1, j2, e, q⟩ := h
    refine ⟨_, (pss_cons (ps_if (pt_not (pt_val (pe_call G_is_some (hr.mono (by decide)) (by rfl) T.g_is_some T.k_is_some T.b_is_some .nil pass0 (pa_cons (pv 0) pa_nil))))
        (pss_one (ps_raise1 rfl T.c_BadFraction G_BadFraction_init (hr.mono (by decide)) (takes_of rfl rfl rfl rfl) T.b_BadFraction_init (pa_cons pe_int pa_nil)))
        pss_nil)
      (pss_cons (ps_if (pt_not (pt_val (pe_call G_is_some (hr.mono (by decide)) (by rfl) T.g_is_some T.k_is_some T.b_is_some .nil pass0 (pa_cons (pv 1) pa_nil))))
        (pss_one (ps_raise1 rfl T.c_BadFraction G_BadFraction_init (hr.mono (by decide)) (takes_of rfl rfl rfl rfl) T.b_BadFraction_init (pa_cons pe_int pa_nil)))
        pss_nil)
      (pss_one (ps_ret (pe_call G_square_root (hr.mono (by decide)) (by rfl) T.g_square_root T.k_square_root T.b_square_root .nil pass0 (pa_cons (pe_call G_multiplied (hr.mono (by decide)) (by rfl) T.g_multiplied T.k_multiplied T.b_multiplied .nil pass0 (pa_cons (pv 0) (pa_cons (pv 1) pa_nil))) pa_nil)))))), ?_⟩
    walk_at "r"
    refine ⟨_, _, _, rfl, j1, ?_⟩
    cases hs1 : sa o1 with
    | false =>
      walk_at "r"
      exact e 0 (by simp [pr, hs1])
    | true =>
      walk_at "r"
      refine ⟨_, _, _, rfl, j2, ?_⟩
      cases hs2 : sa o2 with
      | false =>
        walk_at "r"
        exact e 1 (by simp [pr, hs1, hs2])
      | true =>
        obtain ⟨r, rfl, r0⟩ := sa_some hs1
        obtain ⟨t, rfl, t0⟩ := sa_some hs2
        obtain ⟨o, ho, q⟩ := q r t rfl rfl r0 t0
        walk_at "r"
        refine ⟨_, _, _, _, rfl, j1.isF.1, j2.isF.1, j1.isF.2, j2.isF.2, trivial, fun H1 v s1 hv => ?_⟩
        walk_at "r"
        exact ⟨_, _, _, rfl, hv, Rat.num_nonneg.mpr (Rat.le_of_lt (Rat.mul_pos r0 t0)), (j1.isF.2.mul j2.isF.2), ho, fun H2 u s2 hu => q H2 u (s1.trans s2) hu⟩
end
end My
namespace My
open PySem PySem.Spec PyProof.Rows L2
theorem ten18_lt : (10 : Int) ^ (18 : Int).toNat = 1000000000000000000 := by decide
theorem size_at {i : Int} (h0 : 0 ≤ i) (h1 : i < 7) : ∃ z : Int, (3 ≤ z ∧ z ≤ 1000000000000000000) ∧ atI [V.int 3, V.int 3, V.int 12, V.int 12, V.int (10 ^ (6 : Int).toNat), V.int (10 ^ (6 : Int).toNat), V.int (10 ^ (18 : Int).toNat)] i = some (.int z) := by
  obtain ⟨z, hz, e⟩ := at_ints (cells := [3, 3, 12, 12, 10 ^ (6 : Int).toNat, 10 ^ (6 : Int).toNat, 10 ^ (18 : Int).toNat]) h0 (by simpa using h1)
  refine ⟨z, ?_, e⟩
  rw [ten18_lt, ten6e] at hz
  simp only [List.mem_cons, List.not_mem_nil, or_false] at hz
  omega
theorem grow {t p : Int} {k : Nat} (h0 : 0 < t) (h : t.natAbs < 2 ^ (60 * k)) (p0 : 0 ≤ p) (p1 : p < 1000000000000000000) : 0 < t * 10 ^ (18 : Int).toNat + p ∧ (t * 10 ^ (18 : Int).toNat + p).natAbs < 2 ^ (60 * (k + 1)) := by
  rw [ten18_lt]
  have e : (2 : Nat) ^ (60 * (k + 1)) = 2 ^ (60 * k) * 1152921504606846976 := by
    rw [Nat.mul_add, Nat.pow_add]
  rw [e]
  generalize (2 : Nat) ^ (60 * k) = m at *
  have h2 : (t : Int) + 1 ≤ m := by omega
  refine ⟨by omega, ?_⟩
  omega
theorem rat_pos {r : Rat} (h : 0 < r.num) : 0 < r := by
  rw [Rat.lt_iff]
  simpa using h
theorem num_pos' {r : Rat} (h : 0 < r) : 0 < r.num := by
  rw [Rat.lt_iff] at h
  simpa using h
theorem divInt_pos {t b : Int} (ht : 0 < t) (hb : 0 < b) : 0 < Rat.divInt t b := by
  have h := (rat_cross (n := t) (d := b) (r := Rat.divInt t b) (by omega)).mp rfl
  have hd := den_pos (Rat.divInt t b)
  have h2 : 0 < t * ((Rat.divInt t b).den : Int) := Int.mul_pos ht hd
  rw [h] at h2
  refine rat_pos ?_
  exact Int.pos_of_mul_pos_left h2 hb
section
variable {P : Program} {w : World} {K : PySem.W.Frag} {mg : Str → Option Value} {base : Heap} {f_is_integer f_is_row f_is_fraction f_is_some f_multiplied f_squared f_square_root f_is_stall f_root_of f_l_deck f_l_pick f_l_divisor f_l_made f_l_amount f_l_root f_l_due f_l_is_it f_l_deep f_l_odd f_l_place f_law f_BadFraction_init f_Web_init c_BadFraction c_Web : Addr} {d_is_integer d_is_row d_is_fraction d_is_some d_multiplied d_squared d_square_root d_is_stall d_root_of d_l_deck d_l_pick d_l_divisor d_l_made d_l_amount d_l_root d_l_due d_l_is_it d_l_deep d_l_odd d_l_place d_law d_BadFraction_init d_Web_init : FuncData}
def sp_made : Sp := fun vs H Q _ => ∃ n d : Int, vs = [.int n, .int d] ∧ 0 < d ∧ d.natAbs < 2 ^ 8000 ∧ ∀ H' v, Same H H' → IsF H' v (Rat.divInt n d) → Q v H'
theorem ok_l_made (T : Txt K mg f_is_integer f_is_row f_is_fraction f_is_some f_multiplied f_squared f_square_root f_is_stall f_root_of f_l_deck f_l_pick f_l_divisor f_l_made f_l_amount f_l_root f_l_due f_l_is_it f_l_deep f_l_odd f_l_place f_law f_BadFraction_init f_Web_init c_BadFraction c_Web d_is_integer d_is_row d_is_fraction d_is_some d_multiplied d_squared d_square_root d_is_stall d_root_of d_l_deck d_l_pick d_l_divisor d_l_made d_l_amount d_l_root d_l_due d_l_is_it d_l_deep d_l_odd d_l_place d_law d_BadFraction_init d_Web_init) : FnOk P w K mg base CX0 2 f_l_made d_l_made ["_law_top", "_law_bottom"] sp_made := by
  have G_l_divisor : FnOk P w K mg base CX0 1 f_l_divisor d_l_divisor ["_law_one", "_law_other"] sp_divisor := ok_l_divisor T
  refine T.F_l_made.ok sc_l_made (fun vs H Q E h => ?_) (fun cdv A outer s H vs Q E hr h => ?_)
  · obtain ⟨n, d, rfl, _⟩ := h
    rfl
  · obtain ⟨n, d, rfl, hd, hb, q⟩ := h
    refine ⟨_, (pss_cons (ps_set (i := 2) sc_l_made.nd rfl (Or.inl rfl) (pe_call G_l_divisor (hr.mono (by decide)) (by rfl) T.g_l_divisor T.k_l_divisor T.b_l_divisor .nil pass0 (pa_cons (pv 0) (pa_cons (pv 1) pa_nil))))
      (pss_one (ps_ret (pe_tup (pa_cons (pe_op op_fdivX (pv 0) (pv 2)) (pa_cons (pe_op op_fdivX (pv 1) (pv 2)) pa_nil)))))), ?_⟩
    walk_at "r"
    refine ⟨_, _, rfl, Nat.lt_of_lt_of_le hb (pow_le (by decide)), ?_⟩
    obtain ⟨m1, m2, m3⟩ := low_math (n := n) hd hb _ rfl
    walk_at "r"
    · intro p np
      exact q _ _ (same_upd np) (isF_new m2 m3)
    all_goals exact m1 _
def sp_am (M n : Nat) : Sp := fun vs H Q _ => ∃ (D : Addr) (c : Nat), vs = [.ref D] ∧ Deck M D H c ∧ c ≤ 2 ^ 39 ∧ ∀ H' v r, Fw D H H' → Deck M D H' (c + n) → IsF H' v r → Bd 480 r → 0 < r → Q v H'
theorem ok_l_amount {M : Nat} (hM : 64 ≤ M) (hM2 : M ≤ 1048576) (T : Txt K mg f_is_integer f_is_row f_is_fraction f_is_some f_multiplied f_squared f_square_root f_is_stall f_root_of f_l_deck f_l_pick f_l_divisor f_l_made f_l_amount f_l_root f_l_due f_l_is_it f_l_deep f_l_odd f_l_place f_law f_BadFraction_init f_Web_init c_BadFraction c_Web d_is_integer d_is_row d_is_fraction d_is_some d_multiplied d_squared d_square_root d_is_stall d_root_of d_l_deck d_l_pick d_l_divisor d_l_made d_l_amount d_l_root d_l_due d_l_is_it d_l_deep d_l_odd d_l_place d_law d_BadFraction_init d_Web_init) : FnOk P w K mg base CX0 3 f_l_amount d_l_amount ["_law_deck_here"] (sp_am M 20) := by
  have G_l_pick : FnOk P w K mg base CX0 1 f_l_pick d_l_pick ["_law_deck_here", "_law_many"] (sp_pick M) := ok_pick hM hM2 T
  have G_l_made : FnOk P w K mg base CX0 2 f_l_made d_l_made ["_law_top", "_law_bottom"] sp_made := ok_l_made T
  refine T.F_l_amount.ok sc_l_amount (fun vs H Q E h => ?_) (fun cdv A outer s H vs Q E hr h => ?_)
  · obtain ⟨D, c, rfl, _⟩ := h
    rfl
  · obtain ⟨D, c, rfl, dk, hc, q⟩ := h
    refine ⟨_, (pss_cons (ps_set (i := 1) sc_l_amount.nd rfl (Or.inl rfl) (pe_call G_l_pick (hr.mono (by decide)) (by rfl) T.g_l_pick T.k_l_pick T.b_l_pick .nil pass0 (pa_cons (pv 0) (pa_cons pe_int pa_nil))))
      (pss_cons (ps_set (i := 2) sc_l_amount.nd rfl (Or.inl rfl) (pe_ix ix_list (pe_lst (pa_cons pe_int (pa_cons pe_int (pa_cons pe_int (pa_cons pe_int (pa_cons (pe_op op_pow pe_int pe_int) (pa_cons (pe_op op_pow pe_int pe_int) (pa_cons (pe_op op_pow pe_int pe_int) pa_nil)))))))) (pv 1) (fun _ _ => rfl)))
      (pss_cons (ps_set (i := 3) sc_l_amount.nd rfl (Or.inl rfl) (pe_op op_add pe_int (pe_call G_l_pick (hr.mono (by decide)) (by rfl) T.g_l_pick T.k_l_pick T.b_l_pick .nil pass0 (pa_cons (pv 0) (pa_cons (pe_op op_sub (pv 2) pe_int) pa_nil)))))
      (pss_cons (ps_set (i := 4) sc_l_amount.nd rfl (Or.inl rfl) (pe_op op_add pe_int (pe_call G_l_pick (hr.mono (by decide)) (by rfl) T.g_l_pick T.k_l_pick T.b_l_pick .nil pass0 (pa_cons (pv 0) (pa_cons (pe_op op_sub (pv 2) pe_int) pa_nil)))))
      (C8.pss_cut (ps_if (pt_cmpR op_eq (pv 1) pe_int (nomark _))
        (pss_one (ps_for PassesOwn.never rfl (pi_range1 (by rfl) T.z_range (pa_cons (pe_call G_l_pick (hr.mono (by decide)) (by rfl) T.g_l_pick T.k_l_pick T.b_l_pick .nil pass0 (pa_cons (pv 0) (pa_cons pe_int pa_nil))) pa_nil)) (pg_name (i := 5) sc_l_amount.nd rfl (Or.inl rfl))
            (pss_cons (ps_set (i := 3) sc_l_amount.nd rfl (Or.inl rfl) (pe_op op_add (pe_op op_mulX (pv 3) (pe_op op_pow pe_int pe_int)) (pe_call G_l_pick (hr.mono (by decide)) (by rfl) T.g_l_pick T.k_l_pick T.b_l_pick .nil pass0 (pa_cons (pv 0) (pa_cons (pv 2) pa_nil)))))
              (pss_one (ps_set (i := 4) sc_l_amount.nd rfl (Or.inl rfl) (pe_op op_add (pe_op op_mulX (pv 4) (pe_op op_pow pe_int pe_int)) (pe_call G_l_pick (hr.mono (by decide)) (by rfl) T.g_l_pick T.k_l_pick T.b_l_pick .nil pass0 (pa_cons (pv 0) (pa_cons (pv 2) pa_nil)))))))))
        pss_nil)
      (pss_one (ps_ret (pe_call G_l_made (hr.mono (by decide)) (by rfl) T.g_l_made T.k_l_made T.b_l_made .nil pass0 (pa_cons (pv 3) (pa_cons (pv 4) pa_nil)))))))))), ?_⟩
    walk_at "r"
    refine ⟨_, _, c, rfl, ⟨by decide, by decide⟩, dk, by omega, fun H1 r1 w1 k1 a1 b1 => ?_⟩
    walk_at "r"
    intro L nL
    obtain ⟨size, ⟨hs1, hs2⟩, es⟩ := size_at a1 b1
    walk_at "r"
    refine rd_ixL upd_same es ?_
    have k1' := k1.same (same_upd (o := .lst [V.int 3, V.int 3, V.int 12, V.int 12, V.int (10 ^ (6 : Int).toNat), V.int (10 ^ (6 : Int).toNat), V.int (10 ^ (18 : Int).toNat)]) nL)
    have w1' : Fw D H (upd H1 L (.lst [V.int 3, V.int 3, V.int 12, V.int 12, V.int (10 ^ (6 : Int).toNat), V.int (10 ^ (6 : Int).toNat), V.int (10 ^ (18 : Int).toNat)])) := w1.trans (Same.fw (same_upd nL))
    walk_at "r"
    refine ⟨_, _, _, rfl, ⟨by omega, by omega⟩, k1', by omega, fun H2 r2 w2 k2 a2 b2 => ?_⟩
    walk_at "r"
    refine ⟨_, _, _, rfl, ⟨by omega, by omega⟩, k2, by omega, fun H3 r3 w3 k3 a3 b3 => ?_⟩
    have w3' := (w1'.trans w2).trans w3
    clear w1' k1' w1 w2 w3 k1 k2
    walk_at "r"
    refine ⟨fun σ H' => ∃ (t b : Int) (c' : Nat) (v5 : Option V), σ = [some (.ref D), some (.int r1), some (.int size), some (.int t), some (.int b), v5] ∧ Fw D H H' ∧ Deck M D H' c' ∧ c' ≤ c + 18 ∧ 0 < t ∧ 0 < b ∧ t.natAbs < 2 ^ 480 ∧ b.natAbs < 2 ^ 480, ?_, ?_⟩
    rotate_left
    · rintro σ H' ⟨t, b, c', v5, rfl, w', k', hc', t0, b0, t1, b1⟩
      walk_at "r"
      refine ⟨_, _, rfl, b0, Nat.lt_of_lt_of_le b1 (pow_le (by decide)), fun H8 v s8 f8 => ?_⟩
      exact q _ _ _ (w'.trans (Same.fw s8)) ((k'.same s8).mono (by omega)) f8 (Bd.divInt (by omega) t1 b1) (divInt_pos t0 b0)
    walk_at "r"
    walk_at "if"
    · walk_at "r"
      refine ⟨_, _, _, rfl, ⟨by decide, by decide⟩, k3, by omega, fun H4 r4 w4 k4 a4 b4 => ?_⟩
      walk_at "r"
      refine ⟨by omega, by omega, ?_⟩
      refine for_range (lo := 0) (n := r4.toNat) (fun i σ H' => ∃ (t b : Int) (c' : Nat) (v5 : Option V), σ = [some (.ref D), some (.int r1), some (.int size), some (.int t), some (.int b), v5] ∧ Fw D H H' ∧ Deck M D H' c' ∧ c' ≤ c + 4 + 2 * i ∧ 0 < t ∧ 0 < b ∧ t.natAbs < 2 ^ (60 * (i + 1)) ∧ b.natAbs < 2 ^ (60 * (i + 1))) ?_ ?_ ?_
      · exact ⟨_, _, _, none, rfl, w3'.trans w4, k4, by omega, by omega, by omega, by omega, by omega⟩
      · rintro i σ H' hi ⟨t, b, c', v5, rfl, w', k', hc', t0, b0, t1, b1⟩
        walk_at "r"
        · refine ⟨_, _, _, rfl, ⟨by omega, by omega⟩, k', by omega, fun H5 r5 w5 k5 a5 b5 => ?_⟩
          walk_at "r"
          · refine ⟨_, _, _, rfl, ⟨by omega, by omega⟩, k5, by omega, fun H6 r6 w6 k6 a6 b6 => ?_⟩
            obtain ⟨g1, g2⟩ := grow t0 t1 a5 (by omega)
            obtain ⟨g3, g4⟩ := grow b0 b1 a6 (by omega)
            walk_at "r"
            exact ⟨_, _, _, _, rfl, (w'.trans w5).trans w6, k6, by omega, g1, g3, g2, g4⟩
          · rw [ten18_lt]
            exact cmul_big b1 (by decide) (by omega)
        · rw [ten18_lt]
          exact cmul_big t1 (by decide) (by omega)
      · rintro σ H' ⟨t, b, c', v5, rfl, w', k', hc', t0, b0, t1, b1⟩
        have hp : 60 * (r4.toNat + 1) ≤ 480 := by omega
        exact ⟨t, b, c', v5, rfl, w', k', by omega, t0, b0, Nat.lt_of_lt_of_le t1 (pow_le hp), Nat.lt_of_lt_of_le b1 (pow_le hp)⟩
    · walk_at "r"
      refine ⟨1 + r2, 1 + r3, _, none, rfl, w3', k3, by omega, by omega, by omega, ?_, ?_⟩
      · exact Nat.lt_of_lt_of_le (m := 2 ^ 64) (by omega) (pow_le (by decide))
      · exact Nat.lt_of_lt_of_le (m := 2 ^ 64) (by omega) (pow_le (by decide))
def sp_lroot : Sp := fun vs H Q _ => ∃ n : Int, vs = [.int n] ∧ 0 ≤ n ∧ n.natAbs < 2 ^ 8000 ∧ ∀ t, IsRt n t → Q (.int t) H
theorem ok_l_root (T : Txt K mg f_is_integer f_is_row f_is_fraction f_is_some f_multiplied f_squared f_square_root f_is_stall f_root_of f_l_deck f_l_pick f_l_divisor f_l_made f_l_amount f_l_root f_l_due f_l_is_it f_l_deep f_l_odd f_l_place f_law f_BadFraction_init f_Web_init c_BadFraction c_Web d_is_integer d_is_row d_is_fraction d_is_some d_multiplied d_squared d_square_root d_is_stall d_root_of d_l_deck d_l_pick d_l_divisor d_l_made d_l_amount d_l_root d_l_due d_l_is_it d_l_deep d_l_odd d_l_place d_law d_BadFraction_init d_Web_init) : FnOk P w K mg base CX0 1 f_l_root d_l_root ["_law_number"] sp_lroot := by
  refine T.F_l_root.ok sc_l_root (fun vs H Q E h => ?_) (fun cdv A outer s H vs Q E hr h => ?_)
  · obtain ⟨n, rfl, _⟩ := h
    rfl
  · obtain ⟨n, rfl, h0, hb, q⟩ := h
    have hbits : Builtin.Int.intBits n ≤ 8000 := PyProof.Rows.intBits_le hb
    have hlt := bits_lt (z := n) (Nat.le_refl _)
    refine ⟨_, (pss_cons (ps_set (i := 1) sc_l_root.nd rfl (Or.inl rfl) pe_int)
      (pss_cons (ps_set (i := 2) sc_l_root.nd rfl (Or.inl rfl) (pe_op op_add (pv 0) pe_int))
      (pss_cons (ps_for PassesOwn.never rfl (pi_range1 (by rfl) T.z_range (pa_cons (pe_op op_add (pe_bits (pv 0)) pe_int) pa_nil)) (pg_name (i := 3) sc_l_root.nd rfl (Or.inl rfl))
        (pss_one (ps_if (pt_cmpR op_gt (pe_op op_sub (pv 2) (pv 1)) pe_int (nomark _))
            (pss_cons (ps_set (i := 4) sc_l_root.nd rfl (Or.inl rfl) (pe_op op_fdivX (pe_op op_add (pv 1) (pv 2)) pe_int))
              (pss_one (ps_if (pt_cmpR op_le (pe_op op_mulX (pv 4) (pv 4)) (pv 0) (nomark _))
                (pss_one (ps_set (i := 1) sc_l_root.nd rfl (Or.inl rfl) (pv 4)))
                (pss_one (ps_set (i := 2) sc_l_root.nd rfl (Or.inl rfl) (pv 4))))))
            pss_nil)))
      (pss_one (ps_ret (pv 1)))))), ?_⟩
    walk_at "r"
    refine ⟨by omega, by omega, ?_⟩
    generalize Builtin.Int.intBits n = k at *
    have hN : ((k : Int) + 2).toNat = k + 2 := by omega
    rw [hN]
    refine for_range (lo := 0) (n := k + 2) (fun i σ H' => ∃ (lo hi : Int) (t3 t4 : Option V), σ = [some (.int n), some (.int lo), some (.int hi), t3, t4] ∧ H' = H ∧ 0 ≤ lo ∧ lo < hi ∧ lo * lo ≤ n ∧ n < hi * hi ∧ hi ≤ n + 1 ∧ (hi - lo - 1) * 2 ^ i ≤ n) ?_ ?_ ?_
    · refine ⟨_, _, none, none, rfl, rfl, by omega, by omega, by omega, ?_, by omega, by omega⟩
      have : (n + 1) * (n + 1) = n * n + 2 * n + 1 := by
        rw [Int.add_mul, Int.mul_add]
        omega
      have := Int.mul_nonneg h0 h0
      omega
    · rintro i σ H' hi ⟨lo, hi', t3, t4, rfl, rfl, l0, lh, l1, l2, l3, l4⟩
      have hp : (0 : Int) < 2 ^ i := Int.pow_pos (by decide)
      have hpp : (2 : Int) ^ (i + 1) = 2 * 2 ^ i := by
        rw [Int.pow_succ, Int.mul_comm]
      have key : ∀ d : Int, 2 * d ≤ hi' - lo - 1 → d * 2 ^ (i + 1) ≤ n := fun d hd => by
        have := Int.mul_le_mul_of_nonneg_right hd (Int.le_of_lt hp)
        rw [hpp, ← Int.mul_assoc, Int.mul_comm d 2]
        omega
      walk_at "r"
      walk_at "if"
      · rename_i hd
        have hm : (lo + hi').fdiv 2 = (lo + hi') / 2 := Int.fdiv_eq_ediv_of_nonneg _ (by decide)
        have hmb : ((lo + hi').fdiv 2).natAbs < 2 ^ 20000 := by
          rw [hm]
          refine Nat.lt_of_le_of_lt (m := n.natAbs) (by omega) (Nat.lt_of_lt_of_le hb (pow_le (by decide)))
        walk_at "r"
        · rw [hm] at *
          generalize hmm : (lo + hi') / 2 = m at *
          walk_at "if"
          · walk_at "r"
            exact ⟨_, _, _, _, rfl, rfl, by omega, by omega, by assumption, l2, l3, key _ (by omega)⟩
          · walk_at "r"
            exact ⟨_, _, _, _, rfl, rfl, l0, by omega, l1, by omega, by omega, key _ (by omega)⟩
        · exact cmx hmb hmb
      · rename_i hd
        walk_at "r"
        refine ⟨_, _, _, _, rfl, rfl, l0, lh, l1, l2, l3, ?_⟩
        have : hi' - lo - 1 = 0 := by omega
        rw [this, Int.zero_mul]
        exact h0
    · rintro σ H' ⟨lo, hi', t3, t4, rfl, rfl, l0, lh, l1, l2, l3, l4⟩
      have e : hi' = lo + 1 := by
        by_cases h : 0 < hi' - lo - 1
        · have h5 : (1 : Int) * 2 ^ (k + 2) ≤ (hi' - lo - 1) * 2 ^ (k + 2) := Int.mul_le_mul_of_nonneg_right (by omega) (Int.le_of_lt (Int.pow_pos (by decide)))
          have h6 : n < 2 ^ (k + 2) := by
            have h7 : ((2 ^ k : Nat) : Int) = 2 ^ k := by simp
            have h8 : (2 : Int) ^ (k + 2) = 2 ^ k * 4 := by
              rw [Int.pow_add]
              rfl
            omega
          omega
        · omega
      walk_at "r"
      exact q _ ⟨l0, l1, by rw [← e]; exact l2⟩
def sp_ldue : Sp := fun vs H Q _ => ∃ x y r t o, vs = [x, y] ∧ IsF H x r ∧ IsF H y t ∧ Bd 2000 r ∧ Bd 2000 t ∧ 0 < r ∧ 0 < t ∧ Rt (r * t) o ∧ RtQ o H Q
theorem divInt_mul' (r t : Rat) : Rat.divInt (r.num * t.num) ((r.den : Int) * t.den) = r * t := by
  rw [← Rat.divInt_mul_divInt, Rat.num_divInt_den, Rat.num_divInt_den]
theorem mul_lt' {a b : Int} {k l : Nat} (h1 : a.natAbs < 2 ^ k) (h2 : b.natAbs < 2 ^ l) : (a * b).natAbs < 2 ^ (k + l) := by
  rw [Int.natAbs_mul]
  exact nat_mul_lt h1 h2
theorem ok_l_due (T : Txt K mg f_is_integer f_is_row f_is_fraction f_is_some f_multiplied f_squared f_square_root f_is_stall f_root_of f_l_deck f_l_pick f_l_divisor f_l_made f_l_amount f_l_root f_l_due f_l_is_it f_l_deep f_l_odd f_l_place f_law f_BadFraction_init f_Web_init c_BadFraction c_Web d_is_integer d_is_row d_is_fraction d_is_some d_multiplied d_squared d_square_root d_is_stall d_root_of d_l_deck d_l_pick d_l_divisor d_l_made d_l_amount d_l_root d_l_due d_l_is_it d_l_deep d_l_odd d_l_place d_law d_BadFraction_init d_Web_init) : FnOk P w K mg base CX0 3 f_l_due d_l_due ["_law_one", "_law_other"] sp_ldue := by
  have G_l_made : FnOk P w K mg base CX0 2 f_l_made d_l_made ["_law_top", "_law_bottom"] sp_made := ok_l_made T
  have G_l_root : FnOk P w K mg base CX0 1 f_l_root d_l_root ["_law_number"] sp_lroot := ok_l_root T
  refine T.F_l_due.ok sc_l_due (fun vs H Q E h => ?_) (fun cdv A outer s H vs Q E hr h => ?_)
  · obtain ⟨x, y, r, t, o, rfl, _⟩ := h
    rfl
  · obtain ⟨x, y, r, t, o, rfl, ⟨p1, rfl, hp1⟩, ⟨p2, rfl, hp2⟩, b1, b2, r0, t0, ho, q⟩ := h
    have c1 : ((r.den : Int)).natAbs < 2 ^ 2000 := by rw [Int.natAbs_natCast]; exact b1.2
    have c2 : ((t.den : Int)).natAbs < 2 ^ 2000 := by rw [Int.natAbs_natCast]; exact b2.2
    have up : ∀ {a : Int}, a.natAbs < 2 ^ 2000 → a.natAbs < 2 ^ 20000 := fun h => Nat.lt_of_lt_of_le h (pow_le (by decide))
    refine ⟨_, (pss_cons (ps_set (i := 2) sc_l_due.nd rfl (Or.inl rfl) (pe_call G_l_made (hr.mono (by decide)) (by rfl) T.g_l_made T.k_l_made T.b_l_made .nil pass0 (pa_cons (pe_op op_mulX (pe_ix ix_tup (pv 0) pe_int (fun _ _ => rfl)) (pe_ix ix_tup (pv 1) pe_int (fun _ _ => rfl))) (pa_cons (pe_op op_mulX (pe_ix ix_tup (pv 0) pe_int (fun _ _ => rfl)) (pe_ix ix_tup (pv 1) pe_int (fun _ _ => rfl))) pa_nil))))
      (pss_cons (ps_set (i := 3) sc_l_due.nd rfl (Or.inl rfl) (pe_call G_l_root (hr.mono (by decide)) (by rfl) T.g_l_root T.k_l_root T.b_l_root .nil pass0 (pa_cons (pe_ix ix_tup (pv 2) pe_int (fun _ _ => rfl)) pa_nil)))
      (pss_cons (ps_set (i := 4) sc_l_due.nd rfl (Or.inl rfl) (pe_call G_l_root (hr.mono (by decide)) (by rfl) T.g_l_root T.k_l_root T.b_l_root .nil pass0 (pa_cons (pe_ix ix_tup (pv 2) pe_int (fun _ _ => rfl)) pa_nil)))
      (pss_cons (ps_if (PW.pt (pw_or (pt_cmpR op_ne (pe_op op_mulX (pv 3) (pv 3)) (pe_ix ix_tup (pv 2) pe_int (fun _ _ => rfl)) (nomark _)) (pw_or1 (pt_cmpR op_ne (pe_op op_mulX (pv 4) (pv 4)) (pe_ix ix_tup (pv 2) pe_int (fun _ _ => rfl)) (nomark _)))))
        (pss_one (ps_ret pe_non))
        pss_nil)
      (pss_one (ps_ret (pe_tup (pa_cons (pv 3) (pa_cons (pv 4) pa_nil))))))))), ?_⟩
    walk_at "r"
    · refine ⟨_, _, rfl, Int.mul_pos (den_pos r) (den_pos t), Nat.lt_of_lt_of_le (mul_lt' c1 c2) (pow_le (by decide)), fun H1 v s1 hv => ?_⟩
      rw [divInt_mul'] at hv
      have bm : Bd 4000 (r * t) := (b1.mul b2)
      have pm : 0 < r * t := Rat.mul_pos r0 t0
      generalize r * t = m at *
      obtain ⟨p3, rfl, hp3⟩ := hv
      walk_at "r"
      refine ⟨_, rfl, Rat.num_nonneg.mpr (Rat.le_of_lt pm), Nat.lt_of_lt_of_le bm.1 (pow_le (by decide)), fun tp ht => ?_⟩
      walk_at "r"
      refine ⟨_, rfl, Int.natCast_nonneg _, by rw [Int.natAbs_natCast]; exact Nat.lt_of_lt_of_le bm.2 (pow_le (by decide)), fun bt hb => ?_⟩
      have lt := Nat.lt_of_lt_of_le (rt_lt ht bm.1) (pow_le (show 4000 ≤ 20000 by decide))
      have lb := Nat.lt_of_lt_of_le (rt_lt (k := 4000) hb (by rw [Int.natAbs_natCast]; exact bm.2)) (pow_le (show 4000 ≤ 20000 by decide))
      walk_at "r"
      · walk_at "if"
        · rename_i n1
          have e := rt_no ho ht hb (.inl n1)
          subst e
          walk_at "r"
          exact q _ _ s1 rfl
        · rename_i e1
          walk_at "r"
          · walk_at "if"
            · rename_i n1
              have e := rt_no ho ht hb (.inr n1)
              subst e
              walk_at "r"
              exact q _ _ s1 rfl
            · rename_i e2
              obtain ⟨s', rfl, es1, es2⟩ := rt_yes ho ht hb e1 e2
              walk_at "r"
              intro p4 n4
              exact q _ _ (s1.trans (same_upd n4)) (isF_new es1.symm es2.symm)
          · exact cmx lb lb
      · exact cmx lt lt
    · exact cmx (up c1) (up c2)
    · exact cmx (up b1.1) (up b2.1)
def sp_is_it : Sp := fun vs H Q _ => ∃ v u, vs = [v, u] ∧ ((v = .non ∧ u = .non) ∨ ∃ s, IsF H v s ∧ IsF H u s) ∧ Q (.bl true) H
theorem isi_int_bool' {K : PySem.W.Frag} {H : Hp} {Q : VK} {i : Int} (q : Q (.bl false) H) : rIsi K [.int i, .ty "bool"] H Q := isi_int_bool q
theorem ok_l_is_it (T : Txt K mg f_is_integer f_is_row f_is_fraction f_is_some f_multiplied f_squared f_square_root f_is_stall f_root_of f_l_deck f_l_pick f_l_divisor f_l_made f_l_amount f_l_root f_l_due f_l_is_it f_l_deep f_l_odd f_l_place f_law f_BadFraction_init f_Web_init c_BadFraction c_Web d_is_integer d_is_row d_is_fraction d_is_some d_multiplied d_squared d_square_root d_is_stall d_root_of d_l_deck d_l_pick d_l_divisor d_l_made d_l_amount d_l_root d_l_due d_l_is_it d_l_deep d_l_odd d_l_place d_law d_BadFraction_init d_Web_init) : FnOk P w K mg base CX0 1 f_l_is_it d_l_is_it ["_law_thing", "_law_due_here"] sp_is_it := by
  refine T.F_l_is_it.ok sc_l_is_it (fun vs H Q E h => ?_) (fun cdv A outer s H vs Q E hr h => ?_)
  · obtain ⟨v, u, rfl, _⟩ := h
    rfl
  · obtain ⟨v, u, rfl, h, q⟩ := h
    refine ⟨_, (pss_cons (ps_if (pt_cmpR op_isN (pv 1) pe_non (nomark _))
        (pss_one (ps_ret (pe_cmpR op_isN (pv 0) pe_non (nomark _))))
        pss_nil)
      (pss_cons (ps_if (PW.pt (pw_or (pt_not (pt_val (pe_callB call_isi (by rfl) T.z_isinstance (by decide +kernel) (pa_cons (pv 0) (pa_cons (pe_bltn (v := .ty "tuple") (u := .type "tuple") (by rfl) T.z_tuple (by decide +kernel) rfl) pa_nil))))) (pw_or (pt_cmpR op_ne (pe_callB call_lenN (by rfl) T.z_len (by decide +kernel) (pa_cons (pv 0) pa_nil)) pe_int (nomark _)) (pw_or (pt_val (pe_callB call_isi (by rfl) T.z_isinstance (by decide +kernel) (pa_cons (pe_ix ix_tup (pv 0) pe_int (fun _ _ => rfl)) (pa_cons (pe_bltn (v := .ty "bool") (u := .type "bool") (by rfl) T.z_bool (by decide +kernel) rfl) pa_nil)))) (pw_or1 (pt_val (pe_callB call_isi (by rfl) T.z_isinstance (by decide +kernel) (pa_cons (pe_ix ix_tup (pv 0) pe_int (fun _ _ => rfl)) (pa_cons (pe_bltn (v := .ty "bool") (u := .type "bool") (by rfl) T.z_bool (by decide +kernel) rfl) pa_nil)))))))))
        (pss_one (ps_ret pe_bl))
        pss_nil)
      (pss_one (ps_ret (pe_cmpR (op_eqD hr.units) (pv 0) (pv 1) (nomark _)))))), ?_⟩
    rcases h with ⟨rfl, rfl⟩ | ⟨r, h1, h2⟩
    · walk_at "r"
      refine ⟨rfl, ?_⟩
      walk_at "r"
      refine ⟨rfl, ?_⟩
      rw [decide_eq_true rfl]
      exact q
    · obtain ⟨p1, rfl, hp1⟩ := id h1
      obtain ⟨p2, rfl, hp2⟩ := id h2
      walk_at "r"
      refine ⟨rfl, ?_⟩
      rw [decide_eq_false (by intro z; cases z)]
      walk_at "r"
      refine eqF h1 h2 ?_
      rw [decide_eq_true rfl]
      exact q
def sp_place4 (K : PySem.W.Frag) : Sp := fun vs H Q _ => ∃ x y D o1 o2 k, vs = [x, y] ∧ JF K D H x o1 ∧ JF K D H y o2 ∧ pr o1 o2 = some k ∧ ∀ H', Same H H' → Q (.int k) H'
theorem pr_no {o1 o2 : Option Rat} {k : Int} (h : pr o1 o2 = some k) {r t : Rat} (h1 : o1 = some r) (h2 : o2 = some t) (r0 : 0 < r) (t0 : 0 < t) : False := by
  subst h1 h2
  simp [pr, sa, r0, t0] at h
theorem ok_l_place (T : Txt K mg f_is_integer f_is_row f_is_fraction f_is_some f_multiplied f_squared f_square_root f_is_stall f_root_of f_l_deck f_l_pick f_l_divisor f_l_made f_l_amount f_l_root f_l_due f_l_is_it f_l_deep f_l_odd f_l_place f_law f_BadFraction_init f_Web_init c_BadFraction c_Web d_is_integer d_is_row d_is_fraction d_is_some d_multiplied d_squared d_square_root d_is_stall d_root_of d_l_deck d_l_pick d_l_divisor d_l_made d_l_amount d_l_root d_l_due d_l_is_it d_l_deep d_l_odd d_l_place d_law d_BadFraction_init d_Web_init) : FnOk P w K mg base CX0 5 f_l_place d_l_place ["_law_one", "_law_other"] (sp_place4 K) := by
  have G_root_of : FnOk P w K mg base (L2.CX P w) 4 f_root_of d_root_of ["held", "other"] (sp_root_of K c_BadFraction) := ok_root_of T
  refine T.F_l_place.ok sc_l_place (fun vs H Q E h => ?_) (fun cdv A outer s H vs Q E hr h => ?_)
  · obtain ⟨x, y, D, o1, o2, k, rfl, _⟩ := h
    rfl
  · obtain ⟨x, y, D, o1, o2, k, rfl, j1, j2, hk, q⟩ := h
    refine ⟨_, (pss_cons (ps_set (i := 2) sc_l_place.nd rfl (Or.inl rfl) (pe_un un_neg pe_int))
      (pss_cons (ps_try_as (i := 3) (Wout := fun _ _ _ _ => False) rfl rfl sc_l_place.nd rfl rfl ⟨rfl, by decide, .inl T.c_BadFraction.g⟩ takes0 (fun W pn xe tk _ =>
        (pss_one (ps_expr (pe_callS G_root_of (hr.mono (by decide)) (by rfl) T.g_root_of T.k_root_of T.b_root_of (fun σ => passAt tk σ) (pa_cons (pv 0) (pa_cons (pv 1) pa_nil))))))
        (fun a oe cls d pn hz hf =>
        (pss_one (ps_set (i := 2) sc_l_place.nd rfl (Or.inl rfl) (pe_xf T.c_BadFraction.xf T.c_BadFraction.no hz hf (pv 3))))))
      (pss_one (ps_ret (pv 2))))), ?_⟩
    walk_at "r"
    refine ⟨_, _, _, _, _, rfl, j1, j2, fun k' hk' d nd => ?_, fun r t e1 e2 r0 t0 => (pr_no hk e1 e2 r0 t0).elim⟩
    refine ⟨true, T.c_BadFraction.te, fun _ a na => ?_, fun z => Bool.noConfusion z⟩
    walk_at "r"
    refine rd_xf1 upd_same ?_
    walk_at "r"
    rw [hk] at hk'
    cases hk'
    exact q _ (same_upd nd)
end
end My
namespace My
open PySem PySem.Spec PyProof.Rows L2
/-! ### things that are no some amounts -/
def JN (K : PySem.W.Frag) (D : Addr) (H : Hp) (v : V) : Prop := ∃ o, JF K D H v o ∧ sa o = false
theorem jn_of {K : PySem.W.Frag} {D : Addr} {H : Hp} {v : V} (h : NoF K D H v) : JN K D H v := ⟨none, .inr ⟨h, rfl⟩, rfl⟩
theorem jn_lst {K : PySem.W.Frag} {D p : Addr} {H : Hp} {xs : List V} (n : p ≠ D) (h : H p = some (.lst xs)) : JN K D H (.ref p) :=
  jn_of (.not (.lst n h) fun q ys e h2 => by cases e; rw [h] at h2; cases h2)
theorem jn_len {K : PySem.W.Frag} {D p : Addr} {H : Hp} {xs : List V} (n : p ≠ D) (h : H p = some (.tup xs)) (hl : xs.length ≠ 2) : JN K D H (.ref p) :=
  jn_of (.not (.tup n h) fun q ys e h2 => by cases e; rw [h] at h2; cases h2; exact hl)
theorem jn_oi {K : PySem.W.Frag} {D : Addr} {H : Hp} {v : V} (o : Oi K D H v) : JN K D H v := by
  rcases o with ⟨i, rfl, _⟩ | ⟨o, h⟩
  · exact jn_of (.int i)
  · exact jn_of (.not o h)
theorem jn_low {K : PySem.W.Frag} {D p : Addr} {H : Hp} {i j : Int} (n : p ≠ D) (h : H p = some (.tup [.int i, .int j])) (z : ¬ (0 < j ∧ Nat.gcd i.natAbs j.natAbs = 1)) (hj : j.natAbs < 2 ^ 4000) : JN K D H (.ref p) := jn_of (.low n h z hj)
theorem jn_neg {K : PySem.W.Frag} {D p : Addr} {H : Hp} {r : Rat} (h : IsF H (.ref p) r) (b : Bd 4000 r) (hr : ¬ 0 < r) : JN K D H (.ref p) := ⟨some r, .inl ⟨r, h, b, rfl⟩, decide_eq_false hr⟩
theorem JN.fw {K : PySem.W.Frag} {M c : Nat} {D : Addr} {H H' : Hp} {v : V} (j : JN K D H v) (dk : Deck M D H c) (f : Fw D H H') : JN K D H' v := by
  obtain ⟨o, j, e⟩ := j
  exact ⟨o, j.fw dk f, e⟩
structure S4 (K : PySem.W.Frag) (M : Nat) (D : Addr) (c : Nat) (H0 H : Hp) (one : Addr) (r : Rat) (vs : List V) : Prop where
  dk : Deck M D H c
  w : Fw D H0 H
  fo : IsF H (.ref one) r
  B : ∀ v ∈ vs, JN K D H v
theorem S4.fwd {K : PySem.W.Frag} {M c c' : Nat} {D one : Addr} {H0 H H' : Hp} {r : Rat} {vs : List V} (s : S4 K M D c H0 H one r vs) (f : Fw D H H') (d : Deck M D H' c') : S4 K M D c' H0 H' one r vs where
  dk := d
  w := s.w.trans f
  fo := s.fo.fw s.dk f
  B := fun v hv => (s.B v hv).fw s.dk f
theorem S4.skip {K : PySem.W.Frag} {M c : Nat} {D one p : Addr} {H0 H : Hp} {r : Rat} {vs : List V} (s : S4 K M D c H0 H one r vs) {ob : HO} (np : H p = none) : S4 K M D c H0 (upd H p ob) one r vs := s.fwd (Same.fw (same_upd np)) (s.dk.same (same_upd np))
theorem S4.add {K : PySem.W.Frag} {M c : Nat} {D one : Addr} {H0 H : Hp} {r : Rat} {v : V} {vs : List V} (s : S4 K M D c H0 H one r vs) (h : JN K D H v) : S4 K M D c H0 H one r (v :: vs) :=
  ⟨s.dk, s.w, s.fo, fun u hu => by
    rcases List.mem_cons.mp hu with rfl | h2
    · exact h
    · exact s.B u h2⟩
theorem S4.new {K : PySem.W.Frag} {M c : Nat} {D one p : Addr} {H0 H : Hp} {r : Rat} {vs : List V} (s : S4 K M D c H0 H one r vs) {ob : HO} (np : H p = none)
    (h : p ≠ D → (upd H p ob) p = some ob → S4 K M D c H0 (upd H p ob) one r vs → JN K D (upd H p ob) (.ref p)) : S4 K M D c H0 (upd H p ob) one r (.ref p :: vs) :=
  (s.skip np).add (h (s.dk.ne np) upd_same (s.skip np))
section
variable {P : Program} {w : World} {K : PySem.W.Frag} {mg : Str → Option Value} {base : Heap} {f_is_integer f_is_row f_is_fraction f_is_some f_multiplied f_squared f_square_root f_is_stall f_root_of f_l_deck f_l_pick f_l_divisor f_l_made f_l_amount f_l_root f_l_due f_l_is_it f_l_deep f_l_odd f_l_place f_law f_BadFraction_init f_Web_init c_BadFraction c_Web : Addr} {d_is_integer d_is_row d_is_fraction d_is_some d_multiplied d_squared d_square_root d_is_stall d_root_of d_l_deck d_l_pick d_l_divisor d_l_made d_l_amount d_l_root d_l_due d_l_is_it d_l_deep d_l_odd d_l_place d_law d_BadFraction_init d_Web_init : FuncData}
def sp_lodd (K : PySem.W.Frag) (M n : Nat) : Sp := fun vs H Q _ => ∃ (D : Addr) (c : Nat), vs = [.ref D] ∧ Deck M D H c ∧ c ≤ 2 ^ 38 ∧ ∀ H' v, Fw D H H' → Deck M D H' (c + n) → JN K D H' v → Q v H'
theorem ok_l_odd {M : Nat} (hM : 64 ≤ M) (hM2 : M ≤ 1048576) (T : Txt K mg f_is_integer f_is_row f_is_fraction f_is_some f_multiplied f_squared f_square_root f_is_stall f_root_of f_l_deck f_l_pick f_l_divisor f_l_made f_l_amount f_l_root f_l_due f_l_is_it f_l_deep f_l_odd f_l_place f_law f_BadFraction_init f_Web_init c_BadFraction c_Web d_is_integer d_is_row d_is_fraction d_is_some d_multiplied d_squared d_square_root d_is_stall d_root_of d_l_deck d_l_pick d_l_divisor d_l_made d_l_amount d_l_root d_l_due d_l_is_it d_l_deep d_l_odd d_l_place d_law d_BadFraction_init d_Web_init) : FnOk P w K mg base CX0 7 f_l_odd d_l_odd ["_law_deck_here"] (sp_lodd K M 40) := by
  have G_l_pick : FnOk P w K mg base CX0 1 f_l_pick d_l_pick ["_law_deck_here", "_law_many"] (sp_pick M) := ok_pick hM hM2 T
  have G_l_amount : FnOk P w K mg base CX0 3 f_l_amount d_l_amount ["_law_deck_here"] (sp_am M 20) := ok_l_amount hM hM2 T
  have G_l_deep : FnOk P w K mg base CX0 2 f_l_deep d_l_deep ["_law_deck_here"] (sp_odd K M 5) := ok_l_deep hM hM2 T
  have G_Web_init : FnOk P w K mg base CX0 5 f_Web_init d_Web_init ["self", "wares", "stalls"] (sp_web0 c_Web) := ok_Web_init T
  refine T.F_l_odd.ok sc_l_odd (fun vs H Q E h => ?_) (fun cdv A outer s H vs Q E hr h => ?_)
  · obtain ⟨D, c, rfl, _⟩ := h
    rfl
  · obtain ⟨D, c, rfl, dk, hc, q⟩ := h
    refine ⟨_, (pss_cons (ps_set (i := 1) sc_l_odd.nd rfl (Or.inl rfl) (pe_call G_l_amount (hr.mono (by decide)) (by rfl) T.g_l_amount T.k_l_amount T.b_l_amount .nil pass0 (pa_cons (pv 0) pa_nil)))
      (pss_cons (ps_set (i := 2) sc_l_odd.nd rfl (Or.inl rfl) (pe_lst (pa_cons (pe_tup (pa_cons pe_int (pa_cons pe_int pa_nil))) (pa_cons (pe_tup (pa_cons (pe_un un_neg (pe_ix ix_tup (pv 1) pe_int (fun _ _ => rfl))) (pa_cons (pe_ix ix_tup (pv 1) pe_int (fun _ _ => rfl)) pa_nil))) (pa_cons (pe_tup (pa_cons (pe_op op_mulX (pe_ix ix_tup (pv 1) pe_int (fun _ _ => rfl)) pe_int) (pa_cons (pe_op op_mulX (pe_ix ix_tup (pv 1) pe_int (fun _ _ => rfl)) pe_int) pa_nil))) (pa_cons (pe_tup (pa_cons (pe_ix ix_tup (pv 1) pe_int (fun _ _ => rfl)) (pa_cons pe_int pa_nil))) (pa_cons (pe_tup (pa_cons (pe_ix ix_tup (pv 1) pe_int (fun _ _ => rfl)) (pa_cons (pe_un un_neg (pe_ix ix_tup (pv 1) pe_int (fun _ _ => rfl))) pa_nil))) (pa_cons (pe_tup (pa_cons (pe_ix ix_tup (pv 1) pe_int (fun _ _ => rfl)) (pa_cons pe_bl pa_nil))) (pa_cons (pe_callTy call_list_of (by rfl) T.z_list (by decide +kernel) (pa_cons (pv 1) pa_nil)) (pa_cons (pe_op op_catT (pv 1) (pe_tup (pa_cons pe_int pa_nil))) (pa_cons (pe_slice sl_tup (pv 1) po_none (po_some pe_int)) (pa_cons (pe_ix ix_tup (pv 1) pe_int (fun _ _ => rfl)) (pa_cons pe_str (pa_cons pe_non (pa_cons pe_bl (pa_cons pe_dnewK (pa_cons (pe_call G_l_deep (hr.mono (by decide)) (by rfl) T.g_l_deep T.k_l_deep T.b_l_deep .nil pass0 (pa_cons (pv 0) pa_nil)) (pa_cons (pe_make T.w_Web.mks G_Web_init (hr.mono (by decide)) (by rfl) T.w_Web.g T.b_Web_init .nil pass0 (pa_cons pe_int (pa_cons (pe_lst pa_nil) pa_nil))) (pa_cons (pe_tup (pa_cons (pv 1) (pa_cons (pv 1) pa_nil))) pa_nil)))))))))))))))))))
      (pss_one (ps_ret (pe_ix ix_list (pv 2) (pe_call G_l_pick (hr.mono (by decide)) (by rfl) T.g_l_pick T.k_l_pick T.b_l_pick .nil pass0 (pa_cons (pv 0) (pa_cons pe_int pa_nil))) (fun _ _ => rfl)))))), ?_⟩
    walk_at "r"
    refine ⟨_, _, rfl, dk, by omega, fun Ha u r w1 k1 f1 b1 r0 => ?_⟩
    obtain ⟨one, rfl, ho⟩ := id f1
    have s : S4 K M D (c + 20) H Ha one r [] := ⟨k1, w1, f1, fun v hv => absurd hv (by simp)⟩
    clear f1 w1 k1
    have hnp := num_pos' r0
    have hdp := den_pos r
    have up : ∀ {z : Int}, z.natAbs < 2 ^ 480 → z.natAbs < 2 ^ 4000 := fun h => Nat.lt_of_lt_of_le h (pow_le (by decide))
    have hn := up b1.1
    have hd : ((r.den : Int)).natAbs < 2 ^ 4000 := by rw [Int.natAbs_natCast]; exact Nat.lt_of_lt_of_le b1.2 (pow_le (by decide))
    have h480 : ((r.den : Int)).natAbs < 2 ^ 480 := by rw [Int.natAbs_natCast]; exact b1.2
    have hgcd : Nat.gcd (r.num * 2).natAbs ((r.den : Int) * 2).natAbs = 2 := by
      rw [Int.natAbs_mul, Int.natAbs_mul, Int.natAbs_natCast]
      show Nat.gcd (r.num.natAbs * 2) (r.den * 2) = 2
      rw [Nat.gcd_mul_right, gcd_den]
    walk_at "r"
    intro q1 m1
    have s := s.new (ob := .tup [.int 0, .int 1]) m1 fun nd h s => jn_neg (isF_new (r := 0) (by rfl) (by rfl)) ⟨Nat.two_pow_pos _, Nat.one_lt_two_pow (by decide)⟩ (by decide)
    generalize upd Ha q1 (.tup [.int 0, .int 1]) = Hb at *
    have ho := s.fo.at
    walk_at "r"
    intro q2 m2
    have s := s.new (ob := .tup [.int (-r.num), .int r.den]) m2 fun nd h s => jn_neg (isF_new (r := -r) rfl rfl) ((b1.neg).mono (by decide)) (by
      intro z
      have := num_pos' z
      have e : (-r).num = -r.num := rfl
      omega)
    generalize upd Hb q2 (.tup [.int (-r.num), .int r.den]) = Hc at *
    have ho := s.fo.at
    walk_at "r"
    · intro q3 m3
      have s := s.new (ob := .tup [.int (r.num * 2), .int (r.den * 2)]) m3 fun nd h s => jn_low nd h (fun z => by rw [hgcd] at z; exact absurd z.2 (by decide)) (Nat.lt_of_lt_of_le (mul_lt' (l := 2) h480 (by decide)) (pow_le (by decide)))
      generalize upd Hc q3 (.tup [.int (r.num * 2), .int (r.den * 2)]) = Hd at *
      have ho := s.fo.at
      walk_at "r"
      intro q4 m4
      have s := s.new (ob := .tup [.int r.num, .int 0]) m4 fun nd h s => jn_low nd h (fun z => absurd z.1 (by decide)) (Nat.two_pow_pos _)
      generalize upd Hd q4 (.tup [.int r.num, .int 0]) = He at *
      have ho := s.fo.at
      walk_at "r"
      intro q5 m5
      have s := s.new (ob := .tup [.int r.num, .int (-r.den)]) m5 fun nd h s => jn_low nd h (fun z => by have := z.1; omega) (by rw [Int.natAbs_neg]; exact hd)
      generalize upd He q5 (.tup [.int r.num, .int (-r.den)]) = Hf at *
      have ho := s.fo.at
      walk_at "r"
      intro q6 m6
      have s := s.new (ob := .tup [.int r.num, .bl true]) m6 fun nd h s => jn_of (.snd nd h (.bl true))
      generalize upd Hf q6 (.tup [.int r.num, .bl true]) = Hg at *
      have ho := s.fo.at
      walk_at "r"
      refine ⟨_, _, rfl, .inr (.of ho), fun q7 m7 => ?_⟩
      have s := s.new (ob := .lst (frV r)) m7 fun nd h s => jn_lst nd h
      generalize upd Hg q7 (.lst (frV r)) = Hh at *
      have ho := s.fo.at
      walk_at "r"
      intro q8 m8
      have s := s.skip (ob := .tup [.int 1]) m8
      have h8 : upd Hh q8 (.tup [.int 1]) q8 = some (.tup [.int 1]) := upd_same
      generalize upd Hh q8 (.tup [.int 1]) = Hi at *
      have ho := s.fo.at
      walk_at "r"
      refine ⟨_, _, _, _, rfl, rfl, .of ho, .of h8, (by simp), (by show 3 ≤ sizeLine; decide), (fun z => absurd z (by simp)), fun _ q9 m9 => ?_⟩
      have s := s.new (ob := .tup (frV r ++ [.int 1])) m9 fun nd h s => jn_len nd h (by show 3 ≠ 2; decide)
      generalize upd Hi q9 (.tup (frV r ++ [.int 1])) = Hj at *
      have ho := s.fo.at
      walk_at "r"
      refine ⟨_, _, rfl, .of ho, (by show ¬ (HT.sIx 2 0 none = 0 ∧ HT.sIx 2 2 (some 1) = 2); decide), fun q10 m10 => ?_⟩
      have s := s.new (ob := .tup (cutV (frV r) none (some 1))) m10 fun nd h s => jn_len nd h (by show 1 ≠ 2; decide)
      generalize upd Hj q10 (.tup (cutV (frV r) none (some 1))) = Hk at *
      have ho := s.fo.at
      walk_at "r"
      intro q11 m11
      have s := s.new (ob := .dK []) m11 fun nd h s => jn_of (.not (.dK nd h) fun q ys e h2 => by cases e; rw [h] at h2; cases h2)
      generalize upd Hk q11 (.dK []) = Hl at *
      walk_at "r"
      refine ⟨_, _, rfl, s.dk, by omega, fun Hm dv wm km om => ?_⟩
      have s := (s.fwd wm km).add (jn_oi om)
      clear om km wm
      walk_at "r"
      intro p5 n5
      have s := s.skip (ob := .lst []) n5
      have hp5 : upd Hm p5 (.lst []) p5 = some (.lst []) := upd_same
      generalize upd Hm p5 (.lst []) = Hn at *
      walk_at "r"
      intro x dx nx nd ne
      have h5x : p5 ≠ x := ne_of_none hp5 nx
      have h5d : p5 ≠ dx := ne_of_none hp5 nd
      refine ⟨x, dx, p5, 1, rfl, by decide, by decide, upd_same, (upd_ne h5x).trans ((upd_ne h5d).trans hp5), fun Ho fs hx kp => ⟨rfl, ?_⟩⟩
      have s8 : Same Hn Ho := Same.made nx nd kp
      have nxD := s.dk.ne nx
      have s := (s.fwd (Same.fw s8) (s.dk.same s8)).add (jn_of (.not (.ins nxD hx T.w_Web.it) fun q ys e h2 => by cases e; rw [hx] at h2; cases h2))
      clear kp s8
      walk_at "r"
      intro q12 m12
      have s := s.new (ob := .tup [.ref one, .ref one]) m12 fun nd h s => jn_of (.fst nd h (.tup (s.dk.ne' s.fo) s.fo.at))
      generalize upd Ho q12 (.tup [.ref one, .ref one]) = Hq at *
      walk_at "r"
      intro Z nZ
      have hZD := s.dk.ne nZ
      generalize hzs : [V.ref q1, V.ref q2, V.ref q3, V.ref q4, V.ref q5, V.ref q6, V.ref q7, V.ref q9, V.ref q10, V.int r.num, V.str "1", V.non, V.bl true, V.ref q11, dv, V.ref x, V.ref q12] = zs at *
      have s := s.skip (ob := .lst zs) nZ
      have hZ : upd Hq Z (.lst zs) Z = some (.lst zs) := upd_same
      generalize upd Hq Z (.lst zs) = Hr at *
      walk_at "r"
      refine ⟨_, _, _, rfl, ⟨by decide, by decide⟩, s.dk, by omega, fun Hs rs ws ks as bs => ?_⟩
      have hlen2 : zs.length = 17 := by rw [← hzs]; rfl
      obtain ⟨v, hv, ev⟩ := at_any (xs := zs) as (by rw [hlen2]; exact bs)
      refine rd_ixL (ws _ _ hZD hZ) ev ?_
      have j : JN K D Hr v := by
        rw [← hzs] at hv
        simp only [List.mem_cons, List.not_mem_nil, or_false] at hv
        rcases hv with rfl | rfl | rfl | rfl | rfl | rfl | rfl | rfl | rfl | rfl | rfl | rfl | rfl | rfl | rfl | rfl | rfl
        · exact s.B _ (by simp)
        · exact s.B _ (by simp)
        · exact s.B _ (by simp)
        · exact s.B _ (by simp)
        · exact s.B _ (by simp)
        · exact s.B _ (by simp)
        · exact s.B _ (by simp)
        · exact s.B _ (by simp)
        · exact s.B _ (by simp)
        · exact jn_of (.int _)
        · exact jn_of (.not (.str _) fun q ys e => by cases e)
        · exact jn_of (.not .non fun q ys e => by cases e)
        · exact jn_of (.not (.bl _) fun q ys e => by cases e)
        · exact s.B _ (by simp)
        · exact s.B _ (by simp)
        · exact s.B _ (by simp)
        · exact s.B _ (by simp)
      exact q _ _ (s.w.trans ws) (ks.mono (by omega)) (j.fw s.dk ws)
    · exact cmul_big (M := 480) h480 (by decide) (by decide)
    · exact cmul_big (M := 480) b1.1 (by decide) (by decide)
end
end My
namespace My
open PySem PySem.Spec PyProof.Rows L2
theorem isF_pair {H : Hp} {p : Addr} {i j : Int} (h : H p = some (.tup [.int i, .int j])) (h0 : 0 < j) (h1 : Nat.gcd i.natAbs j.natAbs = 1) : IsF H (.ref p) (Rat.divInt i j) := by
  have ej : ((j.natAbs : Nat) : Int) = j := by omega
  obtain ⟨r1, r2⟩ := rat_of (n := i) (d := j.natAbs) (r := Rat.divInt i j) (by omega) h1 (by rw [ej])
  refine ⟨p, rfl, ?_⟩
  show H p = some (.tup [.int (Rat.divInt i j).num, .int (Rat.divInt i j).den])
  rw [r1, r2, ej]
  exact h
theorem back_root (r f : Rat) (hf : 0 < f) : r * f * Rat.divInt (r.num * f.den) (r.den * f.num) = r * r := by
  have h0 : f.num * f.den ≠ 0 := Int.ne_of_gt (Int.mul_pos (num_pos' hf) (den_pos f))
  rw [← divInt_mul' r f, ← divInt_mul' r r, Rat.divInt_mul_divInt]
  rw [show r.num * f.num * (r.num * f.den) = r.num * r.num * (f.num * f.den) by grind, show (r.den : Int) * f.den * (r.den * f.num) = (r.den : Int) * r.den * (f.num * f.den) by grind]
  exact Rat.divInt_mul_right h0
theorem it_of {H : Hp} {v u : V} {o : Option Rat} (h1 : It H v o) (h2 : It H u o) : (v = .non ∧ u = .non) ∨ ∃ s, IsF H v s ∧ IsF H u s := by
  cases o with
  | none => exact .inl ⟨h1, h2⟩
  | some s => exact .inr ⟨s, h1, h2⟩
theorem it_same {H H' : Hp} {u : V} {o : Option Rat} (s : Same H H') (h : It H u o) : It H' u o := by
  cases o with
  | none => exact h
  | some t => exact IsF.same s h
abbrev d010 : PyData := .list [.int 0, .int 1, .int 0]
theorem d010_dp {K : PySem.W.Frag} {H : Hp} {p : Addr} (h : H p = some (.lst [.int 0, .int 1, .int 0])) : Dp K H (.ref p) d010 := .lst (.of h) (.cons (.int _) (.cons (.int _) (.cons (.int _) .nil)))
theorem d010_sh : SeqAt.shaped d010 = true := by decide +kernel
theorem d010_eqv : PyData.eqv d010 d010 = true := by simp [d010, PyData.eqv, PyData.eqvAll]
theorem JF.same {K : PySem.W.Frag} {D : Addr} {H H' : Hp} {v : V} {o : Option Rat} (j : JF K D H v o) (s : Same H H') : JF K D H' v o := by
  rcases j with ⟨r, h, b, e⟩ | ⟨h, e⟩
  · exact .inl ⟨r, h.same s, b, e⟩
  · exact .inr ⟨h.fw (Same.fw s), e⟩
section
variable {P : Program} {w : World} {K : PySem.W.Frag} {mg : Str → Option Value} {base : Heap} {f_is_integer f_is_row f_is_fraction f_is_some f_multiplied f_squared f_square_root f_is_stall f_root_of f_l_deck f_l_pick f_l_divisor f_l_made f_l_amount f_l_root f_l_due f_l_is_it f_l_deep f_l_odd f_l_place f_law f_BadFraction_init f_Web_init c_BadFraction c_Web : Addr} {d_is_integer d_is_row d_is_fraction d_is_some d_multiplied d_squared d_square_root d_is_stall d_root_of d_l_deck d_l_pick d_l_divisor d_l_made d_l_amount d_l_root d_l_due d_l_is_it d_l_deep d_l_odd d_l_place d_law d_BadFraction_init d_Web_init : FuncData}
def sp_law (K : PySem.W.Frag) : Sp := fun vs H Q _ => ∃ (a : Addr) (ns : List Int), vs = [.ref a] ∧ SqL K H a (ns.map V.int) ∧ ns.length ≤ 63 ∧ (∀ z ∈ ns, Builtin.Int.intBits z ≤ 1048576) ∧ ∀ H', Q (.bl true) H'
theorem jf_is {K : PySem.W.Frag} {D : Addr} {H : Hp} {v : V} {r : Rat} {k : Nat} (h : IsF H v r) (b : Bd k r) (hk : k ≤ 4000) : JF K D H v (some r) := .inl ⟨r, h, b.mono hk, rfl⟩
/-- root_of of two fractions above 0 -/
theorem go_root {K : PySem.W.Frag} {C D : Addr} {H : Hp} {x y : V} {r t : Rat} {o : Option Rat} {Q : VK} {E : XK} (h1 : IsF H x r) (h2 : IsF H y t) (b1 : Bd 4000 r) (b2 : Bd 4000 t) (r0 : 0 < r) (t0 : 0 < t) (ho : Rt (r * t) o) (q : RtQ o H Q) : sp_root_of K C [x, y] H Q E :=
  ⟨x, y, D, some r, some t, rfl, .inl ⟨r, h1, b1, rfl⟩, .inl ⟨t, h2, b2, rfl⟩, fun k hk d nd => (pr_no hk rfl rfl r0 t0).elim, fun r' t' e1 e2 _ _ => by
    cases e1
    cases e2
    exact ⟨o, ho, q⟩⟩
theorem ok_law (T : Txt K mg f_is_integer f_is_row f_is_fraction f_is_some f_multiplied f_squared f_square_root f_is_stall f_root_of f_l_deck f_l_pick f_l_divisor f_l_made f_l_amount f_l_root f_l_due f_l_is_it f_l_deep f_l_odd f_l_place f_law f_BadFraction_init f_Web_init c_BadFraction c_Web d_is_integer d_is_row d_is_fraction d_is_some d_multiplied d_squared d_square_root d_is_stall d_root_of d_l_deck d_l_pick d_l_divisor d_l_made d_l_amount d_l_root d_l_due d_l_is_it d_l_deep d_l_odd d_l_place d_law d_BadFraction_init d_Web_init) : FnOk P w K mg base CX0 8 f_law d_law ["_law_script"] (sp_law K) := by
  have G_l_deck : FnOk P w K mg base CX0 1 f_l_deck d_l_deck ["_law_script"] (sp_deck K) := ok_l_deck T
  have G_l_pick : FnOk P w K mg base CX0 1 f_l_pick d_l_pick ["_law_deck_here", "_law_many"] (sp_pick 1048576) := ok_pick (by decide) (by decide) T
  have G_l_amount : FnOk P w K mg base CX0 3 f_l_amount d_l_amount ["_law_deck_here"] (sp_am 1048576 20) := ok_l_amount (by decide) (by decide) T
  have G_l_made : FnOk P w K mg base CX0 2 f_l_made d_l_made ["_law_top", "_law_bottom"] sp_made := ok_l_made T
  have G_l_is_it : FnOk P w K mg base CX0 1 f_l_is_it d_l_is_it ["_law_thing", "_law_due_here"] sp_is_it := ok_l_is_it T
  have G_l_due : FnOk P w K mg base CX0 3 f_l_due d_l_due ["_law_one", "_law_other"] sp_ldue := ok_l_due T
  have G_l_odd : FnOk P w K mg base CX0 7 f_l_odd d_l_odd ["_law_deck_here"] (sp_lodd K 1048576 40) := ok_l_odd (by decide) (by decide) T
  have G_l_place : FnOk P w K mg base CX0 5 f_l_place d_l_place ["_law_one", "_law_other"] (sp_place4 K) := ok_l_place T
  have G_root_of : FnOk P w K mg base (L2.CX P w) 4 f_root_of d_root_of ["held", "other"] (sp_root_of K c_BadFraction) := ok_root_of T
  refine T.F_law.ok sc_law (fun vs H Q E h => ?_) (fun cdv A outer sh H vs Q E hr h => ?_)
  · obtain ⟨a, ns, rfl, _⟩ := h
    rfl
  · obtain ⟨a, ns, rfl, hS, hl, hb, q⟩ := h
    refine ⟨_, (pss_cons (ps_set (i := 1) sc_law.nd rfl (Or.inl rfl) (pe_call G_l_deck (hr.mono (by decide)) (by rfl) T.g_l_deck T.k_l_deck T.b_l_deck .nil pass0 (pa_cons (pv 0) pa_nil)))
      (pss_cons (ps_for PassesOwn.never rfl (pi_range1 (by rfl) T.z_range (pa_cons (pe_op op_add pe_int (pe_callB (call_minN rfl) (by rfl) T.z_min (by decide +kernel) (pa_cons (pe_callB call_lenN (by rfl) T.z_len (by decide +kernel) (pa_cons (pv 0) pa_nil)) (pa_cons pe_int pa_nil)))) pa_nil)) (pg_name (i := 2) sc_law.nd rfl (Or.inl rfl))
        (pss_cons (ps_set (i := 3) sc_law.nd rfl (Or.inl rfl) (pe_call G_l_amount (hr.mono (by decide)) (by rfl) T.g_l_amount T.k_l_amount T.b_l_amount .nil pass0 (pa_cons (pv 1) pa_nil)))
          (pss_cons (ps_set (i := 4) sc_law.nd rfl (Or.inl rfl) (pe_call G_l_amount (hr.mono (by decide)) (by rfl) T.g_l_amount T.k_l_amount T.b_l_amount .nil pass0 (pa_cons (pv 1) pa_nil)))
          (pss_cons (ps_set (i := 5) sc_law.nd rfl (Or.inl rfl) (pe_call G_l_made (hr.mono (by decide)) (by rfl) T.g_l_made T.k_l_made T.b_l_made .nil pass0 (pa_cons (pe_op op_mulX (pe_ix ix_tup (pv 3) pe_int (fun _ _ => rfl)) (pe_ix ix_tup (pv 4) pe_int (fun _ _ => rfl))) (pa_cons (pe_op op_mulX (pe_ix ix_tup (pv 3) pe_int (fun _ _ => rfl)) (pe_ix ix_tup (pv 4) pe_int (fun _ _ => rfl))) pa_nil))))
          (pss_cons (ps_set (i := 6) sc_law.nd rfl (Or.inl rfl) (pe_call G_l_made (hr.mono (by decide)) (by rfl) T.g_l_made T.k_l_made T.b_l_made .nil pass0 (pa_cons (pe_op op_mulX (pe_ix ix_tup (pv 3) pe_int (fun _ _ => rfl)) (pe_ix ix_tup (pv 4) pe_int (fun _ _ => rfl))) (pa_cons (pe_op op_mulX (pe_ix ix_tup (pv 3) pe_int (fun _ _ => rfl)) (pe_ix ix_tup (pv 4) pe_int (fun _ _ => rfl))) pa_nil))))
          (pss_cons (ps_if (PW.pt (pw_or (pt_not (pt_val (pe_call G_l_is_it (hr.mono (by decide)) (by rfl) T.g_l_is_it T.k_l_is_it T.b_l_is_it .nil pass0 (pa_cons (pe_call G_root_of (hr.mono (by decide)) (by rfl) T.g_root_of T.k_root_of T.b_root_of .nil passL (pa_cons (pv 5) (pa_cons (pv 6) pa_nil))) (pa_cons (pv 3) pa_nil))))) (pw_or1 (pt_not (pt_val (pe_call G_l_is_it (hr.mono (by decide)) (by rfl) T.g_l_is_it T.k_l_is_it T.b_l_is_it .nil pass0 (pa_cons (pe_call G_root_of (hr.mono (by decide)) (by rfl) T.g_root_of T.k_root_of T.b_root_of .nil passL (pa_cons (pv 6) (pa_cons (pv 5) pa_nil))) (pa_cons (pv 3) pa_nil))))))))
            (pss_one (ps_ret pe_bl))
            pss_nil)
          (pss_cons (ps_set (i := 7) sc_law.nd rfl (Or.inl rfl) (pe_ix ix_list (pe_lst (pa_cons (pe_call G_l_amount (hr.mono (by decide)) (by rfl) T.g_l_amount T.k_l_amount T.b_l_amount .nil pass0 (pa_cons (pv 1) pa_nil)) (pa_cons (pe_tup (pa_cons (pe_op op_add (pe_ix ix_tup (pv 6) pe_int (fun _ _ => rfl)) pe_int) (pa_cons pe_int pa_nil))) (pa_cons (pe_tup (pa_cons pe_int (pa_cons (pe_op op_add (pe_ix ix_tup (pv 6) pe_int (fun _ _ => rfl)) pe_int) pa_nil))) pa_nil)))) (pe_call G_l_pick (hr.mono (by decide)) (by rfl) T.g_l_pick T.k_l_pick T.b_l_pick .nil pass0 (pa_cons (pv 1) (pa_cons pe_int pa_nil))) (fun _ _ => rfl)))
          (pss_cons (ps_set (i := 8) sc_law.nd rfl (Or.inl rfl) (pe_call G_l_due (hr.mono (by decide)) (by rfl) T.g_l_due T.k_l_due T.b_l_due .nil pass0 (pa_cons (pv 5) (pa_cons (pv 7) pa_nil))))
          (pss_cons (ps_if (PW.pt (pw_or (pt_not (pt_val (pe_call G_l_is_it (hr.mono (by decide)) (by rfl) T.g_l_is_it T.k_l_is_it T.b_l_is_it .nil pass0 (pa_cons (pe_call G_root_of (hr.mono (by decide)) (by rfl) T.g_root_of T.k_root_of T.b_root_of .nil passL (pa_cons (pv 5) (pa_cons (pv 7) pa_nil))) (pa_cons (pv 8) pa_nil))))) (pw_or1 (pt_not (pt_val (pe_call G_l_is_it (hr.mono (by decide)) (by rfl) T.g_l_is_it T.k_l_is_it T.b_l_is_it .nil pass0 (pa_cons (pe_call G_root_of (hr.mono (by decide)) (by rfl) T.g_root_of T.k_root_of T.b_root_of .nil passL (pa_cons (pv 7) (pa_cons (pv 5) pa_nil))) (pa_cons (pv 8) pa_nil))))))))
            (pss_one (ps_ret pe_bl))
            pss_nil)
          (pss_cons (ps_if (pt_not (pt_val (pe_call G_l_is_it (hr.mono (by decide)) (by rfl) T.g_l_is_it T.k_l_is_it T.b_l_is_it .nil pass0 (pa_cons (pe_call G_root_of (hr.mono (by decide)) (by rfl) T.g_root_of T.k_root_of T.b_root_of .nil passL (pa_cons (pv 7) (pa_cons (pv 7) pa_nil))) (pa_cons (pv 7) pa_nil)))))
            (pss_one (ps_ret pe_bl))
            pss_nil)
          (pss_cons (ps_set (i := 9) sc_law.nd rfl (Or.inl rfl) (pe_call G_l_odd (hr.mono (by decide)) (by rfl) T.g_l_odd T.k_l_odd T.b_l_odd .nil pass0 (pa_cons (pv 1) pa_nil)))
          (pss_one (ps_if (pt_cmpR (op_neD hr.units) (pe_lst (pa_cons (pe_call G_l_place (hr.mono (by decide)) (by rfl) T.g_l_place T.k_l_place T.b_l_place .nil pass0 (pa_cons (pv 9) (pa_cons (pv 5) pa_nil))) (pa_cons (pe_call G_l_place (hr.mono (by decide)) (by rfl) T.g_l_place T.k_l_place T.b_l_place .nil pass0 (pa_cons (pv 5) (pa_cons (pv 9) pa_nil))) (pa_cons (pe_call G_l_place (hr.mono (by decide)) (by rfl) T.g_l_place T.k_l_place T.b_l_place .nil pass0 (pa_cons (pv 9) (pa_cons (pe_call G_l_odd (hr.mono (by decide)) (by rfl) T.g_l_odd T.k_l_odd T.b_l_odd .nil pass0 (pa_cons (pv 1) pa_nil)) pa_nil))) pa_nil)))) (pe_lst (pa_cons pe_int (pa_cons pe_int (pa_cons pe_int pa_nil)))) (nomark _))
            (pss_one (ps_ret pe_bl))
            pss_nil)))))))))))))
      (pss_one (ps_ret (pe_and (pe_cmpR (op_eqD hr.units) (pe_call G_root_of (hr.mono (by decide)) (by rfl) T.g_root_of T.k_root_of T.b_root_of .nil passL (pa_cons (pe_tup (pa_cons pe_int (pa_cons pe_int pa_nil))) (pa_cons (pe_tup (pa_cons pe_int (pa_cons pe_int pa_nil))) pa_nil))) (pe_tup (pa_cons pe_int (pa_cons pe_int pa_nil))) (nomark _)) (pe_one (pe_cmpR op_isN (pe_call G_root_of (hr.mono (by decide)) (by rfl) T.g_root_of T.k_root_of T.b_root_of .nil passL (pa_cons (pe_tup (pa_cons pe_int (pa_cons pe_int pa_nil))) (pa_cons (pe_tup (pa_cons pe_int (pa_cons pe_int pa_nil))) pa_nil))) pe_non (nomark _)))))))), ?_⟩
    walk_at "r"
    refine ⟨_, _, rfl, hS, hl, hb, fun H1 D s1 k1 => ?_⟩
    walk_at "r"
    refine rd_lenS ?_ (s1.seq hS)
    walk_at "r"
    have hm : min ((ns.map V.int).length : Int) 12 ≤ 12 := Int.min_le_right _ _
    refine ⟨by omega, by omega, ?_⟩
    refine for_range (lo := 0) (n := (3 + min ((ns.map V.int).length : Int) 12).toNat) (fun i σ H' => ∃ (t2 t3 t4 t5 t6 t7 t8 t9 : Option V), σ = [some (.ref a), some (.ref D), t2, t3, t4, t5, t6, t7, t8, t9] ∧ Deck 1048576 D H' (200 * i)) ?_ ?_ ?_
    · exact ⟨_, _, _, _, _, _, _, _, rfl, k1⟩
    · rintro i σ H' hi ⟨t2, t3, t4, t5, t6, t7, t8, t9, rfl, k⟩
      have hi2 : i < 15 := by omega
      have p480 : ∀ {z : Int}, z.natAbs < 2 ^ 480 → z.natAbs < 2 ^ 20000 := fun h => Nat.lt_of_lt_of_le h (pow_le (by decide))
      walk_at "r"
      refine ⟨_, _, rfl, k, by omega, fun H2 root r w2 k2 fr br r0 => ?_⟩
      walk_at "r"
      refine ⟨_, _, rfl, k2, by omega, fun H3 fac f w3 k3 ff bf f0 => ?_⟩
      have fr := fr.fw k2 w3
      have rd4 : ((r.den : Int)).natAbs < 2 ^ 480 := by rw [Int.natAbs_natCast]; exact br.2
      have fd4 : ((f.den : Int)).natAbs < 2 ^ 480 := by rw [Int.natAbs_natCast]; exact bf.2
      have rn0 := num_pos' r0
      have fn0 := num_pos' f0
      have rd0 := den_pos r
      have fd0 := den_pos f
      obtain ⟨pr1, rfl, hpr⟩ := id fr
      obtain ⟨pf1, rfl, hpf⟩ := id ff
      clear k k2
      walk_at "r"
      rotate_left
      · exact cmx (p480 rd4) (p480 fd4)
      · exact cmx (p480 br.1) (p480 bf.1)
      refine ⟨_, _, rfl, Int.mul_pos rd0 fd0, Nat.lt_of_lt_of_le (mul_lt' rd4 fd4) (pow_le (by decide)), fun H4 one s4 h1 => ?_⟩
      rw [divInt_mul'] at h1
      have fr := fr.same s4
      have ff := ff.same s4
      have k4 := k3.same s4
      have hpr := s4 _ _ hpr
      have hpf := s4 _ _ hpf
      have b1 : Bd 960 (r * f) := br.mul bf
      have p1 : 0 < r * f := Rat.mul_pos r0 f0
      clear k3 s4
      walk_at "r"
      rotate_left
      · exact cmx (p480 rd4) (p480 bf.1)
      · exact cmx (p480 br.1) (p480 fd4)
      refine ⟨_, _, rfl, Int.mul_pos rd0 fn0, Nat.lt_of_lt_of_le (mul_lt' rd4 bf.1) (pow_le (by decide)), fun H5 other s5 h2 => ?_⟩
      have e12 := back_root r f f0
      have b2 : Bd 960 (Rat.divInt (r.num * f.den) (r.den * f.num)) := Bd.divInt (Int.ne_of_gt (Int.mul_pos rd0 fn0)) (mul_lt' br.1 fd4) (mul_lt' rd4 bf.1)
      have p2 : 0 < Rat.divInt (r.num * f.den) (r.den * f.num) := divInt_pos (Int.mul_pos rn0 fd0) (Int.mul_pos rd0 fn0)
      have fr := fr.same s5
      have h1 := h1.same s5
      have k5 := k4.same s5
      clear ff hpf hpr k4 s5 rd4 fd4 rn0 fn0 rd0 fd0
      generalize Rat.divInt (r.num * f.den) (r.den * f.num) = R2 at *
      generalize r * f = R1 at *
      have b1' : Bd 4000 R1 := b1.mono (by decide)
      have b2' : Bd 4000 R2 := b2.mono (by decide)
      walk_at "r"
      refine go_root (D := D) (o := some r) h1 h2 b1' b2' p1 p2 ⟨Rat.le_of_lt r0, e12.symm⟩ fun H6 v6 s6 h6 => ?_
      walk_at "r"
      refine ⟨_, _, rfl, .inr ⟨r, h6, fr.same s6⟩, ?_⟩
      have h1 := h1.same s6
      have h2 := h2.same s6
      have fr := fr.same s6
      have k6 := k5.same s6
      clear h6 k5 s6
      walk_at "r"
      refine go_root (D := D) (o := some r) h2 h1 b2' b1' p2 p1 ⟨Rat.le_of_lt r0, by rw [Rat.mul_comm R2 R1]; exact e12.symm⟩ fun H7 v7 s7 h7 => ?_
      walk_at "r"
      refine ⟨_, _, rfl, .inr ⟨r, h7, fr.same s7⟩, ?_⟩
      have h1 := h1.same s7
      have h2 := h2.same s7
      have k7 := k6.same s7
      clear h7 k6 s7 fr e12
      obtain ⟨po, rfl, hpo⟩ := id h2
      walk_at "r"
      refine ⟨_, _, rfl, k7, by omega, fun H8 th t8 w8 k8 f8 b8 p8 => ?_⟩
      have h1 := h1.fw k7 w8
      have h2 := h2.fw k7 w8
      have hpo := h2.at
      have n2 := num_pos' p2
      have d2 := den_pos R2
      clear k7 w8
      walk_at "r"
      intro q1 m1
      have g1 : IsF (upd H8 q1 (.tup [.int (R2.num + 1), .int 1])) (.ref q1) (Rat.divInt (R2.num + 1) 1) := isF_pair upd_same (by decide) (Nat.gcd_one_right _)
      have sm := same_upd (o := .tup [.int (R2.num + 1), .int 1]) m1
      have h1 := h1.same sm
      have h2 := h2.same sm
      have f8 := f8.same sm
      have k9 := k8.same sm
      generalize upd H8 q1 (.tup [.int (R2.num + 1), .int 1]) = H9 at *
      have hpo := h2.at
      clear sm k8
      walk_at "r"
      intro q2 m2
      have g2 : IsF (upd H9 q2 (.tup [.int 1, .int (R2.den + 1)])) (.ref q2) (Rat.divInt 1 (R2.den + 1)) := isF_pair upd_same (by omega) (Nat.gcd_one_left _)
      have sm := same_upd (o := .tup [.int 1, .int (R2.den + 1)]) m2
      have h1 := h1.same sm
      have f8 := f8.same sm
      have g1 := g1.same sm
      have ka := k9.same sm
      generalize upd H9 q2 (.tup [.int 1, .int (R2.den + 1)]) = Ha at *
      clear sm k9 h2 hpo
      walk_at "r"
      intro L nL
      have hLD := ka.ne nL
      have sm := same_upd (o := .lst [th, .ref q1, .ref q2]) nL
      have h1 := h1.same sm
      have f8 := f8.same sm
      have g1 := g1.same sm
      have g2 := g2.same sm
      have kb := ka.same sm
      have hL : upd Ha L (.lst [th, .ref q1, .ref q2]) L = some (.lst [th, .ref q1, .ref q2]) := upd_same
      generalize upd Ha L (.lst [th, .ref q1, .ref q2]) = Hb at *
      clear sm ka
      walk_at "r"
      refine ⟨_, _, _, rfl, ⟨by decide, by decide⟩, kb, by omega, fun Hc rc wc kc ac bc => ?_⟩
      obtain ⟨third, hth, eth⟩ := at_any (xs := [th, .ref q1, .ref q2]) ac bc
      refine rd_ixL (wc _ _ hLD hL) eth ?_
      obtain ⟨t, ft, bt, p3⟩ : ∃ t, IsF Hc third t ∧ Bd 961 t ∧ 0 < t := by
        simp only [List.mem_cons, List.not_mem_nil, or_false] at hth
        rcases hth with rfl | rfl | rfl
        · exact ⟨_, f8.fw kb wc, b8.mono (by decide), p8⟩
        · refine ⟨_, g1.fw kb wc, Bd.divInt (by decide) ?_ (Nat.one_lt_two_pow (by decide)), divInt_pos (by omega) (by decide)⟩
          have := b2.1
          rw [show (2 : Nat) ^ 961 = 2 ^ 960 * 2 from Nat.pow_succ ..]
          omega
        · refine ⟨_, g2.fw kb wc, Bd.divInt (by omega) (Nat.one_lt_two_pow (by decide)) ?_, divInt_pos (by decide) (by omega)⟩
          have := b2.2
          rw [show (2 : Nat) ^ 961 = 2 ^ 960 * 2 from Nat.pow_succ ..]
          omega
      have h1 := h1.fw kb wc
      clear f8 g1 g2 hL eth hth kb wc b8 p8 n2 d2 b2 b2' p2
      obtain ⟨o, ho⟩ := rt_ex (R1 * t)
      have bt' : Bd 4000 t := bt.mono (by decide)
      walk_at "r"
      refine ⟨_, _, _, _, o, rfl, h1, ft, b1.mono (by decide), bt.mono (by decide), p1, p3, ho, fun Hd du sd hdu => ?_⟩
      have h1 := h1.same sd
      have ft := ft.same sd
      have kd := kc.same sd
      clear kc sd
      walk_at "r"
      refine go_root (D := D) (o := o) h1 ft b1' bt' p1 p3 ho fun He v9 se h9 => ?_
      walk_at "r"
      have hdu := it_same se hdu
      refine ⟨_, _, rfl, it_of h9 hdu, ?_⟩
      have h1 := h1.same se
      have ft := ft.same se
      have ke := kd.same se
      clear kd se h9
      walk_at "r"
      refine go_root (D := D) (o := o) ft h1 bt' b1' p3 p1 (by rw [Rat.mul_comm]; exact ho) fun Hf v10 sf h10 => ?_
      walk_at "r"
      refine ⟨_, _, rfl, it_of h10 (it_same sf hdu), ?_⟩
      have h1 := h1.same sf
      have ft := ft.same sf
      have kf := ke.same sf
      clear ke sf h10 hdu ho
      walk_at "r"
      refine go_root (D := D) (o := some t) ft ft bt' bt' p3 p3 ⟨Rat.le_of_lt p3, rfl⟩ fun Hg v11 sg h11 => ?_
      walk_at "r"
      refine ⟨_, _, rfl, .inr ⟨t, h11, ft.same sg⟩, ?_⟩
      have h1 := h1.same sg
      have kg := kf.same sg
      clear ft kf sg h11
      walk_at "r"
      refine ⟨_, _, rfl, kg, by omega, fun Hh od wh kh jo => ?_⟩
      have h1 := h1.fw kg wh
      obtain ⟨oo, jo, eo⟩ := jo
      clear kg wh
      have j1 : JF K D Hh one (some R1) := .inl ⟨R1, h1, b1', rfl⟩
      have e1 : sa (some R1) = true := decide_eq_true p1
      walk_at "r"
      refine ⟨_, _, _, _, _, 0, rfl, jo, j1, by simp [pr, eo], fun Hi si => ?_⟩
      have jo := jo.same si
      have j1 := j1.same si
      have ki := kh.same si
      clear kh si h1
      walk_at "r"
      refine ⟨_, _, _, _, _, 1, rfl, j1, jo, by simp [pr, eo, e1], fun Hj sj => ?_⟩
      have jo := jo.same sj
      have kj := ki.same sj
      clear ki sj j1
      walk_at "r"
      refine ⟨_, _, rfl, kj, by omega, fun Hk od2 wk kk jo2 => ?_⟩
      have jo := jo.fw kj wk
      obtain ⟨oo2, jo2, eo2⟩ := jo2
      clear kj wk
      walk_at "r"
      refine ⟨_, _, _, _, _, 0, rfl, jo, jo2, by simp [pr, eo], fun Hl sl => ?_⟩
      have kl := kk.same sl
      clear kk sl jo jo2
      walk_at "r"
      intro l1 n1
      walk_at "r"
      intro l2 n2
      have km := (kl.same (same_upd (o := .lst [V.int 0, V.int 1, V.int 0]) n1)).same (same_upd (o := .lst [V.int 0, V.int 1, V.int 0]) n2)
      refine ⟨d010, d010, d010_dp (same_upd n2 _ _ upd_same), d010_dp upd_same, d010_sh, d010_sh, ?_⟩
      rw [d010_eqv]
      walk_at "r"
      exact ⟨_, _, _, _, _, _, _, _, rfl, km.mono (by omega)⟩
    · rintro σ H' ⟨t2, t3, t4, t5, t6, t7, t8, t9, rfl, k⟩
      walk_at "r"
      intro p1 n1
      have f1 : IsF _ (.ref p1) (Rat.divInt 1 2) := isF_new (H := H') (p := p1) (r := Rat.divInt 1 2) (a := 1) (b := 2) (by decide) (by decide)
      generalize upd H' p1 (.tup [.int 1, .int 2]) = H2 at *
      walk_at "r"
      intro p2 n2
      have f2 : IsF _ (.ref p2) 8 := isF_new (H := H2) (p := p2) (r := 8) (a := 8) (b := 1) (by rfl) (by rfl)
      have f1 := f1.same (same_upd (o := .tup [.int 8, .int 1]) n2)
      generalize upd H2 p2 (.tup [.int 8, .int 1]) = H3 at *
      walk_at "r"
      have bd2 : ∀ {n : Nat}, n < 16 → n < 2 ^ 4000 := fun h => Nat.lt_of_lt_of_le h (pow_le (a := 4) (by decide))
      refine go_root (D := D) (o := some 2) f1 f2 ⟨bd2 (by decide), bd2 (by decide)⟩ ⟨bd2 (by decide), bd2 (by decide)⟩ (by decide) (by decide) ⟨by decide, by decide +kernel⟩ fun H4 v s4 h4 => ?_
      walk_at "r"
      intro p3 n3
      refine eqF (IsF.same (same_upd n3) h4) (isF_new (r := 2) (by rfl) (by rfl)) ?_
      walk_at "r"
      intro p4 n4
      generalize upd H4 p3 (.tup [.int 2, .int 1]) = H5 at *
      have f4 : IsF _ (.ref p4) 1 := isF_new (H := H5) (p := p4) (r := 1) (a := 1) (b := 1) (by rfl) (by rfl)
      generalize upd H5 p4 (.tup [.int 1, .int 1]) = H6 at *
      walk_at "r"
      intro p5 n5
      have f5 : IsF _ (.ref p5) 2 := isF_new (H := H6) (p := p5) (r := 2) (a := 2) (b := 1) (by rfl) (by rfl)
      have f4 := f4.same (same_upd (o := .tup [.int 2, .int 1]) n5)
      generalize upd H6 p5 (.tup [.int 2, .int 1]) = H7 at *
      walk_at "r"
      refine go_root (D := D) (o := none) f4 f5 ⟨bd2 (by decide), bd2 (by decide)⟩ ⟨bd2 (by decide), bd2 (by decide)⟩ (by decide) (by decide) (by rw [Rat.one_mul]; exact no2) fun H8 v s8 h8 => ?_
      obtain rfl : v = .non := h8
      walk_at "r"
      refine ⟨rfl, ?_⟩
      rw [decide_eq_true rfl]
      exact q _
theorem ok_all (T : Txt K mg f_is_integer f_is_row f_is_fraction f_is_some f_multiplied f_squared f_square_root f_is_stall f_root_of f_l_deck f_l_pick f_l_divisor f_l_made f_l_amount f_l_root f_l_due f_l_is_it f_l_deep f_l_odd f_l_place f_law f_BadFraction_init f_Web_init c_BadFraction c_Web d_is_integer d_is_row d_is_fraction d_is_some d_multiplied d_squared d_square_root d_is_stall d_root_of d_l_deck d_l_pick d_l_divisor d_l_made d_l_amount d_l_root d_l_due d_l_is_it d_l_deep d_l_odd d_l_place d_law d_BadFraction_init d_Web_init) : FnOk P w K mg base CX0 8 f_law d_law ["_law_script"] (sp_law K) := ok_law T
end
end My
namespace My
open PySem PySem.Spec PyProof.Rows L2
theorem all_mk {l : PySem.W.OpenLaw} {w : World} {K : PySem.W.Frag} {h : Heap} {mg : Str → Option Value} {fa : Addr} (X : K.In h) (G : h.Ns mainGlobals mg) (hfa : mg "law" = some (.ref fa))
    {c_BadFraction : Addr} {nm_BadFraction q_BadFraction : Str} {N_BadFraction : Addr} {bs_BadFraction bm_BadFraction : List Value} {sn_BadFraction : List Str} {sub_BadFraction : List Value} {ab_BadFraction : Bool} {col_BadFraction : Option Bool} {dd_BadFraction : Option Addr} {k0_BadFraction k1_BadFraction k2_BadFraction k3_BadFraction k5_BadFraction : Option Value}
    {c_Web : Addr}
    {tk_MOST_STALLS : Tok}
    {tk_MOST_WARES : Tok}
    {od0 an0 : Option Addr} {sl0 : Array (Option Value)} {oc0 kV0 dc0 pm0 cd0 ct0 : Value} {f_is_integer : Addr}
    {od1 an1 : Option Addr} {sl1 : Array (Option Value)} {oc1 kV1 dc1 pm1 cd1 ct1 : Value} {f_is_row : Addr}
    {od2 an2 : Option Addr} {sl2 : Array (Option Value)} {oc2 kV2 dc2 pm2 cd2 ct2 : Value} {f_is_fraction : Addr}
    {od3 an3 : Option Addr} {sl3 : Array (Option Value)} {oc3 kV3 dc3 pm3 cd3 ct3 : Value} {f_is_some : Addr}
    {od4 an4 : Option Addr} {sl4 : Array (Option Value)} {oc4 kV4 dc4 pm4 cd4 ct4 : Value} {f_multiplied : Addr}
    {od5 an5 : Option Addr} {sl5 : Array (Option Value)} {oc5 kV5 dc5 pm5 cd5 ct5 : Value} {f_squared : Addr}
    {od6 an6 : Option Addr} {sl6 : Array (Option Value)} {oc6 kV6 dc6 pm6 cd6 ct6 : Value} {f_square_root : Addr}
    {od7 an7 : Option Addr} {sl7 : Array (Option Value)} {oc7 kV7 dc7 pm7 cd7 ct7 : Value} {f_is_stall : Addr}
    {od8 an8 : Option Addr} {sl8 : Array (Option Value)} {oc8 kV8 dc8 pm8 cd8 ct8 : Value} {f_root_of : Addr}
    {od9 an9 : Option Addr} {sl9 : Array (Option Value)} {oc9 kV9 dc9 pm9 cd9 ct9 : Value} {f_l_deck : Addr}
    {od10 an10 : Option Addr} {sl10 : Array (Option Value)} {oc10 kV10 dc10 pm10 cd10 ct10 : Value} {f_l_pick : Addr}
    {od11 an11 : Option Addr} {sl11 : Array (Option Value)} {oc11 kV11 dc11 pm11 cd11 ct11 : Value} {f_l_divisor : Addr}
    {od12 an12 : Option Addr} {sl12 : Array (Option Value)} {oc12 kV12 dc12 pm12 cd12 ct12 : Value} {f_l_made : Addr}
    {od13 an13 : Option Addr} {sl13 : Array (Option Value)} {oc13 kV13 dc13 pm13 cd13 ct13 : Value} {f_l_amount : Addr}
    {od14 an14 : Option Addr} {sl14 : Array (Option Value)} {oc14 kV14 dc14 pm14 cd14 ct14 : Value} {f_l_root : Addr}
    {od15 an15 : Option Addr} {sl15 : Array (Option Value)} {oc15 kV15 dc15 pm15 cd15 ct15 : Value} {f_l_due : Addr}
    {od16 an16 : Option Addr} {sl16 : Array (Option Value)} {oc16 kV16 dc16 pm16 cd16 ct16 : Value} {f_l_is_it : Addr}
    {od17 an17 : Option Addr} {sl17 : Array (Option Value)} {oc17 kV17 dc17 pm17 cd17 ct17 : Value} {f_l_deep : Addr}
    {od18 an18 : Option Addr} {sl18 : Array (Option Value)} {oc18 kV18 dc18 pm18 cd18 ct18 : Value} {f_l_odd : Addr}
    {od19 an19 : Option Addr} {sl19 : Array (Option Value)} {oc19 kV19 dc19 pm19 cd19 ct19 : Value} {f_l_place : Addr}
    {od20 an20 : Option Addr} {sl20 : Array (Option Value)} {oc20 kV20 dc20 pm20 cd20 ct20 : Value} {f_law : Addr}
    {od21 an21 : Option Addr} {sl21 : Array (Option Value)} {oc21 kV21 dc21 pm21 cd21 ct21 : Value} {f_BadFraction_init : Addr}
    {od22 an22 : Option Addr} {sl22 : Array (Option Value)} {oc22 kV22 dc22 pm22 cd22 ct22 : Value} {f_Web_init : Addr}
    (z_abs : PySem.W.nsIn K mainGlobals "abs" = some none)
    (z_bool : PySem.W.nsIn K mainGlobals "bool" = some none)
    (z_enumerate : PySem.W.nsIn K mainGlobals "enumerate" = some none)
    (z_int : PySem.W.nsIn K mainGlobals "int" = some none)
    (z_isinstance : PySem.W.nsIn K mainGlobals "isinstance" = some none)
    (z_len : PySem.W.nsIn K mainGlobals "len" = some none)
    (z_list : PySem.W.nsIn K mainGlobals "list" = some none)
    (z_min : PySem.W.nsIn K mainGlobals "min" = some none)
    (z_range : PySem.W.nsIn K mainGlobals "range" = some none)
    (z_tuple : PySem.W.nsIn K mainGlobals "tuple" = some none)
    (m_gcd : PySem.W.nsIn K mainGlobals "gcd" = some (some (.builtin "math.gcd")))
    (m_isqrt : PySem.W.nsIn K mainGlobals "isqrt" = some (some (.builtin "math.isqrt")))
    (a_BadFraction : PySem.W.nsIn K mainGlobals "BadFraction" = some (some (.ref c_BadFraction)))
    (ob_BadFraction : K.lookup c_BadFraction = some (PySem.excClassObj nm_BadFraction q_BadFraction c_BadFraction N_BadFraction bs_BadFraction bm_BadFraction true sn_BadFraction sub_BadFraction ab_BadFraction col_BadFraction dd_BadFraction k0_BadFraction k1_BadFraction k2_BadFraction k3_BadFraction k5_BadFraction "ValueError.__new__"))
    (rv_BadFraction : PySem.HandSPX.refsVE bm_BadFraction = true)
    (sa_BadFraction : PySem.W.findIn K (.ref c_BadFraction) "__setattr__" = some (some (.builtin "object.__setattr__")))
    (ga_BadFraction : PySem.W.findIn K (.ref c_BadFraction) "__getattribute__" = some (some (.builtin "BaseException.__getattribute__")))
    (gg_BadFraction : PySem.W.findIn K (.ref c_BadFraction) "__getattr__" = some none)
    (no_BadFraction : PySem.W.findIn K (.ref c_BadFraction) "place" = some none)
    (in_BadFraction : PySem.W.findIn K (.ref c_BadFraction) "__init__" = some (some (.ref f_BadFraction_init)))
    (ti_BadFraction : PySem.W.typeIn K (.ref f_BadFraction_init) = some (.type "function"))
    (be_BadFraction : PySem.W.subIn K (.ref c_BadFraction) (.type "BaseException") = some true)
    (ty_BadFraction : PySem.W.typeIn K (.ref c_BadFraction) = some (.type "type"))
    (kp_BadFraction : PySem.W.keepIn K (.ref c_BadFraction) = true)
    (hd_BadFraction : PySem.W.hasDictIn K c_BadFraction = true)
    (ic_BadFraction : PySem.W.isClsIn K c_BadFraction = true)
    (sf_BadFraction : PySem.W.subIn K (.ref c_BadFraction) (.ref c_BadFraction) = some true)
    (a_Web : PySem.W.nsIn K mainGlobals "Web" = some (some (.ref c_Web)))
    (mk_Web : PySem.W.makesIn K c_Web = true)
    (in_Web : PySem.W.findIn K (.ref c_Web) "__init__" = some (some (.ref f_Web_init)))
    (fn_Web : PySem.W.isFn K (.ref f_Web_init) = true)
    (kp_Web : PySem.W.keepIn K (.ref c_Web) = true)
    (pg_Web : PySem.W.plainGet K c_Web Str.empty = true)
    (hd_Web : PySem.W.hasDictIn K c_Web = true)
    (po_Web : PySem.W.plainOver K c_Web = true)
    (sa_Web : PySem.W.findIn K (.ref c_Web) "__setattr__" = some (some (.builtin "object.__setattr__")))
    (ha_Web : PySem.W.findIn K (.ref c_Web) "__class__" = some (some (.builtin "object.__class__")))
    (hn_Web : PySem.W.specialIn K (.builtin "object.__class__") "__get__" = some (some (.builtin "getset_descriptor.__get__")))
    (ht_Web : PySem.W.takesIn K (.builtin "object.__class__") = some true)
    (mo_Web : PySem.W.mroIn K c_Web (.type "object") = some true)
    (i_int_Web : PySem.W.kitOne K (.ref c_Web) (.type "int") = some false)
    (i_bool_Web : PySem.W.kitOne K (.ref c_Web) (.type "bool") = some false)
    (i_tuple_Web : PySem.W.kitOne K (.ref c_Web) (.type "tuple") = some false)
    (i_list_Web : PySem.W.kitOne K (.ref c_Web) (.type "list") = some false)
    (na_Web_wares : PySem.W.findIn K (.ref c_Web) "wares" = some none)
    (na_Web_stalls : PySem.W.findIn K (.ref c_Web) "stalls" = some none)
    (v_MOST_STALLS : PySem.W.nsIn K mainGlobals "MOST_STALLS" = some (some (.int 16 tk_MOST_STALLS)))
    (v_MOST_WARES : PySem.W.nsIn K mainGlobals "MOST_WARES" = some (some (.int 8 tk_MOST_WARES)))
    (a_is_integer : PySem.W.nsIn K mainGlobals "is_integer" = some (some (.ref f_is_integer)))
    (l_is_integer : K.lookup f_is_integer = some ⟨oc0, od0, .func (PySem.W.fnOf "is_integer" "is_integer" (defArgs s_is_integer) (defBody s_is_integer) (defScope s_is_integer) .none kV0 dc0 pm0 an0 cd0 ct0), sl0⟩)
    (c_is_integer : PySem.W.codeIn K cd0 "is_integer" = true)
    (k_is_integer : PySem.W.keepIn K (.ref f_is_integer) = true)
    (a_is_row : PySem.W.nsIn K mainGlobals "is_row" = some (some (.ref f_is_row)))
    (l_is_row : K.lookup f_is_row = some ⟨oc1, od1, .func (PySem.W.fnOf "is_row" "is_row" (defArgs s_is_row) (defBody s_is_row) (defScope s_is_row) .none kV1 dc1 pm1 an1 cd1 ct1), sl1⟩)
    (c_is_row : PySem.W.codeIn K cd1 "is_row" = true)
    (k_is_row : PySem.W.keepIn K (.ref f_is_row) = true)
    (a_is_fraction : PySem.W.nsIn K mainGlobals "is_fraction" = some (some (.ref f_is_fraction)))
    (l_is_fraction : K.lookup f_is_fraction = some ⟨oc2, od2, .func (PySem.W.fnOf "is_fraction" "is_fraction" (defArgs s_is_fraction) (defBody s_is_fraction) (defScope s_is_fraction) .none kV2 dc2 pm2 an2 cd2 ct2), sl2⟩)
    (c_is_fraction : PySem.W.codeIn K cd2 "is_fraction" = true)
    (k_is_fraction : PySem.W.keepIn K (.ref f_is_fraction) = true)
    (a_is_some : PySem.W.nsIn K mainGlobals "is_some" = some (some (.ref f_is_some)))
    (l_is_some : K.lookup f_is_some = some ⟨oc3, od3, .func (PySem.W.fnOf "is_some" "is_some" (defArgs s_is_some) (defBody s_is_some) (defScope s_is_some) .none kV3 dc3 pm3 an3 cd3 ct3), sl3⟩)
    (c_is_some : PySem.W.codeIn K cd3 "is_some" = true)
    (k_is_some : PySem.W.keepIn K (.ref f_is_some) = true)
    (a_multiplied : PySem.W.nsIn K mainGlobals "multiplied" = some (some (.ref f_multiplied)))
    (l_multiplied : K.lookup f_multiplied = some ⟨oc4, od4, .func (PySem.W.fnOf "multiplied" "multiplied" (defArgs s_multiplied) (defBody s_multiplied) (defScope s_multiplied) .none kV4 dc4 pm4 an4 cd4 ct4), sl4⟩)
    (c_multiplied : PySem.W.codeIn K cd4 "multiplied" = true)
    (k_multiplied : PySem.W.keepIn K (.ref f_multiplied) = true)
    (a_squared : PySem.W.nsIn K mainGlobals "squared" = some (some (.ref f_squared)))
    (l_squared : K.lookup f_squared = some ⟨oc5, od5, .func (PySem.W.fnOf "squared" "squared" (defArgs s_squared) (defBody s_squared) (defScope s_squared) .none kV5 dc5 pm5 an5 cd5 ct5), sl5⟩)
    (c_squared : PySem.W.codeIn K cd5 "squared" = true)
    (k_squared : PySem.W.keepIn K (.ref f_squared) = true)
    (a_square_root : PySem.W.nsIn K mainGlobals "square_root" = some (some (.ref f_square_root)))
    (l_square_root : K.lookup f_square_root = some ⟨oc6, od6, .func (PySem.W.fnOf "square_root" "square_root" (defArgs s_square_root) (defBody s_square_root) (defScope s_square_root) .none kV6 dc6 pm6 an6 cd6 ct6), sl6⟩)
    (c_square_root : PySem.W.codeIn K cd6 "square_root" = true)
    (k_square_root : PySem.W.keepIn K (.ref f_square_root) = true)
    (a_is_stall : PySem.W.nsIn K mainGlobals "is_stall" = some (some (.ref f_is_stall)))
    (l_is_stall : K.lookup f_is_stall = some ⟨oc7, od7, .func (PySem.W.fnOf "is_stall" "is_stall" (defArgs s_is_stall) (defBody s_is_stall) (defScope s_is_stall) .none kV7 dc7 pm7 an7 cd7 ct7), sl7⟩)
    (c_is_stall : PySem.W.codeIn K cd7 "is_stall" = true)
    (k_is_stall : PySem.W.keepIn K (.ref f_is_stall) = true)
    (a_root_of : PySem.W.nsIn K mainGlobals "root_of" = some (some (.ref f_root_of)))
    (l_root_of : K.lookup f_root_of = some ⟨oc8, od8, .func (PySem.W.fnOf "root_of" "root_of" (defArgs s_root_of) (defBody s_root_of) (defScope s_root_of) .none kV8 dc8 pm8 an8 cd8 ct8), sl8⟩)
    (c_root_of : PySem.W.codeIn K cd8 "root_of" = true)
    (k_root_of : PySem.W.keepIn K (.ref f_root_of) = true)
    (a_l_deck : PySem.W.nsIn K mainGlobals "_law_deck" = some (some (.ref f_l_deck)))
    (l_l_deck : K.lookup f_l_deck = some ⟨oc9, od9, .func (PySem.W.fnOf "_law_deck" "_law_deck" (defArgs s_l_deck) (defBody s_l_deck) (defScope s_l_deck) .none kV9 dc9 pm9 an9 cd9 ct9), sl9⟩)
    (c_l_deck : PySem.W.codeIn K cd9 "_law_deck" = true)
    (k_l_deck : PySem.W.keepIn K (.ref f_l_deck) = true)
    (a_l_pick : PySem.W.nsIn K mainGlobals "_law_pick" = some (some (.ref f_l_pick)))
    (l_l_pick : K.lookup f_l_pick = some ⟨oc10, od10, .func (PySem.W.fnOf "_law_pick" "_law_pick" (defArgs s_l_pick) (defBody s_l_pick) (defScope s_l_pick) .none kV10 dc10 pm10 an10 cd10 ct10), sl10⟩)
    (c_l_pick : PySem.W.codeIn K cd10 "_law_pick" = true)
    (k_l_pick : PySem.W.keepIn K (.ref f_l_pick) = true)
    (a_l_divisor : PySem.W.nsIn K mainGlobals "_law_divisor" = some (some (.ref f_l_divisor)))
    (l_l_divisor : K.lookup f_l_divisor = some ⟨oc11, od11, .func (PySem.W.fnOf "_law_divisor" "_law_divisor" (defArgs s_l_divisor) (defBody s_l_divisor) (defScope s_l_divisor) .none kV11 dc11 pm11 an11 cd11 ct11), sl11⟩)
    (c_l_divisor : PySem.W.codeIn K cd11 "_law_divisor" = true)
    (k_l_divisor : PySem.W.keepIn K (.ref f_l_divisor) = true)
    (a_l_made : PySem.W.nsIn K mainGlobals "_law_made" = some (some (.ref f_l_made)))
    (l_l_made : K.lookup f_l_made = some ⟨oc12, od12, .func (PySem.W.fnOf "_law_made" "_law_made" (defArgs s_l_made) (defBody s_l_made) (defScope s_l_made) .none kV12 dc12 pm12 an12 cd12 ct12), sl12⟩)
    (c_l_made : PySem.W.codeIn K cd12 "_law_made" = true)
    (k_l_made : PySem.W.keepIn K (.ref f_l_made) = true)
    (a_l_amount : PySem.W.nsIn K mainGlobals "_law_amount" = some (some (.ref f_l_amount)))
    (l_l_amount : K.lookup f_l_amount = some ⟨oc13, od13, .func (PySem.W.fnOf "_law_amount" "_law_amount" (defArgs s_l_amount) (defBody s_l_amount) (defScope s_l_amount) .none kV13 dc13 pm13 an13 cd13 ct13), sl13⟩)
    (c_l_amount : PySem.W.codeIn K cd13 "_law_amount" = true)
    (k_l_amount : PySem.W.keepIn K (.ref f_l_amount) = true)
    (a_l_root : PySem.W.nsIn K mainGlobals "_law_root" = some (some (.ref f_l_root)))
    (l_l_root : K.lookup f_l_root = some ⟨oc14, od14, .func (PySem.W.fnOf "_law_root" "_law_root" (defArgs s_l_root) (defBody s_l_root) (defScope s_l_root) .none kV14 dc14 pm14 an14 cd14 ct14), sl14⟩)
    (c_l_root : PySem.W.codeIn K cd14 "_law_root" = true)
    (k_l_root : PySem.W.keepIn K (.ref f_l_root) = true)
    (a_l_due : PySem.W.nsIn K mainGlobals "_law_due" = some (some (.ref f_l_due)))
    (l_l_due : K.lookup f_l_due = some ⟨oc15, od15, .func (PySem.W.fnOf "_law_due" "_law_due" (defArgs s_l_due) (defBody s_l_due) (defScope s_l_due) .none kV15 dc15 pm15 an15 cd15 ct15), sl15⟩)
    (c_l_due : PySem.W.codeIn K cd15 "_law_due" = true)
    (k_l_due : PySem.W.keepIn K (.ref f_l_due) = true)
    (a_l_is_it : PySem.W.nsIn K mainGlobals "_law_is_it" = some (some (.ref f_l_is_it)))
    (l_l_is_it : K.lookup f_l_is_it = some ⟨oc16, od16, .func (PySem.W.fnOf "_law_is_it" "_law_is_it" (defArgs s_l_is_it) (defBody s_l_is_it) (defScope s_l_is_it) .none kV16 dc16 pm16 an16 cd16 ct16), sl16⟩)
    (c_l_is_it : PySem.W.codeIn K cd16 "_law_is_it" = true)
    (k_l_is_it : PySem.W.keepIn K (.ref f_l_is_it) = true)
    (a_l_deep : PySem.W.nsIn K mainGlobals "_law_deep" = some (some (.ref f_l_deep)))
    (l_l_deep : K.lookup f_l_deep = some ⟨oc17, od17, .func (PySem.W.fnOf "_law_deep" "_law_deep" (defArgs s_l_deep) (defBody s_l_deep) (defScope s_l_deep) .none kV17 dc17 pm17 an17 cd17 ct17), sl17⟩)
    (c_l_deep : PySem.W.codeIn K cd17 "_law_deep" = true)
    (k_l_deep : PySem.W.keepIn K (.ref f_l_deep) = true)
    (a_l_odd : PySem.W.nsIn K mainGlobals "_law_odd" = some (some (.ref f_l_odd)))
    (l_l_odd : K.lookup f_l_odd = some ⟨oc18, od18, .func (PySem.W.fnOf "_law_odd" "_law_odd" (defArgs s_l_odd) (defBody s_l_odd) (defScope s_l_odd) .none kV18 dc18 pm18 an18 cd18 ct18), sl18⟩)
    (c_l_odd : PySem.W.codeIn K cd18 "_law_odd" = true)
    (k_l_odd : PySem.W.keepIn K (.ref f_l_odd) = true)
    (a_l_place : PySem.W.nsIn K mainGlobals "_law_place" = some (some (.ref f_l_place)))
    (l_l_place : K.lookup f_l_place = some ⟨oc19, od19, .func (PySem.W.fnOf "_law_place" "_law_place" (defArgs s_l_place) (defBody s_l_place) (defScope s_l_place) .none kV19 dc19 pm19 an19 cd19 ct19), sl19⟩)
    (c_l_place : PySem.W.codeIn K cd19 "_law_place" = true)
    (k_l_place : PySem.W.keepIn K (.ref f_l_place) = true)
    (a_law : PySem.W.nsIn K mainGlobals "law" = some (some (.ref f_law)))
    (l_law : K.lookup f_law = some ⟨oc20, od20, .func (PySem.W.fnOf "law" "law" (defArgs s_law) (defBody s_law) (defScope s_law) .none kV20 dc20 pm20 an20 cd20 ct20), sl20⟩)
    (c_law : PySem.W.codeIn K cd20 "law" = true)
    (k_law : PySem.W.keepIn K (.ref f_law) = true)
    (l_BadFraction_init : K.lookup f_BadFraction_init = some ⟨oc21, od21, .func (PySem.W.fnOf "__init__" "BadFraction.__init__" (defArgs s_BadFraction_init) (defBody s_BadFraction_init) (defScope s_BadFraction_init) .none kV21 dc21 pm21 an21 cd21 ct21), sl21⟩)
    (c_BadFraction_init : PySem.W.codeIn K cd21 "BadFraction.__init__" = true)
    (k_BadFraction_init : PySem.W.keepIn K (.ref f_BadFraction_init) = true)
    (l_Web_init : K.lookup f_Web_init = some ⟨oc22, od22, .func (PySem.W.fnOf "__init__" "Web.__init__" (defArgs s_Web_init) (defBody s_Web_init) (defScope s_Web_init) .none kV22 dc22 pm22 an22 cd22 ct22), sl22⟩)
    (c_Web_init : PySem.W.codeIn K cd22 "Web.__init__" = true)
    (k_Web_init : PySem.W.keepIn K (.ref f_Web_init) = true)
    : ∃ fd : FuncData, (∀ (s : Shared) (v : Value), BindsTo s fd ⟨[v], []⟩ [("_law_script", v)]) ∧ ∀ base : Heap, K.In base → base.Ns mainGlobals mg → FnOk l.prog w K mg base CX0 8 fa fd ["_law_script"] (sp_law K) := by
  have e := hfa.symm.trans (PySem.W.mg_of X G a_law)
  cases e
  have T : Txt K mg f_is_integer f_is_row f_is_fraction f_is_some f_multiplied f_squared f_square_root f_is_stall f_root_of f_l_deck f_l_pick f_l_divisor f_l_made f_l_amount f_l_root f_l_due f_l_is_it f_l_deep f_l_odd f_l_place fa f_BadFraction_init f_Web_init c_BadFraction c_Web _ _ _ _ _ _ _ _ _ _ _ _ _ _ _ _ _ _ _ _ _ _ _ := {
    z_abs := PySem.W.mg_none_of X G z_abs
    z_bool := PySem.W.mg_none_of X G z_bool
    z_enumerate := PySem.W.mg_none_of X G z_enumerate
    z_int := PySem.W.mg_none_of X G z_int
    z_isinstance := PySem.W.mg_none_of X G z_isinstance
    z_len := PySem.W.mg_none_of X G z_len
    z_list := PySem.W.mg_none_of X G z_list
    z_min := PySem.W.mg_none_of X G z_min
    z_range := PySem.W.mg_none_of X G z_range
    z_tuple := PySem.W.mg_none_of X G z_tuple
    m_gcd := PySem.W.mg_of X G m_gcd
    m_isqrt := PySem.W.mg_of X G m_isqrt
    c_BadFraction := ⟨PySem.W.mg_of X G a_BadFraction, ⟨⟨_, _, _, _, _, _, _, _, _, _, _, _, _, _, _, ob_BadFraction, rv_BadFraction⟩, sa_BadFraction, be_BadFraction, ty_BadFraction, kp_BadFraction⟩, in_BadFraction, ti_BadFraction, no_BadFraction, ⟨ga_BadFraction, gg_BadFraction, be_BadFraction, hd_BadFraction⟩, ic_BadFraction, sf_BadFraction⟩
    w_Web := ⟨PySem.W.mg_of X G a_Web, ⟨mk_Web, in_Web, fn_Web, kp_Web⟩, ⟨⟨pg_Web, hd_Web, po_Web, sa_Web⟩, ha_Web, hn_Web, ht_Web, mo_Web, i_int_Web, i_bool_Web, i_tuple_Web, i_list_Web⟩⟩
    n_Web_wares := na_Web_wares
    n_Web_stalls := na_Web_stalls
    v_MOST_STALLS := ⟨_, PySem.W.mg_of X G v_MOST_STALLS, ⟨_, rfl⟩⟩
    v_MOST_WARES := ⟨_, PySem.W.mg_of X G v_MOST_WARES, ⟨_, rfl⟩⟩
    g_is_integer := PySem.W.mg_of X G a_is_integer
    F_is_integer := fun_mk (st := s_is_integer) l_is_integer c_is_integer k_is_integer
    k_is_integer := k_is_integer
    b_is_integer := (fun_mk (st := s_is_integer) l_is_integer c_is_integer k_is_integer).binds (ps := ["thing"]) fun _ _ _ _ _ _ us hl => match us, hl with | [_], _ => rfl
    g_is_row := PySem.W.mg_of X G a_is_row
    F_is_row := fun_mk (st := s_is_row) l_is_row c_is_row k_is_row
    k_is_row := k_is_row
    b_is_row := (fun_mk (st := s_is_row) l_is_row c_is_row k_is_row).binds (ps := ["thing"]) fun _ _ _ _ _ _ us hl => match us, hl with | [_], _ => rfl
    g_is_fraction := PySem.W.mg_of X G a_is_fraction
    F_is_fraction := fun_mk (st := s_is_fraction) l_is_fraction c_is_fraction k_is_fraction
    k_is_fraction := k_is_fraction
    b_is_fraction := (fun_mk (st := s_is_fraction) l_is_fraction c_is_fraction k_is_fraction).binds (ps := ["thing"]) fun _ _ _ _ _ _ us hl => match us, hl with | [_], _ => rfl
    g_is_some := PySem.W.mg_of X G a_is_some
    F_is_some := fun_mk (st := s_is_some) l_is_some c_is_some k_is_some
    k_is_some := k_is_some
    b_is_some := (fun_mk (st := s_is_some) l_is_some c_is_some k_is_some).binds (ps := ["thing"]) fun _ _ _ _ _ _ us hl => match us, hl with | [_], _ => rfl
    g_multiplied := PySem.W.mg_of X G a_multiplied
    F_multiplied := fun_mk (st := s_multiplied) l_multiplied c_multiplied k_multiplied
    k_multiplied := k_multiplied
    b_multiplied := (fun_mk (st := s_multiplied) l_multiplied c_multiplied k_multiplied).binds (ps := ["one", "other"]) fun _ _ _ _ _ _ us hl => match us, hl with | [_, _], _ => rfl
    g_squared := PySem.W.mg_of X G a_squared
    F_squared := fun_mk (st := s_squared) l_squared c_squared k_squared
    k_squared := k_squared
    b_squared := (fun_mk (st := s_squared) l_squared c_squared k_squared).binds (ps := ["one"]) fun _ _ _ _ _ _ us hl => match us, hl with | [_], _ => rfl
    g_square_root := PySem.W.mg_of X G a_square_root
    F_square_root := fun_mk (st := s_square_root) l_square_root c_square_root k_square_root
    k_square_root := k_square_root
    b_square_root := (fun_mk (st := s_square_root) l_square_root c_square_root k_square_root).binds (ps := ["amount"]) fun _ _ _ _ _ _ us hl => match us, hl with | [_], _ => rfl
    g_is_stall := PySem.W.mg_of X G a_is_stall
    F_is_stall := fun_mk (st := s_is_stall) l_is_stall c_is_stall k_is_stall
    k_is_stall := k_is_stall
    b_is_stall := (fun_mk (st := s_is_stall) l_is_stall c_is_stall k_is_stall).binds (ps := ["wares", "thing"]) fun _ _ _ _ _ _ us hl => match us, hl with | [_, _], _ => rfl
    g_root_of := PySem.W.mg_of X G a_root_of
    F_root_of := fun_mk (st := s_root_of) l_root_of c_root_of k_root_of
    k_root_of := k_root_of
    b_root_of := (fun_mk (st := s_root_of) l_root_of c_root_of k_root_of).binds (ps := ["held", "other"]) fun _ _ _ _ _ _ us hl => match us, hl with | [_, _], _ => rfl
    g_l_deck := PySem.W.mg_of X G a_l_deck
    F_l_deck := fun_mk (st := s_l_deck) l_l_deck c_l_deck k_l_deck
    k_l_deck := k_l_deck
    b_l_deck := (fun_mk (st := s_l_deck) l_l_deck c_l_deck k_l_deck).binds (ps := ["_law_script"]) fun _ _ _ _ _ _ us hl => match us, hl with | [_], _ => rfl
    g_l_pick := PySem.W.mg_of X G a_l_pick
    F_l_pick := fun_mk (st := s_l_pick) l_l_pick c_l_pick k_l_pick
    k_l_pick := k_l_pick
    b_l_pick := (fun_mk (st := s_l_pick) l_l_pick c_l_pick k_l_pick).binds (ps := ["_law_deck_here", "_law_many"]) fun _ _ _ _ _ _ us hl => match us, hl with | [_, _], _ => rfl
    g_l_divisor := PySem.W.mg_of X G a_l_divisor
    F_l_divisor := fun_mk (st := s_l_divisor) l_l_divisor c_l_divisor k_l_divisor
    k_l_divisor := k_l_divisor
    b_l_divisor := (fun_mk (st := s_l_divisor) l_l_divisor c_l_divisor k_l_divisor).binds (ps := ["_law_one", "_law_other"]) fun _ _ _ _ _ _ us hl => match us, hl with | [_, _], _ => rfl
    g_l_made := PySem.W.mg_of X G a_l_made
    F_l_made := fun_mk (st := s_l_made) l_l_made c_l_made k_l_made
    k_l_made := k_l_made
    b_l_made := (fun_mk (st := s_l_made) l_l_made c_l_made k_l_made).binds (ps := ["_law_top", "_law_bottom"]) fun _ _ _ _ _ _ us hl => match us, hl with | [_, _], _ => rfl
    g_l_amount := PySem.W.mg_of X G a_l_amount
    F_l_amount := fun_mk (st := s_l_amount) l_l_amount c_l_amount k_l_amount
    k_l_amount := k_l_amount
    b_l_amount := (fun_mk (st := s_l_amount) l_l_amount c_l_amount k_l_amount).binds (ps := ["_law_deck_here"]) fun _ _ _ _ _ _ us hl => match us, hl with | [_], _ => rfl
    g_l_root := PySem.W.mg_of X G a_l_root
    F_l_root := fun_mk (st := s_l_root) l_l_root c_l_root k_l_root
    k_l_root := k_l_root
    b_l_root := (fun_mk (st := s_l_root) l_l_root c_l_root k_l_root).binds (ps := ["_law_number"]) fun _ _ _ _ _ _ us hl => match us, hl with | [_], _ => rfl
    g_l_due := PySem.W.mg_of X G a_l_due
    F_l_due := fun_mk (st := s_l_due) l_l_due c_l_due k_l_due
    k_l_due := k_l_due
    b_l_due := (fun_mk (st := s_l_due) l_l_due c_l_due k_l_due).binds (ps := ["_law_one", "_law_other"]) fun _ _ _ _ _ _ us hl => match us, hl with | [_, _], _ => rfl
    g_l_is_it := PySem.W.mg_of X G a_l_is_it
    F_l_is_it := fun_mk (st := s_l_is_it) l_l_is_it c_l_is_it k_l_is_it
    k_l_is_it := k_l_is_it
    b_l_is_it := (fun_mk (st := s_l_is_it) l_l_is_it c_l_is_it k_l_is_it).binds (ps := ["_law_thing", "_law_due_here"]) fun _ _ _ _ _ _ us hl => match us, hl with | [_, _], _ => rfl
    g_l_deep := PySem.W.mg_of X G a_l_deep
    F_l_deep := fun_mk (st := s_l_deep) l_l_deep c_l_deep k_l_deep
    k_l_deep := k_l_deep
    b_l_deep := (fun_mk (st := s_l_deep) l_l_deep c_l_deep k_l_deep).binds (ps := ["_law_deck_here"]) fun _ _ _ _ _ _ us hl => match us, hl with | [_], _ => rfl
    g_l_odd := PySem.W.mg_of X G a_l_odd
    F_l_odd := fun_mk (st := s_l_odd) l_l_odd c_l_odd k_l_odd
    k_l_odd := k_l_odd
    b_l_odd := (fun_mk (st := s_l_odd) l_l_odd c_l_odd k_l_odd).binds (ps := ["_law_deck_here"]) fun _ _ _ _ _ _ us hl => match us, hl with | [_], _ => rfl
    g_l_place := PySem.W.mg_of X G a_l_place
    F_l_place := fun_mk (st := s_l_place) l_l_place c_l_place k_l_place
    k_l_place := k_l_place
    b_l_place := (fun_mk (st := s_l_place) l_l_place c_l_place k_l_place).binds (ps := ["_law_one", "_law_other"]) fun _ _ _ _ _ _ us hl => match us, hl with | [_, _], _ => rfl
    g_law := PySem.W.mg_of X G a_law
    F_law := fun_mk (st := s_law) l_law c_law k_law
    k_law := k_law
    b_law := (fun_mk (st := s_law) l_law c_law k_law).binds (ps := ["_law_script"]) fun _ _ _ _ _ _ us hl => match us, hl with | [_], _ => rfl
    F_BadFraction_init := fun_mk (st := s_BadFraction_init) l_BadFraction_init c_BadFraction_init k_BadFraction_init
    b_BadFraction_init := (fun_mk (st := s_BadFraction_init) l_BadFraction_init c_BadFraction_init k_BadFraction_init).binds (ps := ["self", "place"]) fun _ _ _ _ _ _ us hl => match us, hl with | [_, _], _ => rfl
    F_Web_init := fun_mk (st := s_Web_init) l_Web_init c_Web_init k_Web_init
    b_Web_init := (fun_mk (st := s_Web_init) l_Web_init c_Web_init k_Web_init).binds (ps := ["self", "wares", "stalls"]) fun _ _ _ _ _ _ us hl => match us, hl with | [_, _, _], _ => rfl
  }
  exact ⟨_, fun s v => .of_eq rfl, fun base _ _ => ok_all T⟩
end My
open PySem PySem.W PyProof.Rows
set_option maxRecDepth 100000 in
set_option maxHeartbeats 0 in
theorem PySem.Challenge.cw_rootstalls_k04_roots_of_products_holds : PySem.Challenge.rw_rootstalls_k04_roots_of_products.Holds := by
  w_on; o_law; k_head; (case hw => w_witness2)
  k_fill
  refine L2.walk_ofB (l := PySem.Challenge.rw_rootstalls_k04_roots_of_products) (n := 63) (k := 8) (x := "_law_script") (CX := fun _ => L2.CX0) (sp := fun w => My.sp_law _) rfl (by decide) rfl ⟨rfl, by decide, by decide⟩ (fun w h Y => PySem.W.kIn_of Y) ?F (fun _ _ a ns hl hb _ hS => ⟨a, ns, rfl, hS, hl, hb, fun _ => rfl⟩) (fun _ _ _ _ _ h => h)
  case F =>
    intro w mg fa h KX G hmg
    refine' My.all_mk KX G hmg ?z_abs ?z_bool ?z_enumerate ?z_int ?z_isinstance ?z_len ?z_list ?z_min ?z_range ?z_tuple ?m_gcd ?m_isqrt ?a_BadFraction ?ob_BadFraction ?rv_BadFraction ?sa_BadFraction ?ga_BadFraction ?gg_BadFraction ?no_BadFraction ?in_BadFraction ?ti_BadFraction ?be_BadFraction ?ty_BadFraction ?kp_BadFraction ?hd_BadFraction ?ic_BadFraction ?sf_BadFraction ?a_Web ?mk_Web ?in_Web ?fn_Web ?kp_Web ?pg_Web ?hd_Web ?po_Web ?sa_Web ?ha_Web ?hn_Web ?ht_Web ?mo_Web ?i_int_Web ?i_bool_Web ?i_tuple_Web ?i_list_Web ?na_Web_wares ?na_Web_stalls ?v_MOST_STALLS ?v_MOST_WARES ?a_is_integer ?l_is_integer ?c_is_integer ?k_is_integer ?a_is_row ?l_is_row ?c_is_row ?k_is_row ?a_is_fraction ?l_is_fraction ?c_is_fraction ?k_is_fraction ?a_is_some ?l_is_some ?c_is_some ?k_is_some ?a_multiplied ?l_multiplied ?c_multiplied ?k_multiplied ?a_squared ?l_squared ?c_squared ?k_squared ?a_square_root ?l_square_root ?c_square_root ?k_square_root ?a_is_stall ?l_is_stall ?c_is_stall ?k_is_stall ?a_root_of ?l_root_of ?c_root_of ?k_root_of ?a_l_deck ?l_l_deck ?c_l_deck ?k_l_deck ?a_l_pick ?l_l_pick ?c_l_pick ?k_l_pick ?a_l_divisor ?l_l_divisor ?c_l_divisor ?k_l_divisor ?a_l_made ?l_l_made ?c_l_made ?k_l_made ?a_l_amount ?l_l_amount ?c_l_amount ?k_l_amount ?a_l_root ?l_l_root ?c_l_root ?k_l_root ?a_l_due ?l_l_due ?c_l_due ?k_l_due ?a_l_is_it ?l_l_is_it ?c_l_is_it ?k_l_is_it ?a_l_deep ?l_l_deep ?c_l_deep ?k_l_deep ?a_l_odd ?l_l_odd ?c_l_odd ?k_l_odd ?a_l_place ?l_l_place ?c_l_place ?k_l_place ?a_law ?l_law ?c_law ?k_law ?l_BadFraction_init ?c_BadFraction_init ?k_BadFraction_init ?l_Web_init ?c_Web_init ?k_Web_init
    (case z_abs => k_is)
    (case z_bool => k_is)
    (case z_enumerate => k_is)
    (case z_int => k_is)
    (case z_isinstance => k_is)
    (case z_len => k_is)
    (case z_list => k_is)
    (case z_min => k_is)
    (case z_range => k_is)
    (case z_tuple => k_is)
    (case m_gcd => k_is)
    (case m_isqrt => k_is)
    (case a_BadFraction => k_is)
    (case ob_BadFraction => k_is)
    (case rv_BadFraction => first | rfl | k_is | decide +kernel)
    (case sa_BadFraction => k_is)
    (case ga_BadFraction => k_is)
    (case gg_BadFraction => k_is)
    (case no_BadFraction => k_is)
    (case in_BadFraction => k_is)
    (case ti_BadFraction => k_is)
    (case be_BadFraction => k_is)
    (case ty_BadFraction => k_is)
    (case kp_BadFraction => k_is)
    (case hd_BadFraction => k_is)
    (case ic_BadFraction => k_is)
    (case sf_BadFraction => first | rfl | k_is)
    (case a_Web => k_is)
    (case mk_Web => k_is)
    (case in_Web => k_is)
    (case fn_Web => k_is)
    (case kp_Web => k_is)
    (case pg_Web => k_is)
    (case hd_Web => k_is)
    (case po_Web => k_is)
    (case sa_Web => k_is)
    (case ha_Web => k_is)
    (case hn_Web => k_is)
    (case ht_Web => k_is)
    (case mo_Web => k_is)
    (case i_int_Web => first | rfl | k_is | decide +kernel)
    (case i_bool_Web => first | rfl | k_is | decide +kernel)
    (case i_tuple_Web => first | rfl | k_is | decide +kernel)
    (case i_list_Web => first | rfl | k_is | decide +kernel)
    (case na_Web_wares => k_is)
    (case na_Web_stalls => k_is)
    (case v_MOST_STALLS => k_is)
    (case v_MOST_WARES => k_is)
    (case a_is_integer => k_is)
    (case l_is_integer => k_is)
    (case c_is_integer => k_is)
    (case k_is_integer => k_is)
    (case a_is_row => k_is)
    (case l_is_row => k_is)
    (case c_is_row => k_is)
    (case k_is_row => k_is)
    (case a_is_fraction => k_is)
    (case l_is_fraction => k_is)
    (case c_is_fraction => k_is)
    (case k_is_fraction => k_is)
    (case a_is_some => k_is)
    (case l_is_some => k_is)
    (case c_is_some => k_is)
    (case k_is_some => k_is)
    (case a_multiplied => k_is)
    (case l_multiplied => k_is)
    (case c_multiplied => k_is)
    (case k_multiplied => k_is)
    (case a_squared => k_is)
    (case l_squared => k_is)
    (case c_squared => k_is)
    (case k_squared => k_is)
    (case a_square_root => k_is)
    (case l_square_root => k_is)
    (case c_square_root => k_is)
    (case k_square_root => k_is)
    (case a_is_stall => k_is)
    (case l_is_stall => k_is)
    (case c_is_stall => k_is)
    (case k_is_stall => k_is)
    (case a_root_of => k_is)
    (case l_root_of => k_is)
    (case c_root_of => k_is)
    (case k_root_of => k_is)
    (case a_l_deck => k_is)
    (case l_l_deck => k_is)
    (case c_l_deck => k_is)
    (case k_l_deck => k_is)
    (case a_l_pick => k_is)
    (case l_l_pick => k_is)
    (case c_l_pick => k_is)
    (case k_l_pick => k_is)
    (case a_l_divisor => k_is)
    (case l_l_divisor => k_is)
    (case c_l_divisor => k_is)
    (case k_l_divisor => k_is)
    (case a_l_made => k_is)
    (case l_l_made => k_is)
    (case c_l_made => k_is)
    (case k_l_made => k_is)
    (case a_l_amount => k_is)
    (case l_l_amount => k_is)
    (case c_l_amount => k_is)
    (case k_l_amount => k_is)
    (case a_l_root => k_is)
    (case l_l_root => k_is)
    (case c_l_root => k_is)
    (case k_l_root => k_is)
    (case a_l_due => k_is)
    (case l_l_due => k_is)
    (case c_l_due => k_is)
    (case k_l_due => k_is)
    (case a_l_is_it => k_is)
    (case l_l_is_it => k_is)
    (case c_l_is_it => k_is)
    (case k_l_is_it => k_is)
    (case a_l_deep => k_is)
    (case l_l_deep => k_is)
    (case c_l_deep => k_is)
    (case k_l_deep => k_is)
    (case a_l_odd => k_is)
    (case l_l_odd => k_is)
    (case c_l_odd => k_is)
    (case k_l_odd => k_is)
    (case a_l_place => k_is)
    (case l_l_place => k_is)
    (case c_l_place => k_is)
    (case k_l_place => k_is)
    (case a_law => k_is)
    (case l_law => k_is)
    (case c_law => k_is)
    (case k_law => k_is)
    (case l_BadFraction_init => k_is)
    (case c_BadFraction_init => k_is)
    (case k_BadFraction_init => k_is)
    (case l_Web_init => k_is)
    (case c_Web_init => k_is)
    (case k_Web_init => k_is)
