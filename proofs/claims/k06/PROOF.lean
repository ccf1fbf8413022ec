import PyProof.Rows.All
import Wide.All
import OpenK.AllK
import Wide.FinOn
import HandS.ForMost
import HandS.WideBits
import HandS.Gcd
import HandS.IsInst
import HandS.Style
import HandS.SetFor
import HandS.EndBits
import HandS.Codes
import HandS.ForExc
import HandS.Small
import HandS.Exc
import HandS.ExcOwn
import HandS.TryOnly
import HandS.WordsExc
import HandS.ExcInit
import HandS.ExcField
import Flt.RightSqrt
import HandS.GenYield
import HandS.OwnEq
import HandS.TupAny
import PyProof.Draws
import KE.DataMinMax
import HandS.Zip
import KE.GoesZip
import HandS.TupMul
import HandS.Strs
import PySem.Challenge.RW_rootstalls_k06_webs_kept_and_compared
set_option Elab.async false
set_option linter.all false
set_option maxRecDepth 100000
set_option maxHeartbeats 4000000
namespace My
/-! ### fractions in lowest terms are the rationals -/
theorem rat_of {n : Int} {d : Nat} {r : Rat} (hd : d ≠ 0) (hc : n.natAbs.Coprime d) (h : Rat.divInt n (d : Int) = r) : r.num = n ∧ r.den = d := by
  subst h
  rw [← Rat.mk_eq_divInt (nz := hd) (c := hc)]
  exact ⟨rfl, rfl⟩
theorem rat_cross {n d : Int} {r : Rat} (hd : d ≠ 0) : Rat.divInt n d = r ↔ n * r.den = r.num * d := by
  have h := Rat.num_divInt_den r
  have hz : (r.den : Int) ≠ 0 := by
    have := r.den_pos
    omega
  constructor
  · intro e
    rw [← h] at e
    exact (Rat.divInt_eq_divInt_iff hd hz).mp e
  · intro e
    rw [← h]
    exact (Rat.divInt_eq_divInt_iff hd hz).mpr e
theorem den_pos (r : Rat) : (0 : Int) < r.den := by
  have := r.den_pos
  omega
theorem gcd_den (r : Rat) : Nat.gcd r.num.natAbs r.den = 1 := r.reduced
/-- the sum -/
theorem add_form (r s : Rat) (g ad bd : Nat) (top : Int) (g1 : Nat) (hg : g = r.den.gcd s.den) (had : ad = r.den / g) (hbd : bd = s.den / g) (ht : top = r.num * bd + s.num * ad) (h1 : g1 = top.natAbs.gcd g) :
    (r + s).num = top / g1 ∧ (r + s).den = ad * (s.den / g1) := by
  have hd := r.den_pos
  have hs := s.den_pos
  have gpos : 0 < g := hg ▸ Nat.gcd_pos_of_pos_left _ hd
  have ae : ad * g = r.den := had ▸ Nat.div_mul_cancel (hg ▸ Nat.gcd_dvd_left ..)
  have be : bd * g = s.den := hbd ▸ Nat.div_mul_cancel (hg ▸ Nat.gcd_dvd_right ..)
  have adpos : 0 < ad := by
    rcases Nat.eq_zero_or_pos ad with e | e
    · rw [e] at ae
      omega
    · exact e
  have aux : top.natAbs.gcd g = top.natAbs.gcd (ad * s.den) := by
    rw [ht]
    exact Rat.add.aux r s hg had hbd
  have g1pos : 0 < g1 := h1 ▸ Nat.gcd_pos_of_pos_right _ gpos
  have d1 : g1 ∣ top.natAbs := h1 ▸ Nat.gcd_dvd_left ..
  have d2 : g1 ∣ g := h1 ▸ Nat.gcd_dvd_right ..
  have d3 : g1 ∣ s.den := Nat.dvd_trans d2 ⟨bd, by rw [← be, Nat.mul_comm]⟩
  have e1 : ad * (s.den / g1) = ad * s.den / g1 := (Nat.mul_div_assoc ad d3).symm
  have d4 : g1 ∣ ad * s.den := Nat.dvd_trans d3 (Nat.dvd_mul_left ..)
  rw [e1]
  have tz : (g1 : Int) ∣ top := Int.ofNat_dvd_left.mpr d1
  have tm : top / g1 * g1 = top := Int.ediv_mul_cancel tz
  have dm : ad * s.den / g1 * g1 = ad * s.den := Nat.div_mul_cancel d4
  have nz : ad * s.den / g1 ≠ 0 := by
    intro e
    rw [e] at dm
    have : 0 < ad * s.den := Nat.mul_pos adpos hs
    omega
  refine rat_of nz ?_ ?_
  · have na : (top / (g1 : Int)).natAbs = top.natAbs / g1 := by
      rw [Int.natAbs_ediv_of_dvd tz, Int.natAbs_natCast]
    rw [na, h1, aux]
    exact Nat.coprime_div_gcd_div_gcd (Nat.gcd_pos_of_pos_right _ (Nat.mul_pos adpos hs))
  · have z1 : (g1 : Int) ≠ 0 := by omega
    have z2 : (g : Int) ≠ 0 := by omega
    rw [← Rat.divInt_mul_right z1, tm, ← Int.natCast_mul, dm, ← Rat.divInt_mul_right z2]
    have er := Rat.num_divInt_den r
    have es := Rat.num_divInt_den s
    have rz : (r.den : Int) ≠ 0 := by omega
    have sz : (s.den : Int) ≠ 0 := by omega
    have key := Rat.divInt_add_divInt r.num s.num rz sz
    rw [er, es] at key
    rw [key]
    have k1 : top * g = r.num * s.den + s.num * r.den := by
      rw [ht, ← be, ← ae, Int.natCast_mul, Int.natCast_mul, Int.add_mul, Int.mul_assoc, Int.mul_assoc]
    have k2 : ((ad * s.den : Nat) : Int) * (g : Int) = r.den * s.den := by
      rw [← ae, Int.natCast_mul, Int.natCast_mul, Int.mul_assoc, Int.mul_comm (s.den : Int), ← Int.mul_assoc]
    rw [k1, k2]
/-- the product -/
theorem mul_form (r s : Rat) (g1 g2 : Nat) (h1 : g1 = r.num.natAbs.gcd s.den) (h2 : g2 = s.num.natAbs.gcd r.den) :
    (r * s).num = r.num / g1 * (s.num / g2) ∧ (r * s).den = r.den / g2 * (s.den / g1) := by
  subst h1 h2
  have e : r * s = Rat.mul r s := rfl
  rw [e]
  unfold Rat.mul
  refine ⟨?_, ?_⟩
  · show r.num.divExact _ _ * s.num.divExact _ _ = _
    rw [Int.divExact_eq_tdiv, Int.divExact_eq_tdiv, Int.tdiv_eq_ediv_of_dvd, Int.tdiv_eq_ediv_of_dvd]
    · exact Int.ofNat_dvd_left.mpr (Nat.gcd_dvd_left ..)
    · exact Int.ofNat_dvd_left.mpr (Nat.gcd_dvd_left ..)
  · show r.den.divExact _ _ * s.den.divExact _ _ = _
    rw [Nat.divExact_eq_div, Nat.divExact_eq_div]
/-- lowest terms of any pair -/
theorem low_form (n d : Int) (hd : d ≠ 0) : (Rat.divInt n d).num = (if d < 0 then n / (-(n.natAbs.gcd d.natAbs : Nat) : Int) else n / (n.natAbs.gcd d.natAbs : Nat)) ∧
    ((Rat.divInt n d).den : Int) = (if d < 0 then d / (-(n.natAbs.gcd d.natAbs : Nat) : Int) else d / (n.natAbs.gcd d.natAbs : Nat)) := by
  have pos : ∀ (n d : Int), 0 < d → (Rat.divInt n d).num = n / (n.natAbs.gcd d.natAbs : Nat) ∧ ((Rat.divInt n d).den : Int) = d / (n.natAbs.gcd d.natAbs : Nat) := by
    intro n d h
    have gp : 0 < n.natAbs.gcd d.natAbs := Nat.gcd_pos_of_pos_right _ (by omega)
    have z1 : ((n.natAbs.gcd d.natAbs : Nat) : Int) ≠ 0 := by omega
    have dn : ((n.natAbs.gcd d.natAbs : Nat) : Int) ∣ n := Int.ofNat_dvd_left.mpr (Nat.gcd_dvd_left ..)
    have dd : ((n.natAbs.gcd d.natAbs : Nat) : Int) ∣ d := Int.ofNat_dvd_left.mpr (Nat.gcd_dvd_right ..)
    have e : d / ((n.natAbs.gcd d.natAbs : Nat) : Int) = ((d.natAbs / n.natAbs.gcd d.natAbs : Nat) : Int) := by
      rw [Int.natCast_ediv]
      congr 1
      omega
    have dpos : d.natAbs / n.natAbs.gcd d.natAbs ≠ 0 := Nat.ne_of_gt (Nat.div_pos (Nat.le_of_dvd (by omega) (Nat.gcd_dvd_right ..)) gp)
    have key := rat_of (n := n / ((n.natAbs.gcd d.natAbs : Nat) : Int)) (d := d.natAbs / n.natAbs.gcd d.natAbs) (r := Rat.divInt n d) dpos
      (by
        rw [Int.natAbs_ediv_of_dvd dn, Int.natAbs_natCast]
        exact Nat.coprime_div_gcd_div_gcd gp)
      (by rw [← e, ← Rat.divInt_mul_right z1, Int.ediv_mul_cancel dn, Int.ediv_mul_cancel dd])
    exact ⟨key.1, by rw [key.2, e]⟩
  rcases Int.lt_or_gt_of_ne hd with h | h
  · rw [if_pos h, if_pos h, ← Rat.neg_divInt_neg]
    have k := pos (-n) (-d) (by omega)
    rw [Int.natAbs_neg, Int.natAbs_neg] at k
    rw [k.1, k.2]
    have dn : ((n.natAbs.gcd d.natAbs : Nat) : Int) ∣ n := Int.ofNat_dvd_left.mpr (Nat.gcd_dvd_left ..)
    have dd : ((n.natAbs.gcd d.natAbs : Nat) : Int) ∣ d := Int.ofNat_dvd_left.mpr (Nat.gcd_dvd_right ..)
    rw [Int.neg_ediv_of_dvd dn, Int.neg_ediv_of_dvd dd, Int.ediv_neg, Int.ediv_neg]
    exact ⟨rfl, rfl⟩
  · have k := pos n d h
    rw [if_neg (by omega), if_neg (by omega)]
    exact k
theorem low_self (r : Rat) : Rat.divInt r.num r.den = r := Rat.num_divInt_den r
/-! ### sizes -/
def Bd (k : Nat) (r : Rat) : Prop := r.num.natAbs < 2 ^ k ∧ r.den < 2 ^ k
theorem Bd.mono {k l : Nat} {r : Rat} (h : Bd k r) (hl : k ≤ l) : Bd l r := ⟨Nat.lt_of_lt_of_le h.1 (Nat.pow_le_pow_right (by decide) hl), Nat.lt_of_lt_of_le h.2 (Nat.pow_le_pow_right (by decide) hl)⟩
theorem nat_mul_lt {a b k l : Nat} (ha : a < 2 ^ k) (hb : b < 2 ^ l) : a * b < 2 ^ (k + l) := by
  rw [Nat.pow_add]
  exact Nat.mul_lt_mul'' ha hb
theorem Bd.divInt {k : Nat} {n d : Int} (hd : d ≠ 0) (h1 : n.natAbs < 2 ^ k) (h2 : d.natAbs < 2 ^ k) : Bd k (Rat.divInt n d) := by
  obtain ⟨a, b⟩ := low_form n d hd
  have dn : ((n.natAbs.gcd d.natAbs : Nat) : Int) ∣ n := Int.ofNat_dvd_left.mpr (Nat.gcd_dvd_left ..)
  have dd : ((n.natAbs.gcd d.natAbs : Nat) : Int) ∣ d := Int.ofNat_dvd_left.mpr (Nat.gcd_dvd_right ..)
  have dp := (Rat.divInt n d).den_pos
  refine ⟨Nat.lt_of_le_of_lt ?_ h1, Nat.lt_of_le_of_lt ?_ h2⟩
  · rw [a]
    split
    · rw [Int.ediv_neg, Int.natAbs_neg, Int.natAbs_ediv_of_dvd dn]
      exact Nat.div_le_self _ _
    · rw [Int.natAbs_ediv_of_dvd dn]
      exact Nat.div_le_self _ _
  · have e : (Rat.divInt n d).den = ((Rat.divInt n d).den : Int).natAbs := (Int.natAbs_natCast _).symm
    rw [e, b]
    split
    · rw [Int.ediv_neg, Int.natAbs_neg, Int.natAbs_ediv_of_dvd dd]
      exact Nat.div_le_self _ _
    · rw [Int.natAbs_ediv_of_dvd dd]
      exact Nat.div_le_self _ _
theorem Bd.add {k l : Nat} {r s : Rat} (hr : Bd k r) (hs : Bd l s) : Bd (k + l + 1) (r + s) := by
  have rz : (r.den : Int) ≠ 0 := Int.ne_of_gt (den_pos r)
  have sz : (s.den : Int) ≠ 0 := Int.ne_of_gt (den_pos s)
  have key := Rat.divInt_add_divInt r.num s.num rz sz
  rw [low_self, low_self] at key
  rw [key]
  have a := nat_mul_lt hr.1 hs.2
  have b := nat_mul_lt hs.1 hr.2
  have c := nat_mul_lt hr.2 hs.2
  rw [Nat.add_comm l k] at b
  refine Bd.divInt (Int.mul_ne_zero rz sz) ?_ ?_
  · have h1 : (r.num * (s.den : Int) + s.num * (r.den : Int)).natAbs ≤ (r.num * (s.den : Int)).natAbs + (s.num * (r.den : Int)).natAbs := Int.natAbs_add_le _ _
    rw [Int.natAbs_mul, Int.natAbs_mul, Int.natAbs_natCast, Int.natAbs_natCast] at h1
    rw [Nat.pow_succ]
    omega
  · rw [Int.natAbs_mul, Int.natAbs_natCast, Int.natAbs_natCast, Nat.pow_succ]
    omega
theorem Bd.mul {k l : Nat} {r s : Rat} (hr : Bd k r) (hs : Bd l s) : Bd (k + l) (r * s) := by
  have rz : (r.den : Int) ≠ 0 := Int.ne_of_gt (den_pos r)
  have sz : (s.den : Int) ≠ 0 := Int.ne_of_gt (den_pos s)
  have key := Rat.divInt_mul_divInt r.num s.num (d₁ := r.den) (d₂ := s.den)
  rw [low_self, low_self] at key
  rw [key]
  refine Bd.divInt (Int.mul_ne_zero rz sz) ?_ ?_
  · rw [Int.natAbs_mul]
    exact nat_mul_lt hr.1 hs.1
  · rw [Int.natAbs_mul, Int.natAbs_natCast, Int.natAbs_natCast]
    exact nat_mul_lt hr.2 hs.2
theorem Bd.neg {k : Nat} {r : Rat} (hr : Bd k r) : Bd k (-r) := by
  refine ⟨?_, ?_⟩
  · rw [Rat.neg_num, Int.natAbs_neg]
    exact hr.1
  · rw [Rat.neg_den]
    exact hr.2
theorem Bd.sub {k l : Nat} {r s : Rat} (hr : Bd k r) (hs : Bd l s) : Bd (k + l + 1) (r - s) := by
  rw [Rat.sub_eq_add_neg]
  exact hr.add hs.neg
theorem inv_num {s : Rat} (h : s ≠ 0) : (if s.num < 0 then -(s.den : Int) else s.den) = (s⁻¹).num ∧ (if s.num < 0 then -s.num else s.num) = (s⁻¹).den := by
  have hn : s.num ≠ 0 := fun e => h (Rat.num_eq_zero.mp e)
  rw [Rat.num_inv, Rat.den_inv, if_neg hn]
  split
  · rename_i g
    rw [Int.sign_eq_neg_one_of_neg g]
    omega
  · rename_i g
    rw [Int.sign_eq_one_of_pos (by omega)]
    omega
theorem Bd.inv {k : Nat} {s : Rat} (h : s ≠ 0) (hs : Bd k s) : Bd k s⁻¹ := by
  obtain ⟨a, b⟩ := inv_num h
  have dp := den_pos s
  refine ⟨?_, ?_⟩
  · rw [← a]
    have := hs.2
    split <;> omega
  · have := hs.1
    have e : (s⁻¹).den = ((s⁻¹).den : Int).natAbs := (Int.natAbs_natCast _).symm
    rw [e, ← b]
    split <;> omega
theorem Bd.div {k l : Nat} {r s : Rat} (h : s ≠ 0) (hr : Bd k r) (hs : Bd l s) : Bd (k + l) (r / s) := by
  rw [Rat.div_def]
  exact hr.mul (hs.inv h)
end My
namespace My
open PySem PySem.Spec PyProof.Rows L2
theorem and_sw {A B : Prop} (b : B) (a : A) : A ∧ B := ⟨a, b⟩
theorem if_dec {p : Prop} [Decidable p] {A B : Prop} (h1 : p → A) (h2 : ¬ p → B) : if decide p = true then A else B := by
  by_cases h : p
  · rw [if_pos (decide_eq_true h)]
    exact h1 h
  · rw [if_neg (fun q => h (of_decide_eq_true q))]
    exact h2 h
theorem if_ndec {p : Prop} [Decidable p] {A B : Prop} (h1 : ¬ p → A) (h2 : p → B) : if (!decide p) = true then A else B := by
  by_cases h : p
  · rw [decide_eq_true h]
    exact iteF (h2 h)
  · rw [decide_eq_false h]
    exact iteT (h1 h)
/-- // by a divisor that is not 0, below 2 ^ 9000 -/
def CDivX (_ j : Int) : Prop := j ≠ 0 ∧ j.natAbs.log2 < 9000
section
variable {X : Cx}
theorem op_fdivX : OpR X (binaryOp .FloorDiv) (rI CDivX fun i j => .int (i.fdiv j)) := opI fun _ _ _ _ _ _ _ hc q => floordiv_int hc.1 q (.inl (PyProof.noPylong_of_log2 hc.2))
end
theorem cdivx {i j : Int} {b : Nat} (h : j ≠ 0) (hb : j.natAbs < 2 ^ b) (h9 : b ≤ 9000) : CDivX i j := by
  refine ⟨h, ?_⟩
  by_cases h0 : b = 0
  · subst h0
    omega
  · exact Nat.lt_of_lt_of_le (PySem.Flt.log2_lt_of (by omega) hb) h9
/-! ### heaps: all that was there, but what stands at D, stands -/
def Fw (D : Addr) (H H' : Hp) : Prop := ∀ b o, b ≠ D → H b = some o → H' b = some o
theorem Fw.refl (D : Addr) (H : Hp) : Fw D H H := fun _ _ _ h => h
theorem Fw.trans {D : Addr} {H H1 H2 : Hp} (a : Fw D H H1) (b : Fw D H1 H2) : Fw D H H2 := fun c o n h => b c o n (a c o n h)
theorem Same.fw {D : Addr} {H H' : Hp} (s : Same H H') : Fw D H H' := fun b o _ h => s b o h
theorem same_upd {H : Hp} {p : Addr} {o : HO} (h : H p = none) : Same H (upd H p o) := fun b x e => by
  rw [upd_ne (ne_of_none e h)]
  exact e
theorem fw_upd {D : Addr} {H : Hp} {o : HO} : Fw D H (upd H D o) := fun b x n e => by
  rw [upd_ne n]
  exact e
/-! ### the deck -/
def Deck (M : Nat) (D C : Addr) (H : Hp) (c : Nat) : Prop := ∃ (cells : List Int) (pl rest cnt : Int), C ≠ D ∧ H D = some (.lst [.ref C, .int pl, .int rest, .int cnt]) ∧ H C = some (.lst (cells.map V.int)) ∧
  cells.length ≤ 63 ∧ (∀ z ∈ cells, z.natAbs < 2 ^ M) ∧ (0 ≤ rest ∧ rest.natAbs < 2 ^ M) ∧ 0 ≤ cnt ∧ cnt ≤ c
theorem Deck.same {M : Nat} {D C : Addr} {H H' : Hp} {c : Nat} (d : Deck M D C H c) (s : Same H H') : Deck M D C H' c := by
  obtain ⟨cells, pl, rest, cnt, h0, h1, h2, h3⟩ := d
  exact ⟨cells, pl, rest, cnt, h0, s _ _ h1, s _ _ h2, h3⟩
theorem Deck.mono {M : Nat} {D C : Addr} {H : Hp} {c c' : Nat} (d : Deck M D C H c) (h : c ≤ c') : Deck M D C H c' := by
  obtain ⟨cells, pl, rest, cnt, h0, h1, h2, h3, h4, h5, h6, h7⟩ := d
  exact ⟨cells, pl, rest, cnt, h0, h1, h2, h3, h4, h5, h6, by omega⟩
theorem Deck.ne {M : Nat} {D C p : Addr} {H : Hp} {c : Nat} (d : Deck M D C H c) (h : H p = none) : p ≠ D := by
  obtain ⟨cells, pl, rest, cnt, h0, h1, h2⟩ := d
  exact (ne_of_none h1 h).symm
theorem Deck.neC {M : Nat} {D C p : Addr} {H : Hp} {c : Nat} (d : Deck M D C H c) (h : H p = none) : p ≠ C := by
  obtain ⟨cells, pl, rest, cnt, h0, h1, h2, _⟩ := d
  exact (ne_of_none h2 h).symm
theorem Deck.put {M : Nat} {D C p : Addr} {H : Hp} {c : Nat} {o : HO} (d : Deck M D C H c) (n1 : p ≠ D) (n2 : p ≠ C) : Deck M D C (upd H p o) c := by
  obtain ⟨cells, pl, rest, cnt, h0, h1, h2, h3⟩ := d
  exact ⟨cells, pl, rest, cnt, h0, (upd_ne (Ne.symm n1)).trans h1, (upd_ne (Ne.symm n2)).trans h2, h3⟩
theorem pow_le {a b : Nat} (h : a ≤ b) : (2 : Nat) ^ a ≤ 2 ^ b := Nat.pow_le_pow_right (by decide) h
theorem div_small {i j : Int} {M : Nat} (h0 : 0 ≤ i) (h : i.natAbs < 2 ^ M) (hj : 0 < j) : 0 ≤ i.fdiv j ∧ (i.fdiv j).natAbs < 2 ^ M := by
  rw [Int.fdiv_eq_ediv_of_nonneg i (by omega)]
  have a := Int.ediv_nonneg h0 (Int.le_of_lt hj)
  have b : i / j ≤ i := Int.ediv_le_self j h0
  exact ⟨a, by omega⟩
end My
namespace My
open PySem PySem.Spec PyProof.Rows L2
theorem at_ints {cells : List Int} {i : Int} (h0 : 0 ≤ i) (h1 : i < ((cells.map V.int).length : Nat)) : ∃ z, z ∈ cells ∧ atI (cells.map V.int) i = some (.int z) := by
  obtain ⟨j, rfl⟩ := Int.eq_ofNat_of_zero_le h0
  rw [List.length_map] at h1
  have hj : j < cells.length := by omega
  refine ⟨cells[j], List.getElem_mem hj, atI_nat ?_⟩
  rw [List.getElem?_map, List.getElem?_eq_getElem hj]
  rfl
theorem bits_lt {z : Int} {M : Nat} (h : Builtin.Int.intBits z ≤ M) : z.natAbs < 2 ^ M := by
  unfold Builtin.Int.intBits at h
  split at h
  · rename_i e
    have e' : z = 0 := by simpa using e
    subst e'
    exact Nat.two_pow_pos M
  · have := Nat.lt_log2_self (n := z.natAbs)
    exact Nat.lt_of_lt_of_le this (pow_le h)
theorem pw_big {z cnt : Int} {c M : Nat} (hz : z.natAbs < 2 ^ M) (hM : 64 ≤ M) (h0 : 0 ≤ cnt) (h1 : cnt ≤ c) (hc : c ≤ 2 ^ 40) : (z + 7919 * (cnt + 1) + 1).natAbs < 2 ^ (M + 1) := by
  have e : (2 : Nat) ^ 64 ≤ 2 ^ M := pow_le hM
  rw [Nat.pow_succ]
  generalize (2 : Nat) ^ M = p at *
  omega
theorem fdiv_dvd {a b : Int} (h : b ∣ a) : a.fdiv b = a / b := by
  obtain ⟨c, rfl⟩ := h
  by_cases hb : b = 0
  · subst hb
    rw [Int.zero_mul]
    simp
  · rw [Int.mul_fdiv_cancel_left _ hb, Int.mul_ediv_cancel_left _ hb]
theorem mod_rng (x : Int) {m : Int} (h : 0 < m) : 0 ≤ x % m ∧ x % m < m := ⟨Int.emod_nonneg _ (by omega), Int.emod_lt_of_pos _ h⟩
end My
namespace My
open PySem PySem.Spec PyProof.Rows L2
theorem cpow_of {i j : Int} (h : 0 ≤ j ∧ j ≤ 1000000 ∧ i.natAbs < 2 ^ 64) : CPow i j := h
theorem ten18 : (0 : Int) ≤ 10 ^ (18 : Int).toNat := by decide
theorem cmul_small {i j : Int} (h : i.natAbs < 2 ^ 64) (h2 : j.natAbs < 2 ^ 64) : CMulX i j := mulx_ok h h2 (by decide)
theorem cmul_big {i j : Int} {M : Nat} (h : i.natAbs < 2 ^ M) (h2 : j.natAbs < 2 ^ 64) (hM : M ≤ 100000000) : CMulX i j := mulx_ok h h2 (by omega)
theorem pick_mul2 (x : Int) {m k : Int} (h0 : 0 < m) (hm : m.natAbs < 2 ^ 32) (hk : k.natAbs < 2 ^ 32) {d : Int} (hd : 0 < d) : CMulX (x % m) ((x % m).fdiv d + k) := by
  obtain ⟨a, b⟩ := mod_rng x h0
  rw [Int.fdiv_eq_ediv_of_nonneg _ (by omega)]
  have c := Int.ediv_nonneg a (Int.le_of_lt hd)
  have e : (x % m) / d ≤ x % m := Int.ediv_le_self d a
  exact cmul_small (by omega) (by omega)
end My
namespace My
open PySem PySem.Spec PyProof.Rows L2
variable {K : PySem.W.Frag}
/-! ### isinstance -/
section
variable {K : PySem.W.Frag} {H : Hp} {Q : VK}
theorem isi_int_int {i : Int} (q : Q (.bl true) H) : rIsi K [.int i, .ty "int"] H Q := ⟨_, _, _, _, _, rfl, .ty _, .base (.int _), kit_ty (by decide +kernel), q⟩
theorem isi_int_bool {i : Int} (q : Q (.bl false) H) : rIsi K [.int i, .ty "bool"] H Q := ⟨_, _, _, _, _, rfl, .ty _, .base (.int _), kit_ty (by decide +kernel), q⟩
theorem isi_bl_bool {b : Bool} (q : Q (.bl true) H) : rIsi K [.bl b, .ty "bool"] H Q := ⟨_, _, _, _, _, rfl, .ty _, .base (.bl _), kit_ty (by decide +kernel), q⟩
theorem isi_tup_tup {p : Addr} {xs : List V} (h : H p = some (.tup xs)) (q : Q (.bl true) H) : rIsi K [.ref p, .ty "tuple"] H Q := ⟨_, _, _, _, _, rfl, .ty _, .base (.tup h), kit_ty (by decide +kernel), q⟩
end
/-! ### a fraction that stands in the heap -/
abbrev frV (r : Rat) : List V := [.int r.num, .int r.den]
/-- a tuple: in the heap, or one of the module's own -/
def Tp (K : PySem.W.Frag) (H : Hp) (p : Addr) (xs : List V) : Prop := H p = some (.tup xs) ∨ SqT K (fun _ => none) p xs
theorem Tp.same {H H' : Hp} {p : Addr} {xs : List V} (s : Same H H') (h : Tp K H p xs) : Tp K H' p xs := h.imp (fun h => s _ _ h) id
theorem Tp.sq {H : Hp} {p : Addr} {xs : List V} (h : Tp K H p xs) : SqT K H p xs := by
  rcases h with h | (h | ⟨_, h⟩) | h
  · exact .of h
  · cases h
  · cases h
  · exact .inr h
def IsF (K : PySem.W.Frag) (H : Hp) (v : V) (r : Rat) : Prop := ∃ p, v = .ref p ∧ Tp K H p (frV r)
theorem IsF.same {H H' : Hp} {v : V} {r : Rat} (s : Same H H') (h : IsF K H v r) : IsF K H' v r := by
  obtain ⟨p, e, h⟩ := h
  exact ⟨p, e, h.same s⟩
theorem Tp.new {H : Hp} {p : Addr} {xs : List V} : Tp K (upd H p (.tup xs)) p xs := .inl upd_same
theorem at_same {H H' : Hp} {p : Addr} {o : HO} (s : Same H H') (h : H p = some o) : H' p = some o := s _ _ h
theorem Tp.fw {M : Nat} {D C : Addr} {c : Nat} {H H' : Hp} {p : Addr} {xs : List V} (d : Deck M D C H c) (s : Fw D H H') (h : Tp K H p xs) : Tp K H' p xs := by
  obtain ⟨cells, pl, rest, cnt, h0, h1, h2⟩ := d
  exact h.imp (fun h => s _ _ (ne_of h h1 (by intro z; cases z)) h) id
theorem IsF.fw {M : Nat} {D C : Addr} {c : Nat} {H H' : Hp} {v : V} {r : Rat} (d : Deck M D C H c) (s : Fw D H H') (h : IsF K H v r) : IsF K H' v r := by
  obtain ⟨p, e, h⟩ := h
  exact ⟨p, e, h.fw d s⟩
/-- all tuples stand -/
def Tps (H H' : Hp) : Prop := ∀ b xs, H b = some (.tup xs) → H' b = some (.tup xs)
theorem Tp.ts {H H' : Hp} {p : Addr} {xs : List V} (f : Tps H H') (h : Tp K H p xs) : Tp K H' p xs := h.imp (fun h => f _ _ h) id
theorem isi_tp {K' : PySem.W.Frag} {H : Hp} {Q : VK} {p : Addr} {xs : List V} (h : Tp K' H p xs) (hk : K' = K) (q : Q (.bl true) H) : rIsi K [.ref p, .ty "tuple"] H Q := by
  subst hk
  rcases h with h | (h | ⟨_, h⟩) | ⟨o, its, n, h1, h2, _⟩
  · exact ⟨_, _, _, _, _, rfl, .ty _, .base (.tup h), kit_ty (by decide +kernel), q⟩
  · cases h
  · cases h
  · exact ⟨_, _, _, _, _, rfl, .ty _, .kTuple h1 h2, kit_ty (by decide +kernel), q⟩
theorem isF_new {H : Hp} {p : Addr} {a b : Int} {r : Rat} (h1 : r.num = a) (h2 : (r.den : Int) = b) : IsF K (upd H p (.tup [.int a, .int b])) (.ref p) r := by
  subst h1 h2
  exact ⟨p, rfl, .new⟩
def frD (r : Rat) : PyData := .tuple [.int r.num, .int r.den]
theorem IsF.dp {K : PySem.W.Frag} {H : Hp} {v : V} {r : Rat} (h : IsF K H v r) : Dp K H v (frD r) := by
  obtain ⟨p, rfl, h⟩ := h
  exact .tup h.sq (.cons (.int _) (.cons (.int _) .nil))
theorem frD_shaped (r : Rat) : SeqAt.shaped (frD r) = true := by rfl
theorem frD_eqv (r s : Rat) : PyData.eqv (frD r) (frD s) = decide (r = s) := by
  have e : PyData.eqv (frD r) (frD s) = (decide (r.num = s.num) && decide ((r.den : Int) = s.den)) := by
    simp only [frD, PyData.eqv, PyData.eqvAll, Bool.and_true, Bool.beq_eq_decide_eq]
  rw [e, Bool.eq_iff_iff]
  simp only [Bool.and_eq_true, decide_eq_true_eq]
  constructor
  · rintro ⟨a, b⟩
    exact Rat.ext a (by omega)
  · rintro rfl
    exact ⟨rfl, rfl⟩
theorem eqF {K : PySem.W.Frag} {H : Hp} {v w : V} {r s : Rat} {Q : VK} (h1 : IsF K H v r) (h2 : IsF K H w s) (q : Q (.bl (decide (r = s))) H) : rEqD K v w H Q := ⟨_, _, h1.dp, h2.dp, frD_shaped r, frD_shaped s, by rw [frD_eqv]; exact q⟩
theorem neF {K : PySem.W.Frag} {H : Hp} {v w : V} {r s : Rat} {Q : VK} (h1 : IsF K H v r) (h2 : IsF K H w s) (q : Q (.bl (!decide (r = s))) H) : rNeD K v w H Q := ⟨_, _, h1.dp, h2.dp, frD_shaped r, frD_shaped s, by rw [frD_eqv]; exact q⟩
end My
namespace My
open PySem PySem.Spec PyProof.Rows L2
/-! ### calls of built-ins by named readings -/
def rInt : List V → Hp → VK → Prop := fun xs H Q => (∃ i, xs = [.int i] ∧ Q (.int i) H) ∨ ∃ k, xs = [.bl k] ∧ Q (.int (if k then 1 else 0)) H
def rLen (K : PySem.W.Frag) : List V → Hp → VK → Prop := fun xs H Q => ∃ p ys, xs = [.ref p] ∧ (SqL K H p ys ∨ SqT K H p ys) ∧ Q (.int ys.length) H
def rAbs : List V → Hp → VK → Prop := fun xs H Q => ∃ i, xs = [.int i] ∧ Q (.int (if i < 0 then -i else i)) H
def rMin : List V → Hp → VK → Prop := fun xs H Q => ∃ i j, xs = [.int i, .int j] ∧ Q (.int (if j < i then j else i)) H
theorem call_intN {X : Cx} : CallR X (.type "int") rInt := call_int1
theorem call_lenN {X : Cx} : CallR X (.builtin "len") (rLen X.K) := call_len_seq
theorem call_absN {X : Cx} : CallR X (.builtin "abs") rAbs := call_abs
theorem call_minN {X : Cx} (hc : X.calm = true) : CallR X (.builtin "min") rMin := call_min2 hc
/-! ### a reading, one step a rule: each says what its left side asks first -/
section
variable {σ : L2.St} {H : Hp} {Q : VK} {K : PySem.W.Frag} {D : Ends} {ta tb te : TE} {t : TA} {i : Nat} {v x y : V}
theorem rd_var (e : σ[i]? = some (some v)) (q : Q v H) : tVar i σ H Q := ⟨v, e, q⟩
theorem rd_C (q : Q v H) : tC v σ H Q := q
theorem rd_op {r : R2} (h : ta σ H fun x H1 => tb σ H1 fun y H2 => r x y H2 Q) : tOp r ta tb σ H Q := h
theorem rd_un {r : V → Hp → VK → Prop} (h : ta σ H fun x H1 => r x H1 Q) : tUn r ta σ H Q := h
theorem rd_CB {r : List V → Hp → VK → Prop} (h : t σ H fun vs H1 => r vs H1 Q) : tCB r t σ H Q := h
theorem rd_nil {Q : List V → Hp → Prop} (q : Q [] H) : tNil σ H Q := q
theorem rd_cons {Q : List V → Hp → Prop} (h : ta σ H fun x H1 => t σ H1 fun xs H2 => Q (x :: xs) H2) : tCons ta t σ H Q := h
theorem rd_call {sp : Sp} {dvs : List V} {E : XK} (h : t σ H fun vs H1 => sp (vs ++ dvs) H1 Q E) : tCall sp dvs E t σ H Q := h
theorem rd_rI {C : Int → Int → Prop} {g : Int → Int → V} {i j : Int} (q : Q (g i j) H) (c : C i j) : rI C g (.int i) (.int j) H Q := ⟨i, j, rfl, rfl, c, q⟩
theorem rd_rI0 {g : Int → Int → V} {i j : Int} (q : Q (g i j) H) : rI0 g (.int i) (.int j) H Q := ⟨i, j, rfl, rfl, q⟩
theorem rd_rU {g : Int → V} {i : Int} (q : Q (g i) H) : rU g (.int i) H Q := ⟨i, rfl, q⟩
theorem rd_eq (s : scal x y = true) (q : Q (.bl (decide (x = y))) H) : rEq x y H Q := ⟨s, q⟩
theorem rd_ne (s : scal x y = true) (q : Q (.bl (!decide (x = y))) H) : rNe x y H Q := ⟨s, q⟩
theorem int_eq {i j : Int} : (V.int i = V.int j) = (i = j) := by simp
theorem rd_eqI {i j : Int} (q : Q (.bl (decide (i = j))) H) : rEq (.int i) (.int j) H Q := ⟨rfl, by simpa using q⟩
theorem rd_neI {i j : Int} (q : Q (.bl (!decide (i = j))) H) : rNe (.int i) (.int j) H Q := ⟨rfl, by simpa using q⟩
theorem rd_ixL {p : Addr} {xs : List V} {i : Int} {v : V} (h : H p = some (.lst xs)) (e : atI xs i = some v) (q : Q v H) : rIxL K (.ref p) (.int i) H Q := ⟨p, xs, i, v, rfl, rfl, .of h, e, q⟩
theorem rd_ixT {p : Addr} {xs : List V} {i : Int} {v : V} (h : H p = some (.tup xs)) (e : atI xs i = some v) (q : Q v H) : rIxT K (.ref p) (.int i) H Q := ⟨p, xs, i, v, rfl, rfl, .of h, e, q⟩
theorem rd_ixTp {K' : PySem.W.Frag} {p : Addr} {xs : List V} {i : Int} {v : V} (h : Tp K' H p xs) (hk : K' = K) (e : atI xs i = some v) (q : Q v H) : rIxT K (.ref p) (.int i) H Q := ⟨p, xs, i, v, rfl, rfl, hk ▸ h.sq, e, q⟩
theorem rd_setL {p : Addr} {xs : List V} {k : Int} {j : Nat} {Q : Hp → Prop} (h : H p = some (.lst xs)) (e : ixN xs.length k = some j) (q : Q (upd H p (.lst (xs.set j v)))) : rSetL (.ref p) (.int k) v H Q := ⟨p, xs, k, j, rfl, rfl, h, e, q⟩
theorem rd_gcd {a b : Int} (q : Q (.int ((Nat.gcd a.natAbs b.natAbs : Nat) : Int)) H) : rGcd [.int a, .int b] H Q := ⟨a, b, rfl, q⟩
theorem rd_bits (h : te σ H fun x H1 => ∃ i, x = .int i ∧ Q (.int (Builtin.Int.intBits i : Nat)) H1) : tBits te σ H Q := h
theorem rd_tup (h : t σ H fun xs H1 => xs.length ≤ sizeLine ∧ ∀ p, H1 p = none → Q (.ref p) (upd H1 p (.tup xs))) : tTup t σ H Q := h
theorem rd_lst (h : t σ H fun xs H1 => xs.length ≤ sizeLine ∧ ∀ p, H1 p = none → Q (.ref p) (upd H1 p (.lst xs))) : tLst t σ H Q := h
theorem rd_sl {r : V → Option Int → Option Int → Hp → VK → Prop} {tl th : TO} (h : te σ H fun x H1 => tl σ H1 fun l H2 => th σ H2 fun u H3 => r x l u H3 Q) : tSl r te tl th σ H Q := h
theorem rd_part {Q : Option Int → Hp → Prop} (h : te σ H fun x H1 => ∃ i, x = .int i ∧ Q (some i) H1) : tPart te σ H Q := h
theorem rd_nopart {Q : Option Int → Hp → Prop} (h : Q none H) : tNoPart σ H Q := h
theorem rd_slL {a : Addr} {xs : List V} {lo hi : Option Int} (h : SqL K H a xs) (q : ∀ p, H p = none → Q (.ref p) (upd H p (.lst (cutV xs lo hi)))) : rSlL K (.ref a) lo hi H Q := ⟨a, xs, rfl, h, q⟩
theorem rd_bm {T : String} {r : V → List V → Hp → VK → Prop} (h : te σ H fun x H1 => tyV K T x H1 ∧ t σ H1 fun xs H2 => r x xs H2 Q) : tBM K T r te t σ H Q := h
theorem rd_chain {r r' : R2} (h : ta σ H fun x H1 => tb σ H1 fun y H2 => r x y H2 fun z H3 => ∃ k, z = .bl k ∧ (if k = true then te σ H3 fun w' H4 => r' y w' H4 Q else Q (.bl false) H3)) : tChain r r' ta tb te σ H Q := h
theorem rd_andV (h : ta σ H fun x H1 => ∃ c, x = .bl c ∧ if c = true then tb σ H1 Q else Q (.bl false) H1) : tAndV ta tb σ H Q := h
theorem rd_orV (h : ta σ H fun x H1 => ∃ c, x = .bl c ∧ if c = true then Q (.bl true) H1 else tb σ H1 Q) : tOrV ta tb σ H Q := h
theorem rd_notV (h : ta σ H fun x H1 => ∃ c, x = .bl c ∧ Q (.bl (!c)) H1) : tNotV ta σ H Q := h
theorem rd_ifE {c : TT} (h : c σ H fun c H1 => if c = true then ta σ H1 Q else tb σ H1 Q) : tIf c ta tb σ H Q := h
section
variable {Q : Bool → Hp → Prop} {u u' : TT}
theorem rd_test (h : te σ H fun x H' => ∃ k, x = .bl k ∧ Q k H') : tTest te σ H Q := h
theorem rd_B (h : te σ H fun x H1 => ∃ c, x = .bl c ∧ Q c H1) : tB te σ H Q := h
theorem rd_not (h : u σ H fun c H1 => Q (!c) H1) : tNot u σ H Q := h
theorem rd_and (h : u σ H fun c H1 => if c = true then u' σ H1 Q else Q false H1) : tAnd u u' σ H Q := h
theorem rd_or (h : u σ H fun c H1 => if c = true then Q true H1 else u' σ H1 Q) : tOr u u' σ H Q := h
theorem rd_yes (q : Q true H) : tYes σ H Q := q
end
section
variable {s s' : TS} {g : TG} {gs : TGs}
theorem rd_seq (h : s { D with nx := s' D } σ H) : tSeq s s' D σ H := h
theorem rd_next (h : D.nx σ H) : tNext D σ H := h
theorem rd_drop (h : te σ H fun _ H1 => D.nx σ H1) : tDrop te D σ H := h
theorem rd_ret (h : te σ H D.rt) : tRet te D σ H := h
theorem rd_ifS {c : TT} (h : c σ H fun b H1 => if b = true then s D σ H1 else s' D σ H1) : tIfS c s s' D σ H := h
theorem rd_asg (h : te σ H fun x H1 => g x σ H1 D.nx) : tAsg te g D σ H := h
theorem rd_gName {Q : L2.St → Hp → Prop} (h : Q (σ.set i (some v)) H) : gName i v σ H Q := h
theorem rd_gSub {Q : L2.St → Hp → Prop} {ts : TSet} (h : ta σ H fun o H1 => tb σ H1 fun i H2 => ts o i v H2 fun H3 => Q σ H3) : gSub ta tb ts v σ H Q := h
theorem rd_gTup {Q : L2.St → Hp → Prop} {p : Addr} {xs : List V} {n : Nat} (h : H p = some (.tup xs)) (e : xs.length = n) (q : gs xs σ H Q) : gTup K n gs (.ref p) σ H Q := ⟨p, xs, rfl, .of h, e, q⟩
theorem rd_gTp {K' : PySem.W.Frag} {Q : L2.St → Hp → Prop} {p : Addr} {xs : List V} {n : Nat} (h : Tp K' H p xs) (hk : K' = K) (e : xs.length = n) (q : gs xs σ H Q) : gTup K n gs (.ref p) σ H Q := ⟨p, xs, rfl, hk ▸ h.sq, e, q⟩
theorem rd_gNil {Q : L2.St → Hp → Prop} (q : Q σ H) : gNil [] σ H Q := ⟨rfl, q⟩
theorem rd_gCons {Q : L2.St → Hp → Prop} {r : List V} (h : g v σ H fun σ' H' => gs r σ' H' Q) : gCons g gs (v :: r) σ H Q := ⟨v, r, rfl, h⟩
theorem rd_for {wi : TI} (h : wi σ H fun J H1 => ∃ W : Nat → Nat → L2.St → Hp → Prop, (∃ m, W 0 m σ H1) ∧ ∀ i m σ H, W i m σ H →
  (J.stop i H ∧ D.nx σ H) ∨ (J.go i H ∧ ∃ N : L2.St → Hp → Prop, (∀ σ' H', N σ' H' → ∃ m', m' < m ∧ W (i + 1) m' σ' H') ∧ ∀ x H', J.yld i H x H' → g x σ H' fun σ2 H2 => s { D with nx := N, ct := N, bk := D.nx } σ2 H2)) : tFor wi g s D σ H := h
theorem rd_rng1 {R : It → Hp → Prop} (h : t σ H fun vs H1 => ∃ j : Int, vs = [.int j] ∧ -(2 ^ 62) ≤ j ∧ j < 2 ^ 62 ∧ R (Itr 0 j.toNat) H1) : iRng1 t σ H R := h
theorem rd_itL {R : It → Hp → Prop} (h : te σ H fun x H1 => ∃ a, x = .ref a ∧ (∃ xs, SqL K H1 a xs) ∧ R (Itl K a) H1) : iList K te σ H R := h
theorem rd_itT {R : It → Hp → Prop} (h : te σ H fun x H1 => ∃ a, x = .ref a ∧ (∃ xs, SqT K H1 a xs) ∧ R (Itt K a) H1) : iTup K te σ H R := h
end
theorem if_T {p : Prop} [Decidable p] {A B : Prop} (hp : p) (h : A) : if decide p = true then A else B := by
  rw [if_pos (decide_eq_true hp)]
  exact h
theorem if_F {p : Prop} [Decidable p] {A B : Prop} (hp : ¬ p) (h : B) : if decide p = true then A else B := by
  rw [if_neg (fun q => hp (of_decide_eq_true q))]
  exact h
theorem if_nF {p : Prop} [Decidable p] {A B : Prop} (hp : p) (h : B) : if (!decide p) = true then A else B := by
  rw [decide_eq_true hp]
  exact iteF h
theorem if_nT {p : Prop} [Decidable p] {A B : Prop} (hp : ¬ p) (h : A) : if (!decide p) = true then A else B := by
  rw [decide_eq_false hp]
  exact iteT h
theorem ite_nt {A B : Prop} (h : B) : if (!true) = true then A else B := iteF h
theorem ite_nf {A B : Prop} (h : A) : if (!false) = true then A else B := iteT h
theorem rd_len {xs : List V} {R : Prop} (q : R) (h : xs.length.ble sizeLine = true) : xs.length ≤ sizeLine ∧ R := ⟨Nat.le_of_ble_eq_true h, q⟩
theorem rd_lenL {p : Addr} {xs : List V} (q : Q (.int xs.length) H) (h : H p = some (.lst xs)) : rLen K [.ref p] H Q := ⟨p, xs, rfl, .inl (.of h), q⟩
theorem rd_lenS {p : Addr} {xs : List V} (q : Q (.int xs.length) H) (h : SqL K H p xs) : rLen K [.ref p] H Q := ⟨p, xs, rfl, .inl h, q⟩
theorem rd_lenT {p : Addr} {xs : List V} (q : Q (.int xs.length) H) (h : H p = some (.tup xs)) : rLen K [.ref p] H Q := ⟨p, xs, rfl, .inr (.of h), q⟩
theorem rd_lenTp {K' : PySem.W.Frag} {p : Addr} {xs : List V} (q : Q (.int xs.length) H) (h : Tp K' H p xs) (hk : K' = K) : rLen K [.ref p] H Q := ⟨p, xs, rfl, .inr (hk ▸ h.sq), q⟩
theorem rd_int {i : Int} (q : Q (.int i) H) : rInt [.int i] H Q := .inl ⟨i, rfl, q⟩
theorem rd_intB {k : Bool} (q : Q (.int (if k then 1 else 0)) H) : rInt [.bl k] H Q := .inr ⟨k, rfl, q⟩
theorem rd_abs {i : Int} (q : Q (.int (i.natAbs : Nat)) H) : rAbs [.int i] H Q := ⟨i, rfl, by
  have e : (if i < 0 then -i else i) = (i.natAbs : Int) := by split <;> omega
  rw [e]
  exact q⟩
theorem rd_min {i j : Int} (q : Q (.int (min i j)) H) : rMin [.int i, .int j] H Q := ⟨i, j, rfl, by
  have e : (if j < i then j else i) = min i j := by split <;> omega
  rw [e]
  exact q⟩
theorem rd_neB {a b : Bool} (q : Q (.bl (!decide (a = b))) H) : rNe (.bl a) (.bl b) H Q := ⟨rfl, by simpa using q⟩
theorem rd_eqB {a b : Bool} (q : Q (.bl (decide (a = b))) H) : rEq (.bl a) (.bl b) H Q := ⟨rfl, by simpa using q⟩
theorem rd_neS {a b : Str} (q : Q (.bl (!decide (a = b))) H) : rNe (.str a) (.str b) H Q := ⟨rfl, by simpa using q⟩
theorem rd_eqS {a b : Str} (q : Q (.bl (decide (a = b))) H) : rEq (.str a) (.str b) H Q := ⟨rfl, by simpa using q⟩
theorem rd_isBl {a b : Bool} (q : Q (.bl (decide (a = b))) H) : rIsB (.bl a) (.bl b) H Q := ⟨a, b, rfl, rfl, q⟩
end
end My
namespace My
open PySem PySem.Spec PyProof.Rows L2
theorem rd_lc {wi : TI} {g : TG} {tt : TT} {te : TE} {vs : List Nat} {σ : L2.St} {H : Hp} {Q : VK} (h : wi σ H fun J H1 => ∀ D, H1 D = none → ∃ W : Nat → Nat → Hp → Prop, (∃ m, W 0 m (upd H1 D (.lst []))) ∧ ∀ i m H, W i m H →
  (J.stop i H ∧ Q (.ref D) H) ∨ (J.go i H ∧ ∃ Nx : Hp → Prop, (∀ H', Nx H' → ∃ m', m' < m ∧ W (i + 1) m' H') ∧ ∀ x H', J.yld i H x H' → g x (wipe σ vs) H' fun σ2 H2 => wipe σ2 vs = wipe σ vs ∧ tt σ2 H2 fun b H3 =>
    if b = true then te σ2 H3 fun y H4 => ∃ acc, H4 D = some (.lst acc) ∧ acc.length < sizeLine ∧ Nx (upd H4 D (.lst (acc ++ [y]))) else Nx H3)) : tLc wi g tt te vs σ H Q := h
theorem cut_all {xs : List V} {n : Nat} (h : xs.length ≤ n) : cutV xs none (some (n : Int)) = xs := by
  unfold cutV
  rw [HT.sIx_none, HT.sIx_nat, List.drop_zero]
  exact List.take_of_length_le (by omega)
theorem take_succ_map {ns : List Int} {i : Nat} {x : V} (h : (ns.map V.int)[i]? = some x) : ∃ z, x = .int z ∧ z ∈ ns ∧ (ns.take (i + 1)).map V.int = (ns.take i).map V.int ++ [x] := by
  rw [List.getElem?_map] at h
  cases e : ns[i]? with
  | none =>
    rw [e] at h
    cases h
  | some z =>
    rw [e] at h
    have hx : x = .int z := (Option.some.inj h).symm
    refine ⟨z, hx, List.mem_of_getElem? e, ?_⟩
    rw [List.take_add_one, e, List.map_append, hx]
    rfl
/-! ### list.count of flags -/
def eqb (k : Bool) (v : Value) : Bool := match v with
  | .bool b => b == k
  | _ => false
theorem eqb_at {A : Around} {s : Shared} {k : Bool} : ∀ {us : List Value} {bs : List Bool}, Vals (bs.map V.bl) us → ∀ y ∈ us, SeqAt.EqAt A s y (.bool k) (eqb k y)
  | [], bs, r => fun y hy => nomatch hy
  | u :: us, [], r => nomatch r
  | u :: us, b :: bs, r => fun y hy => by
    cases r with
    | cons r1 r2 =>
      rcases List.mem_cons.mp hy with e | e
      · rw [e]
        cases (show u = Value.bool b from r1)
        exact SeqAt.EqAt.bool_bool b k
      · exact eqb_at r2 y e
theorem eqb_count {k : Bool} : ∀ {us : List Value} {bs : List Bool}, Vals (bs.map V.bl) us → us.countP (eqb k) = bs.count k
  | [], [], _ => rfl
  | [], b :: bs, r => nomatch r
  | u :: us, [], r => nomatch r
  | u :: us, b :: bs, r => by
    cases r with
    | cons r1 r2 =>
      cases (show u = Value.bool b from r1)
      rw [List.countP_cons, List.count_cons, eqb_count r2] <;> rfl
def rCntB (K : PySem.W.Frag) : V → List V → Hp → VK → Prop := fun x xs H Q => ∃ (p : Addr) (bs : List Bool) (k : Bool), x = .ref p ∧ xs = [.bl k] ∧ SqL K H p (bs.map V.bl) ∧ Q (.int (bs.count k : Nat)) H
theorem mt_bcount {X : Cx} : MtR X "list.count" (rCntB X.K) := by
  intro pins s σ H x xs v us Q I rx rxs h
  obtain ⟨p, bs, k, rfl, rfl, hs, q⟩ := h
  cases rx
  obtain ⟨u, rfl, ru⟩ := rxs.one
  cases (show u = Value.bool k from ru)
  obtain ⟨its, rv, ⟨⟨cls, dd, data, sl⟩, n, ho, hc, hdn, hd⟩, hlen⟩ := I.list hs
  simp only at hc hd
  subst hc hd
  refine call_meets PySem.F.slot_list_count ⟨_, ho, rfl⟩ PySem.F.entry_list_count (PySem.F.args_list_count_2 _ _)
    (SeqAt.list_countAt p its.toArray n dd sl (.bool k) (eqb k)) ⟨ho, fun y hy => eqb_at rv y (by simpa using hy), ?_⟩
  have ec : its.toArray.toList.countP (eqb k) = bs.count k := eqb_count rv
  refine ⟨.int (bs.count k : Nat), H, I.tok _, ⟨s.toks, ?_⟩, q⟩
  show Value.int ((its.toArray.toList.countP (eqb k) : Nat) : Int) s.toks = Value.int ((bs.count k : Nat) : Int) s.toks
  rw [ec]
/-! ### greatest common divisors by remainders -/
structure Euc (G b i : Nat) (x y : Nat) : Prop where
  g : x.gcd y = G
  h : y * 2 ^ (i / 2) ≤ b
  m : i ≠ 0 → y < x ∧ x * 2 ^ ((i - 1) / 2) ≤ b
theorem Euc.step {G b i x y : Nat} (e : Euc G b i x y) (hy : y ≠ 0) : Euc G b (i + 1) y (x % y) := by
  have lt : x % y < y := Nat.mod_lt _ (by omega)
  refine ⟨?_, ?_, fun _ => ⟨lt, ?_⟩⟩
  · rw [← e.g, Nat.gcd_comm x y, Nat.gcd_comm y (x % y)]
    exact (Nat.gcd_rec y x).symm
  · rcases Nat.mod_two_eq_zero_or_one i with p | p
    · have q : (i + 1) / 2 = i / 2 := by omega
      rw [q]
      exact Nat.le_trans (Nat.mul_le_mul_right _ (Nat.le_of_lt lt)) e.h
    · have q : (i + 1) / 2 = (i - 1) / 2 + 1 := by omega
      obtain ⟨m1, m2⟩ := e.m (by omega)
      have half : 2 * (x % y) ≤ x := by
        have d := Nat.div_add_mod x y
        have dp : 1 ≤ x / y := Nat.div_pos (Nat.le_of_lt m1) (by omega)
        have : y ≤ y * (x / y) := Nat.le_mul_of_pos_right y dp
        omega
      rw [q, Nat.pow_succ]
      calc x % y * (2 ^ ((i - 1) / 2) * 2) = (2 * (x % y)) * 2 ^ ((i - 1) / 2) := by rw [Nat.mul_comm (2 ^ _) 2, ← Nat.mul_assoc, Nat.mul_comm (x % y) 2]
        _ ≤ x * 2 ^ ((i - 1) / 2) := Nat.mul_le_mul_right _ half
        _ ≤ b := m2
  · have q : (i + 1 - 1) / 2 = i / 2 := by omega
    rw [q]
    exact e.h
theorem Euc.done {G b k x y : Nat} (e : Euc G b (2 * k + 2) x y) (hb : b < 2 ^ k) : y = 0 ∧ x = G := by
  have h := e.h
  have q : (2 * k + 2) / 2 = k + 1 := by omega
  rw [q] at h
  have hy : y = 0 := by
    rcases Nat.eq_zero_or_pos y with z | z
    · exact z
    · have p : 2 ^ (k + 1) ≤ y * 2 ^ (k + 1) := Nat.le_mul_of_pos_left _ z
      rw [Nat.pow_succ] at p
      have : 0 < 2 ^ k := Nat.two_pow_pos k
      rw [Nat.pow_succ] at h
      omega
  have g := e.g
  rw [hy, Nat.gcd_zero_right] at g
  exact ⟨hy, g⟩
end My
namespace My
open PySem PySem.Spec PyProof.Rows L2
theorem cdv {j : Int} (h : 0 < j) (hb : j.natAbs < 2 ^ 8000) (i : Int) : CDivX i j := cdivx (by omega) hb (by decide)
theorem cmx {i j : Int} (h1 : i.natAbs < 2 ^ 20000) (h2 : j.natAbs < 2 ^ 20000) : CMulX i j := mulx_ok h1 h2 (by decide)
theorem div_nat (a b : Nat) : (a : Int).fdiv (b : Int) = ((a / b : Nat) : Int) := by
  rw [Int.fdiv_eq_ediv_of_nonneg _ (by omega), Int.natCast_ediv]
theorem p45 {n : Nat} (h : n < 2 ^ 4000) : n < 2 ^ 8000 := Nat.lt_of_lt_of_le h (pow_le (by decide))
theorem p46 {n : Nat} (h : n < 2 ^ 4000) : n < 2 ^ 20000 := Nat.lt_of_lt_of_le h (pow_le (by decide))
theorem added_math {r s : Rat} (hr : Bd 4000 r) (hs : Bd 4000 s) : ∀ g top sh : Int, g = ((Nat.gcd (r.den : Int).natAbs (s.den : Int).natAbs : Nat) : Int) → top = r.num * (s.den : Int).fdiv g + s.num * (r.den : Int).fdiv g →
    sh = ((Nat.gcd top.natAbs g.natAbs : Nat) : Int) → (∀ i, CDivX i g) ∧ CMulX r.num ((s.den : Int).fdiv g) ∧ CMulX s.num ((r.den : Int).fdiv g) ∧ (∀ i, CDivX i sh) ∧ CMulX ((r.den : Int).fdiv g) ((s.den : Int).fdiv sh) ∧
      (r + s).num = top.fdiv sh ∧ ((r + s).den : Int) = (r.den : Int).fdiv g * (s.den : Int).fdiv sh := by
  intro g top sh hg ht hsh
  have hd := r.den_pos
  have hs' := s.den_pos
  rw [Int.natAbs_natCast, Int.natAbs_natCast] at hg
  have gpos : 0 < r.den.gcd s.den := Nat.gcd_pos_of_pos_left _ hd
  have gle : r.den.gcd s.den ≤ r.den := Nat.gcd_le_left _ hd
  have gna : g.natAbs = r.den.gcd s.den := by rw [hg, Int.natAbs_natCast]
  have shpos : 0 < top.natAbs.gcd (r.den.gcd s.den) := Nat.gcd_pos_of_pos_right _ gpos
  have shle : top.natAbs.gcd (r.den.gcd s.den) ≤ r.den.gcd s.den := Nat.gcd_le_right _ gpos
  rw [gna] at hsh
  have hr2 := hr.2
  have hs2 := hs.2
  have e1 : (s.den : Int).fdiv g = ((s.den / r.den.gcd s.den : Nat) : Int) := by rw [hg, div_nat]
  have e2 : (r.den : Int).fdiv g = ((r.den / r.den.gcd s.den : Nat) : Int) := by rw [hg, div_nat]
  have l1 : s.den / r.den.gcd s.den ≤ s.den := Nat.div_le_self _ _
  have l2 : r.den / r.den.gcd s.den ≤ r.den := Nat.div_le_self _ _
  have form := add_form r s (r.den.gcd s.den) (r.den / r.den.gcd s.den) (s.den / r.den.gcd s.den) top (top.natAbs.gcd (r.den.gcd s.den)) rfl rfl rfl (by rw [ht, e1, e2]) rfl
  have e3 : (s.den : Int).fdiv sh = ((s.den / top.natAbs.gcd (r.den.gcd s.den) : Nat) : Int) := by rw [hsh, div_nat]
  have l3 : s.den / top.natAbs.gcd (r.den.gcd s.den) ≤ s.den := Nat.div_le_self _ _
  refine ⟨cdv (by omega) (by rw [gna]; exact p45 (by omega)), ?_, ?_, cdv (by omega) ?_, ?_, ?_, ?_⟩
  · rw [e1]
    exact cmx (p46 hr.1) (by rw [Int.natAbs_natCast]; exact p46 (by omega))
  · rw [e2]
    exact cmx (p46 hs.1) (by rw [Int.natAbs_natCast]; exact p46 (by omega))
  · rw [hsh, Int.natAbs_natCast]
    exact p45 (by omega)
  · rw [e2, e3]
    exact cmx (by rw [Int.natAbs_natCast]; exact p46 (by omega)) (by rw [Int.natAbs_natCast]; exact p46 (by omega))
  · rw [form.1, hsh, Int.fdiv_eq_ediv_of_nonneg _ (by omega)]
  · rw [form.2, e2, e3, Int.natCast_mul]
theorem mul_math {r s : Rat} (hr : Bd 4000 r) (hs : Bd 4000 s) : ∀ a b : Int, a = ((Nat.gcd r.num.natAbs (s.den : Int).natAbs : Nat) : Int) → b = ((Nat.gcd s.num.natAbs (r.den : Int).natAbs : Nat) : Int) →
    (∀ i, CDivX i a) ∧ (∀ i, CDivX i b) ∧ CMulX (r.num.fdiv a) (s.num.fdiv b) ∧ CMulX ((r.den : Int).fdiv b) ((s.den : Int).fdiv a) ∧
      (r * s).num = r.num.fdiv a * s.num.fdiv b ∧ ((r * s).den : Int) = (r.den : Int).fdiv b * (s.den : Int).fdiv a := by
  intro a b ha hb
  rw [Int.natAbs_natCast] at ha hb
  have hd := r.den_pos
  have hs' := s.den_pos
  have ap : 0 < r.num.natAbs.gcd s.den := Nat.gcd_pos_of_pos_right _ hs'
  have bp : 0 < s.num.natAbs.gcd r.den := Nat.gcd_pos_of_pos_right _ hd
  have al : r.num.natAbs.gcd s.den ≤ s.den := Nat.gcd_le_right _ hs'
  have bl : s.num.natAbs.gcd r.den ≤ r.den := Nat.gcd_le_right _ hd
  have da : a ∣ r.num := by rw [ha]; exact Int.ofNat_dvd_left.mpr (Nat.gcd_dvd_left ..)
  have db : b ∣ s.num := by rw [hb]; exact Int.ofNat_dvd_left.mpr (Nat.gcd_dvd_left ..)
  have hr2 := hr.2
  have hs2 := hs.2
  obtain ⟨f1, f2⟩ := mul_form r s _ _ rfl rfl
  have e1 : r.num.fdiv a = r.num / a := fdiv_dvd da
  have e2 : s.num.fdiv b = s.num / b := fdiv_dvd db
  have e3 : (r.den : Int).fdiv b = ((r.den / s.num.natAbs.gcd r.den : Nat) : Int) := by rw [hb, div_nat]
  have e4 : (s.den : Int).fdiv a = ((s.den / r.num.natAbs.gcd s.den : Nat) : Int) := by rw [ha, div_nat]
  have l3 : r.den / s.num.natAbs.gcd r.den ≤ r.den := Nat.div_le_self _ _
  have l4 : s.den / r.num.natAbs.gcd s.den ≤ s.den := Nat.div_le_self _ _
  have n1 : (r.num / a).natAbs ≤ r.num.natAbs := by
    rw [Int.natAbs_ediv_of_dvd da]
    exact Nat.div_le_self _ _
  have n2 : (s.num / b).natAbs ≤ s.num.natAbs := by
    rw [Int.natAbs_ediv_of_dvd db]
    exact Nat.div_le_self _ _
  have hr1 := hr.1
  have hs1 := hs.1
  refine ⟨cdv (by omega) (by rw [ha, Int.natAbs_natCast]; exact p45 (by omega)), cdv (by omega) (by rw [hb, Int.natAbs_natCast]; exact p45 (by omega)), ?_, ?_, ?_, ?_⟩
  · rw [e1, e2]
    exact cmx (p46 (by omega)) (p46 (by omega))
  · rw [e3, e4]
    exact cmx (by rw [Int.natAbs_natCast]; exact p46 (by omega)) (by rw [Int.natAbs_natCast]; exact p46 (by omega))
  · rw [f1, e1, e2, ha, hb]
  · rw [f2, e3, e4, Int.natCast_mul]
end My
namespace My
open PySem PySem.Spec PyProof.Rows L2
theorem low_math {n b : Int} (hb : 0 < b) (hl : b.natAbs < 2 ^ 8000) : ∀ g : Int, g = ((n.natAbs.gcd b.natAbs : Nat) : Int) → (∀ i, CDivX i g) ∧ (Rat.divInt n b).num = n.fdiv g ∧ ((Rat.divInt n b).den : Int) = b.fdiv g := by
  rintro g rfl
  have gp : 0 < n.natAbs.gcd b.natAbs := Nat.gcd_pos_of_pos_right _ (by omega)
  have gl : n.natAbs.gcd b.natAbs ≤ b.natAbs := Nat.gcd_le_right _ (by omega)
  obtain ⟨e1, e2⟩ := low_form n b (by omega)
  rw [if_neg (by omega)] at e1 e2
  refine ⟨cdv (by omega) (by rw [Int.natAbs_natCast]; omega), ?_, ?_⟩
  · rw [e1, fdiv_dvd (Int.ofNat_dvd_left.mpr (Nat.gcd_dvd_left ..))]
  · rw [e2, fdiv_dvd (Int.ofNat_dvd_left.mpr (Nat.gcd_dvd_right ..))]
theorem sign_na {t r : Int} (a : 0 ≤ r) (b : r < 2) : (t * (1 - 2 * r)).natAbs = t.natAbs := by
  have h : r = 0 ∨ r = 1 := by omega
  rcases h with rfl | rfl
  · simp
  · rw [Int.natAbs_mul]
    simp
end My
namespace My
open PySem PySem.Spec PyProof.Rows L2
/-! ### an own error class without __init__, made without arguments -/
abbrev veChain : List Value := [.type "ValueError", .type "Exception", .type "BaseException", .type "object"]
theorem pmk_own0 {X : Cx} {C : Addr} {bmB : List Value} {B newId initId : String} {x : Str} {p pos : Pos} (F : ExcBaseFacts B newId initId bmB) (q : PySem.W.excIn X.K C bmB newId = true) (gC : X.mg x = some (.ref C))
    (kC : PySem.W.keepIn X.K (.ref C) = true) (r : Raises X (.ref C)) (hg : Gl X x) (hdb : (x == ("__debug__" : Str)) = false := by decide) :
    PMk X (.Call (.Name x p) [] [] pos) (fun _ H Q => Q (.ref C) none H) := by
  intro pins s σ H Q I h
  refine wpAny_Call_Name_kw (ld_glob I hg gC ?_ hdb)
  refine PySem.W.callWith_K0 I.kIn kC ?_
  show wpAny _ _ (call (.ref C) []) _ _ _
  obtain ⟨hp, g, d, t, os⟩ := s
  obtain ⟨bm, N, nm, qn, bs, hdct, sn, sub, ab, col, dd, k0, k1, k2, k3, k5, mN, hC, hN, hni, T⟩ := exc_obj I.kIn q
  refine wpAny_call_exc_subT F T hC hN hni (fun h' e hm => ?_) (Nat.zero_le _)
  exact mk_of I hm r h (I.hok.gone hm.new)
/-- what the top holds of such a class -/
structure ExC (K : PySem.W.Frag) (mg : Str → Option Value) (x : Str) (C : Addr) : Prop where
  g : mg x = some (.ref C)
  ex : PySem.W.excIn K C veChain "ValueError.__new__" = true
  kp : PySem.W.keepIn K (.ref C) = true
  be : PySem.W.subIn K (.ref C) (.type "BaseException") = some true
  ty : PySem.W.typeIn K (.ref C) = some (.type "type")
  ic : PySem.W.isClsIn K C = true
  sf : PySem.W.subIn K (.ref C) (.ref C) = some true
theorem exm_sub {K : PySem.W.Frag} {C S : Addr} {b : Bool} (h1 : PySem.W.subIn K (.ref S) (.type "BaseException") = some true) (h2 : PySem.W.isClsIn K S = true) (h3 : PySem.W.typeIn K (.ref S) = some (.type "type")) (h4 : PySem.W.subIn K (.ref C) (.ref S) = some b) :
    PySem.W.exmOne K (.ref C) (.ref S) = some b := by
  have e1 : (PySem.W.subIn K (.ref S) (.type "BaseException") == some true) = true := by rw [h1] <;> rfl
  have e2 : ((PySem.W.clsIn K S).isSome && PySem.W.typeIn K (.ref S) == some (.type "type")) = true := by
    have h2' : (PySem.W.clsIn K S).isSome = true := h2
    rw [h2', h3] <;> rfl
  show (if (PySem.W.subIn K (.ref S) (.type "BaseException") == some true) = true then (if ((PySem.W.clsIn K S).isSome && PySem.W.typeIn K (.ref S) == some (.type "type")) = true then PySem.W.subIn K (.ref C) (.ref S) else none) else none) = some b
  rw [if_pos e1, if_pos e2]
  exact h4
theorem ExC.te {K : PySem.W.Frag} {mg : Str → Option Value} {x : Str} {C : Addr} (e : ExC K mg x C) : PySem.W.exmOne K (.ref C) (.ref C) = some true := exm_sub e.be e.ic e.ty e.sf
/-- raise X() -/
theorem ps_raise0 {X : Cx} {W : WX} {C : Addr} {x : Str} {p pos pos2 : Pos} (hc : X.calm = true) (e : ExC X.K X.mg x C) (tk : Takes X W) (hg : Gl X x := by rfl) (hdb : (x == ("__debug__" : Str)) = false := by decide) :
    PS X (.Raise (some (.Call (.Name x p) [] [] pos)) none pos2) (fun _ σ H => W (.ref C) none σ H) :=
  ps_raise hc tk (pmk_own0 PySem.F.excBase_ValueError e.ex e.g e.kp (raises_own e.be e.ty) hg hdb)
theorem rd_callS {sp : Sp} {E : L2.St → XK} {t : TA} {σ : L2.St} {H : Hp} {Q : VK} (h : t σ H fun vs H1 => sp vs H1 Q (E σ)) : tCallS sp E t σ H Q := h
theorem rd_newK {σ : L2.St} {H : Hp} {Q : VK} (h : ∀ p, H p = none → Q (.ref p) (upd H p (.dK []))) : tDNewK σ H Q := h
theorem at_any {xs : List V} {i : Int} (h0 : 0 ≤ i) (h1 : i < (xs.length : Nat)) : ∃ v, v ∈ xs ∧ atI xs i = some v := by
  obtain ⟨j, rfl⟩ := Int.eq_ofNat_of_zero_le h0
  have hj : j < xs.length := by omega
  exact ⟨xs[j], List.getElem_mem hj, atI_nat (List.getElem?_eq_getElem hj)⟩
/-! ### things that are no integers -/
inductive Odd (D : Addr) (H : Hp) : V → Prop where
  | non : Odd D H .non
  | bl (b : Bool) : Odd D H (.bl b)
  | str (s : Str) : Odd D H (.str s)
  | lst {p : Addr} {xs : List V} (n : p ≠ D) (h : H p = some (.lst xs)) : Odd D H (.ref p)
  | tup {p : Addr} {xs : List V} (n : p ≠ D) (h : H p = some (.tup xs)) : Odd D H (.ref p)
  | dK {p : Addr} {kvs : List (Key × V)} (n : p ≠ D) (h : H p = some (.dK kvs)) : Odd D H (.ref p)
theorem Odd.fw {D : Addr} {H H' : Hp} {v : V} (o : Odd D H v) (f : Fw D H H') : Odd D H' v := by
  cases o with
  | non => exact .non
  | bl b => exact .bl b
  | str s => exact .str s
  | lst n h => exact .lst n (f _ _ n h)
  | tup n h => exact .tup n (f _ _ n h)
  | dK n h => exact .dK n (f _ _ n h)
theorem Odd.isi {D : Addr} {H : Hp} {v : V} (o : Odd D H v) (K : PySem.W.Frag) : ∃ b1 b2 : Bool, (b1 && !b2) = false ∧ (∀ Q : VK, Q (.bl b1) H → rIsi K [v, .ty "int"] H Q) ∧ (∀ Q : VK, Q (.bl b2) H → rIsi K [v, .ty "bool"] H Q) := by
  cases o with
  | non => exact ⟨false, false, rfl, fun Q q => ⟨_, _, _, _, _, rfl, .ty _, .base .non, kit_ty (by decide +kernel), q⟩, fun Q q => ⟨_, _, _, _, _, rfl, .ty _, .base .non, kit_ty (by decide +kernel), q⟩⟩
  | bl b => exact ⟨true, true, rfl, fun Q q => ⟨_, _, _, _, _, rfl, .ty _, .base (.bl _), kit_ty (by decide +kernel), q⟩, fun Q q => ⟨_, _, _, _, _, rfl, .ty _, .base (.bl _), kit_ty (by decide +kernel), q⟩⟩
  | str s => exact ⟨false, false, rfl, fun Q q => ⟨_, _, _, _, _, rfl, .ty _, .base (.str _), kit_ty (by decide +kernel), q⟩, fun Q q => ⟨_, _, _, _, _, rfl, .ty _, .base (.str _), kit_ty (by decide +kernel), q⟩⟩
  | lst n h => exact ⟨false, false, rfl, fun Q q => ⟨_, _, _, _, _, rfl, .ty _, .base (.lst h), kit_ty (by decide +kernel), q⟩, fun Q q => ⟨_, _, _, _, _, rfl, .ty _, .base (.lst h), kit_ty (by decide +kernel), q⟩⟩
  | tup n h => exact ⟨false, false, rfl, fun Q q => ⟨_, _, _, _, _, rfl, .ty _, .base (.tup h), kit_ty (by decide +kernel), q⟩, fun Q q => ⟨_, _, _, _, _, rfl, .ty _, .base (.tup h), kit_ty (by decide +kernel), q⟩⟩
  | dK n h => exact ⟨false, false, rfl, fun Q q => ⟨_, _, _, _, _, rfl, .ty _, .base (.dK h), kit_ty (by decide +kernel), q⟩, fun Q q => ⟨_, _, _, _, _, rfl, .ty _, .base (.dK h), kit_ty (by decide +kernel), q⟩⟩
end My
namespace My
open PySem PySem.Spec PyProof.Rows L2
/-! ### for i, x in enumerate(t), t a tuple -/
section
variable {prog : Program} {w : World} {A : Around} {E : Value → Shared → Prop} {s : Shared}
theorem tupNext {it t : Addr} {i : Nat} {its : Array Value} {x : Value} {Q : Value → Shared → Prop} (h1 : IsTupIter s.heap it t i) (h2 : IsTup s.heap t its) (hx : its[i]? = some x)
    (q : ∀ h', IsTupIter h' it t (i + 1) → Heap.SameBut it s.heap h' → Q x { s with heap := h' }) : wpAny (model prog w) A (Builtin.SmallTypes.nextOf (.ref it)) Q E s := by
  unfold Builtin.SmallTypes.nextOf
  exact wpAny_bind (special_tup_item h1 h2 hx fun h' a b => wpAny_pure (q h' a b))
theorem tupNo {it t : Addr} {i : Nat} {its : Array Value} {Q : Value → Shared → Prop} (hh : A.handled = none) (h1 : IsTupIter s.heap it t i) (h2 : IsTup s.heap t its) (hx : its[i]? = none)
    (q : ∀ h' e, Heap.ExtBut it s.heap h' → (∃ o, h'.get? e = some o ∧ o.cls = .type "StopIteration") → E (.ref e) { s with heap := h' }) : wpAny (model prog w) A (Builtin.SmallTypes.nextOf (.ref it)) Q E s := by
  unfold Builtin.SmallTypes.nextOf
  refine wpAny_bind (special_tup_end hh h1 h2 hx fun e h' sx eb => ?_)
  obtain ⟨a, o, vs, rfl, ho, hc, _⟩ := sx
  exact q h' a eb ⟨o, ho, hc⟩
theorem tupDraws {it t : Addr} {its : Array Value} (hh : A.handled = none) (ne : t ≠ it) : Draws prog w A it [it, t] its.size (fun i x => its[i]? = some x) (fun i h => IsTupIter h it t i ∧ IsTup h t its) where
  live := fun i h st => by
    obtain ⟨⟨o, ho, _⟩, _⟩ := st
    exact ⟨o, ho⟩
  frame := fun i h h' st k => by
    obtain ⟨⟨o, ho, r⟩, ⟨o2, ho2, r2⟩⟩ := st
    exact ⟨⟨o, k it (by simp) o ho, r⟩, ⟨o2, k t (by simp) o2 ho2, r2⟩⟩
  item := fun i s Q E hi st q => tupNext st.1 st.2 (x := its[i]) (by simp [hi]) fun h' a b => q _ h' s.toks (by simp [hi]) ⟨a, st.2.extBut b.extBut ne⟩ b
  done := fun s Q E st q => tupNo hh st.1 st.2 (by simp) q
theorem newEnumT (t : Addr) (its : Array Value) (n : Nat) (dct : Option Addr) (sl : Array (Option Value)) :
    Meets (Builtin.«enumerate.__new__» ⟨[.type "enumerate", .ref t], []⟩) (fun _ R s => s.heap.get? t = some { cls := .type "tuple", dict := dct, data := .seq its n, slots := sl } ∧
      R (.ok (.ret (.ref (s.heap.push { cls := .type "tuple_iterator", data := .fields #[.ref t, .int 0 0] }).objs.size)))
        { s with heap := (s.heap.push { cls := .type "tuple_iterator", data := .fields #[.ref t, .int 0 0] }).push { cls := .type "enumerate", data := .fields #[.none, .bool false, .ref s.heap.objs.size, rawInt 0, .none, .none] } }) :=
  Meets.of_wp fun prog w A R s h => by
    obtain ⟨hp, g, d, tk, os⟩ := s
    obtain ⟨ht, hR⟩ := h
    have hsub := sub_enumerate
    have hT : IsTup (Shared.heap ⟨hp, g, d, tk, os⟩) t its := ⟨_, ht, rfl, n, rfl⟩
    wp_walk using AutoSeq1.wpAny_loadPart' ht
    refine wpAny_stack_any (fun st => wpAny_pure ?_)
    split
    · rename_i c _ _ _ _ _
      cases (c == Value.type "enumerate") <;> (wp_walk using AutoSeq1.wpAny_loadPart' ht, iter_tuple hT; exact ⟨_, rfl, hR⟩)
    · wp_walk using AutoSeq1.wpAny_loadPart' ht, iter_tuple hT
      exact ⟨_, rfl, hR⟩
theorem callEnumT {t : Addr} {its : Array Value} {Q : Value → Shared → Prop} (hT : IsTup s.heap t its)
    (q : ∀ h', IsEnum h' (s.heap.objs.size + 1) s.heap.objs.size 0 .none → IsTupIter h' s.heap.objs.size t 0 → (∀ b o, s.heap.get? b = some o → h'.get? b = some o) → Q (.ref (s.heap.objs.size + 1)) { s with heap := h' }) :
    wpAny (model prog w) A (call (.type "enumerate") [.ref t]) Q E s := by
  obtain ⟨⟨c, dct, dt, sl⟩, ht, hc, n, hd⟩ := hT
  simp only at hc hd
  subst hc hd
  refine callType_new F.called_enumerate (by decide) (F.typeCall_enumerate_1 _) (F.newCall_enumerate_1 _) (fun obj => F.args_object_init_2 obj _) F.entry_enumerate_new (newEnumT t its n dct sl) ⟨ht, ?_⟩
  generalize hh1 : s.heap.push { cls := .type "tuple_iterator", data := .fields #[.ref t, .int 0 0] } = h1
  have z1 : h1.objs.size = s.heap.objs.size + 1 := by rw [← hh1, Heap.size_push]
  have k1 : ∀ b o, s.heap.get? b = some o → h1.get? b = some o := fun b o e => by rw [← hh1]; exact Heap.get?_push_of_some _ e
  have i1 : h1.get? s.heap.objs.size = some { cls := .type "tuple_iterator", data := .fields #[.ref t, .int 0 0] } := by rw [← hh1]; exact Heap.get?_push_size _ rfl
  show _ ∧ _
  rw [z1]
  have e1 := Heap.get?_push_size h1 (o := { cls := .type "enumerate", data := .fields #[.none, .bool false, .ref s.heap.objs.size, rawInt 0, .none, .none] }) rfl
  rw [z1] at e1
  exact ⟨⟨_, e1, rfl⟩, q _ e1 ⟨_, Heap.get?_push_of_some _ i1, rfl, rfl⟩ fun b o e => Heap.get?_push_of_some _ (k1 b o e)⟩
end
def IteT (K : PySem.W.Frag) (a : Addr) : It :=
  ⟨fun i H => ∃ (xs : List V) (x : V), SqT K H a xs ∧ xs[i]? = some x, fun i H v H' => ∃ T x, v = .ref T ∧ H T = none ∧ H' = upd H T (.tup [.int (i : Nat), x]) ∧ ∀ xs, SqT K H a xs → xs[i]? = some x, fun i H => ∃ xs : List V, SqT K H a xs ∧ xs.length = i⟩
theorem turnEnumT {P : Program} {w : World} {K : PySem.W.Frag} {elts : List Expr} {kk : Nat} {tpos : Pos} (a e it : Addr) :
    Turn P w K (.Tuple elts kk tpos) (IteT K a) [e, it] e (fun i h => (∃ old, IsEnum h e it ((i : Nat) : Int) old) ∧ IsTupIter h it a i ∧ e ≠ it) where
  mem := by simp
  obj := fun i h st b hb => by
    obtain ⟨⟨old, he⟩, ⟨o, ho, hc, hd⟩, _⟩ := st
    rcases (show b = e ∨ b = it by simpa using hb) with rfl | rfl
    · exact ⟨_, he, fun v q => nomatch q⟩
    · exact ⟨o, ho, fun v q => by rw [hd] at q; cases q⟩
  keep := fun i h h' st k => by
    obtain ⟨⟨old, he⟩, ⟨o, ho, r⟩, hne⟩ := st
    exact ⟨⟨old, k e (by simp) _ he⟩, ⟨o, k it (by simp) o ho, r⟩, hne⟩
  item := by
    intro X hP hw hK hc i pins s σ H E I hf st hg
    subst hP hw hK
    obtain ⟨⟨old, he⟩, hit, hne⟩ := st
    obtain ⟨xs, x, hq, hx⟩ := hg
    obtain ⟨its, rv, p, hz⟩ := I.tuple hq
    obtain ⟨u, hu, ru⟩ := rv.get hx
    have elt := Heap.lt_size he
    have ilt : it < s.heap.objs.size := by obtain ⟨_, q, _⟩ := hit; exact Heap.lt_size q
    have hh := I.ok.hd hc
    have hti : a ≠ it := fun z => by
      obtain ⟨o1, e1, c1, _⟩ := hit
      obtain ⟨o2, e2, c2, _⟩ := p
      rw [z, e1] at e2
      cases e2
      rw [c1] at c2
      exact absurd c2 (by decide)
    have hte : e ≠ a := fun z => by
      obtain ⟨o2, e2, c2, _⟩ := p
      rw [← z, he] at e2
      cases e2
      exact absurd (show (Value.type "enumerate" : Value) = .type "tuple" from c2) (by decide)
    have ii : i < its.toArray.size := by
      have hl := rv.length
      have : i < xs.length := by
        rcases Nat.lt_or_ge i xs.length with h | h
        · exact h
        · rw [List.getElem?_eq_none h] at hx
          cases hx
      simp
      omega
    refine wpAny_pyNext_enum_itemD (tupDraws (A := X.A.in1) hh hti) he ⟨hit, p⟩ ii hne (by simp [hne, hte]) fun u' h' tk hu' ho st' hT hsz hk => ?_
    obtain rfl : u = u' := by
      have e2 : its.toArray[i]? = some u := by simpa using hu
      rw [e2] at hu'
      exact Option.some.inj hu'
    refine ⟨_, rfl, wpAny_letOwnedTupleGo_enum (s := { s with heap := h', toks := tk + 1 }) ho fun h'' he' sb => ?_⟩
    have hT2 := (sb.2 _ (Nat.ne_of_gt elt)).trans hT
    have new : ObjOk X.prog X.w (upd H s.heap.objs.size (.tup [.int (i : Nat), x])) h'' s.heap.objs.size (.tup [.int (i : Nat), x]) := ⟨by show 2 ≤ sizeLine; decide, [.int i tk, u], .cons ⟨_, rfl⟩ (.cons ru .nil), ⟨_, hT2, rfl, _, rfl⟩⟩
    have I1 : Inv X pins σ (upd H s.heap.objs.size (.tup [.int (i : Nat), x])) { s with heap := h'', toks := tk + 1 } :=
      I.turnedNew (t' := tk + 1) (ch := [e, it]) (fun b ob hb q => by
        have b1 : b ≠ e := fun z => hb (by simp [z])
        have b2 : b ≠ it := fun z => hb (by simp [z])
        exact (sb.2 b b1).trans (hk b ob b1 b2 q)) hf (Nat.le_refl _) new
    refine ⟨.ref s.heap.objs.size, _, I1, rfl, ⟨_, x, rfl, I.hok.fresh (Nat.le_refl _), rfl, fun ys hy => by rw [I.tuple_inj hy hq]; exact hx⟩, ⟨⟨u, ?_⟩, ?_, hne⟩, fun b hb => ?_⟩
    · rw [show ((i + 1 : Nat) : Int) = (i : Int) + 1 by omega]
      exact he'
    · obtain ⟨o, ho', r⟩ := st'.1
      exact ⟨o, (sb.2 it (Ne.symm hne)).trans ho', r⟩
    · have hb' : b < s.heap.objs.size := by
        rcases (show b = e ∨ b = it by simpa using hb) with rfl | rfl
        · exact elt
        · exact ilt
      rw [upd_ne (Nat.ne_of_lt hb')]
      exact (hf b hb).1
  done := by
    intro X hP hw hK hc i pins s σ H E I hf st hg
    subst hP hw hK
    obtain ⟨⟨old, he⟩, hit, hne⟩ := st
    obtain ⟨xs, hq, hx⟩ := hg
    obtain ⟨its, rv, p, hz⟩ := I.tuple hq
    obtain ⟨f0, f1, f2, f3, f4, f5⟩ := hf it (by simp)
    have hl := rv.length
    have hh := I.ok.hd hc
    have hti : a ≠ it := fun z => by
      obtain ⟨o1, e1, c1, _⟩ := hit
      obtain ⟨o2, e2, c2, _⟩ := p
      rw [z, e1] at e2
      cases e2
      rw [c1] at c2
      exact absurd c2 (by decide)
    have en : i = its.toArray.size := by
      simp
      omega
    rw [en] at he hit
    exact wpAny_pyNext_enum_endD (tupDraws (A := X.A.in1) hh hti) he ⟨hit, p⟩ fun h' eb => ⟨rfl, I.turned (t' := s.toks) (fun b o hb q => eb b o hb q) f0 f1 f3 f4 f5⟩
  self := fun A i s Q E st h => by
    obtain ⟨⟨_, he⟩, _⟩ := st
    exact wpAny_pyIter_enum he h
/-- enumerate over a list or a tuple -/
def iEnumX (K : PySem.W.Frag) (ta : TA) : TI := fun σ H R => ta σ H fun vs H1 => ∃ a xs, vs = [.ref a] ∧ ((SqL K H1 a xs ∧ R (Ite K a) H1) ∨ (SqT K H1 a xs ∧ R (IteT K a) H1))
theorem pi_enumX {X : Cx} {e : Expr} {ta : TA} {p pos tpos : Pos} {elts : List Expr} {kk : Nat} (hg : Gl X "enumerate") (hm : X.mg "enumerate" = none) (ha : PA X [e] ta) (hs : starEach [e] X.env = [(false, eval e X.env)] := by rfl) :
    PI X (.Tuple elts kk tpos) (.Call (.Name "enumerate" p) [e] [] pos) (iEnumX X.K ta) := by
  refine ⟨fun pins s σ H R I h => ?_⟩
  refine Call_ (ld_blt I hg hm boot_enumerate (PyProof.Rows.callWith_type1 (thn (ha.run pos pins s σ H _ I h) fun us s1 q1 => ?_) hs rfl))
  obtain ⟨vs, H1, I1, r1, a, xs, ex, q⟩ := q1
  subst ex
  obtain ⟨u, rfl, ru⟩ := vals1 r1
  cases ru
  have go : ∀ (h' : Heap) (J : It) (tn : Nat → Heap → Prop), (∀ b o, s1.heap.get? b = some o → h'.get? b = some o) → IsEnum h' (s1.heap.objs.size + 1) s1.heap.objs.size 0 .none → Turn X.prog X.w X.K (.Tuple elts kk tpos) J [s1.heap.objs.size + 1, s1.heap.objs.size] (s1.heap.objs.size + 1) tn → tn 0 h' → R J H1 →
      wpAny (model X.prog X.w) X.A (pyIter (.ref (s1.heap.objs.size + 1))) (PIE X pins σ (.Tuple elts kk tpos) R) X.xe { s1 with heap := h' } := fun h' J tn hk he T t0 q => by
    refine wpAny_pyIter_enum he ?_
    refine ⟨s1.heap.objs.size + 1, [s1.heap.objs.size + 1, s1.heap.objs.size], tn, J, H1, rfl, I1.kept (t' := s1.toks) hk, T, t0, fun b hb => ?_, q⟩
    have hle : s1.heap.objs.size ≤ b := by
      rcases (show b = s1.heap.objs.size + 1 ∨ b = s1.heap.objs.size by simpa using hb) with rfl | rfl
      · exact Nat.le_succ _
      · exact Nat.le_refl _
    exact I1.fpOk hle (I1.hok.fresh hle)
  rcases q with ⟨hq, q⟩ | ⟨hq, q⟩
  · obtain ⟨its, rv, p', hz⟩ := I1.list hq
    exact call_enumerate_list p'.isList fun h' he hit hsz hk => go h' _ _ hk he (turn_enum a _ _) ⟨⟨.none, he⟩, hit, Nat.succ_ne_self _⟩ q
  · obtain ⟨its, rv, p', hz⟩ := I1.tuple hq
    exact callEnumT p' fun h' he hit hk => go h' _ _ hk he (turnEnumT a _ _) ⟨⟨.none, he⟩, hit, Nat.succ_ne_self _⟩ q
theorem rd_enumX {K : PySem.W.Frag} {ta : TA} {R : It → Hp → Prop} {σ : L2.St} {H : Hp} (h : ta σ H fun vs H1 => ∃ a xs, vs = [.ref a] ∧ ((SqL K H1 a xs ∧ R (Ite K a) H1) ∨ (SqT K H1 a xs ∧ R (IteT K a) H1))) : iEnumX K ta σ H R := h
theorem for_enumT {K : PySem.W.Frag} {a : Addr} {xs : List V} {g : TG} {tb : TS} {D : Ends} {σ : L2.St} {H : Hp} (Pv : Nat → L2.St → Hp → Prop) (h0 : Pv 0 σ H) (hl : ∀ i σ H, i ≤ xs.length → Pv i σ H → SqT K H a xs)
    (hs : ∀ i x T σ H, xs[i]? = some x → Pv i σ H → H T = none → g (.ref T) σ (upd H T (.tup [.int (i : Nat), x])) fun σ2 H2 => tb { D with nx := Pv (i + 1), ct := Pv (i + 1), bk := D.nx } σ2 H2) (hd : ∀ σ H, Pv xs.length σ H → D.nx σ H) :
    ∃ W : Nat → Nat → L2.St → Hp → Prop, (∃ m, W 0 m σ H) ∧ ∀ i m σ H, W i m σ H →
      ((IteT K a).stop i H ∧ D.nx σ H) ∨ ((IteT K a).go i H ∧ ∃ N : L2.St → Hp → Prop, (∀ σ' H', N σ' H' → ∃ m', m' < m ∧ W (i + 1) m' σ' H') ∧ ∀ x H', (IteT K a).yld i H x H' → g x σ H' fun σ2 H2 => tb { D with nx := N, ct := N, bk := D.nx } σ2 H2) := by
  refine ⟨fun i m σ H => m = xs.length - i ∧ i ≤ xs.length ∧ Pv i σ H, ⟨xs.length, by simp, Nat.zero_le _, h0⟩, ?_⟩
  rintro i m σ H ⟨rfl, hi, p⟩
  have q := hl i σ H hi p
  by_cases hlt : i < xs.length
  · refine .inr ⟨⟨xs, xs[i], q, by simp [hlt]⟩, Pv (i + 1), fun σ' H' p' => ⟨xs.length - (i + 1), by omega, rfl, hlt, p'⟩, fun x H' y => ?_⟩
    obtain ⟨T, x, rfl, nT, rfl, y⟩ := y
    exact hs i x T σ H (y xs q) p nT
  · have e : i = xs.length := by omega
    subst e
    exact .inl ⟨⟨xs, q, rfl⟩, hd σ H p⟩
end My
namespace My
open PySem PySem.Spec PyProof.Rows L2
/-! ### max of a tuple of two ints -/
def rMaxT (K : PySem.W.Frag) : List V → Hp → VK → Prop := fun vs H Q => ∃ (a : Addr) (i j : Int), vs = [V.ref a] ∧ SqT K H a [.int i, .int j] ∧ ∀ m, m = i ∨ m = j → Q (.int m) H
theorem cr_maxT {X : Cx} (hc : X.calm = true) (hu : X.A.units + 64 < cLine) : CallR X (.builtin "max") (rMaxT X.K) := by
  intro pins s σ H vs us Q I r h
  obtain ⟨a, i, j, rfl, hs, q⟩ := h
  obtain ⟨its, rv, hl, _⟩ := I.tuple hs
  rw [Vals.ref1 r]
  have hv : ∃ (u1 u2 : Value), its = [u1, u2] ∧ RelV (.int i) u1 ∧ RelV (.int j) u2 := by
    cases rv with
    | cons r1 r2 =>
      cases r2 with
      | cons r2 r3 =>
        cases r3
        exact ⟨_, _, rfl, r1, r2⟩
  clear rv
  obtain ⟨_, _, rfl, ⟨t1, rfl⟩, ⟨t2, rfl⟩⟩ := hv
  have e : PyData.depthAll [PyData.int i, .int j] ≤ 2 := by simp [PyData.depthAll, PyData.depth]
  have hm : PySem.W.maxD (.int i) [.int j] = .int i ∨ PySem.W.maxD (.int i) [.int j] = .int j := by
    unfold PySem.W.maxD
    simp only [List.foldl]
    split <;> simp
  have hr : ReadsAll s.heap [Value.int i t1, Value.int j t2] [PyData.int i, .int j] [] := .cons (as := []) (.int _ _) (.cons (as := []) (.int _ _) .nil)
  have ha : PySem.W.AlikeAll [PyData.int i, .int j] := by
    refine ⟨fun x hx y hy => ?_, fun x hx => ?_⟩
    · simp only [List.mem_cons, List.not_mem_nil, or_false] at hx hy
      rcases hx with rfl | rfl <;> rcases hy with rfl | rfl <;> rfl
    · simp only [List.mem_cons, List.not_mem_nil, or_false] at hx
      rcases hx with rfl | rfl <;> simp
  refine PySem.W.max_tuple_data (x := .int i) (xs := [.int j]) (as := []) (I.ok.hd hc) hl hr ha ?_ fun k v h' tk bs hk hr hk' => ?_
  · omega
  · rcases hm with e | e <;> (rw [e] at hr; cases hr)
    · exact ⟨.int i, H, I.kept hk', ⟨_, rfl⟩, q i (.inl rfl)⟩
    · exact ⟨.int j, H, I.kept hk', ⟨_, rfl⟩, q j (.inr rfl)⟩
end My
namespace My
open PySem PySem.Spec PyProof.Rows L2
variable {K : PySem.W.Frag}
/-! ### own error classes with one field -/
structure ExF (K : PySem.W.Frag) (mg : Str → Option Value) (x : Str) (C fI : Addr) (fl : Str) : Prop where
  g : mg x = some (.ref C)
  ox : OexC K C
  iC : PySem.W.findIn K (.ref C) "__init__" = some (some (.ref fI))
  tI : PySem.W.typeIn K (.ref fI) = some (.type "function")
  no : PySem.W.findIn K (.ref C) fl = some none
  xf : XfC K C
  ic : PySem.W.isClsIn K C = true
  sf : PySem.W.subIn K (.ref C) (.ref C) = some true
theorem ExF.te {K : PySem.W.Frag} {mg : Str → Option Value} {x : Str} {C fI : Addr} {fl : Str} (e : ExF K mg x C fI fl) : PySem.W.exmOne K (.ref C) (.ref C) = some true := exm_sub e.ox.exC e.ic e.ox.tyC e.sf
/-- what such an __init__ does -/
def sp_xinit (C : Addr) (fl : Str) : Sp := fun vs H Q _ => ∃ p v, vs = [.ref p, v] ∧ H p = some (exo p C none) ∧ ∀ dx, H dx = none → dx ≠ p → Q .non (upd (upd H dx (exd dx [(fl, v)])) p (exo p C (some dx)))
theorem rd_ost {K : PySem.W.Frag} {f : Str} {to te : TE} {D : Ends} {σ : L2.St} {H : Hp} (h : te σ H fun y H1 => to σ H1 fun x H2 => ∃ a C : Addr, x = .ref a ∧ OexC K C ∧ PySem.W.findIn K (.ref C) f = some none ∧
    ((H2 a = some (exo a C none) ∧ ∀ dx, H2 dx = none → dx ≠ a → D.nx σ (upd (upd H2 dx (exd dx [(f, y)])) a (exo a C (some dx)))) ∨
      ∃ (dx : Addr) (fs : List (Str × V)), H2 a = some (exo a C (some dx)) ∧ H2 dx = some (exd dx fs) ∧ fs.length ≤ 900 ∧ D.nx σ (upd H2 dx (exd dx ((f, y) :: fs))))) : tOst K f to te D σ H := h
theorem del_upd_back {H1 : Hp} {a d : Addr} {o1 o2 o3 : HO} {fs : List (Str × V)} (ha : H1 a = none) (hd : H1 d = none) (hn : d ≠ a) :
    upd (del (upd (upd (upd H1 a o1) d o2) a o3) a) d (.xd fs) = upd H1 d (.xd fs) := by
  funext b
  by_cases hb : b = d
  · rw [hb, upd_same, upd_same]
  · rw [upd_ne hb, upd_ne hb]
    by_cases hb2 : b = a
    · rw [hb2, del_same, ha]
    · rw [del_ne hb2, upd_ne hb2, upd_ne hb, upd_ne hb2]
theorem lk1 {f : Str} {v : V} : ([(f, v)] : List (Str × V)).lookup f = some v := by
  have e : (f == f) = true := beq_self_eq_true f
  simp only [List.lookup, e]
/-- raise X(e) -/
def tRaise1 (C : Addr) (fl : Str) (W : WX) (ta : TA) : TS := fun _ σ H => tMkO C (sp_xinit C fl) [] ta σ H fun cls d H' => W cls d σ H'
theorem rd_raise1 {C : Addr} {fl : Str} {W : WX} {ta : TA} {D : Ends} {σ : L2.St} {H : Hp} (h : ta σ H fun vs H1 => vs.length ≤ 1000 ∧ ∀ a, H1 a = none → sp_xinit C fl (.ref a :: (vs ++ [])) (upd H1 a (exo a C none))
    (fun v H2 => v = .non ∧ ∃ (d : Addr) (fs : List (Str × V)), H2 a = some (exo a C (some d)) ∧ H2 d = some (exd d fs) ∧ H1 d = none ∧ W (.ref C) (some d) σ (upd (del H2 a) d (.xd fs))) (fun _ _ _ => False)) : tRaise1 C fl W ta D σ H := h
theorem rd_x1 {C : Addr} {fl : Str} {v : V} {H1 : Hp} {Q : Value → Option Addr → Hp → Prop} (h : ∀ d, H1 d = none → Q (.ref C) (some d) (upd H1 d (.xd [(fl, v)]))) :
    [v].length ≤ 1000 ∧ ∀ a, H1 a = none → sp_xinit C fl (.ref a :: ([v] ++ [])) (upd H1 a (exo a C none))
      (fun v H2 => v = .non ∧ ∃ (d : Addr) (fs : List (Str × V)), H2 a = some (exo a C (some d)) ∧ H2 d = some (exd d fs) ∧ H1 d = none ∧ Q (.ref C) (some d) (upd (del H2 a) d (.xd fs))) (fun _ _ _ => False) := by
  refine ⟨by show 1 ≤ 1000; decide, fun a na => ⟨a, v, rfl, upd_same, fun dx nd ne => ⟨rfl, dx, [(fl, v)], upd_same, ?_, ?_, ?_⟩⟩⟩
  · rw [upd_ne ne, upd_same]
  · rw [upd_ne ne] at nd
    exact nd
  · rw [upd_ne ne] at nd
    rw [del_upd_back na nd ne]
    exact h dx nd
theorem ps_raise1 {X : Cx} {W : WX} {C fI : Addr} {x : Str} {fl : Str} {k : Nat} {fd : FuncData} {ta : TA} {e : Expr} {es : List Expr} {p pos pos2 : Pos} (hc : X.calm = true) (E : ExF X.K X.mg x C fI fl)
    (F1 : FnOk X.prog X.w X.K X.mg X.base CX0 k fI fd ["self", fl] (sp_xinit C fl)) (hr : Room (k + 1) X.A) (tk : Takes X W) (hb : Binds X.K fd ["self", fl] []) (ha : PA X (e :: es) ta) (hg : Gl X x := by rfl)
    (hdb : (x == ("__debug__" : Str)) = false := by decide) (he : starEach (e :: es) X.env = (false, eval e X.env) :: starEach es X.env := by rfl) (hpl : (backTo pos (starEach es X.env)).any (·.1) = false := by rfl) :
    PS X (.Raise (some (.Call (.Name x p) (e :: es) [] pos)) none pos2) (tRaise1 C fl W ta) :=
  ps_raise (pos := pos2) hc tk (pmk_oex (pos := pos) E.ox E.iC E.tI F1 hr hb .nil pass0 hg E.g ha hdb he hpl)
/-- e.f of the caught error -/
theorem rd_xf {a : Addr} {cls : Value} {d : Option Addr} {C : Addr} {f : Str} {te : TE} {σ : L2.St} {H : Hp} {Q : VK} (h : te σ H fun x H1 => x = .ref a ∧ cls = .ref C ∧ ∃ (dd : Addr) (fs : List (Str × V)) (v : V), d = some dd ∧ H1 dd = some (.xd fs) ∧ fs.lookup f = some v ∧ Q v H1) : tXf a cls d C f te σ H Q := h
theorem rd_xf1 {a : Addr} {C dd : Addr} {f : Str} {v : V} {H : Hp} {Q : VK} (h : H dd = some (.xd [(f, v)])) (q : Q v H) : (V.ref a) = .ref a ∧ (Value.ref C) = .ref C ∧ ∃ (dd2 : Addr) (fs : List (Str × V)) (v : V), some dd = some dd2 ∧ H dd2 = some (.xd fs) ∧ fs.lookup f = some v ∧ Q v H := ⟨rfl, rfl, dd, _, v, rfl, h, lk1, q⟩
/-! ### own classes with fields -/
structure InsT (K : PySem.W.Frag) (C : Addr) : Prop where
  cl : Cls K C
  ha : PySem.W.findIn K (.ref C) "__class__" = some (some (.builtin "object.__class__"))
  hn : PySem.W.specialIn K (.builtin "object.__class__") "__get__" = some (some (.builtin "getset_descriptor.__get__"))
  ht : PySem.W.takesIn K (.builtin "object.__class__") = some true
  mo : PySem.W.mroIn K C (.type "object") = some true
  ki : PySem.W.kitOne K (.ref C) (.type "int") = some false
  kb : PySem.W.kitOne K (.ref C) (.type "bool") = some false
  kt : PySem.W.kitOne K (.ref C) (.type "tuple") = some false
  kl : PySem.W.kitOne K (.ref C) (.type "list") = some false
structure WebC (K : PySem.W.Frag) (mg : Str → Option Value) (x : Str) (C fI : Addr) : Prop where
  g : mg x = some (.ref C)
  mks : Mk K C fI
  it : InsT K C
theorem rd_fldS {K : PySem.W.Frag} {ta tv : TE} {f : Str} {D : Ends} {σ : L2.St} {H : Hp} (h : tv σ H fun y H1 => ta σ H1 fun x H2 => ∃ a C dx fs, x = .ref a ∧ H2 a = some (.ins C dx fs) ∧ Cls K C ∧ NoAttr K C f ∧ fs.length < 1000 ∧ D.nx σ (upd H2 a (.ins C dx (putF f y fs)))) : sFld K ta tv f D σ H := h
theorem rd_make {C : Addr} {sp : Sp} {dvs : List V} {E : XK} {t : TA} {σ : L2.St} {H : Hp} {Q : VK} (h : t σ H fun vs H1 => ∀ x dx, H1 x = none → H1 dx = none → dx ≠ x → sp (.ref x :: (vs ++ dvs)) (upd (upd H1 dx (.own x)) x (.ins C dx [])) (fun v H2 => v = .non ∧ Q (.ref x) H2) E) : tMake C sp dvs E t σ H Q := h
theorem rd_enum {K : PySem.W.Frag} {ta : TA} {R : It → Hp → Prop} {σ : L2.St} {H : Hp} (h : ta σ H fun vs H1 => ∃ a xs, vs = [.ref a] ∧ SqL K H1 a xs ∧ R (Ite K a) H1) : iEnum K ta σ H R := h
/-! ### things of all kinds; D: the deck, which alone is changed -/
inductive Od (K : PySem.W.Frag) (D : Addr) (H : Hp) : V → Prop where
  | non : Od K D H .non
  | bl (b : Bool) : Od K D H (.bl b)
  | str (s : Str) : Od K D H (.str s)
  | lst {p : Addr} {xs : List V} (n : p ≠ D) (h : H p = some (.lst xs)) : Od K D H (.ref p)
  | tup {p : Addr} {xs : List V} (n : p ≠ D) (h : H p = some (.tup xs)) : Od K D H (.ref p)
  | dK {p : Addr} {kvs : List (Key × V)} (n : p ≠ D) (h : H p = some (.dK kvs)) : Od K D H (.ref p)
  | ins {p C dx : Addr} {fs : List (Str × V)} (n : p ≠ D) (h : H p = some (.ins C dx fs)) (c : InsT K C) : Od K D H (.ref p)
theorem Od.fw {K : PySem.W.Frag} {D : Addr} {H H' : Hp} {v : V} (o : Od K D H v) (f : Fw D H H') : Od K D H' v := by
  cases o with
  | non => exact .non
  | bl b => exact .bl b
  | str s => exact .str s
  | lst n h => exact .lst n (f _ _ n h)
  | tup n h => exact .tup n (f _ _ n h)
  | dK n h => exact .dK n (f _ _ n h)
  | ins n h c => exact .ins n (f _ _ n h) c
/-- what isinstance says of it -/
theorem Od.isi {K : PySem.W.Frag} {D : Addr} {H : Hp} {v : V} (o : Od K D H v) : ∃ b1 b2 b3 : Bool, (b1 && !b2) = false ∧ (∀ Q : VK, Q (.bl b1) H → rIsi K [v, .ty "int"] H Q) ∧ (∀ Q : VK, Q (.bl b2) H → rIsi K [v, .ty "bool"] H Q) ∧ (∀ Q : VK, Q (.bl b3) H → rIsi K [v, .ty "tuple"] H Q) ∧ (b3 = true → ∃ p xs, v = .ref p ∧ p ≠ D ∧ H p = some (.tup xs)) := by
  cases o with
  | non => exact ⟨false, false, false, rfl, fun Q q => ⟨_, _, _, _, _, rfl, .ty _, .base .non, kit_ty (by decide +kernel), q⟩, fun Q q => ⟨_, _, _, _, _, rfl, .ty _, .base .non, kit_ty (by decide +kernel), q⟩, fun Q q => ⟨_, _, _, _, _, rfl, .ty _, .base .non, kit_ty (by decide +kernel), q⟩, fun z => Bool.noConfusion z⟩
  | bl b => exact ⟨true, true, false, rfl, fun Q q => ⟨_, _, _, _, _, rfl, .ty _, .base (.bl _), kit_ty (by decide +kernel), q⟩, fun Q q => ⟨_, _, _, _, _, rfl, .ty _, .base (.bl _), kit_ty (by decide +kernel), q⟩, fun Q q => ⟨_, _, _, _, _, rfl, .ty _, .base (.bl _), kit_ty (by decide +kernel), q⟩, fun z => Bool.noConfusion z⟩
  | str s => exact ⟨false, false, false, rfl, fun Q q => ⟨_, _, _, _, _, rfl, .ty _, .base (.str _), kit_ty (by decide +kernel), q⟩, fun Q q => ⟨_, _, _, _, _, rfl, .ty _, .base (.str _), kit_ty (by decide +kernel), q⟩, fun Q q => ⟨_, _, _, _, _, rfl, .ty _, .base (.str _), kit_ty (by decide +kernel), q⟩, fun z => Bool.noConfusion z⟩
  | lst n h => exact ⟨false, false, false, rfl, fun Q q => ⟨_, _, _, _, _, rfl, .ty _, .base (.lst h), kit_ty (by decide +kernel), q⟩, fun Q q => ⟨_, _, _, _, _, rfl, .ty _, .base (.lst h), kit_ty (by decide +kernel), q⟩, fun Q q => ⟨_, _, _, _, _, rfl, .ty _, .base (.lst h), kit_ty (by decide +kernel), q⟩, fun z => Bool.noConfusion z⟩
  | tup n h => exact ⟨false, false, true, rfl, fun Q q => ⟨_, _, _, _, _, rfl, .ty _, .base (.tup h), kit_ty (by decide +kernel), q⟩, fun Q q => ⟨_, _, _, _, _, rfl, .ty _, .base (.tup h), kit_ty (by decide +kernel), q⟩, fun Q q => ⟨_, _, _, _, _, rfl, .ty _, .base (.tup h), kit_ty (by decide +kernel), q⟩, fun _ => ⟨_, _, rfl, n, h⟩⟩
  | dK n h => exact ⟨false, false, false, rfl, fun Q q => ⟨_, _, _, _, _, rfl, .ty _, .base (.dK h), kit_ty (by decide +kernel), q⟩, fun Q q => ⟨_, _, _, _, _, rfl, .ty _, .base (.dK h), kit_ty (by decide +kernel), q⟩, fun Q q => ⟨_, _, _, _, _, rfl, .ty _, .base (.dK h), kit_ty (by decide +kernel), q⟩, fun z => Bool.noConfusion z⟩
  | ins n h c => exact ⟨false, false, false, rfl, fun Q q => ⟨_, _, _, _, _, rfl, .ty _, .base (.ins h c.cl c.ha c.hn c.ht c.mo), c.ki, q⟩, fun Q q => ⟨_, _, _, _, _, rfl, .ty _, .base (.ins h c.cl c.ha c.hn c.ht c.mo), c.kb, q⟩, fun Q q => ⟨_, _, _, _, _, rfl, .ty _, .base (.ins h c.cl c.ha c.hn c.ht c.mo), c.kt, q⟩, fun z => Bool.noConfusion z⟩
/-- what is no fraction -/
inductive NoF (K : PySem.W.Frag) (D : Addr) (H : Hp) : V → Prop where
  | int (i : Int) : NoF K D H (.int i)
  | not {v : V} (o : Od K D H v) (h : ∀ p xs, v = .ref p → H p = some (.tup xs) → xs.length ≠ 2) : NoF K D H v
  | fst {p : Addr} {x y : V} (n : p ≠ D) (h : H p = some (.tup [x, y])) (o : Od K D H x) : NoF K D H (.ref p)
  | snd {p : Addr} {i : Int} {y : V} (n : p ≠ D) (h : H p = some (.tup [.int i, y])) (o : Od K D H y) : NoF K D H (.ref p)
  | low {p : Addr} {i j : Int} (n : p ≠ D) (h : H p = some (.tup [.int i, .int j])) (z : ¬ (0 < j ∧ Nat.gcd i.natAbs j.natAbs = 1)) (b : j.natAbs < 2 ^ 4000) : NoF K D H (.ref p)
theorem NoF.fw {K : PySem.W.Frag} {D : Addr} {H H' : Hp} {v : V} (o : NoF K D H v) (f : Fw D H H') : NoF K D H' v := by
  cases o with
  | int i => exact .int i
  | not o h =>
    refine .not (o.fw f) fun p xs e h2 => ?_
    subst e
    cases o with
    | lst n h3 =>
      rw [f _ _ n h3] at h2
      cases h2
    | tup n h3 =>
      rw [f _ _ n h3] at h2
      cases h2
      exact h _ _ rfl h3
    | dK n h3 =>
      rw [f _ _ n h3] at h2
      cases h2
    | ins n h3 c =>
      rw [f _ _ n h3] at h2
      cases h2
  | fst n h o => exact .fst n (f _ _ n h) (o.fw f)
  | snd n h o => exact .snd n (f _ _ n h) (o.fw f)
  | low n h z b => exact .low n (f _ _ n h) z b
/-- a thing with the word whether it is a fraction -/
def JF (K : PySem.W.Frag) (D : Addr) (H : Hp) (v : V) (b : Option Rat) : Prop := (∃ r, IsF K H v r ∧ Bd 40 r ∧ b = some r) ∨ (NoF K D H v ∧ b = none)
theorem isi_int_tup {K : PySem.W.Frag} {H : Hp} {Q : VK} {i : Int} (q : Q (.bl false) H) : rIsi K [.int i, .ty "tuple"] H Q := ⟨_, _, _, _, _, rfl, .ty _, .base (.int _), kit_ty (by decide +kernel), q⟩
end My
namespace My
open PySem PySem.Spec PyProof.Rows L2
variable {K : PySem.W.Frag}
theorem for_enum {K : PySem.W.Frag} {a : Addr} {xs : List V} {g : TG} {tb : TS} {D : Ends} {σ : L2.St} {H : Hp} (Pv : Nat → L2.St → Hp → Prop) (h0 : Pv 0 σ H) (hl : ∀ i σ H, i ≤ xs.length → Pv i σ H → SqL K H a xs)
    (hs : ∀ i x T σ H, xs[i]? = some x → Pv i σ H → H T = none → g (.ref T) σ (upd H T (.tup [.int (i : Nat), x])) fun σ2 H2 => tb { D with nx := Pv (i + 1), ct := Pv (i + 1), bk := D.nx } σ2 H2) (hd : ∀ σ H, Pv xs.length σ H → D.nx σ H) :
    ∃ W : Nat → Nat → L2.St → Hp → Prop, (∃ m, W 0 m σ H) ∧ ∀ i m σ H, W i m σ H →
      ((Ite K a).stop i H ∧ D.nx σ H) ∨ ((Ite K a).go i H ∧ ∃ N : L2.St → Hp → Prop, (∀ σ' H', N σ' H' → ∃ m', m' < m ∧ W (i + 1) m' σ' H') ∧ ∀ x H', (Ite K a).yld i H x H' → g x σ H' fun σ2 H2 => tb { D with nx := N, ct := N, bk := D.nx } σ2 H2) := by
  refine ⟨fun i m σ H => m = xs.length - i ∧ i ≤ xs.length ∧ Pv i σ H, ⟨xs.length, by simp, Nat.zero_le _, h0⟩, ?_⟩
  rintro i m σ H ⟨rfl, hi, p⟩
  have q := hl i σ H hi p
  by_cases hlt : i < xs.length
  · refine .inr ⟨⟨xs, xs[i], q, by simp [hlt]⟩, Pv (i + 1), fun σ' H' p' => ⟨xs.length - (i + 1), by omega, rfl, hlt, p'⟩, fun x H' y => ?_⟩
    obtain ⟨T, x, rfl, nT, rfl, y⟩ := y
    exact hs i x T σ H (y xs q) p nT
  · have e : i = xs.length := by omega
    subst e
    exact .inl ⟨⟨xs, q, Nat.le_refl _⟩, hd σ H p⟩
/-! ### right stalls and webs of them -/
structure Stl where
  u : Nat
  v : Nat
  a : Rat
  b : Rat
  r : Rat
structure OkSt (n : Nat) (s : Stl) : Prop where
  u : s.u < n
  v : s.v < n
  ne : s.u ≠ s.v
  a : 0 < s.a
  b : 0 < s.b
  r : 0 < s.r
  e : s.a * s.b = s.r * s.r
structure BdSt (k : Nat) (s : Stl) : Prop where
  a : Bd k s.a
  b : Bd k s.b
  r : Bd k s.r
def IsSt (K : PySem.W.Frag) (H : Hp) (x : V) (s : Stl) : Prop := ∃ p va vb vr, x = .ref p ∧ H p = some (.tup [.int (s.u : Nat), .int (s.v : Nat), va, vb, vr]) ∧ IsF K H va s.a ∧ IsF K H vb s.b ∧ IsF K H vr s.r
theorem IsSt.same {H H' : Hp} {x : V} {s : Stl} (f : Same H H') (h : IsSt K H x s) : IsSt K H' x s := by
  obtain ⟨p, va, vb, vr, e, h, a, b, c⟩ := h
  exact ⟨p, va, vb, vr, e, f _ _ h, a.same f, b.same f, c.same f⟩
def Sts (K : PySem.W.Frag) (H : Hp) (xs : List V) (ss : List Stl) : Prop := Paired (IsSt K H) xs ss
theorem Sts.same {H H' : Hp} {xs : List V} {ss : List Stl} (f : Same H H') (h : Sts K H xs ss) : Sts K H' xs ss := by
  unfold Sts at *
  induction h with
  | nil => exact .nil
  | cons h t ih => exact .cons (h.same f) ih
theorem Sts.len {H : Hp} {xs : List V} {ss : List Stl} (h : Sts K H xs ss) : xs.length = ss.length := Paired.length h
theorem Sts.at {H : Hp} {xs : List V} {ss : List Stl} (h : Sts K H xs ss) : ∀ {i : Nat} {x : V}, xs[i]? = some x → ∃ s, ss[i]? = some s ∧ IsSt K H x s := by
  unfold Sts at h
  induction h with
  | nil =>
    intro i x e
    simp at e
  | cons h t ih =>
    intro i x e
    match i with
    | 0 =>
      simp at e
      subst e
      exact ⟨_, rfl, h⟩
    | i + 1 => exact ih (by simpa using e)
theorem IsF.ts {H H' : Hp} {x : V} {r : Rat} (f : Tps H H') (h : IsF K H x r) : IsF K H' x r := by
  obtain ⟨p, e, h⟩ := h
  exact ⟨p, e, h.ts f⟩
theorem IsSt.ts {H H' : Hp} {x : V} {s : Stl} (f : Tps H H') (h : IsSt K H x s) : IsSt K H' x s := by
  obtain ⟨p, va, vb, vr, e, h, a, b, c⟩ := h
  exact ⟨p, va, vb, vr, e, f _ _ h, a.ts f, b.ts f, c.ts f⟩
theorem Sts.ts {H H' : Hp} {xs : List V} {ss : List Stl} (f : Tps H H') (h : Sts K H xs ss) : Sts K H' xs ss := by
  unfold Sts at *
  induction h with
  | nil => exact .nil
  | cons h t ih => exact .cons (h.ts f) ih
def wF (n : Nat) (t : Addr) : List (Str × V) := [("wares", .int (n : Nat)), ("stalls", .ref t)]
def IsWeb (K : PySem.W.Frag) (C : Addr) (H : Hp) (x : V) (n : Nat) (ss : List Stl) : Prop := ∃ p dx t xs, x = .ref p ∧ H p = some (.ins C dx (wF n t)) ∧ H t = some (.tup xs) ∧ Sts K H xs ss
theorem IsWeb.same {C : Addr} {H H' : Hp} {x : V} {n : Nat} {ss : List Stl} (f : Same H H') (h : IsWeb K C H x n ss) : IsWeb K C H' x n ss := by
  obtain ⟨p, dx, t, xs, e, h1, h2, h3⟩ := h
  exact ⟨p, dx, t, xs, e, f _ _ h1, f _ _ h2, h3.same f⟩
theorem lk_here {k : Str} {v : V} {r : List (Str × V)} : List.lookup k ((k, v) :: r) = some v := by
  have e : (k == k) = true := beq_self_eq_true k
  simp only [List.lookup, e]
theorem lk_past {k g : Str} {v : V} {r : List (Str × V)} (h : (k == g) = false) : List.lookup k ((g, v) :: r) = List.lookup k r := by
  simp only [List.lookup, h]
theorem wF_wares (n : Nat) (t : Addr) : (wF n t).lookup ("wares" : Str) = some (.int (n : Nat)) := lk_here
theorem wF_stalls (n : Nat) (t : Addr) : (wF n t).lookup ("stalls" : Str) = some (.ref t) := (lk_past (by decide +kernel)).trans lk_here
theorem wF_new (n : Nat) (t : Addr) : putF "stalls" (.ref t) (putF "wares" (.int (n : Nat)) []) = wF n t := by
  have h : ¬ (("wares" : Str) = "stalls") := by decide +kernel
  show putF "stalls" (.ref t) [("wares", .int (n : Nat))] = _
  simp [putF, h, wF]
theorem rd_fld {K : PySem.W.Frag} {ta : TE} {f : Str} {σ : L2.St} {H : Hp} {Q : VK} (h : ta σ H fun x H1 => ∃ a C dx fs v, x = .ref a ∧ H1 a = some (.ins C dx fs) ∧ Cls K C ∧ NoAttr K C f ∧ fs.lookup f = some v ∧ Q v H1) : tFld K ta f σ H Q := h
/-- what a stall is behind a move -/
def Stl.first (s : Stl) (x : Rat) : Stl := ⟨s.u, s.v, x, s.r * s.r / x, s.r⟩
def Stl.secnd (s : Stl) (y : Rat) : Stl := ⟨s.u, s.v, s.r * s.r / y, y, s.r⟩
def Stl.behind (s : Stl) (w : Nat) (x : Rat) : Stl := if w = s.u then s.first (s.a + x) else s.secnd (s.b + x)
def Stl.out (s t : Stl) (w : Nat) : Rat := if w = s.u then s.b - t.b else s.a - t.a
/-- a move of the web -/
def IsMv (K : PySem.W.Frag) (H : Hp) (v : V) (i w : Nat) (x : Rat) : Prop := ∃ p vx, v = .ref p ∧ H p = some (.tup [.int (i : Nat), .int (w : Nat), vx]) ∧ IsF K H vx x
theorem IsMv.same {H H' : Hp} {v : V} {i w : Nat} {x : Rat} (f : Same H H') (h : IsMv K H v i w x) : IsMv K H' v i w x := by
  obtain ⟨p, vx, e, h, a⟩ := h
  exact ⟨p, vx, e, f _ _ h, a.same f⟩
theorem Sts.get {H : Hp} {xs : List V} {ss : List Stl} (h : Sts K H xs ss) : ∀ {i : Nat} {s : Stl}, ss[i]? = some s → ∃ x, xs[i]? = some x ∧ IsSt K H x s := by
  unfold Sts at h
  induction h with
  | nil =>
    intro i x e
    simp at e
  | cons h t ih =>
    intro i x e
    match i with
    | 0 =>
      simp at e
      subst e
      exact ⟨_, rfl, h⟩
    | i + 1 => exact ih (by simpa using e)
end My
namespace My
open PySem PySem.Spec PyProof.Rows L2
variable {K : PySem.W.Frag}
theorem tps_put {H1 H : Hp} {D : Addr} {o : HO} {ys : List V} (h : H D = some (.lst ys)) : Tps H (upd H D o) := fun b xs hb => by
  refine (upd_ne fun e => ?_).trans hb
  rw [e, h] at hb
  cases hb
theorem same_put {H1 H : Hp} {D : Addr} {o : HO} (n : H1 D = none) (s : Same H1 H) : Same H1 (upd H D o) := fun b x h => (upd_ne (ne_of_none h n)).trans (s b x h)
/-- what stands while the tuples stand -/
def Mn {α : Type} (R : Hp → V → α → Prop) : Prop := ∀ H H' v a, Tps H H' → R H v a → R H' v a
theorem Paired.mono {α : Type} {R : Hp → V → α → Prop} (hR : Mn R) {H H' : Hp} (f : Tps H H') {ys : List V} {as : List α} (h : Paired (R H) ys as) : Paired (R H') ys as := by
  induction h with
  | nil => exact .nil
  | cons h t ih => exact .cons (hR _ _ _ _ f h) ih
theorem same_tps {H H' : Hp} (s : Same H H') : Tps H H' := fun b xs h => s _ _ h
theorem sqT_same {H H' : Hp} {a : Addr} {xs : List V} (e : Same H H') (h : SqT K H a xs) : SqT K H' a xs := by
  rcases h with (h | ⟨o, h⟩) | h
  · exact .inl (.inl (e _ _ h))
  · exact .inl (.inr ⟨o, e _ _ h⟩)
  · exact .inr h
section
variable {α : Type} {R : Hp → V → α → Prop} {g : TG} {tt : TT} {te : TE} {vs : List Nat} {σ : L2.St} {H1 : Hp} {D : Addr} {Qd : Hp → Prop} {f : Nat → Option α}
/-- the state of a list under way -/
def Lst (R : Hp → V → α → Prop) (H1 : Hp) (D : Addr) (as : List α) (H : Hp) : Prop := Same H1 H ∧ ∃ ys, H D = some (.lst ys) ∧ Paired (R H) ys as
theorem Lst.len {as : List α} {H : Hp} : Lst R H1 D as H → ∃ ys, H D = some (.lst ys) ∧ ys.length = as.length := fun ⟨_, ys, h, p⟩ => ⟨ys, h, Paired.length p⟩
theorem Lst.add (hR : Mn R) (nD : H1 D = none) {as : List α} {a : α} {H H' : Hp} {y : V} (l : Lst R H1 D as H) (s : Same H H') (h : R H' y a) (hn : as.length < 1000) :
    ∃ acc, H' D = some (.lst acc) ∧ acc.length < sizeLine ∧ Lst R H1 D (as ++ [a]) (upd H' D (.lst (acc ++ [y]))) := by
  obtain ⟨s1, ys, hD, p⟩ := l
  have hl := Paired.length p
  refine ⟨ys, s _ _ hD, small1000 (by omega), same_put nD (s1.trans s), _, upd_same, ?_⟩
  have t : Tps H' (upd H' D (.lst (ys ++ [y]))) := tps_put (H1 := H1) (s _ _ hD)
  exact Paired.mono hR t (Paired.snoc (Paired.mono hR (same_tps s) p) h)
theorem Lst.skip (hR : Mn R) {as : List α} {H H' : Hp} (l : Lst R H1 D as H) (s : Same H H') : Lst R H1 D as H' := by
  obtain ⟨s1, ys, hD, p⟩ := l
  exact ⟨s1.trans s, ys, s _ _ hD, Paired.mono hR (same_tps s) p⟩
def upTo (f : Nat → Option α) (i : Nat) : List α := (List.range i).filterMap f
theorem upTo_some {i : Nat} {a : α} (h : f i = some a) : upTo f (i + 1) = upTo f i ++ [a] := by
  unfold upTo
  rw [List.range_succ, List.filterMap_append]
  simp [h]
theorem upTo_none {i : Nat} (h : f i = none) : upTo f (i + 1) = upTo f i := by
  unfold upTo
  rw [List.range_succ, List.filterMap_append]
  simp [h]
theorem upTo_len (f : Nat → Option α) (i : Nat) : (upTo f i).length ≤ i := by
  unfold upTo
  refine Nat.le_trans (List.length_filterMap_le _ _) ?_
  simp
/-- one turn -/
def Turn1 (R : Hp → V → α → Prop) (H1 : Hp) (f : Nat → Option α) (i : Nat) (G : Hp → VK → (Hp → Prop) → Prop) : Prop :=
  ∀ H' (Q : VK) (N : Hp → Prop), Same H1 H' → (∀ a y H4, f i = some a → Same H' H4 → R H4 y a → Q y H4) → (∀ H3, f i = none → Same H' H3 → N H3) → G H' Q N
theorem Turn1.step (hR : Mn R) (nD : H1 D = none) {i : Nat} (hi : i < 1000) {G : Hp → VK → (Hp → Prop) → Prop} (t : Turn1 R H1 f i G) {H : Hp} (l : Lst R H1 D (upTo f i) H) :
    G H (fun y H4 => ∃ acc, H4 D = some (.lst acc) ∧ acc.length < sizeLine ∧ Lst R H1 D (upTo f (i + 1)) (upd H4 D (.lst (acc ++ [y])))) (Lst R H1 D (upTo f (i + 1))) := by
  refine t H _ _ l.1 (fun a y H4 e s h => ?_) fun H3 e s => ?_
  · rw [upTo_some e]
    exact l.add hR nD s h (Nat.lt_of_le_of_lt (upTo_len f i) hi)
  · rw [upTo_none e]
    exact l.skip hR s
theorem lst_new (nD : H1 D = none) : Lst R H1 D (upTo f 0) (upd H1 D (.lst [])) := ⟨same_upd nD, [], upd_same, .nil⟩
theorem lc_rangeP (hR : Mn R) {lo : Int} {n : Nat} (nD : H1 D = none) (hn : n ≤ 1000)
    (hs : ∀ i, i < n → Turn1 R H1 f i fun H' Q N => g (.int (lo + i)) (wipe σ vs) H' fun σ2 H2 => wipe σ2 vs = wipe σ vs ∧ tt σ2 H2 fun b H3 => if b = true then te σ2 H3 Q else N H3)
    (hd : ∀ H', Lst R H1 D (upTo f n) H' → Qd H') :
    ∃ W : Nat → Nat → Hp → Prop, (∃ m, W 0 m (upd H1 D (.lst []))) ∧ ∀ i m H, W i m H →
      ((Itr lo n).stop i H ∧ Qd H) ∨ ((Itr lo n).go i H ∧ ∃ Nx : Hp → Prop, (∀ H', Nx H' → ∃ m', m' < m ∧ W (i + 1) m' H') ∧ ∀ x H', (Itr lo n).yld i H x H' → g x (wipe σ vs) H' fun σ2 H2 => wipe σ2 vs = wipe σ vs ∧ tt σ2 H2 fun b H3 =>
        if b = true then te σ2 H3 fun y H4 => ∃ acc, H4 D = some (.lst acc) ∧ acc.length < sizeLine ∧ Nx (upd H4 D (.lst (acc ++ [y]))) else Nx H3) :=
  lc_range (fun i H => Lst R H1 D (upTo f i) H) (lst_new nD) (fun i H hi l => Turn1.step (i := i) hR nD (by omega) (hs i hi) l) hd
theorem lc_tupP (hR : Mn R) {a : Addr} {xs : List V} (nD : H1 D = none) (hn : xs.length ≤ 1000) (hl : SqT K H1 a xs)
    (hs : ∀ i x, xs[i]? = some x → Turn1 R H1 f i fun H' Q N => g x (wipe σ vs) H' fun σ2 H2 => wipe σ2 vs = wipe σ vs ∧ tt σ2 H2 fun b H3 => if b = true then te σ2 H3 Q else N H3)
    (hd : ∀ H', Lst R H1 D (upTo f xs.length) H' → Qd H') :
    ∃ W : Nat → Nat → Hp → Prop, (∃ m, W 0 m (upd H1 D (.lst []))) ∧ ∀ i m H, W i m H →
      ((Itt K a).stop i H ∧ Qd H) ∨ ((Itt K a).go i H ∧ ∃ Nx : Hp → Prop, (∀ H', Nx H' → ∃ m', m' < m ∧ W (i + 1) m' H') ∧ ∀ x H', (Itt K a).yld i H x H' → g x (wipe σ vs) H' fun σ2 H2 => wipe σ2 vs = wipe σ vs ∧ tt σ2 H2 fun b H3 =>
        if b = true then te σ2 H3 fun y H4 => ∃ acc, H4 D = some (.lst acc) ∧ acc.length < sizeLine ∧ Nx (upd H4 D (.lst (acc ++ [y]))) else Nx H3) :=
  lc_tup (xs := xs) (fun i H => Lst R H1 D (upTo f i) H) (lst_new nD) (fun i H _ l => sqT_same l.1 hl) (fun i x H hx l => Turn1.step (i := i) hR nD (by
    have := (List.getElem?_eq_some_iff.mp hx).1
    omega) (hs i x hx) l) hd
theorem lc_listP (hR : Mn R) {a : Addr} {xs : List V} (nD : H1 D = none) (hn : xs.length ≤ 1000) (hl : SqL K H1 a xs)
    (hs : ∀ i x, xs[i]? = some x → Turn1 R H1 f i fun H' Q N => g x (wipe σ vs) H' fun σ2 H2 => wipe σ2 vs = wipe σ vs ∧ tt σ2 H2 fun b H3 => if b = true then te σ2 H3 Q else N H3)
    (hd : ∀ H', Lst R H1 D (upTo f xs.length) H' → Qd H') :
    ∃ W : Nat → Nat → Hp → Prop, (∃ m, W 0 m (upd H1 D (.lst []))) ∧ ∀ i m H, W i m H →
      ((Itl K a).stop i H ∧ Qd H) ∨ ((Itl K a).go i H ∧ ∃ Nx : Hp → Prop, (∀ H', Nx H' → ∃ m', m' < m ∧ W (i + 1) m' H') ∧ ∀ x H', (Itl K a).yld i H x H' → g x (wipe σ vs) H' fun σ2 H2 => wipe σ2 vs = wipe σ vs ∧ tt σ2 H2 fun b H3 =>
        if b = true then te σ2 H3 fun y H4 => ∃ acc, H4 D = some (.lst acc) ∧ acc.length < sizeLine ∧ Nx (upd H4 D (.lst (acc ++ [y]))) else Nx H3) :=
  lc_list (xs := xs) (fun i H => Lst R H1 D (upTo f i) H) (lst_new nD) (fun i H _ l => l.1.seq hl) (fun i x H hx l => Turn1.step (i := i) hR nD (by
    have := (List.getElem?_eq_some_iff.mp hx).1
    omega) (hs i x hx) l) hd
theorem lc_enumTP (hR : Mn R) {a : Addr} {xs : List V} (nD : H1 D = none) (hn : xs.length ≤ 1000) (hl : SqT K H1 a xs)
    (hs : ∀ i x, xs[i]? = some x → Turn1 R H1 f i fun H' Q N => ∀ T, H' T = none → g (.ref T) (wipe σ vs) (upd H' T (.tup [.int (i : Nat), x])) fun σ2 H2 => wipe σ2 vs = wipe σ vs ∧ tt σ2 H2 fun b H3 => if b = true then te σ2 H3 Q else N H3)
    (hd : ∀ H', Lst R H1 D (upTo f xs.length) H' → Qd H') :
    ∃ W : Nat → Nat → Hp → Prop, (∃ m, W 0 m (upd H1 D (.lst []))) ∧ ∀ i m H, W i m H →
      ((IteT K a).stop i H ∧ Qd H) ∨ ((IteT K a).go i H ∧ ∃ Nx : Hp → Prop, (∀ H', Nx H' → ∃ m', m' < m ∧ W (i + 1) m' H') ∧ ∀ x H', (IteT K a).yld i H x H' → g x (wipe σ vs) H' fun σ2 H2 => wipe σ2 vs = wipe σ vs ∧ tt σ2 H2 fun b H3 =>
        if b = true then te σ2 H3 fun y H4 => ∃ acc, H4 D = some (.lst acc) ∧ acc.length < sizeLine ∧ Nx (upd H4 D (.lst (acc ++ [y]))) else Nx H3) := by
  refine ⟨fun i m H => m = xs.length - i ∧ i ≤ xs.length ∧ Lst R H1 D (upTo f i) H, ⟨xs.length, by simp, Nat.zero_le _, lst_new nD⟩, ?_⟩
  rintro i m H ⟨rfl, hi, l⟩
  have q := sqT_same l.1 hl
  by_cases hlt : i < xs.length
  · refine .inr ⟨⟨xs, xs[i], q, by simp [hlt]⟩, Lst R H1 D (upTo f (i + 1)), fun H' p' => ⟨xs.length - (i + 1), by omega, rfl, hlt, p'⟩, fun x H' y => ?_⟩
    obtain ⟨T, x, rfl, nT, rfl, y⟩ := y
    exact Turn1.step (i := i) hR nD (by omega) (hs i x (y xs q)) l T nT
  · have e : i = xs.length := by omega
    subst e
    exact .inl ⟨⟨xs, q, rfl⟩, hd H l⟩
end
end My
namespace My
open PySem PySem.Spec PyProof.Rows L2
section
variable {X : Cx} {K : PySem.W.Frag}
theorem sl_tupK (h : X.K = K) : SlR X (rSlT K) := h ▸ sl_tup
theorem sl_listK (h : X.K = K) : SlR X (rSlL K) := h ▸ sl_list
def rIxA (K : PySem.W.Frag) : R2 := fun x y H Q => ∃ p xs i v, x = .ref p ∧ y = .int i ∧ (SqL K H p xs ∨ SqT K H p xs) ∧ atI xs i = some v ∧ Q v H
theorem ix_any : IxR X (rIxA X.K) := by
  intro value slice pins s σ H x y v u Q I rx ry h hs
  obtain ⟨p, xs, i, z, e1, e2, hq, he, q⟩ := h
  rcases hq with hq | hq
  · exact ix_list value slice pins s σ H x y v u Q I rx ry ⟨p, xs, i, z, e1, e2, hq, he, q⟩ hs
  · exact ix_tup value slice pins s σ H x y v u Q I rx ry ⟨p, xs, i, z, e1, e2, hq, he, q⟩ hs
theorem ix_anyK (h : X.K = K) : IxR X (rIxA K) := h ▸ ix_any
theorem ix_tupK (h : X.K = K) : IxR X (rIxT K) := h ▸ ix_tup
theorem ix_listK (h : X.K = K) : IxR X (rIxL K) := h ▸ ix_list
theorem op_inK (h : X.K = K) : OpR X (compareOp .In) (rIn K false) := h ▸ op_in_seq
theorem op_eqDK (h : X.K = K) (hu : X.A.units + 64 < cLine) : OpR X (compareOp .Eq) (rEqD K) := h ▸ op_eqD hu
theorem op_neDK (h : X.K = K) (hu : X.A.units + 64 < cLine) : OpR X (compareOp .NotEq) (rNeD K) := h ▸ op_neD hu
theorem call_lenNK (h : X.K = K) : CallR X (.builtin "len") (rLen K) := h ▸ call_lenN
theorem call_isiK' (h : X.K = K) : CallR X (.builtin "isinstance") (rIsi K) := h ▸ call_isi
theorem pe_fldK {e : Expr} {f : Str} {pos : Pos} {ta : TE} (h : X.K = K) (he : PE X e ta) (hb : attributeBase e f X.env (eval e X.env) = eval e X.env) : PE X (.Attribute e f pos) (tFld K ta f) := h ▸ pe_fld he hb
end
end My
namespace My
open PySem PySem.Spec PyProof.Rows L2
/-! ### a set made of a list of ints -/
abbrev bareSet (w : World) : Obj :=
  ⟨.type "set", none, .set #[] 0 (.fresh 0 0 (!w.params.followText "set-order")), #[]⟩
section
variable {P : Program} {w : World} {A : Around} {E : Value → Shared → Prop} {s : Shared}
/-- what the set's own __init__ comes to -/
def Filled (w : World) (s : Shared) (ns : List Int) (u : Value) (s' : Shared) : Prop :=
  u = .none ∧ ∃ (hp : Heap) (tk c : Nat), s' = { s with heap := hp, toks := tk } ∧
    SetR w hp s.heap.objs.size (fun j => decide (j ∈ ns)) c ∧ c ≤ ns.length ∧
    ∀ b o, s.heap.get? b = some o → hp.get? b = some o
theorem set_filled {l : Addr} {zs : Array Value} {ns : List Int} (nh : A.handled = none)
    (hl : s.heap.IsList l zs) (hi : IntsAre zs.toList ns) (room : ns.length + 1 < scanBound) :
    codeAny (model P w) A (.call (.builtin "set.__init__") ⟨[.ref s.heap.objs.size, .ref l], []⟩)
      (wants (Filled w s ns) E) { s with heap := s.heap.push (bareSet w) } := by
  have sz : zs.size = ns.length := by
    have := IntsAre.length hi
    rwa [Array.length_toList] at this
  have here : (s.heap.push (bareSet w)).get? s.heap.objs.size = some (bareSet w) :=
    Heap.get?_push_size _ rfl
  refine codeAny_call_builtin F.called_set.init.plain F.entry_set_init (check_set_init_1 ⟨_, here, rfl⟩ ?_)
  obtain ⟨⟨c1, d1, dt1, sl1⟩, at1, ec, k1, ed⟩ := hl
  dsimp only at ec ed
  subst ec ed
  have at2 : (s.heap.push (bareSet w)).get? l = some ⟨.type "list", d1, .seq zs k1, sl1⟩ :=
    Heap.get?_push_of_some _ at1
  have n1 := F.sub_list_set
  have n2 := F.sub_list_frozenset
  have n3 : (Value.type "list" == Value.type "dict") = false := by decide
  have isl : (s.heap.push (bareSet w)).IsList l zs := ⟨_, at2, rfl, k1, rfl⟩
  have lt : l < s.heap.objs.size := Heap.lt_size at1
  unfold Builtin.«set.__init__» noKeywords Builtin.Frozenset.updateFrom
  generalize ePI : pyIter = PI
  wp_walk
  subst ePI
  refine wpAny_pyIter_list isl (wpAny_bind (wpAny_runValue ?_))
  have nh3 : A.in1.in1.handled = none := by simp [nh]
  have sz1 : (s.heap.push (bareSet w)).objs.size = s.heap.objs.size + 1 := Heap.size_push ..
  have apart : l ≠ (s.heap.push (bareSet w)).objs.size := by
    rw [sz1]
    exact Nat.ne_of_lt (Nat.lt_succ_of_lt lt)
  have fresh : s.heap.objs.size ∉ [(s.heap.push (bareSet w)).objs.size, l] := by
    rw [sz1]
    intro hm
    rcases List.mem_cons.mp hm with z | z
    · exact absurd z (Nat.ne_of_lt (Nat.lt_succ_self _))
    · exact absurd (List.mem_singleton.mp z) (Nat.ne_of_gt lt)
  have each : ∀ (i : Nat) (v : Value), zs[i]? = some v → ∃ k t, ns[i]? = some k ∧ v = .int k t := fun i v hv => by
    have hn : i < ns.length := sz ▸ (Array.getElem?_eq_some_iff.mp hv).1
    obtain ⟨t, e⟩ := IntsAre.int_at hi i v ((Array.getElem?_toList ..).trans hv)
    refine ⟨ns[i], t, List.getElem?_eq_getElem hn, e.trans ?_⟩
    simp [List.getD_eq_getElem?_getD, List.getElem?_eq_getElem hn]
  have got : ((s.heap.push (bareSet w)).push ⟨.type "list_iterator", none, .fields #[.ref l, .int 0 0], #[]⟩).get? s.heap.objs.size = some (bareSet w) :=
    Heap.get?_push_of_some _ here
  refine set_update_ints ((Walks.list nh3 _ l apart zs).toS) s.heap.objs.size fresh ns sz room each (zs.size - 0) 0 _ (by omega)
    (Nat.zero_le _) ?z1 ?z0 fun s2 c mv hc hR => ?_
  case z1 => exact ⟨⟨_, Heap.get?_push_size _ rfl, rfl, rfl⟩, isl.push _⟩
  case z0 => exact ⟨0, Nat.le_refl 0, setR_new_at got⟩
  obtain ⟨hp2, gg, dr, tk, os2⟩ := s2
  have e1 : gg = s.gens := mv.gens
  have e2 : dr = s.drawn := mv.drawn
  have e3 : os2 = s.os := mv.os
  subst e1 e2 e3
  rw [sz] at hc
  show wpAny _ _ _ _ _ _
  refine wpAny_pure ?_
  show wpAny _ _ (ret Value.none) _ _ _
  refine wpAny_pure ⟨rfl, hp2, tk, c, rfl, hR, hc, fun b o e => ?_⟩
  have lb : b < s.heap.objs.size := Heap.lt_size e
  refine mv.heap b o (fun hm => ?_) (Heap.get?_push_of_some _ (Heap.get?_push_of_some _ e))
  rcases List.mem_cons.mp hm with z | hm
  · exact absurd z (Nat.ne_of_lt lb)
  · have z := List.mem_singleton.mp hm
    rw [sz1] at z
    exact absurd z (Nat.ne_of_lt (Nat.lt_succ_of_lt lb))
theorem set_of_list {l : Addr} {zs : Array Value} {ns : List Int} {Q : Value → Shared → Prop} (nh : A.handled = none)
    (hl : s.heap.IsList l zs) (hi : IntsAre zs.toList ns) (room : ns.length + 1 < scanBound)
    (h : ∀ (hp : Heap) (tk c : Nat), SetR w hp s.heap.objs.size (fun j => decide (j ∈ ns)) c → c ≤ ns.length →
      (∀ b o, s.heap.get? b = some o → hp.get? b = some o) → Q (.ref s.heap.objs.size) { s with heap := hp, toks := tk }) :
    wpAny (model P w) A (call (.type "set") [.ref l]) Q E s := by
  obtain ⟨c, tl, hmro⟩ := F.called_set.mro
  have g1 := F.called_set.made
  have g2 := F.called_set.sub
  have g3 := F.called_set.notType
  have g4 := F.called_set.canCreate
  have g5 := F.typeCall_set_1 (.ref l)
  refine wpAny_call (codeAny_of_tree ?_)
  show wpAny _ _ (callAny (.type "set") _) _ _ _
  refine wpAny_pure ⟨Code.quiet_builtin _ (by decide +kernel), codeAny_builtin F.entry_type_call ?_⟩
  rw [Around.under_plain (weight_type_call_type "set" [.ref l] []) rfl]
  repeat any_goals (first | assumption | wp_step)
  refine codeAny_mono (code_set_led1 (.ref l) (E := E)
    (Q₁ := fun obj s₁ => obj = .ref s.heap.objs.size ∧ s₁ = { s with heap := s.heap.push (bareSet w) }) ⟨rfl, rfl⟩) fun r s₁ hr => ?_
  cases r with
  | error e => exact hr
  | ok fl =>
    cases fl with
    | ret obj =>
      obtain ⟨rfl, rfl⟩ := hr
      have here : (s.heap.push (bareSet w)).get? s.heap.objs.size = some (bareSet w) := Heap.get?_push_size _ rfl
      have ty : Shared.TypeIs { s with heap := s.heap.push (bareSet w) } (.ref s.heap.objs.size) "set" := ⟨_, here, rfl⟩
      have g6 := F.called_set.init.lookup
      have g7 := F.called_set.init.bind (.ref s.heap.objs.size)
      repeat any_goals (first | assumption | wp_step)
      refine codeAny_mono (set_filled (E := E) (by simp [nh]) hl hi room) fun r₂ s₂ hr₂ => ?_
      cases r₂ with
      | error e => exact hr₂
      | ok fl₂ =>
        cases fl₂ with
        | ret r =>
          obtain ⟨rfl, hp, tk, c', rfl, f1, f2, f3⟩ := hr₂
          repeat any_goals (first | assumption | wp_step)
          exact h hp tk c' f1 f2 f3
        | _ => exact hr₂.elim
    | _ => exact hr.elim
end
/-- set(xs), xs a list of ints -/
def rSetOfI (K : PySem.W.Frag) (w : World) : List V → Hp → VK → Prop := fun xs H Q => ∃ (l : Addr) (ns : List Int), xs = [V.ref l] ∧ SqL K H l (ns.map V.int) ∧ ns.length ≤ 1000 ∧
  ∀ p c, H p = none → c ≤ ns.length → Q (.ref p) (upd H p (SetO w p (fun j => decide (j ∈ ns)) c))
theorem cr_setOfI {X : Cx} (hc : X.calm = true) : CallR X (.type "set") (rSetOfI X.K X.w) := by
  intro pins s σ H xs us Q I r h
  obtain ⟨l, ns, rfl, hq, hn, q⟩ := h
  rw [Vals.ref1 r]
  obtain ⟨its, rv, pl, hz⟩ := I.list hq
  refine set_of_list (I.ok.hd hc) pl.isList (by simpa using intsAre_of rv) (by unfold scanBound; omega) fun hp tk c hR cl kp => ?_
  exact ⟨.ref s.heap.objs.size, _, I.laid (t' := tk) kp (Nat.le_refl _) (setO_new hR), rfl, q _ c (I.hok.fresh (Nat.le_refl _)) cl⟩
end My
namespace My
open PySem PySem.Spec PyProof.Rows L2
/-- the data of roots told -/
theorem room65 {k : Nat} {A : Around} (r : Room k A) : A.units + 65 < cLine := by
  have := r.un
  omega
def rInDT (K : PySem.W.Frag) : R2 := fun x y H Q => ∃ d ds, Dp K H x d ∧ Dp K H y (.tuple ds) ∧ SeqAt.shaped d = true ∧ SeqAt.shaped (.tuple ds) = true ∧ Q (.bl (ds.any fun z => PyData.eqv z d)) H
theorem op_inDT {X : Cx} (hu : X.A.units + 65 < cLine) : OpR X (compareOp .In) (rInDT X.K) := by
  intro pins s σ H x y v u Q I rx ry h
  obtain ⟨d, ds, hd, he, sd, se, q⟩ := h
  obtain ⟨as, r1⟩ := Dp.reads I d x v hd rx
  obtain ⟨bs, r2⟩ := Dp.reads I (.tuple ds) y u he ry
  exact SeqAt.in_tuple_reads r2 r1 (SeqAt.canLay_of_shaped se) (SeqAt.canLay_of_shaped sd) (room_in_shaped sd hu) ⟨.bl _, H, I, rfl, q⟩
theorem op_inDTK {X : Cx} {K : PySem.W.Frag} (h : X.K = K) (hu : X.A.units + 65 < cLine) : OpR X (compareOp .In) (rInDT K) := h ▸ op_inDT hu
end My
namespace My
open PySem PySem.Spec PyProof.Rows L2
/-! ### a list or a tuple walked -/
def iSeqA (K : PySem.W.Frag) (te : TE) : TI := fun σ H R => te σ H fun x H1 => ∃ a, x = .ref a ∧ (((∃ xs, SqL K H1 a xs) ∧ R (Itl K a) H1) ∨ ((∃ xs, SqT K H1 a xs) ∧ R (Itt K a) H1))
theorem pi_seqA {X : Cx} {tg l : Expr} {tl : TE} (hl : PE X l tl) : PI X tg l (iSeqA X.K tl) := by
  refine ⟨fun pins s σ H R I h => ?_⟩
  refine thn (hl.run pins s σ H _ I h) fun v s1 ⟨x, H1, I1, r1, q1⟩ => ?_
  obtain ⟨a, e, q⟩ := q1
  subst e
  cases r1
  rcases q with ⟨⟨xs, hq⟩, q⟩ | ⟨⟨xs, hq⟩, q⟩
  · obtain ⟨its, rv, p, hz⟩ := I1.list hq
    refine wpAny_pyIter_list p.isList ?_
    refine ⟨s1.heap.objs.size, [s1.heap.objs.size], _, _, H1, rfl, I1.kept (t' := s1.toks) fun b o e => Heap.get?_push_of_some _ e, turn_list a _, ⟨_, Heap.get?_push_size _ rfl, rfl, rfl⟩, fun b hb => ?_, q⟩
    have e : b = s1.heap.objs.size := by simpa using hb
    subst e
    exact I1.fpOk (Nat.le_refl _) (I1.hok.fresh (Nat.le_refl _))
  · obtain ⟨its, rv, p, hz⟩ := I1.tuple hq
    refine wpAny_pyIter_tuple (show s1.heap.IsTuple a its.toArray from p) ?_
    refine ⟨s1.heap.objs.size, [s1.heap.objs.size], _, _, H1, rfl, I1.kept (t' := s1.toks) fun b o e => Heap.get?_push_of_some _ e, turn_tuple a _, ⟨_, Heap.get?_push_size _ rfl, rfl, rfl⟩, fun b hb => ?_, q⟩
    have e : b = s1.heap.objs.size := by simpa using hb
    subst e
    exact I1.fpOk (Nat.le_refl _) (I1.hok.fresh (Nat.le_refl _))
variable {K : PySem.W.Frag}
theorem rd_seqA {te : TE} {σ : L2.St} {H : Hp} {R : It → Hp → Prop} (h : te σ H fun x H1 => ∃ a, x = .ref a ∧ (((∃ xs, SqL K H1 a xs) ∧ R (Itl K a) H1) ∨ ((∃ xs, SqT K H1 a xs) ∧ R (Itt K a) H1))) : iSeqA K te σ H R := h
/-- an address of a list or a tuple of these values -/
def Sq (K : PySem.W.Frag) (H : Hp) (a : Addr) (xs : List V) : Prop := SqL K H a xs ∨ SqT K H a xs
theorem Sq.same {H H' : Hp} {a : Addr} {xs : List V} (s : Same H H') (h : Sq K H a xs) : Sq K H' a xs := h.imp (Same.seq s) (sqT_same s)
theorem Sq.l {H : Hp} {a : Addr} {xs : List V} (h : H a = some (.lst xs)) : Sq K H a xs := .inl (.of h)
theorem Sq.t {H : Hp} {a : Addr} {xs : List V} (h : H a = some (.tup xs)) : Sq K H a xs := .inr (.of h)
section
variable {α : Type} {R : Hp → V → α → Prop} {g : TG} {tt : TT} {te : TE} {vs : List Nat} {σ : L2.St} {H1 : Hp} {Qd : Addr → Hp → Prop} {f : Nat → Option α}
theorem lc_seqA (hR : Mn R) {a : Addr} {xs : List V} (hn : xs.length ≤ 1000) (hl : Sq K H1 a xs)
    (hs : ∀ i x, xs[i]? = some x → Turn1 R H1 f i fun H' Q N => g x (wipe σ vs) H' fun σ2 H2 => wipe σ2 vs = wipe σ vs ∧ tt σ2 H2 fun b H3 => if b = true then te σ2 H3 Q else N H3)
    (hd : ∀ D H', Lst R H1 D (upTo f xs.length) H' → Qd D H') {RR : It → Hp → Prop}
    (hRR : RR = fun J H1 => ∀ D, H1 D = none → ∃ W : Nat → Nat → Hp → Prop, (∃ m, W 0 m (upd H1 D (.lst []))) ∧ ∀ i m H, W i m H →
      (J.stop i H ∧ Qd D H) ∨ (J.go i H ∧ ∃ Nx : Hp → Prop, (∀ H', Nx H' → ∃ m', m' < m ∧ W (i + 1) m' H') ∧ ∀ x H', J.yld i H x H' → g x (wipe σ vs) H' fun σ2 H2 => wipe σ2 vs = wipe σ vs ∧ tt σ2 H2 fun b H3 =>
        if b = true then te σ2 H3 fun y H4 => ∃ acc, H4 D = some (.lst acc) ∧ acc.length < sizeLine ∧ Nx (upd H4 D (.lst (acc ++ [y]))) else Nx H3)) :
    ((∃ xs, SqL K H1 a xs) ∧ RR (Itl K a) H1) ∨ ((∃ xs, SqT K H1 a xs) ∧ RR (Itt K a) H1) := by
  subst hRR
  rcases hl with hl | hl
  · exact .inl ⟨⟨_, hl⟩, fun D nD => lc_listP hR nD hn hl hs fun H' l => hd D H' l⟩
  · exact .inr ⟨⟨_, hl⟩, fun D nD => lc_tupP hR nD hn hl hs fun H' l => hd D H' l⟩
end
section
variable {g : TG} {tb : TS} {D : Ends} {σ : L2.St} {H : Hp}
theorem for_seqA {H0 : Hp} {a : Addr} {xs : List V} (Pv : Nat → L2.St → Hp → Prop) (h : Sq K H0 a xs) (h0 : Pv 0 σ H) (hl : ∀ i σ' H', Pv i σ' H' → Same H0 H')
    (hs : ∀ i x σ H, xs[i]? = some x → Pv i σ H → g x σ H fun σ2 H2 => tb { D with nx := Pv (i + 1), ct := Pv (i + 1), bk := D.nx } σ2 H2) (hd : ∀ σ H, Pv xs.length σ H → D.nx σ H) {RR : It → Hp → Prop}
    (hRR : RR = fun J H1 => ∃ W : Nat → Nat → L2.St → Hp → Prop, (∃ m, W 0 m σ H1) ∧ ∀ i m σ H, W i m σ H →
      (J.stop i H ∧ D.nx σ H) ∨ (J.go i H ∧ ∃ N : L2.St → Hp → Prop, (∀ σ' H', N σ' H' → ∃ m', m' < m ∧ W (i + 1) m' σ' H') ∧ ∀ x H', J.yld i H x H' → g x σ H' fun σ2 H2 => tb { D with nx := N, ct := N, bk := D.nx } σ2 H2)) :
    ((∃ xs, SqL K H a xs) ∧ RR (Itl K a) H) ∨ ((∃ xs, SqT K H a xs) ∧ RR (Itt K a) H) := by
  subst hRR
  rcases h with h | h
  · exact .inl ⟨⟨_, (hl 0 σ H h0).seq h⟩, for_list Pv h0 (fun i σ' H' hi p => (hl i σ' H' p).seq h) hs hd⟩
  · exact .inr ⟨⟨_, sqT_same (hl 0 σ H h0) h⟩, for_tup Pv h0 (fun i σ' H' hi p => sqT_same (hl i σ' H' p) h) hs hd⟩
end
end My
namespace My
open PySem PySem.Spec PyProof.Rows L2
/-! ### zip of a tuple and a list -/
abbrev zmH1 (h : Heap) (l1 : Addr) : Heap := h.push { cls := .type "tuple_iterator", data := .fields #[.ref l1, .int 0 0] }
abbrev zmH2 (h : Heap) (l1 l2 : Addr) : Heap := (zmH1 h l1).push { cls := .type "list_iterator", data := .fields #[.ref l2, .int 0 0] }
abbrev zmH3 (h : Heap) (l1 l2 : Addr) : Heap := (zmH2 h l1 l2).push { cls := .type "tuple", data := .seq #[.ref h.objs.size, .ref (zmH1 h l1).objs.size] }
abbrev zmH4 (h : Heap) (l1 l2 : Addr) : Heap := (zmH3 h l1 l2).push { cls := .type "tuple", data := .seq #[.none, .none] }
abbrev zmH5 (h : Heap) (l1 l2 : Addr) : Heap := (zmH4 h l1 l2).push { cls := .type "zip", data := .fields #[.none, .bool false, .bool false, .ref (zmH2 h l1 l2).objs.size, .ref (zmH3 h l1 l2).objs.size] }
theorem meets_zm_new (l1 l2 : Addr) (xs ys : Array Value) :
    Meets (Builtin.«zip.__new__» ⟨[.type "zip", .ref l1, .ref l2], []⟩) (fun _ R s => s.heap.IsTuple l1 xs ∧ s.heap.IsList l2 ys ∧
      R (.ok (.ret (.ref (zmH4 s.heap l1 l2).objs.size))) { s with heap := zmH5 s.heap l1 l2 }) :=
  .of_wp fun prog w A R s h => by
    obtain ⟨hp, g, d, tk, os⟩ := s
    obtain ⟨hl1, hl2, h⟩ := h
    have hsub := sub_zip
    have hL1 : Heap.IsTuple (Shared.heap ⟨hp, g, d, tk, os⟩) l1 xs := hl1
    have hL2 : Heap.IsList (Shared.heap ⟨hp.push { cls := .type "tuple_iterator", data := .fields #[.ref l1, .int 0 0] }, g, d, tk, os⟩) l2 ys := Heap.IsList.push hl2 _
    wp_walk using wpAny_pyIter_tuple hL1, wpAny_pyIter_list hL2
    exact ⟨_, rfl, h⟩
section
variable {prog : Program} {w : World} {A : Around} {E : Value → Shared → Prop} {s : Shared}
theorem call_zm {l1 l2 : Addr} {xs ys : Array Value} {Q : Value → Shared → Prop} (hl1 : s.heap.IsTuple l1 xs) (hl2 : s.heap.IsList l2 ys)
    (h : ∀ h', IsZip h' (s.heap.objs.size + 4) (s.heap.objs.size + 2) (s.heap.objs.size + 3) .none → IsPair h' (s.heap.objs.size + 2) (.ref s.heap.objs.size) (.ref (s.heap.objs.size + 1)) →
      IsPair h' (s.heap.objs.size + 3) .none .none → h'.IsTupleIter s.heap.objs.size l1 0 → h'.IsListIter (s.heap.objs.size + 1) l2 0 → h'.objs.size = s.heap.objs.size + 5 →
      (∀ c o, s.heap.get? c = some o → h'.get? c = some o) → Q (.ref (s.heap.objs.size + 4)) { s with heap := h' }) :
    wpAny (model prog w) A (call (.type "zip") [.ref l1, .ref l2]) Q E s := by
  refine callType_new F.called_zip (by decide) (F.typeCall_zip_2 _ _) (F.newCall_zip_2 _ _) (fun obj => F.args_object_init_3 obj _ _) F.entry_zip_new
    (meets_zm_new l1 l2 xs ys) ⟨hl1, hl2, ?_⟩
  have z1 : (zmH1 s.heap l1).objs.size = s.heap.objs.size + 1 := Heap.size_push ..
  have z2 : (zmH2 s.heap l1 l2).objs.size = s.heap.objs.size + 2 := by rw [Heap.size_push, z1]
  have z3 : (zmH3 s.heap l1 l2).objs.size = s.heap.objs.size + 3 := by rw [Heap.size_push, z2]
  have z4 : (zmH4 s.heap l1 l2).objs.size = s.heap.objs.size + 4 := by rw [Heap.size_push, z3]
  have z5 : (zmH5 s.heap l1 l2).objs.size = s.heap.objs.size + 5 := by rw [Heap.size_push, z4]
  have g5 : (zmH5 s.heap l1 l2).get? (zmH4 s.heap l1 l2).objs.size = some _ := Heap.get?_push_size _ rfl
  have g4 : (zmH5 s.heap l1 l2).get? (zmH3 s.heap l1 l2).objs.size = some _ := Heap.get?_push_of_some _ (Heap.get?_push_size _ rfl)
  have g3 : (zmH5 s.heap l1 l2).get? (zmH2 s.heap l1 l2).objs.size = some _ := Heap.get?_push_of_some _ (Heap.get?_push_of_some _ (Heap.get?_push_size _ rfl))
  have g2 : (zmH5 s.heap l1 l2).get? (zmH1 s.heap l1).objs.size = some _ := Heap.get?_push_of_some _ (Heap.get?_push_of_some _ (Heap.get?_push_of_some _ (Heap.get?_push_size _ rfl)))
  have g1 : (zmH5 s.heap l1 l2).get? s.heap.objs.size = some _ := Heap.get?_push_of_some _ (Heap.get?_push_of_some _ (Heap.get?_push_of_some _ (Heap.get?_push_of_some _ (Heap.get?_push_size _ rfl))))
  show _ ∧ _
  rw [z2, z3, z4] at g5
  rw [z1, z2] at g3
  rw [z3] at g4
  rw [z1] at g2
  rw [z4]
  exact ⟨⟨_, g5, rfl⟩, h _ g5 g3 g4 ⟨_, g1, rfl, rfl⟩ ⟨_, g2, rfl, rfl⟩ z5 fun c o x =>
    Heap.get?_push_of_some _ (Heap.get?_push_of_some _ (Heap.get?_push_of_some _ (Heap.get?_push_of_some _ (Heap.get?_push_of_some _ x))))⟩
end
def ItzM (K : PySem.W.Frag) (a b : Addr) : It :=
  ⟨fun i H => ∃ (xs ys : List V) (x y : V), SqT K H a xs ∧ SqL K H b ys ∧ xs[i]? = some x ∧ ys[i]? = some y,
    fun i H v H' => ∃ T x y, v = .ref T ∧ H T = none ∧ H' = upd H T (.tup [x, y]) ∧ (∀ xs, SqT K H a xs → xs[i]? = some x) ∧ ∀ ys, SqL K H b ys → ys[i]? = some y,
    fun i H => ∃ xs ys : List V, SqT K H a xs ∧ SqL K H b ys ∧ (xs.length = i ∧ i ≤ ys.length)⟩
theorem zip_sep {z TI TO i1 i2 a b : Addr} (D : ZipApart z TI TO i1 i2 a b) : ZipSep2 z TI TO i1 i2 [i1, a] [i2, b] where
  TIz := D.TIz
  TOz := D.TOz
  TITO := D.TITO
  TIi1 := D.TIi1
  mem1 := by simp
  zf1 := by
    simp
    exact ⟨D.i1z.symm, D.l1z.symm⟩
  Tf1 := by
    simp
    exact ⟨D.TOi1, D.l1TO.symm⟩
  TIi2 := D.TIi2
  mem2 := by simp
  zf2 := by
    simp
    exact ⟨D.i2z.symm, D.l2z.symm⟩
  Tf2 := by
    simp
    exact ⟨D.TOi2, D.l2TO.symm⟩
  sep1_2 := by
    simp
    exact ⟨D.i12, D.l2i1.symm⟩
  sep2_1 := by
    simp
    exact ⟨D.i12.symm, D.l1i2.symm⟩
theorem turn_zm {P : Program} {w : World} {K : PySem.W.Frag} {elts : List Expr} {kk : Nat} {tpos : Pos} {a b z TI TO i1 i2 : Addr} (D : ZipApart z TI TO i1 i2 a b) :
    Turn P w K (.Tuple elts kk tpos) (ItzM K a b) [z, TI, TO, i1, i2] z (fun i h => IsZip h z TI TO .none ∧ IsPair h TI (.ref i1) (.ref i2) ∧ (∃ x y, IsPair h TO x y) ∧ h.IsTupleIter i1 a i ∧ h.IsListIter i2 b i) where
  mem := by simp
  obj := fun i h st c hc => by
    obtain ⟨hz, hTI, ⟨x, y, hTO⟩, ⟨o1, e1, _, d1⟩, ⟨o2, e2, _, d2⟩⟩ := st
    have e' : c = z ∨ c = TI ∨ c = TO ∨ c = i1 ∨ c = i2 := by simpa using hc
    rcases e' with q | q | q | q | q
    · rw [q]; exact ⟨_, hz, fun v q => nomatch q⟩
    · rw [q]; exact ⟨_, hTI, fun v q => nomatch q⟩
    · rw [q]; exact ⟨_, hTO, fun v q => nomatch q⟩
    · rw [q]; exact ⟨o1, e1, fun v q => by rw [d1] at q; cases q⟩
    · rw [q]; exact ⟨o2, e2, fun v q => by rw [d2] at q; cases q⟩
  keep := fun i h h' st k => by
    obtain ⟨hz, hTI, ⟨x, y, hTO⟩, h1, h2⟩ := st
    exact ⟨k z (by simp) _ hz, k TI (by simp) _ hTI, ⟨x, y, k TO (by simp) _ hTO⟩, h1.at fun o q => k i1 (by simp) o q, h2.at fun o q => k i2 (by simp) o q⟩
  item := by
    intro X hP hw hK hc i pins s σ H E I hf st hg
    subst hP hw hK
    obtain ⟨hz, hTI, ⟨x0, y0, hTO⟩, h1, h2⟩ := st
    obtain ⟨xs, ys, x, y, hqx, hqy, hx, hy⟩ := hg
    obtain ⟨its, rv, p, _⟩ := I.tuple hqx
    obtain ⟨its2, rv2, p2, _⟩ := I.list hqy
    obtain ⟨u, hu, ru⟩ := rv.get hx
    obtain ⟨u2, hu2, ru2⟩ := rv2.get hy
    have hzl : z < s.heap.objs.size := Heap.lt_size hz
    have hh : X.A.in1.handled = none := I.ok.hd hc
    have D1 := tupDraws (prog := X.prog) (w := X.w) (A := X.A.in1) (its := its.toArray) hh D.l1i1
    have D2 := Draws.list (prog := X.prog) (w := X.w) (A := X.A.in1) hh i2 b D.l2i2 its2.toArray
    have n1 : i < its.toArray.size := by
      have := (List.getElem?_eq_some_iff.mp hu).1
      simpa using this
    have n2 : i < its2.toArray.size := by
      have := (List.getElem?_eq_some_iff.mp hu2).1
      simpa using this
    refine wpAny_pyNext_zipD2_item (zip_sep D) D1 D2 hz hTI hTO ⟨h1, p⟩ ⟨h2, p2.isList⟩ n1 n2 fun v1 v2 h' tk e1 e2 z' TO' h1' h2' hT hsz hk => ?_
    obtain rfl : u = v1 := by
      have e3 : its.toArray[i]? = some u := by simpa using hu
      exact Option.some.inj (e3.symm.trans e1)
    obtain rfl : u2 = v2 := by
      have e3 : its2.toArray[i]? = some u2 := by simpa using hu2
      exact Option.some.inj (e3.symm.trans e2)
    refine ⟨_, rfl, wpAny_letOwnedTupleGo_zip (s := { s with heap := h', toks := tk }) z' fun h'' z'' sb => ?_⟩
    have hT2 : h''.get? s.heap.objs.size = some { cls := .type "tuple", data := .seq #[u, u2] } := (sb.2 _ (Nat.ne_of_gt hzl)).trans hT
    have new : ObjOk X.prog X.w (upd H s.heap.objs.size (.tup [x, y])) h'' s.heap.objs.size (.tup [x, y]) :=
      ⟨by show 2 ≤ sizeLine; decide, [u, u2], .cons ru (.cons ru2 .nil), ⟨_, hT2, rfl, _, rfl⟩⟩
    have I1 : Inv X pins σ (upd H s.heap.objs.size (.tup [x, y])) { s with heap := h'', toks := tk } :=
      I.turnedNew (t' := tk) (ch := [z, TI, TO, i1, i2]) (fun c o hb q => (sb.2 c (fun q' => hb (by simp [q']))).trans (hk c o (fun q' => hb (by simp [q'])) (fun q' => hb (by simp [q'])) (fun q' => hb (by simp [q'])) (fun q' => hb (by simp [q'])) q)) hf (Nat.le_refl _) new
    refine ⟨.ref s.heap.objs.size, _, I1, rfl, ⟨_, x, y, rfl, I.hok.fresh (Nat.le_refl _), rfl, fun l hl => by rw [I.tuple_inj hl hqx]; exact hx, fun l hl => by rw [I.list_inj hl hqy]; exact hy⟩, ⟨z'', ?_, ⟨u, u2, ?_⟩, ?_, ?_⟩, fun c hcm => ?_⟩
    · exact (sb.2 _ D.TIz).trans (hk _ _ D.TIz D.TITO D.TIi1 D.TIi2 hTI)
    · exact (sb.2 _ D.TOz).trans TO'
    · exact Heap.IsTupleIter.at (show h'.IsTupleIter i1 a (i + 1) from h1'.1) fun o q => (sb.2 _ D.i1z).trans q
    · exact h2'.1.at fun o q => (sb.2 _ D.i2z).trans q
    · have hlt : c < s.heap.objs.size := by
        have e' : c = z ∨ c = TI ∨ c = TO ∨ c = i1 ∨ c = i2 := by simpa using hcm
        rcases e' with q | q | q | q | q
        · rw [q]; exact hzl
        · rw [q]; exact Heap.lt_size hTI
        · rw [q]; exact Heap.lt_size hTO
        · rw [q]; obtain ⟨_, e1, _⟩ := h1; exact Heap.lt_size e1
        · rw [q]; obtain ⟨_, e2, _⟩ := h2; exact Heap.lt_size e2
      rw [upd_ne (Nat.ne_of_lt hlt)]
      exact (hf c hcm).1
  done := by
    intro X hP hw hK hc i pins s σ H E I hf st hg
    subst hP hw hK
    obtain ⟨hz, hTI, ⟨x0, y0, hTO⟩, h1, h2⟩ := st
    obtain ⟨xs, ys, hqx, hqy, hend⟩ := hg
    obtain ⟨its, rv, p, _⟩ := I.tuple hqx
    obtain ⟨its2, rv2, p2, _⟩ := I.list hqy
    have l1 := rv.length
    have l2 := rv2.length
    have hh : X.A.in1.handled = none := I.ok.hd hc
    have D1 := tupDraws (prog := X.prog) (w := X.w) (A := X.A.in1) (its := its.toArray) hh D.l1i1
    have D2 := Draws.list (prog := X.prog) (w := X.w) (A := X.A.in1) hh i2 b D.l2i2 its2.toArray
    exact wpAny_pyNext_zipD2_end (zip_sep D) D1 D2 hz hTI hTO ⟨h1, p⟩ ⟨h2, p2.isList⟩ (by simp; omega) (by simp; omega) (.inl (by simp; omega)) fun h' tk hk => ⟨rfl, I.turnedL (t' := tk) (ch := [z, TI, TO, i1, i2]) (fun c o hb q =>
      hk c o (fun q' => hb (by simp [q'])) (fun q' => hb (by simp [q'])) (fun q' => hb (by simp [q'])) (fun q' => hb (by simp [q'])) q) hf⟩
  self := fun A i s Q E st h => wpAny_pyIter_zip st.1 h
def iZipM (K : PySem.W.Frag) (ta : TA) : TI := fun σ H R => ta σ H fun vs H1 => ∃ a b xs ys, vs = [.ref a, .ref b] ∧ SqT K H1 a xs ∧ ((SqL K H1 b ys ∧ R (ItzM K a b) H1) ∨ (SqT K H1 b ys ∧ R (RZ.ItzT K a b) H1))
theorem pi_zipM {X : Cx} {e e2 : Expr} {ta : TA} {p pos tpos : Pos} {elts : List Expr} {kk : Nat} (hg : Gl X "zip") (hm : X.mg "zip" = none) (ha : PA X [e, e2] ta)
    (hs : starEach [e, e2] X.env = (false, eval e X.env) :: starEach [e2] X.env := by rfl) (hpl : (backTo pos (starEach [e2] X.env)).any (·.1) = false := by rfl) :
    PI X (.Tuple elts kk tpos) (.Call (.Name "zip" p) [e, e2] [] pos) (iZipM X.K ta) := by
  refine ⟨fun pins s σ H R I h => ?_⟩
  refine Call_ (ld_blt I hg hm PyProof.Rows.boot_zip (PyProof.Rows.callWith_type1 (thn (ha.run pos pins s σ H _ I h) fun us s1 ⟨vs, H1, I1, r1, q1⟩ => ?_) hs hpl))
  obtain ⟨a, b, xs, ys, ex, hqx, q1⟩ := q1
  subst ex
  cases r1 with
  | cons r rr =>
    cases rr with
    | cons r' rr =>
      cases rr
      cases r
      cases r'
      have fresh5 : ∀ c, c ∈ [s1.heap.objs.size + 4, s1.heap.objs.size + 2, s1.heap.objs.size + 3, s1.heap.objs.size, s1.heap.objs.size + 1] → FpOk X pins H1 c := fun c hcm => by
        have e' : c = s1.heap.objs.size + 4 ∨ c = s1.heap.objs.size + 2 ∨ c = s1.heap.objs.size + 3 ∨ c = s1.heap.objs.size ∨ c = s1.heap.objs.size + 1 := by simpa using hcm
        have hle : s1.heap.objs.size ≤ c := by
          rcases e' with z | z | z | z | z
          · rw [z]; exact Nat.le_add_right _ _
          · rw [z]; exact Nat.le_add_right _ _
          · rw [z]; exact Nat.le_add_right _ _
          · rw [z]; exact Nat.le_refl _
          · rw [z]; exact Nat.le_add_right _ _
        exact I1.fpOk hle (I1.hok.fresh hle)
      obtain ⟨its, rv, p1, _⟩ := I1.tuple hqx
      obtain ⟨o1, ho1, _⟩ := id p1
      rcases q1 with ⟨hqy, q⟩ | ⟨hqy, q⟩
      · obtain ⟨its2, rv2, p2, _⟩ := I1.list hqy
        refine call_zm (show s1.heap.IsTuple a its.toArray from p1) p2.isList fun h' hz hTI hTO h1 h2 hsz hk => wpAny_pyIter_zip hz ?_
        have I2 : Inv X pins σ H1 { s1 with heap := h' } := I1.kept (t' := s1.toks) hk
        exact ⟨s1.heap.objs.size + 4, [s1.heap.objs.size + 4, s1.heap.objs.size + 2, s1.heap.objs.size + 3, s1.heap.objs.size, s1.heap.objs.size + 1], _, _, H1, rfl, I2, turn_zm (PySem.W.ktu_apart s1.heap.objs.size a b (Heap.lt_size ho1) p2.lt), ⟨hz, hTI, ⟨_, _, hTO⟩, h1, h2⟩, fresh5, q⟩
      · obtain ⟨its2, rv2, p2, _⟩ := I1.tuple hqy
        obtain ⟨o2, ho2, _⟩ := id p2
        refine RZ.call_zipT (show s1.heap.IsTuple a its.toArray from p1) (show s1.heap.IsTuple b its2.toArray from p2) fun h' hz hTI hTO h1 h2 hsz hk => wpAny_pyIter_zip hz ?_
        have I2 : Inv X pins σ H1 { s1 with heap := h' } := I1.kept (t' := s1.toks) hk
        exact ⟨s1.heap.objs.size + 4, [s1.heap.objs.size + 4, s1.heap.objs.size + 2, s1.heap.objs.size + 3, s1.heap.objs.size, s1.heap.objs.size + 1], _, _, H1, rfl, I2, RZ.turn_zipT (PySem.W.ktu_apart s1.heap.objs.size a b (Heap.lt_size ho1) (Heap.lt_size ho2)), ⟨hz, hTI, ⟨_, _, hTO⟩, h1, h2⟩, fresh5, q⟩
variable {K : PySem.W.Frag}
theorem rd_zipM {ta : TA} {σ : L2.St} {H : Hp} {R : It → Hp → Prop} (h : ta σ H fun vs H1 => ∃ a b xs ys, vs = [.ref a, .ref b] ∧ SqT K H1 a xs ∧ ((SqL K H1 b ys ∧ R (ItzM K a b) H1) ∨ (SqT K H1 b ys ∧ R (RZ.ItzT K a b) H1))) : iZipM K ta σ H R := h
section
variable {α : Type} {R : Hp → V → α → Prop} {g : TG} {tt : TT} {te : TE} {vs : List Nat} {σ : L2.St} {H1 : Hp} {Qd : Addr → Hp → Prop} {f : Nat → Option α}
/-- a comprehension over zip of a tuple and a list or a tuple of the same length -/
theorem lc_zipM (hR : Mn R) {a b : Addr} {xs ys : List V} (hn : xs.length ≤ 1000) (hlen : xs.length = ys.length) (ha : SqT K H1 a xs) (hb : Sq K H1 b ys)
    (hs : ∀ i x y, xs[i]? = some x → ys[i]? = some y → Turn1 R H1 f i fun H' Q N => ∀ T, H' T = none → g (.ref T) (wipe σ vs) (upd H' T (.tup [x, y])) fun σ2 H2 => wipe σ2 vs = wipe σ vs ∧ tt σ2 H2 fun b H3 => if b = true then te σ2 H3 Q else N H3)
    (hd : ∀ D H', Lst R H1 D (upTo f xs.length) H' → Qd D H') {RR : It → Hp → Prop}
    (hRR : RR = fun J H1 => ∀ D, H1 D = none → ∃ W : Nat → Nat → Hp → Prop, (∃ m, W 0 m (upd H1 D (.lst []))) ∧ ∀ i m H, W i m H →
      (J.stop i H ∧ Qd D H) ∨ (J.go i H ∧ ∃ Nx : Hp → Prop, (∀ H', Nx H' → ∃ m', m' < m ∧ W (i + 1) m' H') ∧ ∀ x H', J.yld i H x H' → g x (wipe σ vs) H' fun σ2 H2 => wipe σ2 vs = wipe σ vs ∧ tt σ2 H2 fun b H3 =>
        if b = true then te σ2 H3 fun y H4 => ∃ acc, H4 D = some (.lst acc) ∧ acc.length < sizeLine ∧ Nx (upd H4 D (.lst (acc ++ [y]))) else Nx H3)) :
    (SqL K H1 b ys ∧ RR (ItzM K a b) H1) ∨ (SqT K H1 b ys ∧ RR (RZ.ItzT K a b) H1) := by
  subst hRR
  rcases hb with hb | hb
  · refine .inl ⟨hb, fun D nD => ?_⟩
    refine ⟨fun i m H => m = xs.length - i ∧ i ≤ xs.length ∧ Lst R H1 D (upTo f i) H, ⟨xs.length, by simp, Nat.zero_le _, lst_new nD⟩, ?_⟩
    rintro i m H ⟨rfl, hi, l⟩
    have qa := sqT_same l.1 ha
    have qb := l.1.seq hb
    by_cases hlt : i < xs.length
    · refine .inr ⟨⟨xs, ys, xs[i], ys[i], qa, qb, by simp [hlt], by simp⟩, Lst R H1 D (upTo f (i + 1)), fun H' p' => ⟨xs.length - (i + 1), by omega, rfl, hlt, p'⟩, fun x H' y => ?_⟩
      obtain ⟨T, x, y, rfl, nT, rfl, hx, hy⟩ := y
      exact Turn1.step (i := i) hR nD (by omega) (hs i x y (hx xs qa) (hy ys qb)) l T nT
    · have e : i = xs.length := by omega
      subst e
      exact .inl ⟨⟨xs, ys, qa, qb, rfl, by omega⟩, hd D H l⟩
  · refine .inr ⟨hb, fun D nD => ?_⟩
    refine ⟨fun i m H => m = xs.length - i ∧ i ≤ xs.length ∧ Lst R H1 D (upTo f i) H, ⟨xs.length, by simp, Nat.zero_le _, lst_new nD⟩, ?_⟩
    rintro i m H ⟨rfl, hi, l⟩
    have qa := sqT_same l.1 ha
    have qb := sqT_same l.1 hb
    by_cases hlt : i < xs.length
    · refine .inr ⟨⟨xs, ys, xs[i], ys[i], qa, qb, by simp [hlt], by simp⟩, Lst R H1 D (upTo f (i + 1)), fun H' p' => ⟨xs.length - (i + 1), by omega, rfl, hlt, p'⟩, fun x H' y => ?_⟩
      obtain ⟨T, x, y, rfl, nT, rfl, hx, hy⟩ := y
      exact Turn1.step (i := i) hR nD (by omega) (hs i x y (hx xs qa) (hy ys qb)) l T nT
    · have e : i = xs.length := by omega
      subst e
      exact .inl ⟨⟨xs, ys, qa, qb, .inl (Nat.le_refl _)⟩, hd D H l⟩
end
end My
namespace My
open PySem PySem.Spec PyProof.Rows L2
/-! ### zip of a list and a tuple -/
abbrev znH1 (h : Heap) (l1 : Addr) : Heap := h.push { cls := .type "list_iterator", data := .fields #[.ref l1, .int 0 0] }
abbrev znH2 (h : Heap) (l1 l2 : Addr) : Heap := (znH1 h l1).push { cls := .type "tuple_iterator", data := .fields #[.ref l2, .int 0 0] }
abbrev znH3 (h : Heap) (l1 l2 : Addr) : Heap := (znH2 h l1 l2).push { cls := .type "tuple", data := .seq #[.ref h.objs.size, .ref (znH1 h l1).objs.size] }
abbrev znH4 (h : Heap) (l1 l2 : Addr) : Heap := (znH3 h l1 l2).push { cls := .type "tuple", data := .seq #[.none, .none] }
abbrev znH5 (h : Heap) (l1 l2 : Addr) : Heap := (znH4 h l1 l2).push { cls := .type "zip", data := .fields #[.none, .bool false, .bool false, .ref (znH2 h l1 l2).objs.size, .ref (znH3 h l1 l2).objs.size] }
theorem meets_zn_new (l1 l2 : Addr) (xs ys : Array Value) :
    Meets (Builtin.«zip.__new__» ⟨[.type "zip", .ref l1, .ref l2], []⟩) (fun _ R s => s.heap.IsList l1 xs ∧ s.heap.IsTuple l2 ys ∧
      R (.ok (.ret (.ref (znH4 s.heap l1 l2).objs.size))) { s with heap := znH5 s.heap l1 l2 }) :=
  .of_wp fun prog w A R s h => by
    obtain ⟨hp, g, d, tk, os⟩ := s
    obtain ⟨hl1, hl2, h⟩ := h
    have hsub := sub_zip
    have hL1 : Heap.IsList (Shared.heap ⟨hp, g, d, tk, os⟩) l1 xs := hl1
    have hL2 : Heap.IsTuple (Shared.heap ⟨hp.push { cls := .type "list_iterator", data := .fields #[.ref l1, .int 0 0] }, g, d, tk, os⟩) l2 ys := Heap.IsTuple.push hl2 _
    wp_walk using wpAny_pyIter_list hL1, wpAny_pyIter_tuple hL2
    exact ⟨_, rfl, h⟩
section
variable {prog : Program} {w : World} {A : Around} {E : Value → Shared → Prop} {s : Shared}
theorem call_zn {l1 l2 : Addr} {xs ys : Array Value} {Q : Value → Shared → Prop} (hl1 : s.heap.IsList l1 xs) (hl2 : s.heap.IsTuple l2 ys)
    (h : ∀ h', IsZip h' (s.heap.objs.size + 4) (s.heap.objs.size + 2) (s.heap.objs.size + 3) .none → IsPair h' (s.heap.objs.size + 2) (.ref s.heap.objs.size) (.ref (s.heap.objs.size + 1)) →
      IsPair h' (s.heap.objs.size + 3) .none .none → h'.IsListIter s.heap.objs.size l1 0 → h'.IsTupleIter (s.heap.objs.size + 1) l2 0 → h'.objs.size = s.heap.objs.size + 5 →
      (∀ c o, s.heap.get? c = some o → h'.get? c = some o) → Q (.ref (s.heap.objs.size + 4)) { s with heap := h' }) :
    wpAny (model prog w) A (call (.type "zip") [.ref l1, .ref l2]) Q E s := by
  refine callType_new F.called_zip (by decide) (F.typeCall_zip_2 _ _) (F.newCall_zip_2 _ _) (fun obj => F.args_object_init_3 obj _ _) F.entry_zip_new
    (meets_zn_new l1 l2 xs ys) ⟨hl1, hl2, ?_⟩
  have z1 : (znH1 s.heap l1).objs.size = s.heap.objs.size + 1 := Heap.size_push ..
  have z2 : (znH2 s.heap l1 l2).objs.size = s.heap.objs.size + 2 := by rw [Heap.size_push, z1]
  have z3 : (znH3 s.heap l1 l2).objs.size = s.heap.objs.size + 3 := by rw [Heap.size_push, z2]
  have z4 : (znH4 s.heap l1 l2).objs.size = s.heap.objs.size + 4 := by rw [Heap.size_push, z3]
  have z5 : (znH5 s.heap l1 l2).objs.size = s.heap.objs.size + 5 := by rw [Heap.size_push, z4]
  have g5 : (znH5 s.heap l1 l2).get? (znH4 s.heap l1 l2).objs.size = some _ := Heap.get?_push_size _ rfl
  have g4 : (znH5 s.heap l1 l2).get? (znH3 s.heap l1 l2).objs.size = some _ := Heap.get?_push_of_some _ (Heap.get?_push_size _ rfl)
  have g3 : (znH5 s.heap l1 l2).get? (znH2 s.heap l1 l2).objs.size = some _ := Heap.get?_push_of_some _ (Heap.get?_push_of_some _ (Heap.get?_push_size _ rfl))
  have g2 : (znH5 s.heap l1 l2).get? (znH1 s.heap l1).objs.size = some _ := Heap.get?_push_of_some _ (Heap.get?_push_of_some _ (Heap.get?_push_of_some _ (Heap.get?_push_size _ rfl)))
  have g1 : (znH5 s.heap l1 l2).get? s.heap.objs.size = some _ := Heap.get?_push_of_some _ (Heap.get?_push_of_some _ (Heap.get?_push_of_some _ (Heap.get?_push_of_some _ (Heap.get?_push_size _ rfl))))
  show _ ∧ _
  rw [z2, z3, z4] at g5
  rw [z1, z2] at g3
  rw [z3] at g4
  rw [z1] at g2
  rw [z4]
  exact ⟨⟨_, g5, rfl⟩, h _ g5 g3 g4 ⟨_, g1, rfl, rfl⟩ ⟨_, g2, rfl, rfl⟩ z5 fun c o x =>
    Heap.get?_push_of_some _ (Heap.get?_push_of_some _ (Heap.get?_push_of_some _ (Heap.get?_push_of_some _ (Heap.get?_push_of_some _ x))))⟩
end
def ItzN (K : PySem.W.Frag) (a b : Addr) : It :=
  ⟨fun i H => ∃ (xs ys : List V) (x y : V), SqL K H a xs ∧ SqT K H b ys ∧ xs[i]? = some x ∧ ys[i]? = some y,
    fun i H v H' => ∃ T x y, v = .ref T ∧ H T = none ∧ H' = upd H T (.tup [x, y]) ∧ (∀ xs, SqL K H a xs → xs[i]? = some x) ∧ ∀ ys, SqT K H b ys → ys[i]? = some y,
    fun i H => ∃ xs ys : List V, SqL K H a xs ∧ SqT K H b ys ∧ (xs.length = i ∧ i ≤ ys.length)⟩
theorem turn_zn {P : Program} {w : World} {K : PySem.W.Frag} {elts : List Expr} {kk : Nat} {tpos : Pos} {a b z TI TO i1 i2 : Addr} (D : ZipApart z TI TO i1 i2 a b) :
    Turn P w K (.Tuple elts kk tpos) (ItzN K a b) [z, TI, TO, i1, i2] z (fun i h => IsZip h z TI TO .none ∧ IsPair h TI (.ref i1) (.ref i2) ∧ (∃ x y, IsPair h TO x y) ∧ h.IsListIter i1 a i ∧ h.IsTupleIter i2 b i) where
  mem := by simp
  obj := fun i h st c hc => by
    obtain ⟨hz, hTI, ⟨x, y, hTO⟩, ⟨o1, e1, _, d1⟩, ⟨o2, e2, _, d2⟩⟩ := st
    have e' : c = z ∨ c = TI ∨ c = TO ∨ c = i1 ∨ c = i2 := by simpa using hc
    rcases e' with q | q | q | q | q
    · rw [q]; exact ⟨_, hz, fun v q => nomatch q⟩
    · rw [q]; exact ⟨_, hTI, fun v q => nomatch q⟩
    · rw [q]; exact ⟨_, hTO, fun v q => nomatch q⟩
    · rw [q]; exact ⟨o1, e1, fun v q => by rw [d1] at q; cases q⟩
    · rw [q]; exact ⟨o2, e2, fun v q => by rw [d2] at q; cases q⟩
  keep := fun i h h' st k => by
    obtain ⟨hz, hTI, ⟨x, y, hTO⟩, h1, h2⟩ := st
    exact ⟨k z (by simp) _ hz, k TI (by simp) _ hTI, ⟨x, y, k TO (by simp) _ hTO⟩, h1.at fun o q => k i1 (by simp) o q, h2.at fun o q => k i2 (by simp) o q⟩
  item := by
    intro X hP hw hK hc i pins s σ H E I hf st hg
    subst hP hw hK
    obtain ⟨hz, hTI, ⟨x0, y0, hTO⟩, h1, h2⟩ := st
    obtain ⟨xs, ys, x, y, hqx, hqy, hx, hy⟩ := hg
    obtain ⟨its, rv, p, _⟩ := I.list hqx
    obtain ⟨its2, rv2, p2, _⟩ := I.tuple hqy
    obtain ⟨u, hu, ru⟩ := rv.get hx
    obtain ⟨u2, hu2, ru2⟩ := rv2.get hy
    have hzl : z < s.heap.objs.size := Heap.lt_size hz
    have hh : X.A.in1.handled = none := I.ok.hd hc
    have D1 := Draws.list (prog := X.prog) (w := X.w) (A := X.A.in1) hh i1 a D.l1i1 its.toArray
    have D2 := tupDraws (prog := X.prog) (w := X.w) (A := X.A.in1) (its := its2.toArray) hh D.l2i2
    have n1 : i < its.toArray.size := by
      have := (List.getElem?_eq_some_iff.mp hu).1
      simpa using this
    have n2 : i < its2.toArray.size := by
      have := (List.getElem?_eq_some_iff.mp hu2).1
      simpa using this
    refine wpAny_pyNext_zipD2_item (zip_sep D) D1 D2 hz hTI hTO ⟨h1, p.isList⟩ ⟨h2, p2⟩ n1 n2 fun v1 v2 h' tk e1 e2 z' TO' h1' h2' hT hsz hk => ?_
    obtain rfl : u = v1 := by
      have e3 : its.toArray[i]? = some u := by simpa using hu
      exact Option.some.inj (e3.symm.trans e1)
    obtain rfl : u2 = v2 := by
      have e3 : its2.toArray[i]? = some u2 := by simpa using hu2
      exact Option.some.inj (e3.symm.trans e2)
    refine ⟨_, rfl, wpAny_letOwnedTupleGo_zip (s := { s with heap := h', toks := tk }) z' fun h'' z'' sb => ?_⟩
    have hT2 : h''.get? s.heap.objs.size = some { cls := .type "tuple", data := .seq #[u, u2] } := (sb.2 _ (Nat.ne_of_gt hzl)).trans hT
    have new : ObjOk X.prog X.w (upd H s.heap.objs.size (.tup [x, y])) h'' s.heap.objs.size (.tup [x, y]) :=
      ⟨by show 2 ≤ sizeLine; decide, [u, u2], .cons ru (.cons ru2 .nil), ⟨_, hT2, rfl, _, rfl⟩⟩
    have I1 : Inv X pins σ (upd H s.heap.objs.size (.tup [x, y])) { s with heap := h'', toks := tk } :=
      I.turnedNew (t' := tk) (ch := [z, TI, TO, i1, i2]) (fun c o hb q => (sb.2 c (fun q' => hb (by simp [q']))).trans (hk c o (fun q' => hb (by simp [q'])) (fun q' => hb (by simp [q'])) (fun q' => hb (by simp [q'])) (fun q' => hb (by simp [q'])) q)) hf (Nat.le_refl _) new
    refine ⟨.ref s.heap.objs.size, _, I1, rfl, ⟨_, x, y, rfl, I.hok.fresh (Nat.le_refl _), rfl, fun l hl => by rw [I.list_inj hl hqx]; exact hx, fun l hl => by rw [I.tuple_inj hl hqy]; exact hy⟩, ⟨z'', ?_, ⟨u, u2, ?_⟩, ?_, ?_⟩, fun c hcm => ?_⟩
    · exact (sb.2 _ D.TIz).trans (hk _ _ D.TIz D.TITO D.TIi1 D.TIi2 hTI)
    · exact (sb.2 _ D.TOz).trans TO'
    · exact h1'.1.at fun o q => (sb.2 _ D.i1z).trans q
    · exact Heap.IsTupleIter.at (show h'.IsTupleIter i2 b (i + 1) from h2'.1) fun o q => (sb.2 _ D.i2z).trans q
    · have hlt : c < s.heap.objs.size := by
        have e' : c = z ∨ c = TI ∨ c = TO ∨ c = i1 ∨ c = i2 := by simpa using hcm
        rcases e' with q | q | q | q | q
        · rw [q]; exact hzl
        · rw [q]; exact Heap.lt_size hTI
        · rw [q]; exact Heap.lt_size hTO
        · rw [q]; obtain ⟨_, e1, _⟩ := h1; exact Heap.lt_size e1
        · rw [q]; obtain ⟨_, e2, _⟩ := h2; exact Heap.lt_size e2
      rw [upd_ne (Nat.ne_of_lt hlt)]
      exact (hf c hcm).1
  done := by
    intro X hP hw hK hc i pins s σ H E I hf st hg
    subst hP hw hK
    obtain ⟨hz, hTI, ⟨x0, y0, hTO⟩, h1, h2⟩ := st
    obtain ⟨xs, ys, hqx, hqy, hend⟩ := hg
    obtain ⟨its, rv, p, _⟩ := I.list hqx
    obtain ⟨its2, rv2, p2, _⟩ := I.tuple hqy
    have l1 := rv.length
    have l2 := rv2.length
    have hh : X.A.in1.handled = none := I.ok.hd hc
    have D1 := Draws.list (prog := X.prog) (w := X.w) (A := X.A.in1) hh i1 a D.l1i1 its.toArray
    have D2 := tupDraws (prog := X.prog) (w := X.w) (A := X.A.in1) (its := its2.toArray) hh D.l2i2
    exact wpAny_pyNext_zipD2_end (zip_sep D) D1 D2 hz hTI hTO ⟨h1, p.isList⟩ ⟨h2, p2⟩ (by simp; omega) (by simp; omega) (.inl (by simp; omega)) fun h' tk hk => ⟨rfl, I.turnedL (t' := tk) (ch := [z, TI, TO, i1, i2]) (fun c o hb q =>
      hk c o (fun q' => hb (by simp [q'])) (fun q' => hb (by simp [q'])) (fun q' => hb (by simp [q'])) (fun q' => hb (by simp [q'])) q) hf⟩
  self := fun A i s Q E st h => wpAny_pyIter_zip st.1 h
def iZipN (K : PySem.W.Frag) (ta : TA) : TI := fun σ H R => ta σ H fun vs H1 => ∃ a b xs ys, vs = [.ref a, .ref b] ∧ SqT K H1 b ys ∧ ((SqL K H1 a xs ∧ R (ItzN K a b) H1) ∨ (SqT K H1 a xs ∧ R (RZ.ItzT K a b) H1))
theorem pi_zipN {X : Cx} {e e2 : Expr} {ta : TA} {p pos tpos : Pos} {elts : List Expr} {kk : Nat} (hg : Gl X "zip") (hm : X.mg "zip" = none) (ha : PA X [e, e2] ta)
    (hs : starEach [e, e2] X.env = (false, eval e X.env) :: starEach [e2] X.env := by rfl) (hpl : (backTo pos (starEach [e2] X.env)).any (·.1) = false := by rfl) :
    PI X (.Tuple elts kk tpos) (.Call (.Name "zip" p) [e, e2] [] pos) (iZipN X.K ta) := by
  refine ⟨fun pins s σ H R I h => ?_⟩
  refine Call_ (ld_blt I hg hm PyProof.Rows.boot_zip (PyProof.Rows.callWith_type1 (thn (ha.run pos pins s σ H _ I h) fun us s1 ⟨vs, H1, I1, r1, q1⟩ => ?_) hs hpl))
  obtain ⟨a, b, xs, ys, ex, hqy, q1⟩ := q1
  subst ex
  cases r1 with
  | cons r rr =>
    cases rr with
    | cons r' rr =>
      cases rr
      cases r
      cases r'
      have fresh5 : ∀ c, c ∈ [s1.heap.objs.size + 4, s1.heap.objs.size + 2, s1.heap.objs.size + 3, s1.heap.objs.size, s1.heap.objs.size + 1] → FpOk X pins H1 c := fun c hcm => by
        have e' : c = s1.heap.objs.size + 4 ∨ c = s1.heap.objs.size + 2 ∨ c = s1.heap.objs.size + 3 ∨ c = s1.heap.objs.size ∨ c = s1.heap.objs.size + 1 := by simpa using hcm
        have hle : s1.heap.objs.size ≤ c := by
          rcases e' with z | z | z | z | z
          · rw [z]; exact Nat.le_add_right _ _
          · rw [z]; exact Nat.le_add_right _ _
          · rw [z]; exact Nat.le_add_right _ _
          · rw [z]; exact Nat.le_refl _
          · rw [z]; exact Nat.le_add_right _ _
        exact I1.fpOk hle (I1.hok.fresh hle)
      obtain ⟨its2, rv2, p2, _⟩ := I1.tuple hqy
      obtain ⟨o2, ho2, _⟩ := id p2
      rcases q1 with ⟨hqx, q⟩ | ⟨hqx, q⟩
      · obtain ⟨its, rv, p1, _⟩ := I1.list hqx
        refine call_zn p1.isList (show s1.heap.IsTuple b its2.toArray from p2) fun h' hz hTI hTO h1 h2 hsz hk => wpAny_pyIter_zip hz ?_
        have I2 : Inv X pins σ H1 { s1 with heap := h' } := I1.kept (t' := s1.toks) hk
        exact ⟨s1.heap.objs.size + 4, [s1.heap.objs.size + 4, s1.heap.objs.size + 2, s1.heap.objs.size + 3, s1.heap.objs.size, s1.heap.objs.size + 1], _, _, H1, rfl, I2, turn_zn (PySem.W.ktu_apart s1.heap.objs.size a b p1.lt (Heap.lt_size ho2)), ⟨hz, hTI, ⟨_, _, hTO⟩, h1, h2⟩, fresh5, q⟩
      · obtain ⟨its, rv, p1, _⟩ := I1.tuple hqx
        obtain ⟨o1, ho1, _⟩ := id p1
        refine RZ.call_zipT (show s1.heap.IsTuple a its.toArray from p1) (show s1.heap.IsTuple b its2.toArray from p2) fun h' hz hTI hTO h1 h2 hsz hk => wpAny_pyIter_zip hz ?_
        have I2 : Inv X pins σ H1 { s1 with heap := h' } := I1.kept (t' := s1.toks) hk
        exact ⟨s1.heap.objs.size + 4, [s1.heap.objs.size + 4, s1.heap.objs.size + 2, s1.heap.objs.size + 3, s1.heap.objs.size, s1.heap.objs.size + 1], _, _, H1, rfl, I2, RZ.turn_zipT (PySem.W.ktu_apart s1.heap.objs.size a b (Heap.lt_size ho1) (Heap.lt_size ho2)), ⟨hz, hTI, ⟨_, _, hTO⟩, h1, h2⟩, fresh5, q⟩
variable {K : PySem.W.Frag}
theorem rd_zipN {ta : TA} {σ : L2.St} {H : Hp} {R : It → Hp → Prop} (h : ta σ H fun vs H1 => ∃ a b xs ys, vs = [.ref a, .ref b] ∧ SqT K H1 b ys ∧ ((SqL K H1 a xs ∧ R (ItzN K a b) H1) ∨ (SqT K H1 a xs ∧ R (RZ.ItzT K a b) H1))) : iZipN K ta σ H R := h
section
variable {α : Type} {R : Hp → V → α → Prop} {g : TG} {tt : TT} {te : TE} {vs : List Nat} {σ : L2.St} {H1 : Hp} {Qd : Addr → Hp → Prop} {f : Nat → Option α}
/-- a comprehension over zip of a list and a tuple or a tuple of the same length -/
theorem lc_zipN (hR : Mn R) {a b : Addr} {xs ys : List V} (hn : xs.length ≤ 1000) (hlen : xs.length = ys.length) (ha : Sq K H1 a xs) (hb : SqT K H1 b ys)
    (hs : ∀ i x y, xs[i]? = some x → ys[i]? = some y → Turn1 R H1 f i fun H' Q N => ∀ T, H' T = none → g (.ref T) (wipe σ vs) (upd H' T (.tup [x, y])) fun σ2 H2 => wipe σ2 vs = wipe σ vs ∧ tt σ2 H2 fun b H3 => if b = true then te σ2 H3 Q else N H3)
    (hd : ∀ D H', Lst R H1 D (upTo f xs.length) H' → Qd D H') {RR : It → Hp → Prop}
    (hRR : RR = fun J H1 => ∀ D, H1 D = none → ∃ W : Nat → Nat → Hp → Prop, (∃ m, W 0 m (upd H1 D (.lst []))) ∧ ∀ i m H, W i m H →
      (J.stop i H ∧ Qd D H) ∨ (J.go i H ∧ ∃ Nx : Hp → Prop, (∀ H', Nx H' → ∃ m', m' < m ∧ W (i + 1) m' H') ∧ ∀ x H', J.yld i H x H' → g x (wipe σ vs) H' fun σ2 H2 => wipe σ2 vs = wipe σ vs ∧ tt σ2 H2 fun b H3 =>
        if b = true then te σ2 H3 fun y H4 => ∃ acc, H4 D = some (.lst acc) ∧ acc.length < sizeLine ∧ Nx (upd H4 D (.lst (acc ++ [y]))) else Nx H3)) :
    (SqL K H1 a xs ∧ RR (ItzN K a b) H1) ∨ (SqT K H1 a xs ∧ RR (RZ.ItzT K a b) H1) := by
  subst hRR
  rcases ha with ha | ha
  · refine .inl ⟨ha, fun D nD => ?_⟩
    refine ⟨fun i m H => m = xs.length - i ∧ i ≤ xs.length ∧ Lst R H1 D (upTo f i) H, ⟨xs.length, by simp, Nat.zero_le _, lst_new nD⟩, ?_⟩
    rintro i m H ⟨rfl, hi, l⟩
    have qa := l.1.seq ha
    have qb := sqT_same l.1 hb
    by_cases hlt : i < xs.length
    · refine .inr ⟨⟨xs, ys, xs[i], ys[i], qa, qb, by simp [hlt], by simp⟩, Lst R H1 D (upTo f (i + 1)), fun H' p' => ⟨xs.length - (i + 1), by omega, rfl, hlt, p'⟩, fun x H' y => ?_⟩
      obtain ⟨T, x, y, rfl, nT, rfl, hx, hy⟩ := y
      exact Turn1.step (i := i) hR nD (by omega) (hs i x y (hx xs qa) (hy ys qb)) l T nT
    · have e : i = xs.length := by omega
      subst e
      exact .inl ⟨⟨xs, ys, qa, qb, rfl, by omega⟩, hd D H l⟩
  · refine .inr ⟨ha, fun D nD => ?_⟩
    refine ⟨fun i m H => m = xs.length - i ∧ i ≤ xs.length ∧ Lst R H1 D (upTo f i) H, ⟨xs.length, by simp, Nat.zero_le _, lst_new nD⟩, ?_⟩
    rintro i m H ⟨rfl, hi, l⟩
    have qa := sqT_same l.1 ha
    have qb := sqT_same l.1 hb
    by_cases hlt : i < xs.length
    · refine .inr ⟨⟨xs, ys, xs[i], ys[i], qa, qb, by simp [hlt], by simp⟩, Lst R H1 D (upTo f (i + 1)), fun H' p' => ⟨xs.length - (i + 1), by omega, rfl, hlt, p'⟩, fun x H' y => ?_⟩
      obtain ⟨T, x, y, rfl, nT, rfl, hx, hy⟩ := y
      exact Turn1.step (i := i) hR nD (by omega) (hs i x y (hx xs qa) (hy ys qb)) l T nT
    · have e : i = xs.length := by omega
      subst e
      exact .inl ⟨⟨xs, ys, qa, qb, .inl (Nat.le_refl _)⟩, hd D H l⟩
end
end My
namespace My
open PySem PySem.Spec PyProof.Rows L2
/-! ### an instance with an own == beside things of other kinds -/
inductive OddV (H : Hp) : V → String → Prop where
  | non : OddV H .non "NoneType"
  | bl (b : Bool) : OddV H (.bl b) "bool"
  | int (i : Int) : OddV H (.int i) "int"
  | lst {a : Addr} {xs : List V} (e : H a = some (.lst xs)) : OddV H (.ref a) "list"
  | tup {a : Addr} {xs : List V} (e : H a = some (.tup xs)) : OddV H (.ref a) "tuple"
  | dK {a : Addr} {kvs : List (Key × V)} (e : H a = some (.dK kvs)) : OddV H (.ref a) "dict"
theorem OddV.ty {K : PySem.W.Frag} {H : Hp} {x : V} {T : String} (o : OddV H x T) : TyX K H x (.type T) := by
  cases o with
  | non => exact .base .non
  | bl b => exact .base (.bl b)
  | int i => exact .base (.int i)
  | lst e => exact .base (.lst e)
  | tup e => exact .base (.tup e)
  | dK e => exact .base (.dK e)
theorem OddV.sub {K : PySem.W.Frag} {H : Hp} {x : V} {T : String} {C : Addr} (o : OddV H x T) : PySem.W.subIn K (.type T) (.ref C) = some false := by
  have e : ∀ T : String, (fastBuiltinMro T).map (fun l => l.all fun v => match v with | .type _ => true | _ => false) = some true → PySem.W.subIn K (.type T) (.ref C) = some false := by
    intro T h
    obtain ⟨l, h1, h2⟩ := Option.map_eq_some_iff.mp h
    show (fastBuiltinMro T).map (·.contains (.ref C)) = some false
    rw [h1]
    show some (l.contains (Value.ref C)) = some false
    rw [Option.some.injEq, Bool.eq_false_iff]
    intro hc
    rw [List.contains_iff_mem] at hc
    have := List.all_eq_true.mp h2 _ hc
    cases this
  cases o <;> exact e _ (by decide +kernel)
/-- what the class is not -/
structure OddC (K : PySem.W.Frag) (C : Addr) : Prop where
  dK : PySem.W.mroIn K C (.type "dict") = some false
  no : PySem.W.mroIn K C (.type "NoneType") = some false
  ty : PySem.W.typeIn K (.ref C) = some (.type "type")
theorem mro_of_kit {K : PySem.W.Frag} {C : Addr} {T : String} (h : PySem.W.kitOne K (.ref C) (.type T) = some false) : PySem.W.mroIn K C (.type T) = some false := by
  unfold PySem.W.kitOne at h
  split at h
  · cases h
  · unfold PySem.W.kitCls at h
    dsimp only at h
    split at h
    · exact h
    · cases h
theorem kit_odd {K : PySem.W.Frag} {C : Addr} {H : Hp} {x : V} {T : String} (o : OddV H x T) (c : OddC K C) : PySem.W.kitOne K (.type T) (.ref C) = some false := by
  unfold PySem.W.kitOne
  rw [if_neg (by simp)]
  unfold PySem.W.kitCls
  dsimp only
  have h1 : (PySem.W.clsIn K C).isSome = true := by
    obtain ⟨cd, e, _⟩ := Option.bind_eq_some_iff.mp c.no
    rw [e]
    rfl
  rw [h1, c.ty, if_pos (by rfl)]
  exact o.sub
theorem OddV.mro {K : PySem.W.Frag} {C : Addr} {H : Hp} {x : V} {T : String} (o : OddV H x T) (c : OddC K C) (it : InsT K C) : PySem.W.mroIn K C (.type T) = some false := by
  cases o with
  | non => exact c.no
  | bl b => exact mro_of_kit it.kb
  | int i => exact mro_of_kit it.ki
  | lst e => exact mro_of_kit it.kl
  | tup e => exact mro_of_kit it.kt
  | dK e => exact c.dK
section
variable {M : Model} {A : Around} {s : Shared} {a : Addr}
theorem list_dec {l : Addr} {E : Value → Shared → Prop} {Q : Fin → Shared → Prop} (hI : ∀ {Q : Bool → Shared → Prop}, Q false s → wpAny M A (isInstance (.ref a) (.type "list")) Q E s) (h : Q (.done (.ret .notImplemented)) s) : wpAny M A (Builtin.«list.__eq__» ⟨[.ref l, .ref a], []⟩) Q E s := by
  obtain ⟨hp, g, d, tk, os⟩ := s
  wp_walk using hI
  exact h
theorem tup_dec {l : Addr} {E : Value → Shared → Prop} {Q : Fin → Shared → Prop} (hI : ∀ {Q : Bool → Shared → Prop}, Q false s → wpAny M A (isInstance (.ref a) (.type "tuple")) Q E s) (h : Q (.done (.ret .notImplemented)) s) : wpAny M A (Builtin.«tuple.__eq__» ⟨[.ref l, .ref a], []⟩) Q E s := by
  obtain ⟨hp, g, d, tk, os⟩ := s
  wp_walk using hI
  exact h
theorem dict_dec {l : Addr} {E : Value → Shared → Prop} {Q : Fin → Shared → Prop} (hI : ∀ {Q : Bool → Shared → Prop}, Q false s → wpAny M A (isInstance (.ref a) (.type "dict")) Q E s) (h : Q (.done (.ret .notImplemented)) s) : wpAny M A (Builtin.«dict.__eq__» ⟨[.ref l, .ref a], []⟩) Q E s := by
  obtain ⟨hp, g, d, tk, os⟩ := s
  wp_walk using hI
  exact h
theorem int_dec {i : Int} {u : Tok} {C dx : Addr} {E : Value → Shared → Prop} {Q : Fin → Shared → Prop} (hl : s.heap.get? a = some (PySem.W.instObj C dx)) (h : Q (.done (.ret .notImplemented)) s) : wpAny M A (Builtin.«int.__eq__» ⟨[.int i u, .ref a], []⟩) Q E s := by
  obtain ⟨hp, g, d, tk, os⟩ := s
  wp_walk using PySem.wpAny_loadPart' hl, wpAny_load hl
  exact h
theorem bool_dec {i : Bool} {C dx : Addr} {E : Value → Shared → Prop} {Q : Fin → Shared → Prop} (hl : s.heap.get? a = some (PySem.W.instObj C dx)) (h : Q (.done (.ret .notImplemented)) s) : wpAny M A (Builtin.«int.__eq__» ⟨[.bool i, .ref a], []⟩) Q E s := by
  obtain ⟨hp, g, d, tk, os⟩ := s
  wp_walk using PySem.wpAny_loadPart' hl, wpAny_load hl
  exact h
end
section
variable {X : Cx} {pins : List (Addr × Obj)} {σ : L2.St} {H : Hp} {s : Shared} {A : Around} {E : Value → Shared → Prop}
theorem odd_isK {x : V} {T : String} {u : Value} {s' : Shared} (I : Inv X pins σ H s) (rx : RelV x u) (o : OddV H x T) (k : ∀ b o, s.heap.get? b = some o → s'.heap.get? b = some o) : s'.TypeIs u T := by
  cases o with
  | non => cases rx; rfl
  | bl b => cases rx; rfl
  | int i => obtain ⟨t, q⟩ := (show ∃ t, u = Value.int i t from rx); subst q; exact typeIs_int _ _ _
  | @lst a xs ea =>
    cases (show u = Value.ref a from rx)
    obtain ⟨_, _, n, _, h1⟩ := (show ObjOk X.prog X.w H s.heap a (.lst xs) from I.hok a _ ea)
    exact ⟨_, k _ _ h1, rfl⟩
  | @tup a xs ea =>
    cases (show u = Value.ref a from rx)
    obtain ⟨_, _, _, o, h1, h2, _⟩ := (show ObjOk X.prog X.w H s.heap a (.tup xs) from I.hok a _ ea)
    exact ⟨o, k _ _ h1, h2⟩
  | @dK a kvs ea =>
    cases (show u = Value.ref a from rx)
    obtain ⟨_, _, vs, _, o, es, ep, h1, h2, _⟩ := (show ObjOk X.prog X.w H s.heap a (.dK kvs) from I.hok a _ ea)
    exact ⟨o, k _ _ h1, h2.1⟩
theorem odd_is {x : V} {T : String} {u : Value} (I : Inv X pins σ H s) (rx : RelV x u) (o : OddV H x T) : s.TypeIs u T := odd_isK I rx o fun _ _ h => h
theorem odd_dec {x : V} {T : String} {u : Value} {a C dx : Addr} {fs : List (Str × V)} (I : Inv X pins σ H s) (rx : RelV x u) (o : OddV H x T) (ha : H a = some (.ins C dx fs)) (c : OddC X.K C) (it : InsT X.K C) :
    wpAny (model X.prog X.w) A (tryCompare u "__eq__" (.ref a)) (fun r s' => r = none ∧ s' = s) E s := by
  have hty := odd_is I rx o
  have hm := o.mro c it
  obtain ⟨mA, J, _⟩ := ins_get I.hok ha
  obtain ⟨od, J, _⟩ := J.look
  obtain ⟨_, _, _, hat, _⟩ := (show ObjOk X.prog X.w H s.heap a (.ins C dx fs) from I.hok a _ ha)
  have hL : PySem.W.Looks (model X.prog X.w) s.heap (isInstance (.ref a) (.type T)) false := J.type.andThen (PySem.W.looks_mroIn I.kIn hm)
  cases o with
  | non => cases rx; exact wpAny_tryCompare_declines hty F.slot_NoneType_eq (call_gives F.slot_NoneType_eq hty F.entry_NoneType_eq (F.args_NoneType_eq_2 _ _) (SeqAt.NoneType___eq___none_ref_0 a) ⟨rfl, rfl, rfl⟩)
  | bl b => cases rx; exact wpAny_tryCompare_declines hty F.slot_bool_eq (wpAny_call (codeAny_call_builtin F.slot_bool_eq.plain F.entry_int_eq (F.slot_bool_eq.check _ _ _ _ _ _ _ _ hty (F.args_int_eq_2 _ _) (bool_dec hat ⟨rfl, rfl, rfl⟩))))
  | int i => obtain ⟨t, q⟩ := (show ∃ t, u = Value.int i t from rx); subst q; exact wpAny_tryCompare_declines hty F.slot_int_eq (wpAny_call (codeAny_call_builtin F.slot_int_eq.plain F.entry_int_eq (F.slot_int_eq.check _ _ _ _ _ _ _ _ hty (F.args_int_eq_2 _ _) (int_dec hat ⟨rfl, rfl, rfl⟩))))
  | @lst l xs ea => cases (show u = Value.ref l from rx); exact wpAny_tryCompare_declines hty F.slot_list_eq (wpAny_call (codeAny_call_builtin F.slot_list_eq.plain F.entry_list_eq (F.slot_list_eq.check _ _ _ _ _ _ _ _ hty (F.args_list_eq_2 _ _) (list_dec (fun hq => hL.here hq) ⟨rfl, rfl, rfl⟩))))
  | @tup l xs ea => cases (show u = Value.ref l from rx); exact wpAny_tryCompare_declines hty F.slot_tuple_eq (wpAny_call (codeAny_call_builtin F.slot_tuple_eq.plain F.entry_tuple_eq (F.slot_tuple_eq.check _ _ _ _ _ _ _ _ hty (F.args_tuple_eq_2 _ _) (tup_dec (fun hq => hL.here hq) ⟨rfl, rfl, rfl⟩))))
  | @dK l kvs ea => cases (show u = Value.ref l from rx); exact wpAny_tryCompare_declines hty F.slot_dict_eq (wpAny_call (codeAny_call_builtin F.slot_dict_eq.plain F.entry_dict_eq (F.slot_dict_eq.check _ _ _ _ _ _ _ _ hty (F.args_dict_eq_2 _ _) (dict_dec (fun hq => hL.here hq) ⟨rfl, rfl, rfl⟩))))
end
section
variable {prog : Program} {w : World} {A : Around} {E : Value → Shared → Prop} {s : Shared} {K : PySem.W.Frag} {x C f : Addr} {ox : Obj} {od : Option Obj} {u : Value} {T : String}
/-- u == x: u's own == says nothing, so x's is asked -/
theorem richOdd {Q : Value → Shared → Prop} (hu : A.units < cLine) (X : K.In s.heap) (I : PySem.W.InstAt s.heap x ox C od) (hT : s.TypeIs u T) (hm : PySem.W.mroIn K C (.type T) = some false)
    (dec : wpAny (model prog w) A (tryCompare u "__eq__" (.ref x)) (fun r s' => r = none ∧ s' = s) E s) (hs : PySem.W.findIn K (.ref C) "__eq__" = some (some (.ref f))) (hf : PySem.W.isFn K (.ref f) = true)
    (h : wpAny (model prog w) A (call (.ref f) [.ref x, u]) (fun v s' => ∃ b, v = .bool b ∧ Q (.bool b) s') E s) : wpAny (model prog w) A (richCompare .Eq u (.ref x)) Q E s := by
  simp only [richCompare, cmpInfo_Eq, hT.oneThing_none]
  refine wpAny_holding (wpAny_bind (wpAny_cRoomFor hu ?_))
  refine wpAny_bind (wpAny_typeOf hT ?_)
  refine wpAny_bind (I.type.here ?_)
  have hne : (Value.type T != Value.ref C) = true := by simp
  simp only [hne, if_true]
  refine wpAny_bind ((PySem.W.looks_mroIn X hm).here ?_)
  simp only [Bool.false_eq_true, if_false, Bool.not_false, if_true]
  refine wpAny_bind (m := tryCompare u _ (.ref x)) (wpAny_mono dec (fun r s1 z => ?_) fun _ _ e => e)
  obtain ⟨z1, z2⟩ := z
  subst z1
  subst z2
  refine wpAny_bind (m := tryCompare (.ref x) _ u) ?_
  unfold tryCompare
  refine wpAny_bind (PySem.W.ifBound_K X I hs hf (wpAny_mono h (fun v s' hv => ?_) fun _ _ e => e))
  obtain ⟨b, rfl, q⟩ := hv
  first
    | exact wpAny_pure (wpAny_pure q)
    | exact wpAny_pure (wpAny_bind (wpAny_rule (wpAny_pure q)))
theorem neBodyO {Q : Fin → Shared → Prop} (hu : A.units < cLine) (X : K.In s.heap) (I : PySem.W.InstAt s.heap x ox C od) (hs : PySem.W.findIn K (.ref C) "__eq__" = some (some (.ref f))) (hf : PySem.W.isFn K (.ref f) = true)
    (h : wpAny (model prog w) A (call (.ref f) [.ref x, u]) (fun v s' => ∃ b, v = .bool b ∧ Q (.done (.ret (.bool (!b)))) s') E s) : wpAny (model prog w) A (Builtin.«object.__ne__» ⟨[.ref x, u], []⟩) Q E s := by
  unfold Builtin.«object.__ne__»
  have step : wpAny (model prog w) A (callSpecialIfBound? (.ref x) (Str.ofString "__eq__") [u]) (fun r s' => ∃ b, r = some (.bool b) ∧ Q (.done (.ret (.bool (!b)))) s') E s :=
    PySem.W.ifBound_K X I hs hf (wpAny_mono h (fun v s' q => by obtain ⟨b, rfl, q⟩ := q; exact ⟨b, rfl, q⟩) fun _ _ q => q)
  repeat (first
    | with_reducible refine wpAny_cRoomFor hu ?_
    | (refine wpAny_bind (m := callSpecialIfBound? (.ref x) (Str.ofString "__eq__") [u]) (wpAny_mono step (fun r s' q => ?_) fun _ _ q => q); obtain ⟨b, rfl, q⟩ := q)
    | exact q
    | (refine wpAny_bind (m := truthy (.bool _)) (wpAny_truthy_bool ?_))
    | wp_step)
end
end My
namespace My
open PySem PySem.Spec PyProof.Rows L2
/-! ### x != y of instances with an own == and no own != -/
section
variable {prog : Program} {w : World} {A : Around} {E : Value → Shared → Prop} {s : Shared} {K : PySem.W.Frag} {x y C f : Addr} {ox : Obj} {od : Option Obj}
theorem boundB {name : Str} {id B : String} {args : List Value} {Q : Option Value → Shared → Prop} (X : K.In s.heap) (I : PySem.W.InstAt s.heap x ox C od) (hs : PySem.W.findIn K (.ref C) name = some (some (.builtin id))) (S : Slot B name id)
    (h : wpAny (model prog w) A (call (.builtin id) (.ref x :: args)) (fun v => Q (some v)) E s) : wpAny (model prog w) A (callSpecialIfBound? (.ref x) name args) Q E s := by
  have fin : wpAny (model prog w) A (do let v ← call (.builtin id) ([.ref x] ++ args); pure (some v)) Q E s := wpAny_bind (wpAny_mono h (fun v s' q => wpAny_pure q) fun _ _ q => q)
  simp only [callSpecialIfBound?, bindSpecialIfBound?]
  refine wpAny_holding (wpAny_bind (wpAny_bind (wpAny_bind (I.type.here ((PySem.W.looks_findIn X hs).here ?_)))))
  simp only [S.bind]
  refine wpAny_bind (wpAny_askSetting (wpAny_ite ?_))
  split
  · exact wpAny_bind (wpAny_pure (wpAny_pure fin))
  · exact wpAny_tryCatch (wpAny_bind (wpAny_pure (wpAny_pure fin)))
theorem neBody {Q : Fin → Shared → Prop} (hu : A.units < cLine) (X : K.In s.heap) (I : PySem.W.InstAt s.heap x ox C od) (hs : PySem.W.findIn K (.ref C) "__eq__" = some (some (.ref f))) (hf : PySem.W.isFn K (.ref f) = true)
    (h : wpAny (model prog w) A (call (.ref f) [.ref x, .ref y]) (fun v s' => ∃ b, v = .bool b ∧ Q (.done (.ret (.bool (!b)))) s') E s) : wpAny (model prog w) A (Builtin.«object.__ne__» ⟨[.ref x, .ref y], []⟩) Q E s := by
  unfold Builtin.«object.__ne__»
  have step : wpAny (model prog w) A (callSpecialIfBound? (.ref x) (Str.ofString "__eq__") [.ref y]) (fun r s' => ∃ b, r = some (.bool b) ∧ Q (.done (.ret (.bool (!b)))) s') E s :=
    PySem.W.ifBound_K X I hs hf (wpAny_mono h (fun v s' q => by obtain ⟨b, rfl, q⟩ := q; exact ⟨b, rfl, q⟩) fun _ _ q => q)
  repeat (first
    | with_reducible refine wpAny_cRoomFor hu ?_
    | (refine wpAny_bind (m := callSpecialIfBound? (.ref x) (Str.ofString "__eq__") [.ref y]) (wpAny_mono step (fun r s' q => ?_) fun _ _ q => q); obtain ⟨b, rfl, q⟩ := q)
    | exact q
    | (refine wpAny_bind (m := truthy (.bool _)) (wpAny_truthy_bool ?_))
    | wp_step)
theorem tryNe {Q : Option Value → Shared → Prop} (hu : A.units + 1 < cLine) (X : K.In s.heap) (I : PySem.W.InstAt s.heap x ox C od) (hne : PySem.W.findIn K (.ref C) "__ne__" = some (some (.builtin "object.__ne__"))) (hm : PySem.W.mroIn K C (.type "object") = some true)
    (hs : PySem.W.findIn K (.ref C) "__eq__" = some (some (.ref f))) (hf : PySem.W.isFn K (.ref f) = true)
    (h : wpAny (model prog w) A.in1 (call (.ref f) [.ref x, .ref y]) (fun v s' => ∃ b, v = .bool b ∧ Q (some (.bool (!b))) s') E s) : wpAny (model prog w) A (tryCompare (.ref x) "__ne__" (.ref y)) Q E s := by
  simp only [tryCompare]
  refine wpAny_bind (boundB X I hne F.cmp_object.ne (wpAny_call (codeAny_call_builtin F.cmp_object.ne.plain F.cmpEntry_ne (PySem.W.check_slot F.cmpKind_ne F.cmpSplit_ne (I.type.andThen (PySem.W.looks_mroIn X hm)) (F.cmpArgs_ne _ _) (neBody (A := A.in1) (by
    show A.units + 1 < cLine
    exact hu) X I hs hf (wpAny_mono h (fun v s' q => ?_) fun _ _ q => q))))))
  obtain ⟨b, rfl, q⟩ := q
  first
    | exact ⟨b, rfl, ⟨_, rfl, wpAny_pure q⟩⟩
    | exact ⟨b, rfl, wpAny_pure q⟩
    | exact ⟨b, rfl, wpAny_pure (wpAny_pure q)⟩
theorem richNe {oy : Obj} {ody : Option Obj} {Q : Value → Shared → Prop} (hu : A.units + 1 < cLine) (X : K.In s.heap) (I : PySem.W.InstAt s.heap x ox C od) (J : PySem.W.InstAt s.heap y oy C ody) (hne : PySem.W.findIn K (.ref C) "__ne__" = some (some (.builtin "object.__ne__"))) (hm : PySem.W.mroIn K C (.type "object") = some true)
    (hs : PySem.W.findIn K (.ref C) "__eq__" = some (some (.ref f))) (hf : PySem.W.isFn K (.ref f) = true)
    (h : wpAny (model prog w) A.in1 (call (.ref f) [.ref x, .ref y]) (fun v s' => ∃ b, v = .bool b ∧ Q (.bool (!b)) s') E s) : wpAny (model prog w) A (richCompare .NotEq (.ref x) (.ref y)) Q E s := by
  unfold richCompare
  simp only [oneThing_ref]
  refine wpAny_holding (wpAny_bind (wpAny_cRoomFor (Nat.lt_of_succ_lt hu) ?_))
  rw [cmpInfo_NotEq]
  refine wpAny_bind (I.type.here (wpAny_bind (J.type.here ?_)))
  rw [show (Value.ref C != Value.ref C) = false by simp]
  simp only [Bool.false_eq_true, if_false]
  refine wpAny_bind (wpAny_pure ?_)
  refine wpAny_bind (tryNe hu X I hne hm hs hf (wpAny_mono h (fun v s' q => ?_) fun _ _ q => q))
  obtain ⟨b, rfl, q⟩ := q
  exact ⟨b, rfl, wpAny_pure q⟩
end
/-- x != y, both instances of C; R what the two must be, for any answer of the own == -/
def spEqB (R : Addr → Addr → Hp → Bool → Prop) : Sp := fun vs H Q _ => ∃ a b r, vs = [.ref a, .ref b] ∧ R a b H r ∧ Q (.bl r) H
def rNeI (C : Addr) (R : Addr → Addr → Hp → Bool → Prop) : R2 := fun x y H Q => ∃ a b dx dy fs gs r, x = .ref a ∧ y = .ref b ∧ H a = some (.ins C dx fs) ∧ H b = some (.ins C dy gs) ∧ R a b H r ∧ Q (.bl (!r)) H
theorem op_neI {X : Cx} {n : Nat} {C f : Addr} {fd : FuncData} {ps : List Str} {R : Addr → Addr → Hp → Bool → Prop} (F : FnOk X.prog X.w X.K X.mg X.base CX0 n f fd ps (spEqB R)) (hr : Room (n + 1) X.A)
    (hne : PySem.W.findIn X.K (.ref C) "__ne__" = some (some (.builtin "object.__ne__"))) (hm : PySem.W.mroIn X.K C (.type "object") = some true) (hs : PySem.W.findIn X.K (.ref C) "__eq__" = some (some (.ref f))) (hf : PySem.W.isFn X.K (.ref f) = true) (hb : Binds X.K fd ps []) :
    OpR X (compareOp .NotEq) (rNeI C R) := by
  intro pins s σ H x y v u Q I rx ry hq
  obtain ⟨a, b, dx, dy, fs, gs, r, rfl, rfl, ha, hb', hR, q⟩ := hq
  cases rx
  cases ry
  obtain ⟨mA, J, _⟩ := ins_get I.hok ha
  obtain ⟨mB, J', _⟩ := ins_get I.hok hb'
  obtain ⟨od, J, _⟩ := J.look
  obtain ⟨od', J', _⟩ := J'.look
  show wpAny (model X.prog X.w) X.A (richCompare .NotEq (.ref a) (.ref b)) (EP X pins σ Q) X.xe s
  refine richNe ?_ I.kIn J J' hne hm hs hf ?_
  · have := hr.un
    omega
  have hsp : spEqB R [.ref a, .ref b] H (fun v H' => v = .bl r ∧ H' = H) E0 := ⟨a, b, r, rfl, hR, rfl, rfl⟩
  have e0 : Env0 X.prog X.w X.K X.mg X.base X.A.in1 X.stack s H := I.env0.in1
  have hl := F.len _ _ _ _ hsp
  have r2 : Vals [V.ref a, V.ref b] [Value.ref a, Value.ref b] := .cons rfl (.cons rfl .nil)
  refine wpAny_call (codeAny_mono (F.run X.A.in1 X.stack s H ⟨[.ref a, .ref b], []⟩ [.ref a, .ref b] [.ref a, .ref b] _ E0 hr.in1 e0 (by
    have := hb s [.ref a, .ref b] I.kIn (by simpa using hl)
    simpa using this) r2 hsp) fun z s' hz => ?_)
  cases z with
  | error e => exact False.elim hz
  | ok fl =>
    cases fl with
    | ret w' =>
      obtain ⟨z, H', I', rz, ez, ex⟩ := I.after hz
      subst ez
      subst ex
      cases rz
      exact ⟨r, rfl, .bl (!r), H', I', rfl, q⟩
    | next => exact False.elim hz
    | brk => exact False.elim hz
    | cont => exact False.elim hz
/-- x == y of such instances, for any answer of the own == -/
def rEqI (C : Addr) (R : Addr → Addr → Hp → Bool → Prop) : R2 := fun x y H Q => ∃ a b dx dy fs gs r, x = .ref a ∧ y = .ref b ∧ H a = some (.ins C dx fs) ∧ H b = some (.ins C dy gs) ∧ R a b H r ∧ Q (.bl r) H
theorem op_eqI {X : Cx} {n : Nat} {C f : Addr} {fd : FuncData} {ps : List Str} {R : Addr → Addr → Hp → Bool → Prop} (F : FnOk X.prog X.w X.K X.mg X.base CX0 n f fd ps (spEqB R)) (hr : Room (n + 1) X.A)
    (hs : PySem.W.findIn X.K (.ref C) "__eq__" = some (some (.ref f))) (hf : PySem.W.isFn X.K (.ref f) = true) (hb : Binds X.K fd ps []) : OpR X (compareOp .Eq) (rEqI C R) := by
  intro pins s σ H x y v u Q I rx ry hq
  obtain ⟨a, b, dx, dy, fs, gs, r, rfl, rfl, ha, hb', hR, q⟩ := hq
  cases rx
  cases ry
  obtain ⟨mA, J, _⟩ := ins_get I.hok ha
  obtain ⟨mB, J', _⟩ := ins_get I.hok hb'
  obtain ⟨od, J, _⟩ := J.look
  obtain ⟨od', J', _⟩ := J'.look
  obtain ⟨m, hF⟩ := I.fr
  show wpAny (model X.prog X.w) X.A (richCompare .Eq (.ref a) (.ref b)) (EP X pins σ Q) X.xe s
  refine PySem.W.cmp_K (op := .Eq) (tb := .ref C) hr.units0 hF I.ok.mod.kin J J'.type (by simp [PySem.W.notFirst]) hs hf ?_
  have hsp : spEqB R [.ref a, .ref b] H (fun v H' => v = .bl r ∧ H' = H) E0 := ⟨a, b, r, rfl, hR, rfl, rfl⟩
  have hl := F.len _ _ _ _ hsp
  have r2 : Vals [V.ref a, V.ref b] [Value.ref a, Value.ref b] := .cons rfl (.cons rfl .nil)
  refine wpAny_call (codeAny_mono (F.run X.A X.stack s H ⟨[.ref a, .ref b], []⟩ [.ref a, .ref b] [.ref a, .ref b] _ E0 (hr.mono (Nat.le_succ n)) I.env0 (by
    have := hb s [.ref a, .ref b] I.kIn (by simpa using hl)
    simpa using this) r2 hsp) fun z s' hz => ?_)
  cases z with
  | error e => exact False.elim hz
  | ok fl =>
    cases fl with
    | ret w' =>
      obtain ⟨z, H', I', rz, ez, ex⟩ := I.after hz
      subst ez
      subst ex
      cases rz
      exact ⟨.bl r, H', I', rfl, q⟩
    | next => exact False.elim hz
    | brk => exact False.elim hz
    | cont => exact False.elim hz
end My
namespace My
open PySem PySem.Spec PyProof.Rows L2
section
variable {prog : Program} {w : World} {A : Around} {E : Value → Shared → Prop} {s : Shared} {K : PySem.W.Frag} {x C f : Addr} {ox : Obj} {od : Option Obj} {u : Value} {T : String}
theorem tryNeO {Q : Option Value → Shared → Prop} (hu : A.units + 1 < cLine) (X : K.In s.heap) (I : PySem.W.InstAt s.heap x ox C od) (hne : PySem.W.findIn K (.ref C) "__ne__" = some (some (.builtin "object.__ne__"))) (hm : PySem.W.mroIn K C (.type "object") = some true)
    (hs : PySem.W.findIn K (.ref C) "__eq__" = some (some (.ref f))) (hf : PySem.W.isFn K (.ref f) = true)
    (h : wpAny (model prog w) A.in1 (call (.ref f) [.ref x, u]) (fun v s' => ∃ b, v = .bool b ∧ Q (some (.bool (!b))) s') E s) : wpAny (model prog w) A (tryCompare (.ref x) "__ne__" u) Q E s := by
  simp only [tryCompare]
  refine wpAny_bind (boundB X I hne F.cmp_object.ne (wpAny_call (codeAny_call_builtin F.cmp_object.ne.plain F.cmpEntry_ne (PySem.W.check_slot F.cmpKind_ne F.cmpSplit_ne (I.type.andThen (PySem.W.looks_mroIn X hm)) (F.cmpArgs_ne _ _) (neBodyO (A := A.in1) (by
    show A.units + 1 < cLine
    exact hu) X I hs hf (wpAny_mono h (fun v s' q => ?_) fun _ _ q => q))))))
  obtain ⟨b, rfl, q⟩ := q
  first
    | exact ⟨b, rfl, ⟨_, rfl, wpAny_pure q⟩⟩
    | exact ⟨b, rfl, wpAny_pure q⟩
    | exact ⟨b, rfl, wpAny_pure (wpAny_pure q)⟩
theorem richNeO {Q : Value → Shared → Prop} (hu : A.units + 1 < cLine) (X : K.In s.heap) (I : PySem.W.InstAt s.heap x ox C od) (hT : s.TypeIs u T) (hsub : PySem.W.subIn K (.type T) (.ref C) = some false)
    (hne : PySem.W.findIn K (.ref C) "__ne__" = some (some (.builtin "object.__ne__"))) (hm : PySem.W.mroIn K C (.type "object") = some true)
    (hs : PySem.W.findIn K (.ref C) "__eq__" = some (some (.ref f))) (hf : PySem.W.isFn K (.ref f) = true)
    (h : wpAny (model prog w) A.in1 (call (.ref f) [.ref x, u]) (fun v s' => ∃ b, v = .bool b ∧ Q (.bool (!b)) s') E s) : wpAny (model prog w) A (richCompare .NotEq (.ref x) u) Q E s := by
  unfold richCompare
  simp only [oneThing_ref]
  refine wpAny_holding (wpAny_bind (wpAny_cRoomFor (Nat.lt_of_succ_lt hu) ?_))
  rw [cmpInfo_NotEq]
  refine wpAny_bind (I.type.here (wpAny_bind (wpAny_typeOf hT ?_)))
  rw [show (Value.ref C != Value.type T) = true by simp]
  simp only [if_true]
  refine wpAny_bind ((PySem.W.looks_subIn X hsub).here ?_)
  simp only [Bool.false_eq_true, if_false, Bool.not_false, if_true]
  refine wpAny_bind (tryNeO hu X I hne hm hs hf (wpAny_mono h (fun v s' q => ?_) fun _ _ q => q))
  obtain ⟨b, rfl, q⟩ := q
  exact ⟨b, rfl, wpAny_pure q⟩
end
/-- what the own == says of other things -/
def spEqO (C : Addr) : Sp := fun vs H Q _ => ∃ a dx fs y T, vs = [.ref a, y] ∧ H a = some (.ins C dx fs) ∧ OddV H y T ∧ Q (.bl false) H
/-- web == thing, thing == web, web != thing -/
def rEqO (C : Addr) : R2 := fun x y H Q => ∃ a dx fs T, x = .ref a ∧ H a = some (.ins C dx fs) ∧ OddV H y T ∧ Q (.bl false) H
def rOEq (C : Addr) : R2 := fun x y H Q => ∃ a dx fs T, y = .ref a ∧ H a = some (.ins C dx fs) ∧ OddV H x T ∧ Q (.bl false) H
def rNeO (C : Addr) : R2 := fun x y H Q => ∃ a dx fs T, x = .ref a ∧ H a = some (.ins C dx fs) ∧ OddV H y T ∧ Q (.bl true) H
section
variable {X : Cx} {n : Nat} {C f : Addr} {fd : FuncData} {ps : List Str}
theorem callO {A : Around} {pins : List (Addr × Obj)} {σ : L2.St} {H : Hp} {s : Shared} {a dx : Addr} {fs : List (Str × V)} {y : V} {T : String} {u : Value} {Q : VK} (F : FnOk X.prog X.w X.K X.mg X.base CX0 n f fd ps (spEqO C)) (hr : Room n A) (hb : Binds X.K fd ps [])
    (e0 : Env0 X.prog X.w X.K X.mg X.base A X.stack s H) (I : Inv X pins σ H s) (ha : H a = some (.ins C dx fs)) (o : OddV H y T) (ry : RelV y u) (b : Bool) (q : Q (.bl b) H) :
    wpAny (model X.prog X.w) A (call (.ref f) [.ref a, u]) (fun v s' => ∃ c, v = .bool c ∧ c = false ∧ EP X pins σ Q (.bool b) s') X.xe s := by
  have hsp : spEqO C [.ref a, y] H (fun v H' => v = .bl false ∧ H' = H) E0 := ⟨a, dx, fs, y, T, rfl, ha, o, rfl, rfl⟩
  have hl := F.len _ _ _ _ hsp
  have r2 : Vals [V.ref a, y] [Value.ref a, u] := .cons rfl (.cons ry .nil)
  refine wpAny_call (codeAny_mono (F.run A X.stack s H ⟨[.ref a, u], []⟩ [.ref a, u] [.ref a, y] _ E0 hr e0 (by
    have := hb s [.ref a, u] I.kIn (by simpa using hl)
    simpa using this) r2 hsp) fun z s' hz => ?_)
  cases z with
  | error e => exact False.elim hz
  | ok fl =>
    cases fl with
    | ret w' =>
      obtain ⟨z, H', I', rz, ez, ex⟩ := I.after hz
      subst ez
      subst ex
      cases rz
      exact ⟨false, rfl, rfl, .bl b, H', I', rfl, q⟩
    | next => exact False.elim hz
    | brk => exact False.elim hz
    | cont => exact False.elim hz
theorem op_eqO (F : FnOk X.prog X.w X.K X.mg X.base CX0 n f fd ps (spEqO C)) (hr : Room (n + 1) X.A) (hs : PySem.W.findIn X.K (.ref C) "__eq__" = some (some (.ref f))) (hf : PySem.W.isFn X.K (.ref f) = true) (hb : Binds X.K fd ps []) :
    OpR X (compareOp .Eq) (rEqO C) := by
  intro pins s σ H x y v u Q I rx ry hq
  obtain ⟨a, dx, fs, T, rfl, ha, o, q⟩ := hq
  cases rx
  obtain ⟨mA, J, _⟩ := ins_get I.hok ha
  obtain ⟨od, J, _⟩ := J.look
  obtain ⟨m, hF⟩ := I.fr
  show wpAny (model X.prog X.w) X.A (richCompare .Eq (.ref a) u) (EP X pins σ Q) X.xe s
  refine PySem.W.cmp_K (op := .Eq) (tb := .type T) hr.units0 hF I.ok.mod.kin J (fun A Q E s' k q => wpAny_typeOf (odd_isK I ry o k) q) (by
    unfold PySem.W.notFirst
    rw [o.sub]
    simp) hs hf ?_
  refine wpAny_mono (callO F (hr.mono (Nat.le_succ n)) hb I.env0 I ha o ry false q) (fun v s' z => ?_) fun _ _ e => e
  obtain ⟨c, rfl, rfl, z⟩ := z
  exact z
theorem op_oEq (F : FnOk X.prog X.w X.K X.mg X.base CX0 n f fd ps (spEqO C)) (hr : Room (n + 1) X.A) (c : OddC X.K C) (it : InsT X.K C) (hs : PySem.W.findIn X.K (.ref C) "__eq__" = some (some (.ref f))) (hf : PySem.W.isFn X.K (.ref f) = true) (hb : Binds X.K fd ps []) :
    OpR X (compareOp .Eq) (rOEq C) := by
  intro pins s σ H x y v u Q I rx ry hq
  obtain ⟨a, dx, fs, T, rfl, ha, o, q⟩ := hq
  cases ry
  obtain ⟨mA, J, _⟩ := ins_get I.hok ha
  obtain ⟨od, J, _⟩ := J.look
  show wpAny (model X.prog X.w) X.A (richCompare .Eq v (.ref a)) (EP X pins σ Q) X.xe s
  refine richOdd hr.units0 I.kIn J (odd_is I rx o) (o.mro c it) (odd_dec I rx o ha c it) hs hf ?_
  refine wpAny_mono (callO F (hr.mono (Nat.le_succ n)) hb I.env0 I ha o rx false q) (fun v s' z => ?_) fun _ _ e => e
  obtain ⟨c, rfl, rfl, z⟩ := z
  exact ⟨false, rfl, z⟩
theorem op_neO (F : FnOk X.prog X.w X.K X.mg X.base CX0 n f fd ps (spEqO C)) (hr : Room (n + 1) X.A) (hne : PySem.W.findIn X.K (.ref C) "__ne__" = some (some (.builtin "object.__ne__"))) (hm : PySem.W.mroIn X.K C (.type "object") = some true) (hs : PySem.W.findIn X.K (.ref C) "__eq__" = some (some (.ref f))) (hf : PySem.W.isFn X.K (.ref f) = true) (hb : Binds X.K fd ps []) :
    OpR X (compareOp .NotEq) (rNeO C) := by
  intro pins s σ H x y v u Q I rx ry hq
  obtain ⟨a, dx, fs, T, rfl, ha, o, q⟩ := hq
  cases rx
  obtain ⟨mA, J, _⟩ := ins_get I.hok ha
  obtain ⟨od, J, _⟩ := J.look
  show wpAny (model X.prog X.w) X.A (richCompare .NotEq (.ref a) u) (EP X pins σ Q) X.xe s
  refine richNeO ?_ I.kIn J (odd_is I ry o) o.sub hne hm hs hf ?_
  · have := hr.un
    omega
  refine wpAny_mono (callO F hr.in1 hb I.env0.in1 I ha o ry true q) (fun v s' z => ?_) fun _ _ e => e
  obtain ⟨c, rfl, rfl, z⟩ := z
  exact ⟨false, rfl, z⟩
end
end My

namespace My
open PySem PySem.Spec PyProof.Rows L2
def topS (i : Nat) : Stmt := PySem.Challenge.pw_rootstalls_k06_webs_kept_and_compared.main.body.getD i (.Pass ⟨0, 0, 0, 0⟩)
abbrev s_is_integer : Stmt := topS 6
abbrev N_is_integer : List Str := ["thing"]
theorem sc_is_integer : FnScope N_is_integer ["thing"] (defScope s_is_integer) := ⟨rfl, rfl, rfl, by decide +kernel, rfl, by decide +kernel, by decide +kernel⟩
abbrev s_is_row : Stmt := topS 7
abbrev N_is_row : List Str := ["thing"]
theorem sc_is_row : FnScope N_is_row ["thing"] (defScope s_is_row) := ⟨rfl, rfl, rfl, by decide +kernel, rfl, by decide +kernel, by decide +kernel⟩
abbrev s_is_fraction : Stmt := topS 8
abbrev N_is_fraction : List Str := ["thing", "top", "bottom"]
theorem sc_is_fraction : FnScope N_is_fraction ["thing"] (defScope s_is_fraction) := ⟨rfl, rfl, rfl, by decide +kernel, rfl, by decide +kernel, by decide +kernel⟩
abbrev s_is_some : Stmt := topS 9
abbrev N_is_some : List Str := ["thing"]
theorem sc_is_some : FnScope N_is_some ["thing"] (defScope s_is_some) := ⟨rfl, rfl, rfl, by decide +kernel, rfl, by decide +kernel, by decide +kernel⟩
abbrev s_multiplied : Stmt := topS 10
abbrev N_multiplied : List Str := ["one", "other", "left", "right"]
theorem sc_multiplied : FnScope N_multiplied ["one", "other"] (defScope s_multiplied) := ⟨rfl, rfl, rfl, by decide +kernel, rfl, by decide +kernel, by decide +kernel⟩
abbrev s_squared : Stmt := topS 11
abbrev N_squared : List Str := ["one"]
theorem sc_squared : FnScope N_squared ["one"] (defScope s_squared) := ⟨rfl, rfl, rfl, by decide +kernel, rfl, by decide +kernel, by decide +kernel⟩
abbrev s_is_stall : Stmt := topS 15
abbrev N_is_stall : List Str := ["wares", "thing", "one", "other", "kept", "other_kept", "root", "ware"]
theorem sc_is_stall : FnScope N_is_stall ["wares", "thing"] (defScope s_is_stall) := ⟨rfl, rfl, rfl, by decide +kernel, rfl, by decide +kernel, by decide +kernel⟩
abbrev s_l_deck : Stmt := topS 18
abbrev N_l_deck : List Str := ["_law_script", "_law_cell"]
theorem sc_l_deck : FnScope N_l_deck ["_law_script"] (defScope s_l_deck) := ⟨rfl, rfl, rfl, by decide +kernel, rfl, by decide +kernel, by decide +kernel⟩
abbrev s_l_pick : Stmt := topS 19
abbrev N_l_pick : List Str := ["_law_deck_here", "_law_many", "_law_found", "_law_cells", "_law_cell", "_law_number"]
theorem sc_l_pick : FnScope N_l_pick ["_law_deck_here", "_law_many"] (defScope s_l_pick) := ⟨rfl, rfl, rfl, by decide +kernel, rfl, by decide +kernel, by decide +kernel⟩
abbrev s_l_divisor : Stmt := topS 20
abbrev N_l_divisor : List Str := ["_law_one", "_law_other", "_law_turn", "_law_rest"]
theorem sc_l_divisor : FnScope N_l_divisor ["_law_one", "_law_other"] (defScope s_l_divisor) := ⟨rfl, rfl, rfl, by decide +kernel, rfl, by decide +kernel, by decide +kernel⟩
abbrev s_l_made : Stmt := topS 21
abbrev N_l_made : List Str := ["_law_top", "_law_bottom", "_law_divisor_here"]
theorem sc_l_made : FnScope N_l_made ["_law_top", "_law_bottom"] (defScope s_l_made) := ⟨rfl, rfl, rfl, by decide +kernel, rfl, by decide +kernel, by decide +kernel⟩
abbrev s_l_amount : Stmt := topS 22
abbrev N_l_amount : List Str := ["_law_deck_here", "_law_size"]
theorem sc_l_amount : FnScope N_l_amount ["_law_deck_here"] (defScope s_l_amount) := ⟨rfl, rfl, rfl, by decide +kernel, rfl, by decide +kernel, by decide +kernel⟩
abbrev s_l_stall : Stmt := topS 23
abbrev N_l_stall : List Str := ["_law_deck_here", "_law_wares", "_law_one", "_law_other", "_law_root", "_law_factor", "_law_first"]
theorem sc_l_stall : FnScope N_l_stall ["_law_deck_here", "_law_wares"] (defScope s_l_stall) := ⟨rfl, rfl, rfl, by decide +kernel, rfl, by decide +kernel, by decide +kernel⟩
abbrev s_l_stalls : Stmt := topS 24
abbrev N_l_stalls : List Str := ["_law_deck_here", "_law_wares", "_law_turn"]
theorem sc_l_stalls : FnScope N_l_stalls ["_law_deck_here", "_law_wares"] (defScope s_l_stalls) := ⟨rfl, rfl, rfl, by decide +kernel, rfl, by decide +kernel, by decide +kernel⟩
abbrev s_l_others : Stmt := topS 25
abbrev N_l_others : List Str := ["_law_deck_here", "_law_wares", "_law_stalls_here", "_law_found", "_law_at", "_law_stall_here", "_law_other", "_law_four", "_law_two"]
theorem sc_l_others : FnScope N_l_others ["_law_deck_here", "_law_wares", "_law_stalls_here"] (defScope s_l_others) := ⟨rfl, rfl, rfl, by decide +kernel, rfl, by decide +kernel, by decide +kernel⟩
abbrev s_l_is_flag : Stmt := topS 26
abbrev N_l_is_flag : List Str := ["_law_flag", "_law_due"]
theorem sc_l_is_flag : FnScope N_l_is_flag ["_law_flag", "_law_due"] (defScope s_l_is_flag) := ⟨rfl, rfl, rfl, by decide +kernel, rfl, by decide +kernel, by decide +kernel⟩
abbrev s_l_are_compared : Stmt := topS 27
abbrev N_l_are_compared : List Str := ["_law_one", "_law_other", "_law_due"]
theorem sc_l_are_compared : FnScope N_l_are_compared ["_law_one", "_law_other", "_law_due"] (defScope s_l_are_compared) := ⟨rfl, rfl, rfl, by decide +kernel, rfl, by decide +kernel, by decide +kernel⟩
abbrev s_law : Stmt := topS 28
abbrev N_law : List Str := ["_law_script", "_law_deck_here", "_law_wares", "_law_stalls_here", "_law_passed", "_law_web", "_law_pair", "_law_due", "_law_thing"]
theorem sc_law : FnScope N_law ["_law_script"] (defScope s_law) := ⟨rfl, rfl, rfl, by decide +kernel, rfl, by decide +kernel, by decide +kernel⟩
abbrev s_Web_init : Stmt := inClass (topS 16) 0
abbrev N_Web_init : List Str := ["self", "wares", "stalls", "index", "stall"]
theorem sc_Web_init : FnScope N_Web_init ["self", "wares", "stalls"] (defScope s_Web_init) := ⟨rfl, rfl, rfl, by decide +kernel, rfl, by decide +kernel, by decide +kernel⟩
abbrev s_Web_eq : Stmt := inClass (topS 16) 1
abbrev N_Web_eq : List Str := ["self", "other"]
theorem sc_Web_eq : FnScope N_Web_eq ["self", "other"] (defScope s_Web_eq) := ⟨rfl, rfl, rfl, by decide +kernel, rfl, by decide +kernel, by decide +kernel⟩
structure Txt (K : PySem.W.Frag) (mg : Str → Option Value) (f_is_integer f_is_row f_is_fraction f_is_some f_multiplied f_squared f_is_stall f_l_deck f_l_pick f_l_divisor f_l_made f_l_amount f_l_stall f_l_stalls f_l_others f_l_is_flag f_l_are_compared f_law f_Web_init f_Web_eq c_Web : Addr) (d_is_integer d_is_row d_is_fraction d_is_some d_multiplied d_squared d_is_stall d_l_deck d_l_pick d_l_divisor d_l_made d_l_amount d_l_stall d_l_stalls d_l_others d_l_is_flag d_l_are_compared d_law d_Web_init d_Web_eq : FuncData) : Prop where
  z_abs : mg "abs" = none
  z_bool : mg "bool" = none
  z_enumerate : mg "enumerate" = none
  z_int : mg "int" = none
  z_isinstance : mg "isinstance" = none
  z_len : mg "len" = none
  z_list : mg "list" = none
  z_range : mg "range" = none
  z_tuple : mg "tuple" = none
  m_gcd : mg "gcd" = some (.builtin "math.gcd")
  w_Web : WebC K mg "Web" c_Web f_Web_init
  n_Web_wares : NoAttr K c_Web "wares"
  n_Web_stalls : NoAttr K c_Web "stalls"
  od_Web : OddC K c_Web
  v_MOST_STALLS : ∃ u, mg "MOST_STALLS" = some u ∧ RelV (.int 16) u
  v_MOST_WARES : ∃ u, mg "MOST_WARES" = some u ∧ RelV (.int 8) u
  g_is_integer : mg "is_integer" = some (.ref f_is_integer)
  F_is_integer : Fun K "is_integer" "is_integer" s_is_integer f_is_integer d_is_integer
  k_is_integer : PySem.W.keepIn K (.ref f_is_integer) = true
  b_is_integer : Binds K d_is_integer ["thing"] []
  g_is_row : mg "is_row" = some (.ref f_is_row)
  F_is_row : Fun K "is_row" "is_row" s_is_row f_is_row d_is_row
  k_is_row : PySem.W.keepIn K (.ref f_is_row) = true
  b_is_row : Binds K d_is_row ["thing"] []
  g_is_fraction : mg "is_fraction" = some (.ref f_is_fraction)
  F_is_fraction : Fun K "is_fraction" "is_fraction" s_is_fraction f_is_fraction d_is_fraction
  k_is_fraction : PySem.W.keepIn K (.ref f_is_fraction) = true
  b_is_fraction : Binds K d_is_fraction ["thing"] []
  g_is_some : mg "is_some" = some (.ref f_is_some)
  F_is_some : Fun K "is_some" "is_some" s_is_some f_is_some d_is_some
  k_is_some : PySem.W.keepIn K (.ref f_is_some) = true
  b_is_some : Binds K d_is_some ["thing"] []
  g_multiplied : mg "multiplied" = some (.ref f_multiplied)
  F_multiplied : Fun K "multiplied" "multiplied" s_multiplied f_multiplied d_multiplied
  k_multiplied : PySem.W.keepIn K (.ref f_multiplied) = true
  b_multiplied : Binds K d_multiplied ["one", "other"] []
  g_squared : mg "squared" = some (.ref f_squared)
  F_squared : Fun K "squared" "squared" s_squared f_squared d_squared
  k_squared : PySem.W.keepIn K (.ref f_squared) = true
  b_squared : Binds K d_squared ["one"] []
  g_is_stall : mg "is_stall" = some (.ref f_is_stall)
  F_is_stall : Fun K "is_stall" "is_stall" s_is_stall f_is_stall d_is_stall
  k_is_stall : PySem.W.keepIn K (.ref f_is_stall) = true
  b_is_stall : Binds K d_is_stall ["wares", "thing"] []
  g_l_deck : mg "_law_deck" = some (.ref f_l_deck)
  F_l_deck : Fun K "_law_deck" "_law_deck" s_l_deck f_l_deck d_l_deck
  k_l_deck : PySem.W.keepIn K (.ref f_l_deck) = true
  b_l_deck : Binds K d_l_deck ["_law_script"] []
  g_l_pick : mg "_law_pick" = some (.ref f_l_pick)
  F_l_pick : Fun K "_law_pick" "_law_pick" s_l_pick f_l_pick d_l_pick
  k_l_pick : PySem.W.keepIn K (.ref f_l_pick) = true
  b_l_pick : Binds K d_l_pick ["_law_deck_here", "_law_many"] []
  g_l_divisor : mg "_law_divisor" = some (.ref f_l_divisor)
  F_l_divisor : Fun K "_law_divisor" "_law_divisor" s_l_divisor f_l_divisor d_l_divisor
  k_l_divisor : PySem.W.keepIn K (.ref f_l_divisor) = true
  b_l_divisor : Binds K d_l_divisor ["_law_one", "_law_other"] []
  g_l_made : mg "_law_made" = some (.ref f_l_made)
  F_l_made : Fun K "_law_made" "_law_made" s_l_made f_l_made d_l_made
  k_l_made : PySem.W.keepIn K (.ref f_l_made) = true
  b_l_made : Binds K d_l_made ["_law_top", "_law_bottom"] []
  g_l_amount : mg "_law_amount" = some (.ref f_l_amount)
  F_l_amount : Fun K "_law_amount" "_law_amount" s_l_amount f_l_amount d_l_amount
  k_l_amount : PySem.W.keepIn K (.ref f_l_amount) = true
  b_l_amount : Binds K d_l_amount ["_law_deck_here"] []
  g_l_stall : mg "_law_stall" = some (.ref f_l_stall)
  F_l_stall : Fun K "_law_stall" "_law_stall" s_l_stall f_l_stall d_l_stall
  k_l_stall : PySem.W.keepIn K (.ref f_l_stall) = true
  b_l_stall : Binds K d_l_stall ["_law_deck_here", "_law_wares"] []
  g_l_stalls : mg "_law_stalls" = some (.ref f_l_stalls)
  F_l_stalls : Fun K "_law_stalls" "_law_stalls" s_l_stalls f_l_stalls d_l_stalls
  k_l_stalls : PySem.W.keepIn K (.ref f_l_stalls) = true
  b_l_stalls : Binds K d_l_stalls ["_law_deck_here", "_law_wares"] []
  g_l_others : mg "_law_others" = some (.ref f_l_others)
  F_l_others : Fun K "_law_others" "_law_others" s_l_others f_l_others d_l_others
  k_l_others : PySem.W.keepIn K (.ref f_l_others) = true
  b_l_others : Binds K d_l_others ["_law_deck_here", "_law_wares", "_law_stalls_here"] []
  g_l_is_flag : mg "_law_is_flag" = some (.ref f_l_is_flag)
  F_l_is_flag : Fun K "_law_is_flag" "_law_is_flag" s_l_is_flag f_l_is_flag d_l_is_flag
  k_l_is_flag : PySem.W.keepIn K (.ref f_l_is_flag) = true
  b_l_is_flag : Binds K d_l_is_flag ["_law_flag", "_law_due"] []
  g_l_are_compared : mg "_law_are_compared" = some (.ref f_l_are_compared)
  F_l_are_compared : Fun K "_law_are_compared" "_law_are_compared" s_l_are_compared f_l_are_compared d_l_are_compared
  k_l_are_compared : PySem.W.keepIn K (.ref f_l_are_compared) = true
  b_l_are_compared : Binds K d_l_are_compared ["_law_one", "_law_other", "_law_due"] []
  g_law : mg "law" = some (.ref f_law)
  F_law : Fun K "law" "law" s_law f_law d_law
  k_law : PySem.W.keepIn K (.ref f_law) = true
  b_law : Binds K d_law ["_law_script"] []
  F_Web_init : Fun K "__init__" "Web.__init__" s_Web_init f_Web_init d_Web_init
  b_Web_init : Binds K d_Web_init ["self", "wares", "stalls"] []
  F_Web_eq : Fun K "__eq__" "Web.__eq__" s_Web_eq f_Web_eq d_Web_eq
  b_Web_eq : Binds K d_Web_eq ["self", "other"] []
  i_Web_eq : PySem.W.findIn K (.ref c_Web) "__eq__" = some (some (.ref f_Web_eq))
  fn_Web_eq : PySem.W.isFn K (.ref f_Web_eq) = true
  ne_Web : PySem.W.findIn K (.ref c_Web) "__ne__" = some (some (.builtin "object.__ne__"))
end My
/-! the steps of a reading, one after another; side conditions come last -/
local macro_rules | `(tactic| walk_at "hp") => `(tactic| (repeat (first | (with_reducible assumption) | (with_reducible exact L2.upd_same) | (refine (L2.upd_ne (by first | assumption | (apply Ne.symm; assumption))).trans ?_))))
local macro_rules | `(tactic| walk_at "sd") => `(tactic| first | assumption | decide | omega | (exact My.cpow_of (by decide)) | (exact My.cdivx (b := 64) (by decide) (by decide) (by decide)) | (exact My.cdivx (by omega) (by assumption) (by decide)))
local macro_rules | `(tactic| walk_at "rX") => `(tactic| fail)
local macro_rules | `(tactic| walk_at "rV") => `(tactic| first
  | (with_reducible refine My.rd_C ?_)
  | ((with_reducible refine' My.rd_var ?k1 ?_); (case k1 => rfl))
  | (with_reducible refine My.rd_op ?_) | (with_reducible refine My.rd_cons ?_) | (with_reducible refine My.rd_nil ?_) | (with_reducible refine My.rd_CB ?_) | (with_reducible refine My.rd_call ?_)
  | (with_reducible refine My.rd_rI0 ?_)
  | (with_reducible refine My.rd_rI ?_ (by walk_at "sd"))
  | (with_reducible refine My.rd_rI ?_ ?_)
  | ((with_reducible refine' My.rd_ixL ?k1 ?k2 ?_); (case k1 => walk_at "hp"); (case k2 => rfl))
  | ((with_reducible refine' My.rd_ixT ?k1 ?k2 ?_); (case k1 => walk_at "hp"); (case k2 => rfl))
  | ((with_reducible refine' My.rd_ixTp ?k1 ?k3 ?k2 ?_); (case k1 => walk_at "tp"); (case k2 => rfl); (case k3 => rfl))
  | (with_reducible refine My.rd_un ?_) | (with_reducible refine My.rd_rU ?_)
  | (with_reducible refine My.rd_eqI ?_) | (with_reducible refine My.rd_neI ?_) | (with_reducible refine My.rd_eqB ?_) | (with_reducible refine My.rd_neB ?_) | (with_reducible refine My.rd_eqS ?_) | (with_reducible refine My.rd_neS ?_)
  | (with_reducible refine My.rd_gcd ?_) | (with_reducible refine My.rd_bits ?_)
  | ((with_reducible refine' My.rd_lenL ?_ ?k1); (case k1 => walk_at "hp"))
  | ((with_reducible refine' My.rd_lenT ?_ ?k1); (case k1 => walk_at "hp"))
  | ((with_reducible refine' My.rd_lenTp ?_ ?k1 ?k3); (case k1 => walk_at "tp"); (case k3 => rfl))
  | (with_reducible refine My.rd_int ?_) | (with_reducible refine My.rd_abs ?_) | (with_reducible refine My.rd_min ?_) | (with_reducible refine My.rd_intB ?_)
  | (with_reducible refine ⟨_, rfl, ?_⟩)
  | (with_reducible refine My.rd_len ?_ rfl)
  | (with_reducible refine My.rd_tup ?_) | (with_reducible refine My.rd_lst ?_)
  | (with_reducible refine My.isi_int_int ?_) | (with_reducible refine My.isi_int_bool ?_) | (with_reducible refine My.isi_bl_bool ?_)
  | ((with_reducible refine' My.isi_tup_tup ?k1 ?_); (case k1 => walk_at "hp"))
  | ((with_reducible refine' My.isi_tp ?k1 ?k3 ?_); (case k1 => walk_at "tp"); (case k3 => rfl))
  | (with_reducible refine My.rd_isBl ?_))
local macro_rules | `(tactic| walk_at "rS") => `(tactic| first
  | (with_reducible refine My.rd_seq ?_) | (with_reducible refine My.rd_next ?_) | (with_reducible refine My.rd_asg ?_) | (with_reducible refine My.rd_gName ?_) | (with_reducible refine My.rd_ret ?_)
  | (with_reducible refine My.rd_ifS ?_) | (with_reducible refine My.rd_test ?_) | (with_reducible refine My.rd_B ?_) | (with_reducible refine My.rd_not ?_) | (with_reducible refine My.rd_and ?_) | (with_reducible refine My.rd_or ?_)
  | (with_reducible refine My.rd_andV ?_) | (with_reducible refine My.rd_orV ?_) | (with_reducible refine My.rd_notV ?_) | (with_reducible refine My.rd_ifE ?_) | (with_reducible refine My.rd_chain ?_)
  | (with_reducible refine My.rd_gSub ?_) | ((with_reducible refine' My.rd_setL ?k1 ?k2 ?_); (case k1 => walk_at "hp"); (case k2 => rfl))
  | ((with_reducible refine' My.rd_gTup ?k1 ?k2 ?_); (case k1 => walk_at "hp"); (case k2 => rfl)) | ((with_reducible refine' My.rd_gTp ?k1 ?k3 ?k2 ?_); (case k1 => walk_at "tp"); (case k2 => rfl); (case k3 => rfl)) | (with_reducible refine My.rd_gCons ?_) | (with_reducible refine My.rd_gNil ?_)
  | (with_reducible refine My.rd_drop ?_) | (with_reducible refine My.rd_for ?_) | (with_reducible refine My.rd_rng1 ?_) | (with_reducible refine My.rd_itL ?_) | (with_reducible refine My.rd_itT ?_)
  | (with_reducible refine My.rd_sl ?_) | (with_reducible refine My.rd_part ?_) | (with_reducible refine My.rd_nopart ?_) | (with_reducible refine My.rd_bm ?_) | (with_reducible refine My.rd_yes ?_) | (with_reducible refine My.rd_lc ?_)
  | (with_reducible refine My.ite_nt ?_) | (with_reducible refine My.ite_nf ?_)
  | (with_reducible refine L2.iteF ?_) | (with_reducible refine L2.iteT ?_))
local macro_rules | `(tactic| walk_at "dc") => `(tactic| first | (with_reducible assumption) | ((with_reducible show _ = _); rfl) | omega | decide)
local macro_rules | `(tactic| walk_at "rI") => `(tactic| first
  | ((with_reducible refine' My.if_T ?k1 ?_); (case k1 => walk_at "dc"))
  | ((with_reducible refine' My.if_F ?k1 ?_); (case k1 => walk_at "dc"))
  | ((with_reducible refine' My.if_nF ?k1 ?_); (case k1 => walk_at "dc"))
  | ((with_reducible refine' My.if_nT ?k1 ?_); (case k1 => walk_at "dc")))
local macro_rules | `(tactic| walk_at "r") => `(tactic| (repeat (first | (walk_at "rV") | (walk_at "rS") | (walk_at "rI") | (walk_at "rX"))))
local macro_rules | `(tactic| walk_at "if") => `(tactic| first | (with_reducible refine My.if_dec (fun h => ?_) (fun h => ?_)) | (with_reducible refine My.if_ndec (fun h => ?_) (fun h => ?_)))
local macro_rules | `(tactic| walk_at "st") => `(tactic| (set_option pp.maxSteps 150 in trace_state))
local macro_rules | `(tactic| walk_at "rX") => `(tactic| first | (with_reducible refine My.rd_callS ?_) | (with_reducible refine My.rd_newK ?_) | (with_reducible refine My.rd_raise1 ?_) | (with_reducible refine My.rd_x1 ?_) | (with_reducible refine My.rd_fldS ?_) | (with_reducible refine My.rd_fld ?_) | (with_reducible refine My.rd_make ?_) | (with_reducible refine My.rd_enum ?_) | (with_reducible refine My.rd_enumX ?_) | (with_reducible refine My.rd_ost ?_) | (with_reducible refine My.rd_xf ?_) | (with_reducible refine My.isi_int_tup ?_))
local macro_rules | `(tactic| walk_at "sm") => `(tactic| first | (with_reducible assumption) | (with_reducible exact L2.Same.refl _) | ((with_reducible refine L2.Same.trans ?_ (by with_reducible assumption)); walk_at "sm"))
local macro_rules | `(tactic| walk_at "tp") => `(tactic| first | (with_reducible assumption) | ((with_reducible refine My.Tp.same ?_ (by with_reducible assumption)); walk_at "sm"))
local macro_rules | `(tactic| walk_at "hp") => `(tactic| ((with_reducible refine My.at_same ?_ (by with_reducible assumption)); walk_at "sm"))
local macro_rules | `(tactic| walk_at "kp") => `(tactic| first | (with_reducible assumption) | ((with_reducible refine My.IsF.same ?_ (by with_reducible assumption)); walk_at "sm") | ((with_reducible refine My.IsSt.same ?_ (by with_reducible assumption)); walk_at "sm") | ((with_reducible refine My.IsWeb.same ?_ (by with_reducible assumption)); walk_at "sm") | ((with_reducible refine My.IsMv.same ?_ (by with_reducible assumption)); walk_at "sm") | ((with_reducible refine My.Sts.same ?_ (by with_reducible assumption)); walk_at "sm") | ((with_reducible refine My.Tp.same ?_ (by with_reducible assumption)); walk_at "sm") | ((with_reducible refine My.at_same ?_ (by with_reducible assumption)); walk_at "sm"))
namespace My
open PySem PySem.Spec PyProof.Rows L2
section
variable {P : Program} {w : World} {K : PySem.W.Frag} {mg : Str → Option Value} {base : Heap} {f_is_integer f_is_row f_is_fraction f_is_some f_multiplied f_squared f_is_stall f_l_deck f_l_pick f_l_divisor f_l_made f_l_amount f_l_stall f_l_stalls f_l_others f_l_is_flag f_l_are_compared f_law f_Web_init f_Web_eq c_Web : Addr} {d_is_integer d_is_row d_is_fraction d_is_some d_multiplied d_squared d_is_stall d_l_deck d_l_pick d_l_divisor d_l_made d_l_amount d_l_stall d_l_stalls d_l_others d_l_is_flag d_l_are_compared d_law d_Web_init d_Web_eq : FuncData}
def sp_pick (M : Nat) : Sp := fun vs H Q _ => ∃ (D C : Addr) (many : Int) (c : Nat), vs = [.ref D, .int many] ∧ (0 < many ∧ many.natAbs < 2 ^ 64) ∧ Deck M D C H c ∧ c ≤ 2 ^ 40 ∧
  ∀ H' r, Fw D H H' → Deck M D C H' (c + 1) → 0 ≤ r → r < many → Q (.int r) H'
theorem ok_pick {M : Nat} (hM : 64 ≤ M) (hM2 : M ≤ 1048576) (T : Txt K mg f_is_integer f_is_row f_is_fraction f_is_some f_multiplied f_squared f_is_stall f_l_deck f_l_pick f_l_divisor f_l_made f_l_amount f_l_stall f_l_stalls f_l_others f_l_is_flag f_l_are_compared f_law f_Web_init f_Web_eq c_Web d_is_integer d_is_row d_is_fraction d_is_some d_multiplied d_squared d_is_stall d_l_deck d_l_pick d_l_divisor d_l_made d_l_amount d_l_stall d_l_stalls d_l_others d_l_is_flag d_l_are_compared d_law d_Web_init d_Web_eq) : FnOk P w K mg base CX0 1 f_l_pick d_l_pick ["_law_deck_here", "_law_many"] (sp_pick M) := by
  refine T.F_l_pick.ok sc_l_pick (fun vs H Q E h => ?_) (fun cdv A outer s H vs Q E hr h => ?_)
  · obtain ⟨D, C, many, c, rfl, _⟩ := h
    rfl
  · obtain ⟨D, C, many, c, rfl, ⟨hm0, hm1⟩, ⟨cells, pl, rest, cnt, hCD, hD, hC, hlen, hb, ⟨hr0, hr1⟩, hc0, hc1⟩, hc, q⟩ := h
    have cd : ∀ i : Int, CDivX i many := fun i => cdivx (by omega) hm1 (by decide)
    refine ⟨_, (pss_cons (ps_asg (pe_op op_add (pe_ix ix_list (pv 0) pe_int (fun _ _ => rfl)) pe_int) (pg_sub (pv 0) pe_int set_list))
      (pss_cons (ps_if (pt_cmpR op_gt (pe_ix ix_list (pv 0) pe_int (fun _ _ => rfl)) pe_int (nomark _))
        (pss_cons (ps_set (i := 2) sc_l_pick.nd rfl (by first | exact Or.inl rfl | exact Or.inr rfl) (pe_op op_mod (pe_callTy call_intN (by rfl) T.z_int (by decide +kernel) (pa_cons (pe_ix ix_list (pv 0) pe_int (fun _ _ => rfl)) pa_nil)) (pv 1)))
          (pss_cons (ps_asg (pe_op op_fdivX (pe_callTy call_intN (by rfl) T.z_int (by decide +kernel) (pa_cons (pe_ix ix_list (pv 0) pe_int (fun _ _ => rfl)) pa_nil)) (pv 1)) (pg_sub (pv 0) pe_int set_list))
          (pss_one (ps_ret (pv 2)))))
        pss_nil)
      (pss_cons (ps_set (i := 3) sc_l_pick.nd rfl (by first | exact Or.inl rfl | exact Or.inr rfl) (pe_ix ix_list (pv 0) pe_int (fun _ _ => rfl)))
      (pss_cons (ps_set (i := 4) sc_l_pick.nd rfl (by first | exact Or.inl rfl | exact Or.inr rfl) pe_int)
      (pss_cons (ps_if (pt_cmpR op_gt (pe_callB call_lenN (by rfl) T.z_len (by decide +kernel) (pa_cons (pv 3) pa_nil)) pe_int (nomark _))
        (pss_one (ps_set (i := 4) sc_l_pick.nd rfl (by first | exact Or.inl rfl | exact Or.inr rfl) (pe_ix ix_list (pv 3) (pe_op op_mod (pe_callTy call_intN (by rfl) T.z_int (by decide +kernel) (pa_cons (pe_ix ix_list (pv 0) pe_int (fun _ _ => rfl)) pa_nil)) (pe_callB call_lenN (by rfl) T.z_len (by decide +kernel) (pa_cons (pv 3) pa_nil))) (fun _ _ => rfl))))
        pss_nil)
      (pss_cons (ps_asg (pe_op op_add (pe_ix ix_list (pv 0) pe_int (fun _ _ => rfl)) pe_int) (pg_sub (pv 0) pe_int set_list))
      (pss_cons (ps_if (PW.pt (pw_and (pt_cmpR op_ge (pv 4) (pe_op op_pow pe_int pe_int) (nomark _)) (pw_and1 (pt_cmpR op_le (pe_ix ix_list (pv 0) pe_int (fun _ _ => rfl)) (pe_callB call_lenN (by rfl) T.z_len (by decide +kernel) (pa_cons (pv 3) pa_nil)) (nomark _)))))
        (pss_cons (ps_asg (pe_op op_fdivX (pe_callTy call_intN (by rfl) T.z_int (by decide +kernel) (pa_cons (pv 4) pa_nil)) (pv 1)) (pg_sub (pv 0) pe_int set_list))
          (pss_one (ps_ret (pe_op op_mod (pe_callTy call_intN (by rfl) T.z_int (by decide +kernel) (pa_cons (pv 4) pa_nil)) (pv 1)))))
        pss_nil)
      (pss_cons (ps_set (i := 5) sc_l_pick.nd rfl (by first | exact Or.inl rfl | exact Or.inr rfl) (pe_op op_mod (pe_op op_mulX (pe_callTy call_intN (by rfl) T.z_int (by decide +kernel) (pa_cons (pe_op op_add (pe_op op_add (pv 4) (pe_op op_mulX pe_int (pe_ix ix_list (pv 0) pe_int (fun _ _ => rfl)))) pe_int) pa_nil)) pe_int) pe_int))
      (pss_cons (ps_set (i := 5) sc_l_pick.nd rfl (by first | exact Or.inl rfl | exact Or.inr rfl) (pe_op op_mod (pe_op op_mulX (pv 5) (pe_op op_add (pe_op op_fdivX (pv 5) pe_int) pe_int)) pe_int))
      (pss_cons (ps_set (i := 5) sc_l_pick.nd rfl (by first | exact Or.inl rfl | exact Or.inr rfl) (pe_op op_mod (pe_op op_mulX (pv 5) (pe_op op_add (pe_op op_fdivX (pv 5) pe_int) pe_int)) pe_int))
      (pss_one (ps_ret (pe_op op_mod (pv 5) (pv 1)))))))))))))), ?_⟩
    walk_at "r"
    walk_at "if"
    · walk_at "r"
      refine q _ _ (fw_upd.trans fw_upd) ?_ (mod_rng _ hm0).1 (mod_rng _ hm0).2
      exact ⟨cells, pl, rest.fdiv many, cnt + 1, hCD, upd_same, by walk_at "hp", hlen, hb, div_small hr0 hr1 hm0, by omega, by omega⟩
    · walk_at "r"
      have hcl : 0 < (cells.map V.int).length → ∃ z, z ∈ cells ∧ atI (cells.map V.int) (pl % ((cells.map V.int).length : Nat)) = some (.int z) := fun h => at_ints (mod_rng _ (by omega)).1 (mod_rng _ (by omega)).2
      have hz0 : (0 : Int).natAbs < 2 ^ M := Nat.two_pow_pos M
      walk_at "if"
      · obtain ⟨z, hz, ez⟩ := hcl (by omega)
        have hz0 := hb z hz
        walk_at "r"
        refine ⟨_, _, _, .int z, rfl, rfl, SqL.of ?_, ez, ?_⟩
        · walk_at "hp"
        walk_at "r"
        walk_at "if"
        · walk_at "r"
          walk_at "if"
          · walk_at "r"
            have t18 := ten18
            refine q _ _ ((fw_upd.trans fw_upd).trans fw_upd) ?_ (mod_rng _ hm0).1 (mod_rng _ hm0).2
            exact ⟨cells, pl + 1, z.fdiv many, cnt + 1, hCD, upd_same, by walk_at "hp", hlen, hb, div_small (by omega) hz0 hm0, by omega, by omega⟩
          · walk_at "r"
            · refine q _ _ (fw_upd.trans fw_upd) ?_ (mod_rng _ hm0).1 (mod_rng _ hm0).2
              exact ⟨cells, pl + 1, rest, cnt + 1, hCD, upd_same, by walk_at "hp", hlen, hb, ⟨hr0, hr1⟩, by omega, by omega⟩
            · exact pick_mul2 _ (by decide) (by decide) (by decide) (by decide)
            · exact pick_mul2 _ (by decide) (by decide) (by decide) (by decide)
            · exact cmul_big (pw_big hz0 hM hc0 hc1 hc) (by decide) (by omega)
            · exact cmul_small (by decide) (by omega)
        · walk_at "r"
          · refine q _ _ (fw_upd.trans fw_upd) ?_ (mod_rng _ hm0).1 (mod_rng _ hm0).2
            exact ⟨cells, pl + 1, rest, cnt + 1, hCD, upd_same, by walk_at "hp", hlen, hb, ⟨hr0, hr1⟩, by omega, by omega⟩
          · exact pick_mul2 _ (by decide) (by decide) (by decide) (by decide)
          · exact pick_mul2 _ (by decide) (by decide) (by decide) (by decide)
          · exact cmul_big (pw_big hz0 hM hc0 hc1 hc) (by decide) (by omega)
          · exact cmul_small (by decide) (by omega)
      · walk_at "r"
        · refine q _ _ (fw_upd.trans fw_upd) ?_ (mod_rng _ hm0).1 (mod_rng _ hm0).2
          exact ⟨cells, pl + 1, rest, cnt + 1, hCD, upd_same, by walk_at "hp", hlen, hb, ⟨hr0, hr1⟩, by omega, by omega⟩
        · exact pick_mul2 _ (by decide) (by decide) (by decide) (by decide)
        · exact pick_mul2 _ (by decide) (by decide) (by decide) (by decide)
        · exact cmul_big (pw_big hz0 hM hc0 hc1 hc) (by decide) (by omega)
        · exact cmul_small (by decide) (by omega)
end
end My
namespace My
open PySem PySem.Spec PyProof.Rows L2
section
variable {P : Program} {w : World} {K : PySem.W.Frag} {mg : Str → Option Value} {base : Heap} {f_is_integer f_is_row f_is_fraction f_is_some f_multiplied f_squared f_is_stall f_l_deck f_l_pick f_l_divisor f_l_made f_l_amount f_l_stall f_l_stalls f_l_others f_l_is_flag f_l_are_compared f_law f_Web_init f_Web_eq c_Web : Addr} {d_is_integer d_is_row d_is_fraction d_is_some d_multiplied d_squared d_is_stall d_l_deck d_l_pick d_l_divisor d_l_made d_l_amount d_l_stall d_l_stalls d_l_others d_l_is_flag d_l_are_compared d_law d_Web_init d_Web_eq : FuncData}
def sp_deck (K : PySem.W.Frag) : Sp := fun vs H Q _ => ∃ (a : Addr) (ns : List Int), vs = [.ref a] ∧ SqL K H a (ns.map V.int) ∧ ns.length ≤ 63 ∧ (∀ z ∈ ns, Builtin.Int.intBits z ≤ 1048576) ∧
  ∀ H' D C, Same H H' → Deck 1048576 D C H' 0 → Q (.ref D) H'
theorem ok_l_deck (T : Txt K mg f_is_integer f_is_row f_is_fraction f_is_some f_multiplied f_squared f_is_stall f_l_deck f_l_pick f_l_divisor f_l_made f_l_amount f_l_stall f_l_stalls f_l_others f_l_is_flag f_l_are_compared f_law f_Web_init f_Web_eq c_Web d_is_integer d_is_row d_is_fraction d_is_some d_multiplied d_squared d_is_stall d_l_deck d_l_pick d_l_divisor d_l_made d_l_amount d_l_stall d_l_stalls d_l_others d_l_is_flag d_l_are_compared d_law d_Web_init d_Web_eq) : FnOk P w K mg base CX0 1 f_l_deck d_l_deck ["_law_script"] (sp_deck K) := by
  refine T.F_l_deck.ok sc_l_deck (fun vs H Q E h => ?_) (fun cdv A outer s H vs Q E hr h => ?_)
  · obtain ⟨a, ns, rfl, _⟩ := h
    rfl
  · obtain ⟨a, ns, rfl, hS, hl, hb, q⟩ := h
    refine ⟨_, (pss_one (ps_ret (pe_lst (pa_cons (pe_lc (own := [("_law_cell", 1)]) (g := gName 1) rfl sc_l_deck.nd (pi_list (pe_slice sl_list (pv 0) po_none (po_some pe_int))) (blkOk_by (own := [("_law_cell", 1)]) (N := N_l_deck) (sc := defScope s_l_deck) (by decide +kernel)) (fun _ _ _ _ _ => (pg_name (i := 1) sc_l_deck.nd rfl (by first | exact Or.inl rfl | exact Or.inr rfl))) (fun _ _ _ _ _ => pts_nil) (fun _ _ _ _ _ => (pe_callTy call_intN (by rfl) T.z_int (by decide +kernel) (pa_cons (pv 1) pa_nil)))) (pa_cons pe_int (pa_cons pe_int (pa_cons pe_int pa_nil))))))), ?_⟩
    walk_at "r"
    refine rd_slL hS (fun p np => ?_)
    refine ⟨_, rfl, ⟨_, .of upd_same⟩, fun D nD => ?_⟩
    have hDp : D ≠ p := fun e => by
      rw [e, upd_same] at nD
      cases nD
    have hcut : cutV (ns.map V.int) none (some 63) = ns.map V.int := cut_all (n := 63) (by rw [List.length_map]; exact hl)
    refine lc_list (K := K) (a := p) (xs := ns.map V.int) (fun i H' => Same H H' ∧ H' p = some (.lst (ns.map V.int)) ∧ H' D = some (.lst ((ns.take i).map V.int))) ?_ ?_ ?_ ?_
    · refine ⟨(same_upd np).trans (same_upd nD), ?_, upd_same⟩
      rw [upd_ne hDp.symm, upd_same, hcut]
    · intro i H' _ h
      exact .of h.2.1
    · rintro i x H' hx ⟨s1, s2, s3⟩
      obtain ⟨z, rfl, hz, et⟩ := take_succ_map hx
      walk_at "r"
      refine ⟨rfl, ?_⟩
      walk_at "r"
      refine ⟨_, s3, ?_, fun b o e => ?_, ?_, ?_⟩
      · rw [List.length_map, List.length_take]
        exact Nat.lt_of_le_of_lt (Nat.min_le_right _ _) (small1000 (by omega))
      · have nb : b ≠ D := fun e' => by
          rw [e', (same_upd np).free nD] at e
          cases e
        rw [upd_ne nb]
        exact s1 b o e
      · rw [upd_ne hDp.symm]
        exact s2
      · rw [upd_same, et]
    · rintro H' ⟨s1, s2, s3⟩
      have hlen : (ns.map V.int).length = ns.length := List.length_map ..
      rw [hlen, List.take_of_length_le (Nat.le_refl _)] at s3
      walk_at "r"
      intro D' nD'
      have hDD : D ≠ D' := ne_of_none s3 nD'
      refine q _ _ _ (s1.trans (same_upd nD')) ⟨ns, 0, 0, 0, hDD, upd_same, ?_, hl, fun z hz => bits_lt (hb z hz), ⟨by decide, Nat.two_pow_pos _⟩, by decide, by decide⟩
      rw [upd_ne hDD]
      exact s3
def sp_divisor : Sp := fun vs H Q _ => ∃ a b : Int, vs = [.int a, .int b] ∧ b.natAbs < 2 ^ 20000 ∧ Q (.int (a.natAbs.gcd b.natAbs : Nat)) H
theorem ok_l_divisor (T : Txt K mg f_is_integer f_is_row f_is_fraction f_is_some f_multiplied f_squared f_is_stall f_l_deck f_l_pick f_l_divisor f_l_made f_l_amount f_l_stall f_l_stalls f_l_others f_l_is_flag f_l_are_compared f_law f_Web_init f_Web_eq c_Web d_is_integer d_is_row d_is_fraction d_is_some d_multiplied d_squared d_is_stall d_l_deck d_l_pick d_l_divisor d_l_made d_l_amount d_l_stall d_l_stalls d_l_others d_l_is_flag d_l_are_compared d_law d_Web_init d_Web_eq) : FnOk P w K mg base CX0 1 f_l_divisor d_l_divisor ["_law_one", "_law_other"] sp_divisor := by
  refine T.F_l_divisor.ok sc_l_divisor (fun vs H Q E h => ?_) (fun cdv A outer s H vs Q E hr h => ?_)
  · obtain ⟨a, b, rfl, _⟩ := h
    rfl
  · obtain ⟨a, b, rfl, hb, q⟩ := h
    have hbits : Builtin.Int.intBits (b.natAbs : Nat) ≤ 20000 := by
      have h := PyProof.Rows.intBits_le (a := (b.natAbs : Int)) (by rw [Int.natAbs_natCast]; exact hb)
      exact h
    have hlt := bits_lt (z := (b.natAbs : Int)) (Nat.le_refl _)
    rw [Int.natAbs_natCast] at hlt
    refine ⟨_, (pss_cons (ps_set (i := 0) sc_l_divisor.nd rfl (by first | exact Or.inl rfl | exact Or.inr rfl) (pe_callB call_absN (by rfl) T.z_abs (by decide +kernel) (pa_cons (pv 0) pa_nil)))
      (pss_cons (ps_set (i := 1) sc_l_divisor.nd rfl (by first | exact Or.inl rfl | exact Or.inr rfl) (pe_callB call_absN (by rfl) T.z_abs (by decide +kernel) (pa_cons (pv 1) pa_nil)))
      (pss_cons (ps_for PassesOwn.never rfl (pi_range1 (by rfl) T.z_range (pa_cons (pe_op op_add (pe_op op_mulX pe_int (pe_bits (pv 1))) pe_int) pa_nil)) (pg_name (i := 2) sc_l_divisor.nd rfl (by first | exact Or.inl rfl | exact Or.inr rfl))
        (pss_cons (ps_if (pt_cmpR op_eq (pv 1) pe_int (nomark _))
            (pss_one (ps_ret (pv 0)))
            pss_nil)
          (pss_cons (ps_set (i := 3) sc_l_divisor.nd rfl (by first | exact Or.inl rfl | exact Or.inr rfl) (pe_op op_mod (pe_callTy call_intN (by rfl) T.z_int (by decide +kernel) (pa_cons (pv 0) pa_nil)) (pv 1)))
          (pss_cons (ps_set (i := 0) sc_l_divisor.nd rfl (by first | exact Or.inl rfl | exact Or.inr rfl) (pv 1))
          (pss_one (ps_set (i := 1) sc_l_divisor.nd rfl (by first | exact Or.inl rfl | exact Or.inr rfl) (pv 3)))))))
      (pss_one (ps_ret (pv 0)))))), ?_⟩
    walk_at "r"
    · refine ⟨by omega, by omega, ?_⟩
      generalize Builtin.Int.intBits (b.natAbs : Int) = k at *
      have hN : (2 * (k : Int) + 2).toNat = 2 * k + 2 := by omega
      rw [hN]
      refine for_range (lo := 0) (n := 2 * k + 2) (fun i σ H' => ∃ (x y : Nat) (t r : Option V), σ = [some (.int x), some (.int y), t, r] ∧ H' = H ∧ Euc (a.natAbs.gcd b.natAbs) b.natAbs i x y) ?_ ?_ ?_
      · exact ⟨a.natAbs, b.natAbs, none, none, rfl, rfl, ⟨rfl, by simp, fun h => absurd rfl h⟩⟩
      · rintro i σ H' hi ⟨x, y, t, r, rfl, rfl, e⟩
        walk_at "r"
        walk_at "if"
        · rename_i hy
          have hy0 : y = 0 := by omega
          have g := e.g
          rw [hy0, Nat.gcd_zero_right] at g
          walk_at "r"
          rw [g]
          exact q
        · rename_i hy
          walk_at "r"
          exact ⟨y, x % y, _, _, rfl, rfl, e.step (by omega)⟩
      · rintro σ H' ⟨x, y, t, r, rfl, rfl, e⟩
        obtain ⟨_, hx⟩ := e.done hlt
        walk_at "r"
        rw [hx]
        exact q
    · exact cmul_small (by decide) (by omega)
end
end My
namespace My
open PySem PySem.Spec PyProof.Rows L2
variable {K : PySem.W.Frag}
section
variable {P : Program} {w : World} {K : PySem.W.Frag} {mg : Str → Option Value} {base : Heap} {f_is_integer f_is_row f_is_fraction f_is_some f_multiplied f_squared f_is_stall f_l_deck f_l_pick f_l_divisor f_l_made f_l_amount f_l_stall f_l_stalls f_l_others f_l_is_flag f_l_are_compared f_law f_Web_init f_Web_eq c_Web : Addr} {d_is_integer d_is_row d_is_fraction d_is_some d_multiplied d_squared d_is_stall d_l_deck d_l_pick d_l_divisor d_l_made d_l_amount d_l_stall d_l_stalls d_l_others d_l_is_flag d_l_are_compared d_law d_Web_init d_Web_eq : FuncData}
/-- two fractions in, one out -/
def sp_two (K : PySem.W.Frag) (f : Rat → Rat → Rat) (C : Rat → Rat → Prop) : Sp := fun vs H Q _ => ∃ x y r s, vs = [x, y] ∧ IsF K H x r ∧ IsF K H y s ∧ Bd 4000 r ∧ Bd 4000 s ∧ C r s ∧ ∀ H' v, Same H H' → IsF K H' v (f r s) → Q v H'
def sp_added (K : PySem.W.Frag) : Sp := sp_two K (· + ·) fun _ _ => True
def sp_multiplied (K : PySem.W.Frag) : Sp := sp_two K (· * ·) fun _ _ => True
theorem ok_multiplied (T : Txt K mg f_is_integer f_is_row f_is_fraction f_is_some f_multiplied f_squared f_is_stall f_l_deck f_l_pick f_l_divisor f_l_made f_l_amount f_l_stall f_l_stalls f_l_others f_l_is_flag f_l_are_compared f_law f_Web_init f_Web_eq c_Web d_is_integer d_is_row d_is_fraction d_is_some d_multiplied d_squared d_is_stall d_l_deck d_l_pick d_l_divisor d_l_made d_l_amount d_l_stall d_l_stalls d_l_others d_l_is_flag d_l_are_compared d_law d_Web_init d_Web_eq) : FnOk P w K mg base CX0 1 f_multiplied d_multiplied ["one", "other"] (sp_multiplied K) := by
  refine T.F_multiplied.ok sc_multiplied (fun vs H Q E h => ?_) (fun cdv A outer s H vs Q E hr h => ?_)
  · obtain ⟨x, y, r, s, rfl, _⟩ := h
    rfl
  · obtain ⟨x, y, r, s, rfl, ⟨p1, rfl, h1⟩, ⟨p2, rfl, h2⟩, b1, b2, -, q⟩ := h
    obtain ⟨m1, m2, m3, m4, m5, m6⟩ := mul_math b1 b2 _ _ rfl rfl
    refine ⟨_, (pss_cons (ps_set (i := 2) sc_multiplied.nd rfl (by first | exact Or.inl rfl | exact Or.inr rfl) (pe_callBfun cr_gcd (by rfl) T.m_gcd (pa_cons (pe_ix ix_tup (pv 0) pe_int (fun _ _ => rfl)) (pa_cons (pe_ix ix_tup (pv 1) pe_int (fun _ _ => rfl)) pa_nil))))
      (pss_cons (ps_set (i := 3) sc_multiplied.nd rfl (by first | exact Or.inl rfl | exact Or.inr rfl) (pe_callBfun cr_gcd (by rfl) T.m_gcd (pa_cons (pe_ix ix_tup (pv 1) pe_int (fun _ _ => rfl)) (pa_cons (pe_ix ix_tup (pv 0) pe_int (fun _ _ => rfl)) pa_nil))))
      (pss_one (ps_ret (pe_tup (pa_cons (pe_op op_mulX (pe_op op_fdivX (pe_ix ix_tup (pv 0) pe_int (fun _ _ => rfl)) (pv 2)) (pe_op op_fdivX (pe_ix ix_tup (pv 1) pe_int (fun _ _ => rfl)) (pv 3))) (pa_cons (pe_op op_mulX (pe_op op_fdivX (pe_ix ix_tup (pv 0) pe_int (fun _ _ => rfl)) (pv 3)) (pe_op op_fdivX (pe_ix ix_tup (pv 1) pe_int (fun _ _ => rfl)) (pv 2))) pa_nil))))))), ?_⟩
    walk_at "r"
    · intro p np
      exact q _ _ (same_upd np) (isF_new m5 m6)
    all_goals first | assumption | exact m1 _ | exact m2 _
def sp_negated (K : PySem.W.Frag) : Sp := fun vs H Q _ => ∃ x r, vs = [x] ∧ IsF K H x r ∧ ∀ H' v, Same H H' → IsF K H' v (-r) → Q v H'
def sp_lessened (K : PySem.W.Frag) : Sp := sp_two K (· - ·) fun _ _ => True
def sp_divided (K : PySem.W.Frag) : Sp := sp_two K (· / ·) fun _ s => s ≠ 0
end
end My
namespace My
open PySem PySem.Spec PyProof.Rows L2
variable {K : PySem.W.Frag}
section
variable {P : Program} {w : World} {K : PySem.W.Frag} {mg : Str → Option Value} {base : Heap} {f_is_integer f_is_row f_is_fraction f_is_some f_multiplied f_squared f_is_stall f_l_deck f_l_pick f_l_divisor f_l_made f_l_amount f_l_stall f_l_stalls f_l_others f_l_is_flag f_l_are_compared f_law f_Web_init f_Web_eq c_Web : Addr} {d_is_integer d_is_row d_is_fraction d_is_some d_multiplied d_squared d_is_stall d_l_deck d_l_pick d_l_divisor d_l_made d_l_amount d_l_stall d_l_stalls d_l_others d_l_is_flag d_l_are_compared d_law d_Web_init d_Web_eq : FuncData}
def sp_is_integer : Sp := fun vs H Q _ => ∃ i : Int, vs = [.int i] ∧ Q (.bl true) H
theorem ok_is_integer (T : Txt K mg f_is_integer f_is_row f_is_fraction f_is_some f_multiplied f_squared f_is_stall f_l_deck f_l_pick f_l_divisor f_l_made f_l_amount f_l_stall f_l_stalls f_l_others f_l_is_flag f_l_are_compared f_law f_Web_init f_Web_eq c_Web d_is_integer d_is_row d_is_fraction d_is_some d_multiplied d_squared d_is_stall d_l_deck d_l_pick d_l_divisor d_l_made d_l_amount d_l_stall d_l_stalls d_l_others d_l_is_flag d_l_are_compared d_law d_Web_init d_Web_eq) : FnOk P w K mg base CX0 1 f_is_integer d_is_integer ["thing"] sp_is_integer := by
  refine T.F_is_integer.ok sc_is_integer (fun vs H Q E h => ?_) (fun cdv A outer s H vs Q E hr h => ?_)
  · obtain ⟨i, rfl, _⟩ := h
    rfl
  · obtain ⟨i, rfl, q⟩ := h
    refine ⟨_, (pss_one (ps_ret (pe_and (pe_callB call_isi (by rfl) T.z_isinstance (by decide +kernel) (pa_cons (pv 0) (pa_cons (pe_bltn (v := .ty "int") (u := .type "int") (by rfl) T.z_int (by decide +kernel) rfl) pa_nil))) (pe_one (pe_not (pe_callB call_isi (by rfl) T.z_isinstance (by decide +kernel) (pa_cons (pv 0) (pa_cons (pe_bltn (v := .ty "bool") (u := .type "bool") (by rfl) T.z_bool (by decide +kernel) rfl) pa_nil)))))))), ?_⟩
    walk_at "r"
    exact q
def sp_is_fraction (K : PySem.W.Frag) : Sp := fun vs H Q _ => ∃ v r, vs = [v] ∧ IsF K H v r ∧ Q (.bl true) H
theorem ok_is_fraction (T : Txt K mg f_is_integer f_is_row f_is_fraction f_is_some f_multiplied f_squared f_is_stall f_l_deck f_l_pick f_l_divisor f_l_made f_l_amount f_l_stall f_l_stalls f_l_others f_l_is_flag f_l_are_compared f_law f_Web_init f_Web_eq c_Web d_is_integer d_is_row d_is_fraction d_is_some d_multiplied d_squared d_is_stall d_l_deck d_l_pick d_l_divisor d_l_made d_l_amount d_l_stall d_l_stalls d_l_others d_l_is_flag d_l_are_compared d_law d_Web_init d_Web_eq) : FnOk P w K mg base CX0 2 f_is_fraction d_is_fraction ["thing"] (sp_is_fraction K) := by
  have G_is_integer : FnOk P w K mg base CX0 1 f_is_integer d_is_integer ["thing"] sp_is_integer := ok_is_integer T
  refine T.F_is_fraction.ok sc_is_fraction (fun vs H Q E h => ?_) (fun cdv A outer s H vs Q E hr h => ?_)
  · obtain ⟨v, r, rfl, _⟩ := h
    rfl
  · obtain ⟨v, r, rfl, ⟨p, rfl, hp⟩, q⟩ := h
    refine ⟨_, (pss_cons (ps_if (PW.pt (pw_or (pt_not (pt_val (pe_callB call_isi (by rfl) T.z_isinstance (by decide +kernel) (pa_cons (pv 0) (pa_cons (pe_bltn (v := .ty "tuple") (u := .type "tuple") (by rfl) T.z_tuple (by decide +kernel) rfl) pa_nil))))) (pw_or1 (pt_cmpR op_ne (pe_callB call_lenN (by rfl) T.z_len (by decide +kernel) (pa_cons (pv 0) pa_nil)) pe_int (nomark _)))))
        (pss_one (ps_ret pe_bl))
        pss_nil)
      (pss_cons (ps_asg (pv 0) (pg_tup rfl (pgs_cons (pg_name (i := 1) sc_is_fraction.nd rfl (by first | exact Or.inl rfl | exact Or.inr rfl)) (pgs_cons (pg_name (i := 2) sc_is_fraction.nd rfl (by first | exact Or.inl rfl | exact Or.inr rfl)) pgs_nil))))
      (pss_cons (ps_if (PW.pt (pw_or (pt_not (pt_val (pe_call G_is_integer (hr.mono (by decide)) (by rfl) T.g_is_integer T.k_is_integer T.b_is_integer .nil pass0 (pa_cons (pv 1) pa_nil)))) (pw_or1 (pt_not (pt_val (pe_call G_is_integer (hr.mono (by decide)) (by rfl) T.g_is_integer T.k_is_integer T.b_is_integer .nil pass0 (pa_cons (pv 2) pa_nil)))))))
        (pss_one (ps_ret pe_bl))
        pss_nil)
      (pss_one (ps_ret (pe_and (pe_cmpR op_ge (pv 2) pe_int (nomark _)) (pe_one (pe_cmpR op_eq (pe_callBfun cr_gcd (by rfl) T.m_gcd (pa_cons (pv 1) (pa_cons (pv 2) pa_nil))) pe_int (nomark _))))))))), ?_⟩
    walk_at "r"
    refine ⟨_, rfl, ?_⟩
    walk_at "r"
    refine ⟨_, rfl, ?_⟩
    walk_at "r"
    have h1 := den_pos r
    have h2 := gcd_den r
    walk_at "r"
    rw [Int.natAbs_natCast, h2]
    exact q
end
end My
namespace My
open PySem PySem.Spec PyProof.Rows L2
variable {K : PySem.W.Frag}
theorem num_pos' {r : Rat} (h : 0 < r) : 0 < r.num := by
  rw [Rat.lt_iff] at h
  simpa using h
theorem sq_num (s : Rat) : (s * s).num = s.num * s.num ∧ (s * s).den = s.den * s.den := by
  obtain ⟨h1, h2⟩ := mul_form s s 1 1 (gcd_den s).symm (gcd_den s).symm
  rw [h1, h2]
  simp
section
variable {P : Program} {w : World} {K : PySem.W.Frag} {mg : Str → Option Value} {base : Heap} {f_is_integer f_is_row f_is_fraction f_is_some f_multiplied f_squared f_is_stall f_l_deck f_l_pick f_l_divisor f_l_made f_l_amount f_l_stall f_l_stalls f_l_others f_l_is_flag f_l_are_compared f_law f_Web_init f_Web_eq c_Web : Addr} {d_is_integer d_is_row d_is_fraction d_is_some d_multiplied d_squared d_is_stall d_l_deck d_l_pick d_l_divisor d_l_made d_l_amount d_l_stall d_l_stalls d_l_others d_l_is_flag d_l_are_compared d_law d_Web_init d_Web_eq : FuncData}
def sp_is_some (K : PySem.W.Frag) : Sp := fun vs H Q _ => ∃ v r, vs = [v] ∧ IsF K H v r ∧ 0 < r ∧ Q (.bl true) H
theorem ok_is_some (T : Txt K mg f_is_integer f_is_row f_is_fraction f_is_some f_multiplied f_squared f_is_stall f_l_deck f_l_pick f_l_divisor f_l_made f_l_amount f_l_stall f_l_stalls f_l_others f_l_is_flag f_l_are_compared f_law f_Web_init f_Web_eq c_Web d_is_integer d_is_row d_is_fraction d_is_some d_multiplied d_squared d_is_stall d_l_deck d_l_pick d_l_divisor d_l_made d_l_amount d_l_stall d_l_stalls d_l_others d_l_is_flag d_l_are_compared d_law d_Web_init d_Web_eq) : FnOk P w K mg base CX0 3 f_is_some d_is_some ["thing"] (sp_is_some K) := by
  have G_is_fraction : FnOk P w K mg base CX0 2 f_is_fraction d_is_fraction ["thing"] (sp_is_fraction K) := ok_is_fraction T
  refine T.F_is_some.ok sc_is_some (fun vs H Q E h => ?_) (fun cdv A outer s H vs Q E hr h => ?_)
  · obtain ⟨v, r, rfl, _⟩ := h
    rfl
  · obtain ⟨v, r, rfl, h, r0, q⟩ := h
    obtain ⟨p, rfl, hp⟩ := id h
    have hn := num_pos' r0
    refine ⟨_, (pss_one (ps_ret (pe_and (pe_call G_is_fraction (hr.mono (by decide)) (by rfl) T.g_is_fraction T.k_is_fraction T.b_is_fraction .nil pass0 (pa_cons (pv 0) pa_nil)) (pe_one (pe_cmpR op_gt (pe_ix ix_tup (pv 0) pe_int (fun _ _ => rfl)) pe_int (nomark _)))))), ?_⟩
    walk_at "r"
    refine ⟨_, _, rfl, h, ?_⟩
    walk_at "r"
    rw [decide_eq_true hn]
    exact q
def sp_squared (K : PySem.W.Frag) : Sp := fun vs H Q _ => ∃ v r, vs = [v] ∧ IsF K H v r ∧ Bd 4000 r ∧ ∀ H' u, Same H H' → IsF K H' u (r * r) → Q u H'
theorem ok_squared (T : Txt K mg f_is_integer f_is_row f_is_fraction f_is_some f_multiplied f_squared f_is_stall f_l_deck f_l_pick f_l_divisor f_l_made f_l_amount f_l_stall f_l_stalls f_l_others f_l_is_flag f_l_are_compared f_law f_Web_init f_Web_eq c_Web d_is_integer d_is_row d_is_fraction d_is_some d_multiplied d_squared d_is_stall d_l_deck d_l_pick d_l_divisor d_l_made d_l_amount d_l_stall d_l_stalls d_l_others d_l_is_flag d_l_are_compared d_law d_Web_init d_Web_eq) : FnOk P w K mg base CX0 1 f_squared d_squared ["one"] (sp_squared K) := by
  refine T.F_squared.ok sc_squared (fun vs H Q E h => ?_) (fun cdv A outer s H vs Q E hr h => ?_)
  · obtain ⟨v, r, rfl, _⟩ := h
    rfl
  · obtain ⟨v, r, rfl, ⟨p, rfl, hp⟩, b, q⟩ := h
    obtain ⟨e1, e2⟩ := sq_num r
    refine ⟨_, (pss_one (ps_ret (pe_tup (pa_cons (pe_op op_mulX (pe_ix ix_tup (pv 0) pe_int (fun _ _ => rfl)) (pe_ix ix_tup (pv 0) pe_int (fun _ _ => rfl))) (pa_cons (pe_op op_mulX (pe_ix ix_tup (pv 0) pe_int (fun _ _ => rfl)) (pe_ix ix_tup (pv 0) pe_int (fun _ _ => rfl))) pa_nil))))), ?_⟩
    walk_at "r"
    · intro p2 n2
      exact q _ _ (same_upd n2) (isF_new e1 (by rw [e2, Int.natCast_mul]))
    · exact cmx (by rw [Int.natAbs_natCast]; exact p46 b.2) (by rw [Int.natAbs_natCast]; exact p46 b.2)
    · exact cmx (p46 b.1) (p46 b.1)
def sp_is_stall (K : PySem.W.Frag) : Sp := fun vs H Q _ => ∃ (n : Nat) (x : V) (s : Stl), vs = [.int (n : Nat), x] ∧ IsSt K H x s ∧ OkSt n s ∧ BdSt 4000 s ∧ ∀ H', Same H H' → Q (.bl true) H'
theorem ok_is_stall (T : Txt K mg f_is_integer f_is_row f_is_fraction f_is_some f_multiplied f_squared f_is_stall f_l_deck f_l_pick f_l_divisor f_l_made f_l_amount f_l_stall f_l_stalls f_l_others f_l_is_flag f_l_are_compared f_law f_Web_init f_Web_eq c_Web d_is_integer d_is_row d_is_fraction d_is_some d_multiplied d_squared d_is_stall d_l_deck d_l_pick d_l_divisor d_l_made d_l_amount d_l_stall d_l_stalls d_l_others d_l_is_flag d_l_are_compared d_law d_Web_init d_Web_eq) : FnOk P w K mg base CX0 4 f_is_stall d_is_stall ["wares", "thing"] (sp_is_stall K) := by
  have G_is_integer : FnOk P w K mg base CX0 1 f_is_integer d_is_integer ["thing"] sp_is_integer := ok_is_integer T
  have G_is_some : FnOk P w K mg base CX0 3 f_is_some d_is_some ["thing"] (sp_is_some K) := ok_is_some T
  have G_multiplied : FnOk P w K mg base CX0 1 f_multiplied d_multiplied ["one", "other"] (sp_multiplied K) := ok_multiplied T
  have G_squared : FnOk P w K mg base CX0 1 f_squared d_squared ["one"] (sp_squared K) := ok_squared T
  refine T.F_is_stall.ok sc_is_stall (fun vs H Q E h => ?_) (fun cdv A outer s H vs Q E hr h => ?_)
  · obtain ⟨n, x, s, rfl, _⟩ := h
    rfl
  · obtain ⟨n, x, s, rfl, ⟨p, va, vb, vr, rfl, hp, ha, hb, hr'⟩, ok, bd, q⟩ := h
    have hu := ok.u
    have hv := ok.v
    have hne := ok.ne
    refine ⟨_, (pss_cons (ps_if (PW.pt (pw_or (pt_not (pt_val (pe_callB call_isi (by rfl) T.z_isinstance (by decide +kernel) (pa_cons (pv 1) (pa_cons (pe_bltn (v := .ty "tuple") (u := .type "tuple") (by rfl) T.z_tuple (by decide +kernel) rfl) pa_nil))))) (pw_or1 (pt_cmpR op_ne (pe_callB call_lenN (by rfl) T.z_len (by decide +kernel) (pa_cons (pv 1) pa_nil)) pe_int (nomark _)))))
        (pss_one (ps_ret pe_bl))
        pss_nil)
      (pss_cons (ps_asg (pv 1) (pg_tup rfl (pgs_cons (pg_name (i := 2) sc_is_stall.nd rfl (by first | exact Or.inl rfl | exact Or.inr rfl)) (pgs_cons (pg_name (i := 3) sc_is_stall.nd rfl (by first | exact Or.inl rfl | exact Or.inr rfl)) (pgs_cons (pg_name (i := 4) sc_is_stall.nd rfl (by first | exact Or.inl rfl | exact Or.inr rfl)) (pgs_cons (pg_name (i := 5) sc_is_stall.nd rfl (by first | exact Or.inl rfl | exact Or.inr rfl)) (pgs_cons (pg_name (i := 6) sc_is_stall.nd rfl (by first | exact Or.inl rfl | exact Or.inr rfl)) pgs_nil)))))))
      (pss_cons (ps_for PassesOwn.never rfl (pi_tup (pe_tup (pa_cons (pv 2) (pa_cons (pv 3) pa_nil)))) (pg_name (i := 7) sc_is_stall.nd rfl (by first | exact Or.inl rfl | exact Or.inr rfl))
        (pss_one (ps_if (PW.pt (pw_or (pt_not (pt_val (pe_call G_is_integer (hr.mono (by decide)) (by rfl) T.g_is_integer T.k_is_integer T.b_is_integer .nil pass0 (pa_cons (pv 7) pa_nil)))) (pw_or1 (pt_not (pt_chain op_le op_lt pe_int (pv 7) (pv 0))))))
            (pss_one (ps_ret pe_bl))
            pss_nil)))
      (pss_cons (ps_if (PW.pt (pw_or (pt_cmpR op_eq (pv 2) (pv 3) (nomark _)) (pw_or1 (pt_not (PW.pt (pw_and (pt_val (pe_call G_is_some (hr.mono (by decide)) (by rfl) T.g_is_some T.k_is_some T.b_is_some .nil pass0 (pa_cons (pv 4) pa_nil))) (pw_and (pt_val (pe_call G_is_some (hr.mono (by decide)) (by rfl) T.g_is_some T.k_is_some T.b_is_some .nil pass0 (pa_cons (pv 5) pa_nil))) (pw_and1 (pt_val (pe_call G_is_some (hr.mono (by decide)) (by rfl) T.g_is_some T.k_is_some T.b_is_some .nil pass0 (pa_cons (pv 6) pa_nil)))))))))))
        (pss_one (ps_ret pe_bl))
        pss_nil)
      (pss_one (ps_ret (pe_cmpR (op_eqD hr.units) (pe_call G_multiplied (hr.mono (by decide)) (by rfl) T.g_multiplied T.k_multiplied T.b_multiplied .nil pass0 (pa_cons (pv 4) (pa_cons (pv 5) pa_nil))) (pe_call G_squared (hr.mono (by decide)) (by rfl) T.g_squared T.k_squared T.b_squared .nil pass0 (pa_cons (pv 6) pa_nil)) (nomark _)))))))), ?_⟩
    walk_at "r"
    intro t nt
    have sm := same_upd (o := .tup [V.int (s.u : Nat), .int (s.v : Nat)]) nt
    have ht : upd H t (.tup [V.int (s.u : Nat), .int (s.v : Nat)]) t = some (.tup [V.int (s.u : Nat), .int (s.v : Nat)]) := upd_same
    generalize upd H t (.tup [V.int (s.u : Nat), .int (s.v : Nat)]) = H1 at *
    have ha := ha.same sm
    have hb := hb.same sm
    have hr' := hr'.same sm
    refine ⟨_, rfl, ⟨_, .of ht⟩, ?_⟩
    refine for_tup (K := K) (a := t) (xs := [V.int (s.u : Nat), .int (s.v : Nat)]) (fun i σ H' => ∃ t7, σ = [some (.int (n : Nat)), some (.ref p), some (.int (s.u : Nat)), some (.int (s.v : Nat)), some va, some vb, some vr, t7] ∧ H' = H1) ⟨_, rfl, rfl⟩ ?_ ?_ ?_
    · rintro i σ H' _ ⟨t7, rfl, rfl⟩
      exact .of ht
    · rintro i z σ H' hz ⟨t7, rfl, rfl⟩
      obtain ⟨k, rfl, hk⟩ : ∃ k : Nat, z = .int (k : Nat) ∧ k < n := by
        match i, hz with
        | 0, hz => exact ⟨_, (Option.some.inj hz).symm, hu⟩
        | 1, hz => exact ⟨_, (Option.some.inj hz).symm, hv⟩
      walk_at "r"
      refine ⟨_, rfl, ?_⟩
      walk_at "r"
      exact rfl
    · rintro σ H' ⟨t7, rfl, rfl⟩
      walk_at "r"
      refine ⟨_, _, rfl, ha, ok.a, ?_⟩
      walk_at "r"
      refine ⟨_, _, rfl, hb, ok.b, ?_⟩
      walk_at "r"
      refine ⟨_, _, rfl, hr', ok.r, ?_⟩
      walk_at "r"
      refine ⟨_, _, _, _, rfl, ha, hb, bd.a, bd.b, trivial, fun H2 x1 s1 h1 => ?_⟩
      walk_at "r"
      refine ⟨_, _, rfl, hr'.same s1, bd.r, fun H3 x2 s2 h2 => ?_⟩
      walk_at "r"
      refine eqF (h1.same s2) h2 ?_
      rw [decide_eq_true ok.e]
      exact q _ ((sm.trans s1).trans s2)
def sp_is_row : Sp := fun vs H Q _ => ∃ L xs, vs = [.ref L] ∧ (H L = some (.lst xs) ∨ H L = some (.tup xs)) ∧ ∀ H', Same H H' → Q (.bl true) H'
theorem ok_is_row (T : Txt K mg f_is_integer f_is_row f_is_fraction f_is_some f_multiplied f_squared f_is_stall f_l_deck f_l_pick f_l_divisor f_l_made f_l_amount f_l_stall f_l_stalls f_l_others f_l_is_flag f_l_are_compared f_law f_Web_init f_Web_eq c_Web d_is_integer d_is_row d_is_fraction d_is_some d_multiplied d_squared d_is_stall d_l_deck d_l_pick d_l_divisor d_l_made d_l_amount d_l_stall d_l_stalls d_l_others d_l_is_flag d_l_are_compared d_law d_Web_init d_Web_eq) : FnOk P w K mg base CX0 1 f_is_row d_is_row ["thing"] sp_is_row := by
  refine T.F_is_row.ok sc_is_row (fun vs H Q E h => ?_) (fun cdv A outer s H vs Q E hr h => ?_)
  · obtain ⟨L, xs, rfl, _⟩ := h
    rfl
  · obtain ⟨L, xs, rfl, h, q⟩ := h
    refine ⟨_, (pss_one (ps_ret (pe_callB call_isiT (by rfl) T.z_isinstance (by decide +kernel) (pa_cons (pv 0) (pa_cons (pe_tup (pa_cons (pe_bltn (v := .ty "list") (u := .type "list") (by rfl) T.z_list (by decide +kernel) rfl) (pa_cons (pe_bltn (v := .ty "tuple") (u := .type "tuple") (by rfl) T.z_tuple (by decide +kernel) rfl) pa_nil))) pa_nil))))), ?_⟩
    walk_at "r"
    intro p np
    walk_at "r"
    rcases h with h | h
    · refine ⟨_, _, _, _, _, true, rfl, upd_same, .cons (.ty _) (.cons (.ty _) .nil), .base (.lst (same_upd np _ _ h)), kitAny_cons (b := true) (kit_ty (by decide +kernel)) (fun z => Bool.noConfusion z) (fun _ => rfl), ?_⟩
      exact q _ (same_upd np)
    · refine ⟨_, _, _, _, _, true, rfl, upd_same, .cons (.ty _) (.cons (.ty _) .nil), .base (.tup (same_upd np _ _ h)), kitAny_cons (b := false) (kit_ty (by decide +kernel)) (fun _ => kitAny_cons (b := true) (kit_ty (by decide +kernel)) (fun z => Bool.noConfusion z) (fun _ => rfl)) (fun z => Bool.noConfusion z), ?_⟩
      exact q _ (same_upd np)
end
end My
namespace My
open PySem PySem.Spec PyProof.Rows L2
variable {K : PySem.W.Frag}
section
variable {P : Program} {w : World} {K : PySem.W.Frag} {mg : Str → Option Value} {base : Heap} {f_is_integer f_is_row f_is_fraction f_is_some f_multiplied f_squared f_is_stall f_l_deck f_l_pick f_l_divisor f_l_made f_l_amount f_l_stall f_l_stalls f_l_others f_l_is_flag f_l_are_compared f_law f_Web_init f_Web_eq c_Web : Addr} {d_is_integer d_is_row d_is_fraction d_is_some d_multiplied d_squared d_is_stall d_l_deck d_l_pick d_l_divisor d_l_made d_l_amount d_l_stall d_l_stalls d_l_others d_l_is_flag d_l_are_compared d_law d_Web_init d_Web_eq : FuncData}
/-- what Web(n, stalls) makes of right stalls -/
def sp_web (K : PySem.W.Frag) (C : Addr) : Sp := fun vs H Q _ => ∃ (p dx L : Addr) (n : Nat) (xs : List V) (ss : List Stl), vs = [.ref p, .int (n : Nat), .ref L] ∧ H p = some (.ins C dx []) ∧ (H L = some (.lst xs) ∨ H L = some (.tup xs)) ∧ 1 ≤ n ∧ n ≤ 8 ∧ xs.length ≤ 16 ∧
  Sts K H xs ss ∧ (∀ s ∈ ss, OkSt n s ∧ BdSt 4000 s) ∧ ∀ H', IsWeb K C H' (.ref p) n ss → (∀ b o, H b = some o → b ≠ p → H' b = some o) → Q .non H'
theorem ok_Web_init (T : Txt K mg f_is_integer f_is_row f_is_fraction f_is_some f_multiplied f_squared f_is_stall f_l_deck f_l_pick f_l_divisor f_l_made f_l_amount f_l_stall f_l_stalls f_l_others f_l_is_flag f_l_are_compared f_law f_Web_init f_Web_eq c_Web d_is_integer d_is_row d_is_fraction d_is_some d_multiplied d_squared d_is_stall d_l_deck d_l_pick d_l_divisor d_l_made d_l_amount d_l_stall d_l_stalls d_l_others d_l_is_flag d_l_are_compared d_law d_Web_init d_Web_eq) : FnOk P w K mg base CX0 5 f_Web_init d_Web_init ["self", "wares", "stalls"] (sp_web K c_Web) := by
  have G_is_integer : FnOk P w K mg base CX0 1 f_is_integer d_is_integer ["thing"] sp_is_integer := ok_is_integer T
  have G_is_row : FnOk P w K mg base CX0 1 f_is_row d_is_row ["thing"] sp_is_row := ok_is_row T
  have G_is_stall : FnOk P w K mg base CX0 4 f_is_stall d_is_stall ["wares", "thing"] (sp_is_stall K) := ok_is_stall T
  refine T.F_Web_init.ok sc_Web_init (fun vs H Q E h => ?_) (fun cdv A outer s H vs Q E hr h => ?_)
  · obtain ⟨p, dx, L, n, xs, ss, rfl, _⟩ := h
    rfl
  · obtain ⟨p, dx, L, n, xs, ss, rfl, hp, hL, hn1, hn8, hlen, hss, hok, q⟩ := h
    refine ⟨_, (pss_cons (ps_if (PW.pt (pw_or (pt_not (pt_val (pe_call G_is_integer (hr.mono (by decide)) (by rfl) T.g_is_integer T.k_is_integer T.b_is_integer .nil pass0 (pa_cons (pv 1) pa_nil)))) (pw_or1 (pt_not (pt_chain op_le op_le pe_int (pv 1) (C8.pe_gc (by rfl) T.v_MOST_WARES))))))
        (pss_one ps_never)
        pss_nil)
      (pss_cons (ps_if (PW.pt (pw_or (pt_not (pt_val (pe_call G_is_row (hr.mono (by decide)) (by rfl) T.g_is_row T.k_is_row T.b_is_row .nil pass0 (pa_cons (pv 2) pa_nil)))) (pw_or1 (pt_cmpR op_gt (pe_callB call_lenN (by rfl) T.z_len (by decide +kernel) (pa_cons (pv 2) pa_nil)) (C8.pe_gc (by rfl) T.v_MOST_STALLS) (nomark _)))))
        (pss_one ps_never)
        pss_nil)
      (pss_cons (ps_for PassesOwn.never rfl (pi_enumX (by rfl) T.z_enumerate (pa_cons (pv 2) pa_nil)) (pg_tup rfl (pgs_cons (pg_name (i := 3) sc_Web_init.nd rfl (by first | exact Or.inl rfl | exact Or.inr rfl)) (pgs_cons (pg_name (i := 4) sc_Web_init.nd rfl (by first | exact Or.inl rfl | exact Or.inr rfl)) pgs_nil)))
        (pss_one (ps_if (pt_not (pt_val (pe_call G_is_stall (hr.mono (by decide)) (by rfl) T.g_is_stall T.k_is_stall T.b_is_stall .nil pass0 (pa_cons (pv 1) (pa_cons (pv 4) pa_nil)))))
            (pss_one ps_never)
            pss_nil)))
      (pss_cons (ps_fld (pv 0) (pv 1) rfl)
      (pss_one (ps_fld (pv 0) (pe_callTy call_tuple_of (by rfl) T.z_tuple (by decide +kernel) (pa_cons (pv 2) pa_nil)) rfl)))))), ?_⟩
    walk_at "r"
    refine ⟨_, rfl, ?_⟩
    walk_at "r"
    refine ⟨_, _, rfl, hL, fun H1 s1 => ?_⟩
    have hL1 : H1 L = some (.lst xs) ∨ H1 L = some (.tup xs) := hL.imp (fun h => s1 _ _ h) fun h => s1 _ _ h
    have hSq : ∀ {H2 : Hp}, Same H1 H2 → SqL K H2 L xs ∨ SqT K H2 L xs := fun f => hL1.imp (fun h => .of (f _ _ h)) fun h => .of (f _ _ h)
    walk_at "r"
    refine ⟨L, xs, rfl, hSq (Same.refl _), ?_⟩
    walk_at "r"
    refine ⟨L, xs, rfl, ?_⟩
    have nL : L ≠ p := fun z => by
      rw [z, hp] at hL
      rcases hL with z | z <;> cases z
    rcases hL1 with h | h
    · refine .inl ⟨.of h, ?_⟩
      refine for_enum (K := K) (a := L) (xs := xs) (fun i σ H' => ∃ t3 t4, σ = [some (.ref p), some (.int (n : Nat)), some (.ref L), t3, t4] ∧ Same H1 H') ⟨_, _, rfl, Same.refl _⟩ ?_ ?_ ?_
      · rintro i σ H' _ ⟨t3, t4, rfl, s'⟩
        exact .of (s' _ _ h)
      · rintro i x T2 σ H' hx ⟨t3, t4, rfl, s'⟩ nT
        obtain ⟨s0, hs0, hst⟩ := hss.at hx
        have sm := same_upd (o := .tup [.int (i : Nat), x]) nT
        obtain ⟨ok0, bd0⟩ := hok _ (List.mem_of_getElem? hs0)
        walk_at "r"
        refine ⟨n, x, s0, rfl, hst.same ((s1.trans s').trans sm), ok0, bd0, fun H3 s3 => ?_⟩
        walk_at "r"
        exact ⟨_, _, rfl, (s'.trans sm).trans s3⟩
      · rintro σ H2 ⟨t3, t4, rfl, s'⟩
        have hp2 := s' _ _ (s1 _ _ hp)
        have hL2 := s' _ _ h
        have k2 := s1.trans s'
        walk_at "r"
        refine ⟨_, _, _, _, rfl, hp2, T.w_Web.it.cl, T.n_Web_wares, (by decide), ?_⟩
        walk_at "r"
        refine ⟨_, _, rfl, .inl ⟨.of ((upd_ne nL).trans hL2), fun l nl => ?_⟩⟩
        have hlp : l ≠ p := fun z => by
          rw [z, upd_same] at nl
          cases nl
        have nl2 : H2 l = none := by
          rw [upd_ne hlp] at nl
          exact nl
        walk_at "r"
        refine ⟨_, _, _, _, rfl, (upd_ne (Ne.symm hlp)).trans upd_same, T.w_Web.it.cl, T.n_Web_stalls, (by show 1 < 1000; decide), ?_⟩
        have keep : ∀ b o, H b = some o → b ≠ p → upd (upd (upd H2 p (.ins c_Web dx (putF "wares" (.int (n : Nat)) []))) l (.tup xs)) p (.ins c_Web dx (putF "stalls" (.ref l) (putF "wares" (.int (n : Nat)) []))) b = some o := fun b o hb hbp => by
          have hbl : b ≠ l := fun z => by
            rw [← z, k2 _ _ hb] at nl2
            cases nl2
          rw [upd_ne hbp, upd_ne hbl, upd_ne hbp]
          exact k2 _ _ hb
        refine q _ ⟨p, dx, l, xs, rfl, by rw [upd_same, wF_new], (upd_ne hlp).trans upd_same, hss.ts fun b ys hb => keep b _ hb ?_⟩ keep
        intro z
        rw [z, hp] at hb
        cases hb
    · refine .inr ⟨.of h, ?_⟩
      refine for_enumT (K := K) (a := L) (xs := xs) (fun i σ H' => ∃ t3 t4, σ = [some (.ref p), some (.int (n : Nat)), some (.ref L), t3, t4] ∧ Same H1 H') ⟨_, _, rfl, Same.refl _⟩ ?_ ?_ ?_
      · rintro i σ H' _ ⟨t3, t4, rfl, s'⟩
        exact .of (s' _ _ h)
      · rintro i x T2 σ H' hx ⟨t3, t4, rfl, s'⟩ nT
        obtain ⟨s0, hs0, hst⟩ := hss.at hx
        have sm := same_upd (o := .tup [.int (i : Nat), x]) nT
        obtain ⟨ok0, bd0⟩ := hok _ (List.mem_of_getElem? hs0)
        walk_at "r"
        refine ⟨n, x, s0, rfl, hst.same ((s1.trans s').trans sm), ok0, bd0, fun H3 s3 => ?_⟩
        walk_at "r"
        exact ⟨_, _, rfl, (s'.trans sm).trans s3⟩
      · rintro σ H2 ⟨t3, t4, rfl, s'⟩
        have hp2 := s' _ _ (s1 _ _ hp)
        have hL2 := s' _ _ h
        have k2 := s1.trans s'
        walk_at "r"
        refine ⟨_, _, _, _, rfl, hp2, T.w_Web.it.cl, T.n_Web_wares, (by decide), ?_⟩
        walk_at "r"
        refine ⟨_, _, rfl, .inr ⟨.of ((upd_ne nL).trans hL2), ?_⟩⟩
        walk_at "r"
        refine ⟨_, _, _, _, rfl, upd_same, T.w_Web.it.cl, T.n_Web_stalls, (by show 1 < 1000; decide), ?_⟩
        have keep : ∀ b o, H b = some o → b ≠ p → upd (upd H2 p (.ins c_Web dx (putF "wares" (.int (n : Nat)) []))) p (.ins c_Web dx (putF "stalls" (.ref L) (putF "wares" (.int (n : Nat)) []))) b = some o := fun b o hb hbp => by
          rw [upd_ne hbp, upd_ne hbp]
          exact k2 _ _ hb
        refine q _ ⟨p, dx, L, xs, rfl, by rw [upd_same, wF_new], (upd_ne nL).trans ((upd_ne nL).trans hL2), hss.ts fun b ys hb => keep b _ hb ?_⟩ keep
        intro z
        rw [z, hp] at hb
        cases hb
end
end My
namespace My
open PySem PySem.Spec PyProof.Rows L2
variable {K : PySem.W.Frag}
/-! ### webs compared -/
instance decStl : DecidableEq Stl := fun s t => decidable_of_decidable_of_iff (p := s.u = t.u ∧ s.v = t.v ∧ s.a = t.a ∧ s.b = t.b ∧ s.r = t.r) (by
  obtain ⟨u, v, a, b, r⟩ := s
  obtain ⟨u', v', a', b', r'⟩ := t
  simp only [Stl.mk.injEq])
def stD (s : Stl) : PyData := .tuple [.int (s.u : Nat), .int (s.v : Nat), frD s.a, frD s.b, frD s.r]
theorem stD_eqv (s t : Stl) : PyData.eqv (stD s) (stD t) = decide (s = t) := by
  have e : PyData.eqv (stD s) (stD t) = (decide ((s.u : Int) = t.u) && (decide ((s.v : Int) = t.v) && (decide (s.a = t.a) && (decide (s.b = t.b) && decide (s.r = t.r))))) := by
    unfold stD
    rw [PyData.eqv, PyData.eqvAll, PyData.eqvAll, PyData.eqvAll, PyData.eqvAll, PyData.eqvAll, PyData.eqvAll, frD_eqv, frD_eqv, frD_eqv]
    simp only [PyData.eqv, Bool.and_true, Bool.beq_eq_decide_eq]
  rw [e, Bool.eq_iff_iff]
  simp only [Bool.and_eq_true, decide_eq_true_eq]
  obtain ⟨u, v, a, b, r⟩ := s
  obtain ⟨u', v', a', b', r'⟩ := t
  simp only [Stl.mk.injEq]
  constructor <;> rintro ⟨h1, h2, h3, h4, h5⟩ <;> exact ⟨by omega, by omega, h3, h4, h5⟩
theorem sts_eqv : ∀ ss tt : List Stl, PyData.eqvAll (ss.map stD) (tt.map stD) = decide (ss = tt)
  | [], [] => rfl
  | [], _ :: _ => rfl
  | _ :: _, [] => rfl
  | s :: ss, t :: tt => by
    show (PyData.eqv (stD s) (stD t) && PyData.eqvAll (ss.map stD) (tt.map stD)) = _
    rw [stD_eqv, sts_eqv ss tt, Bool.eq_iff_iff]
    simp
theorem sts_lay : ∀ ss : List Stl, PyData.canLayAll0 (ss.map stD) = true ∧ PyData.depthAll (ss.map stD) ≤ 2
  | [] => ⟨rfl, by decide⟩
  | s :: ss => by
    obtain ⟨h1, h2⟩ := sts_lay ss
    refine ⟨?_, ?_⟩
    · show (PyData.canLay0 (stD s) && PyData.canLayAll0 (ss.map stD)) = true
      rw [h1]
      rfl
    · show max (PyData.depth (stD s)) (PyData.depthAll (ss.map stD)) ≤ 2
      have : PyData.depth (stD s) = 2 := rfl
      omega
theorem sts_shaped (ss : List Stl) : SeqAt.shaped (.tuple (ss.map stD)) = true := by
  obtain ⟨h1, h2⟩ := sts_lay ss
  unfold SeqAt.shaped
  rw [Bool.and_eq_true]
  refine ⟨h1, decide_eq_true ?_⟩
  show PyData.depthAll (ss.map stD) + 1 ≤ 64
  omega
theorem IsSt.dp {K : PySem.W.Frag} {H : Hp} {x : V} {s : Stl} (h : IsSt K H x s) : Dp K H x (stD s) := by
  obtain ⟨p, va, vb, vr, rfl, h, a, b, r⟩ := h
  exact .tup (.of h) (.cons (.int _) (.cons (.int _) (.cons a.dp (.cons b.dp (.cons r.dp .nil)))))
theorem Sts.dp {K : PySem.W.Frag} {H : Hp} {t : Addr} {xs : List V} {ss : List Stl} (h : Sts K H xs ss) (ht : H t = some (.tup xs)) : Dp K H (.ref t) (.tuple (ss.map stD)) := by
  refine .tup (.of ht) ?_
  clear ht
  unfold Sts at h
  induction h with
  | nil => exact .nil
  | cons h t ih => exact .cons h.dp ih
end My
namespace My
open PySem PySem.Spec PyProof.Rows L2
variable {K : PySem.W.Frag}
theorem sq_pos {r : Rat} (h : 0 < r) : 0 < r * r := Rat.mul_pos h h
theorem ne_of_pos {r : Rat} (h : 0 < r) : r ≠ 0 := fun z => by
  rw [z] at h
  exact absurd h (by decide)
section
variable {P : Program} {w : World} {K : PySem.W.Frag} {mg : Str → Option Value} {base : Heap} {f_is_integer f_is_row f_is_fraction f_is_some f_multiplied f_squared f_is_stall f_l_deck f_l_pick f_l_divisor f_l_made f_l_amount f_l_stall f_l_stalls f_l_others f_l_is_flag f_l_are_compared f_law f_Web_init f_Web_eq c_Web : Addr} {d_is_integer d_is_row d_is_fraction d_is_some d_multiplied d_squared d_is_stall d_l_deck d_l_pick d_l_divisor d_l_made d_l_amount d_l_stall d_l_stalls d_l_others d_l_is_flag d_l_are_compared d_law d_Web_init d_Web_eq : FuncData}
def sp_stall_led (K : PySem.W.Frag) : Sp := fun vs H Q _ => ∃ v s vx x, vs = [v, vx] ∧ IsSt K H v s ∧ IsF K H vx x ∧ Bd 1900 s.r ∧ Bd 3900 x ∧ 0 < x ∧ ∀ H' u, Same H H' → IsSt K H' u (s.first x) → Q u H'
def sp_behind (K : PySem.W.Frag) : Sp := fun vs H Q _ => ∃ (v : V) (s : Stl) (wn : Nat) (vx : V) (x : Rat), vs = [v, .int (wn : Nat), vx] ∧ IsSt K H v s ∧ IsF K H vx x ∧ BdSt 1900 s ∧ Bd 1900 x ∧ 0 < s.a ∧ 0 < s.b ∧ 0 < x ∧ ∀ H' u, Same H H' → IsSt K H' u (s.behind wn x) → Q u H'
end
end My
namespace My
open PySem PySem.Spec PyProof.Rows L2
variable {K : PySem.W.Frag}
theorem mul_div_self {k x : Rat} (h : x ≠ 0) : x * (k / x) = k := by
  rw [Rat.div_def, ← Rat.mul_assoc, Rat.mul_comm x k, Rat.mul_assoc, Rat.mul_inv_cancel x h, Rat.mul_one]
theorem div_pos' {k x : Rat} (h : 0 < k) (hx : 0 < x) : 0 < k / x := by
  rw [Rat.div_def]
  exact Rat.mul_pos h (Rat.inv_pos.mpr hx)
theorem behind_ok {n : Nat} {s : Stl} (h : OkSt n s) (wn : Nat) {y : Rat} (y0 : 0 < y) : OkSt n (s.behind wn y) := by
  have a0 := h.a
  have b0 := h.b
  have rr := sq_pos h.r
  unfold Stl.behind
  split
  · have p : 0 < s.a + y := by grind
    exact ⟨h.u, h.v, h.ne, p, div_pos' rr p, h.r, mul_div_self (ne_of_pos p)⟩
  · have p : 0 < s.b + y := by grind
    exact ⟨h.u, h.v, h.ne, div_pos' rr p, p, h.r, (Rat.mul_comm _ _).trans (mul_div_self (ne_of_pos p))⟩
theorem behind_bd {k l : Nat} {n : Nat} {s : Stl} (hs : OkSt n s) (h : BdSt k s) (wn : Nat) {y : Rat} (y0 : 0 < y) (b : Bd l y) : BdSt (3 * k + l + 1) (s.behind wn y) := by
  have a0 := hs.a
  have b0 := hs.b
  unfold Stl.behind
  split
  · have p : 0 < s.a + y := by grind
    exact ⟨(h.a.add b).mono (by omega), ((h.r.mul h.r).div (ne_of_pos p) (h.a.add b)).mono (by omega), h.r.mono (by omega)⟩
  · have p : 0 < s.b + y := by grind
    exact ⟨((h.r.mul h.r).div (ne_of_pos p) (h.b.add b)).mono (by omega), (h.b.add b).mono (by omega), h.r.mono (by omega)⟩
theorem Sts.set {H : Hp} {xs : List V} {ss : List Stl} {v : V} {s : Stl} (h : Sts K H xs ss) (hv : IsSt K H v s) (i : Nat) : Sts K H (xs.set i v) (ss.set i s) := by
  unfold Sts at *
  induction h generalizing i with
  | nil => exact .nil
  | cons h t ih =>
    cases i with
    | zero => exact .cons hv t
    | succ i => exact .cons h (ih i)
theorem set_parts {xs : List V} {i : Nat} {v : V} (h : i < xs.length) : cutV xs none (some (i : Int)) ++ [v] ++ cutV xs (some ((i : Int) + 1)) none = xs.set i v := by
  have e : ((i : Int) + 1) = ((i + 1 : Nat) : Int) := by omega
  rw [e]
  unfold cutV
  rw [HT.sIx_none, HT.sIx_none, HT.sIx_nat, HT.sIx_nat, List.set_eq_take_append_cons_drop, if_pos h]
  have m1 : min i xs.length = i := by omega
  have m2 : min (i + 1) xs.length = i + 1 := by omega
  rw [m1, m2]
  simp
  exact List.take_of_length_le (by simp)
theorem rd_catA {K : PySem.W.Frag} {H : Hp} {a b : Addr} {xs ys : List V} {Q : VK} (ha : H a = some (.tup xs)) (hb : H b = some (.tup ys)) (hl : xs.length + ys.length ≤ sizeLine)
    (q : ∀ p H', Same H H' → H' p = some (.tup (xs ++ ys)) → Q (.ref p) H') : rCatA K (.ref a) (.ref b) H Q := by
  refine ⟨a, b, xs, ys, rfl, rfl, .of ha, .of hb, hl, fun e => ?_, fun _ e => ?_, fun _ _ p np => q p _ (same_upd np) upd_same⟩
  · subst e
    exact q b H (Same.refl _) hb
  · subst e
    exact q a H (Same.refl _) (by rw [List.append_nil]; exact ha)
theorem rd_slT {K : PySem.W.Frag} {H : Hp} {a : Addr} {xs : List V} {lo hi : Option Int} {Q : VK} (ha : H a = some (.tup xs)) (hw : ¬ (HT.sIx xs.length 0 lo = 0 ∧ HT.sIx xs.length xs.length hi = xs.length))
    (q : ∀ p H', Same H H' → H' p = some (.tup (cutV xs lo hi)) → Q (.ref p) H') : rSlT K (.ref a) lo hi H Q := ⟨a, xs, rfl, .of ha, hw, fun p np => q p _ (same_upd np) upd_same⟩
/-- a web within its bounds -/
structure OkW (n k : Nat) (ss : List Stl) : Prop where
  n1 : 1 ≤ n
  n8 : n ≤ 8
  len : ss.length ≤ 16
  ok : ∀ s ∈ ss, OkSt n s ∧ BdSt k s
theorem OkW.set {n k : Nat} {ss : List Stl} (h : OkW n k ss) {s : Stl} (h1 : OkSt n s) (h2 : BdSt k s) (i : Nat) : OkW n k (ss.set i s) :=
  ⟨h.n1, h.n8, by rw [List.length_set]; exact h.len, fun t ht => by
    rcases List.mem_or_eq_of_mem_set ht with z | z
    · exact h.ok t z
    · subst z
      exact ⟨h1, h2⟩⟩
theorem BdSt.mono {k l : Nat} {s : Stl} (h : BdSt k s) (hl : k ≤ l) : BdSt l s := ⟨h.a.mono hl, h.b.mono hl, h.r.mono hl⟩
theorem OkW.mono {n k l : Nat} {ss : List Stl} (h : OkW n k ss) (hl : k ≤ l) : OkW n l ss := ⟨h.n1, h.n8, h.len, fun s hs => ⟨(h.ok s hs).1, (h.ok s hs).2.mono hl⟩⟩
end My
namespace My
open PySem PySem.Spec PyProof.Rows L2
variable {K : PySem.W.Frag}
def Stl.hold (s : Stl) (w : Nat) : Rat := if w = s.u then s.a else s.b
def Stl.at (s : Stl) (w : Nat) : Bool := decide (w = s.u) || decide (w = s.v)
def at_ (ss : List Stl) (w : Nat) : List Stl := ss.filter (·.at w)
def sumR (l : List Rat) : Rat := l.foldl (· + ·) 0
def heldAt (ss : List Stl) (w : Nat) : Rat := sumR ((at_ ss w).map (·.hold w))
def heldAll (n : Nat) (ss : List Stl) : List Rat := (List.range n).map (heldAt ss)
def Fs (K : PySem.W.Frag) (H : Hp) (ys : List V) (rs : List Rat) : Prop := Paired (IsF K H) ys rs
def IsFs (K : PySem.W.Frag) (H : Hp) (x : V) (rs : List Rat) : Prop := ∃ t ys, x = .ref t ∧ H t = some (.tup ys) ∧ Fs K H ys rs
theorem Fs.same {H H' : Hp} {ys : List V} {rs : List Rat} (s : Same H H') (h : Fs K H ys rs) : Fs K H' ys rs := Paired.mapP h fun _ _ h => h.same s
theorem IsFs.same {H H' : Hp} {x : V} {rs : List Rat} (s : Same H H') (h : IsFs K H x rs) : IsFs K H' x rs := by
  obtain ⟨t, ys, e, h1, h2⟩ := h
  exact ⟨t, ys, e, s _ _ h1, h2.same s⟩
theorem Fs.len {H : Hp} {ys : List V} {rs : List Rat} (h : Fs K H ys rs) : ys.length = rs.length := Paired.length h
theorem Paired.at {α : Type} {F : V → α → Prop} {xs : List V} {as : List α} (h : Paired F xs as) : ∀ {i : Nat} {x : V}, xs[i]? = some x → ∃ a, as[i]? = some a ∧ F x a := by
  induction h with
  | nil =>
    intro i x e
    simp at e
  | cons h t ih =>
    intro i x e
    match i with
    | 0 =>
      simp at e
      subst e
      exact ⟨_, rfl, h⟩
    | i + 1 => exact ih (by simpa using e)
theorem Paired.get' {α : Type} {F : V → α → Prop} {xs : List V} {as : List α} (h : Paired F xs as) : ∀ {i : Nat} {a : α}, as[i]? = some a → ∃ x, xs[i]? = some x ∧ F x a := by
  induction h with
  | nil =>
    intro i x e
    simp at e
  | cons h t ih =>
    intro i x e
    match i with
    | 0 =>
      simp at e
      subst e
      exact ⟨_, rfl, h⟩
    | i + 1 => exact ih (by simpa using e)
theorem stl_at_in (s : Stl) (w : Nat) : inV (.int (w : Nat)) [V.int (s.u : Nat), .int (s.v : Nat)] = s.at w := by
  have e : ∀ k : Nat, eqV (.int (k : Nat)) (.int (w : Nat)) = decide (w = k) := fun k => by
    rw [Bool.eq_iff_iff]
    simp [eqV]
    omega
  show (eqV _ _ || (eqV _ _ || false)) = _
  rw [e, e, Bool.or_false]
  rfl
/-- bounds of sums -/
theorem sumR_snoc (l : List Rat) (r : Rat) : sumR (l ++ [r]) = sumR l + r := by
  unfold sumR
  rw [List.foldl_append]
  rfl
theorem bd_zero {k : Nat} (h : 0 < k) : Bd k 0 := ⟨Nat.two_pow_pos k, Nat.one_lt_two_pow (by omega)⟩
/-- sizes of sums, each item with its own bits -/
def BR (rs : List Rat) (M : Nat) : Prop := ∃ ks : List Nat, Paired (fun r k => Bd k r) rs ks ∧ 1 + (ks.map (· + 1)).sum ≤ M
theorem fold_bd {rs : List Rat} {ks : List Nat} (h : Paired (fun r k => Bd k r) rs ks) : ∀ (a : Rat) (A : Nat), Bd A a → Bd (A + (ks.map (· + 1)).sum) (rs.foldl (· + ·) a) := by
  induction h with
  | nil =>
    intro a A ha
    exact ha
  | cons h t ih =>
    intro a A ha
    refine (ih _ _ (ha.add h)).mono ?_
    rw [List.map_cons, List.sum_cons]
    omega
theorem BR.sum {rs : List Rat} {M : Nat} (h : BR rs M) : Bd M (sumR rs) := by
  obtain ⟨ks, h, hm⟩ := h
  exact (fold_bd h 0 1 (bd_zero (by decide))).mono hm
theorem BR.take {rs : List Rat} {M : Nat} (h : BR rs M) (i : Nat) : BR (rs.take i) M := by
  obtain ⟨ks, h, hm⟩ := h
  refine ⟨ks.take i, ?_, Nat.le_trans (Nat.add_le_add_left ?_ 1) hm⟩
  · clear hm
    induction h generalizing i with
    | nil => cases i <;> exact .nil
    | cons h t ih =>
      cases i with
      | zero => exact .nil
      | succ i => exact .cons h (ih i)
  · clear hm h
    induction ks generalizing i with
    | nil => simp
    | cons k ks ih =>
      cases i with
      | zero => simp
      | succ i =>
        rw [List.take_succ_cons, List.map_cons, List.map_cons, List.sum_cons, List.sum_cons]
        have := ih i
        omega
theorem BR.mem {rs : List Rat} {M : Nat} (h : BR rs M) {r : Rat} (hr : r ∈ rs) : Bd M r := by
  obtain ⟨ks, h, hm⟩ := h
  induction h generalizing M with
  | nil => simp at hr
  | cons h t ih =>
    rw [List.map_cons, List.sum_cons] at hm
    rcases List.mem_cons.mp hr with rfl | hr
    · exact h.mono (by omega)
    · exact ih hr (by omega)
theorem take_at {α : Type} {l : List α} {i : Nat} {a : α} (h : l[i]? = some a) : l.take (i + 1) = l.take i ++ [a] := by
  rw [List.take_add_one, h]
  rfl
theorem IsF.c0 {p : Addr} {H : Hp} (h : SqT K (fun _ => none) p [.int 0, .int 1]) : IsF K H (.ref p) 0 := ⟨p, rfl, .inr h⟩
theorem hold_bd {k : Nat} {s : Stl} (h : BdSt k s) (w : Nat) : Bd k (s.hold w) := by
  unfold Stl.hold
  split
  · exact h.a
  · exact h.b
/-- sizes of stalls, each with its own bits -/
def BL (ss : List Stl) (M : Nat) : Prop := ∃ ks : List Nat, Paired (fun s k => BdSt k s) ss ks ∧ 1 + (ks.map (· + 1)).sum ≤ M
theorem BL.mono {ss : List Stl} {M N : Nat} (h : BL ss M) (l : M ≤ N) : BL ss N := h.imp fun _ h => ⟨h.1, Nat.le_trans h.2 l⟩
theorem bl_of {k : Nat} {ss : List Stl} (h16 : ss.length ≤ 16) (h : ∀ s ∈ ss, BdSt k s) : BL ss (16 * (k + 1) + 1) := by
  refine ⟨ss.map fun _ => k, ?_, ?_⟩
  · clear h16
    induction ss with
    | nil => exact .nil
    | cons s ss ih => exact .cons (h s (by simp)) (ih fun t ht => h t (by simp [ht]))
  · have e : ((ss.map fun _ => k).map (· + 1)).sum = ss.length * (k + 1) := by
      clear h h16
      induction ss with
      | nil => simp
      | cons s ss ih =>
        rw [List.map_cons, List.map_cons, List.sum_cons, ih, List.length_cons, Nat.add_mul]
        omega
    rw [e]
    have := Nat.mul_le_mul_right (k + 1) h16
    omega
theorem BL.at {ss : List Stl} {M : Nat} (h : BL ss M) (w : Nat) : BR ((at_ ss w).map (·.hold w)) M := by
  obtain ⟨ks, h, hm⟩ := h
  have key : ∃ js : List Nat, Paired (fun r k => Bd k r) ((at_ ss w).map (·.hold w)) js ∧ (js.map (· + 1)).sum ≤ (ks.map (· + 1)).sum := by
    clear hm
    induction h with
    | nil => exact ⟨[], .nil, Nat.le_refl _⟩
    | @cons s k ss ks h t ih =>
      obtain ⟨js, h1, h2⟩ := ih
      unfold at_ at *
      rw [List.filter_cons]
      split
      · refine ⟨k :: js, .cons (hold_bd h w) h1, ?_⟩
        rw [List.map_cons, List.map_cons, List.sum_cons, List.sum_cons]
        omega
      · refine ⟨js, h1, ?_⟩
        rw [List.map_cons, List.sum_cons]
        omega
  obtain ⟨js, h1, h2⟩ := key
  exact ⟨js, h1, by omega⟩
theorem BL.held {ss : List Stl} {M : Nat} (h : BL ss M) (w : Nat) : Bd M (heldAt ss w) := (h.at w).sum
theorem upTo_bind {α β : Type} (g : α → Option β) : ∀ l : List α, upTo (fun i => (l[i]?).bind g) l.length = l.filterMap g
  | [] => rfl
  | a :: l => by
    have ih := upTo_bind g l
    unfold upTo at *
    rw [List.length_cons, List.range_succ_eq_map, List.filterMap_cons, List.filterMap_map]
    have e : ((fun i => ((a :: l)[i]?).bind g) ∘ Nat.succ) = fun i => (l[i]?).bind g := rfl
    rw [e, ih, List.filterMap_cons]
    rfl
theorem upTo_filter (p : Stl → Bool) (ss : List Stl) : upTo (fun i => (ss[i]?).filter p) ss.length = ss.filter p := by
  have e : (fun i : Nat => (ss[i]?).filter p) = fun i : Nat => (ss[i]?).bind (Option.guard p) := by
    funext i
    cases ss[i]? <;> simp [Option.filter, Option.guard]
  rw [e, upTo_bind, List.filterMap_eq_filter]
theorem upTo_map {α : Type} {n : Nat} (g : Nat → α) : upTo (fun i => some (g i)) n = (List.range n).map g := by
  unfold upTo
  induction List.range n with
  | nil => rfl
  | cons x l ih => simp [ih]
theorem upTo_list {α β : Type} (l : List α) (g : α → β) : upTo (fun i => (l[i]?).map g) l.length = l.map g := by
  have e : (fun i : Nat => (l[i]?).map g) = fun i : Nat => (l[i]?).bind (fun a => some (g a)) := by
    funext i
    cases l[i]? <;> rfl
  rw [e, upTo_bind]
  exact congrFun (List.filterMap_eq_map (f := g)) l
section
variable {P : Program} {w : World} {K : PySem.W.Frag} {mg : Str → Option Value} {base : Heap} {f_is_integer f_is_row f_is_fraction f_is_some f_multiplied f_squared f_is_stall f_l_deck f_l_pick f_l_divisor f_l_made f_l_amount f_l_stall f_l_stalls f_l_others f_l_is_flag f_l_are_compared f_law f_Web_init f_Web_eq c_Web : Addr} {d_is_integer d_is_row d_is_fraction d_is_some d_multiplied d_squared d_is_stall d_l_deck d_l_pick d_l_divisor d_l_made d_l_amount d_l_stall d_l_stalls d_l_others d_l_is_flag d_l_are_compared d_law d_Web_init d_Web_eq : FuncData}
def sp_summed (K : PySem.W.Frag) : Sp := fun vs H Q _ => ∃ (L : Addr) (ys : List V) (rs : List Rat) (M : Nat), vs = [.ref L] ∧ H L = some (.lst ys) ∧ Fs K H ys rs ∧ BR rs M ∧ M ≤ 4000 ∧ ∀ H' v, Same H H' → IsF K H' v (sumR rs) → Q v H'
def sp_hold_of (K : PySem.W.Frag) : Sp := fun vs H Q _ => ∃ (v : V) (s : Stl) (wn : Nat), vs = [v, .int (wn : Nat)] ∧ IsSt K H v s ∧ ∀ x, IsF K H x (s.hold wn) → Q x H
def sp_stalls_of (K : PySem.W.Frag) : Sp := fun vs H Q _ => ∃ (t : Addr) (xs : List V) (ss : List Stl) (wn : Nat), vs = [.int (wn : Nat), .ref t] ∧ H t = some (.tup xs) ∧ Sts K H xs ss ∧ ss.length ≤ 16 ∧
  ∀ H' L ys, Same H H' → H' L = some (.lst ys) → Sts K H' ys (at_ ss wn) → Q (.ref L) H'
def sp_kept_of (K : PySem.W.Frag) : Sp := fun vs H Q _ => ∃ (t : Addr) (xs : List V) (ss : List Stl) (wn M : Nat), vs = [.int (wn : Nat), .ref t] ∧ H t = some (.tup xs) ∧ Sts K H xs ss ∧ ss.length ≤ 16 ∧ BL ss M ∧ M ≤ 4000 ∧
  ∀ H' v, Same H H' → IsF K H' v (heldAt ss wn) → Q v H'
def sp_held (K : PySem.W.Frag) (C : Addr) : Sp := fun vs H Q _ => ∃ (x : V) (n : Nat) (ss : List Stl) (M : Nat), vs = [x] ∧ IsWeb K C H x n ss ∧ n ≤ 8 ∧ ss.length ≤ 16 ∧ BL ss M ∧ M ≤ 4000 ∧ ∀ H' v, Same H H' → IsFs K H' v (heldAll n ss) → Q v H'
end
end My
namespace My
open PySem PySem.Spec PyProof.Rows L2
variable {K : PySem.W.Frag}
theorem kit_self {K : PySem.W.Frag} {t : Value} : PySem.W.kitOne K t t = some true := by
  unfold PySem.W.kitOne
  simp
section
variable {P : Program} {w : World} {K : PySem.W.Frag} {mg : Str → Option Value} {base : Heap} {f_is_integer f_is_row f_is_fraction f_is_some f_multiplied f_squared f_is_stall f_l_deck f_l_pick f_l_divisor f_l_made f_l_amount f_l_stall f_l_stalls f_l_others f_l_is_flag f_l_are_compared f_law f_Web_init f_Web_eq c_Web : Addr} {d_is_integer d_is_row d_is_fraction d_is_some d_multiplied d_squared d_is_stall d_l_deck d_l_pick d_l_divisor d_l_made d_l_amount d_l_stall d_l_stalls d_l_others d_l_is_flag d_l_are_compared d_law d_Web_init d_Web_eq : FuncData}
def sp_weq (K : PySem.W.Frag) (C : Addr) : Sp := fun vs H Q _ => ∃ (x y : V) (n m : Nat) (ss tt : List Stl), vs = [x, y] ∧ IsWeb K C H x n ss ∧ IsWeb K C H y m tt ∧ Q (.bl (decide (n = m) && decide (ss = tt))) H
theorem ok_Web_eq (T : Txt K mg f_is_integer f_is_row f_is_fraction f_is_some f_multiplied f_squared f_is_stall f_l_deck f_l_pick f_l_divisor f_l_made f_l_amount f_l_stall f_l_stalls f_l_others f_l_is_flag f_l_are_compared f_law f_Web_init f_Web_eq c_Web d_is_integer d_is_row d_is_fraction d_is_some d_multiplied d_squared d_is_stall d_l_deck d_l_pick d_l_divisor d_l_made d_l_amount d_l_stall d_l_stalls d_l_others d_l_is_flag d_l_are_compared d_law d_Web_init d_Web_eq) : FnOk P w K mg base CX0 1 f_Web_eq d_Web_eq ["self", "other"] (sp_weq K c_Web) := by
  refine T.F_Web_eq.ok sc_Web_eq (fun vs H Q E h => ?_) (fun cdv A outer s H vs Q E hr h => ?_)
  · obtain ⟨x, y, n, m, ss, tt, rfl, _⟩ := h
    rfl
  · obtain ⟨x, y, n, m, ss, tt, rfl, ⟨p, dx, t, xs, rfl, hp, ht, hss⟩, ⟨p2, dx2, t2, xs2, rfl, hp2, ht2, hss2⟩, q⟩ := h
    refine ⟨_, (pss_one (ps_ret (pe_and (pe_callB call_isi (by rfl) T.z_isinstance (by decide +kernel) (pa_cons (pv 1) (pa_cons (pe_glob (v := .ref c_Web) (by rfl) T.w_Web.g rfl) pa_nil))) (pe_and (pe_cmpR op_eq (pe_fld (pv 0) rfl) (pe_fld (pv 1) rfl) (nomark _)) (pe_one (pe_cmpR (op_eqD hr.units) (pe_fld (pv 0) rfl) (pe_fld (pv 1) rfl) (nomark _))))))), ?_⟩
    walk_at "r"
    refine ⟨_, _, _, _, _, rfl, .own _, .base (.ins hp2 T.w_Web.it.cl T.w_Web.it.ha T.w_Web.it.hn T.w_Web.it.ht T.w_Web.it.mo), kit_self, ?_⟩
    walk_at "r"
    refine ⟨_, _, _, _, _, rfl, hp, T.w_Web.it.cl, T.n_Web_wares, wF_wares _ _, ?_⟩
    walk_at "r"
    refine ⟨_, _, _, _, _, rfl, hp2, T.w_Web.it.cl, T.n_Web_wares, wF_wares _ _, ?_⟩
    walk_at "r"
    have e1 : decide (((n : Nat) : Int) = (m : Nat)) = decide (n = m) := by
      rw [Bool.eq_iff_iff, decide_eq_true_eq, decide_eq_true_eq]
      omega
    by_cases e : n = m
    · have e2 : ((n : Nat) : Int) = (m : Nat) := by omega
      rw [decide_eq_true e, Bool.true_and] at q
      rw [decide_eq_true e2]
      walk_at "r"
      refine ⟨_, _, _, _, _, rfl, hp, T.w_Web.it.cl, T.n_Web_stalls, wF_stalls _ _, ?_⟩
      walk_at "r"
      refine ⟨_, _, _, _, _, rfl, hp2, T.w_Web.it.cl, T.n_Web_stalls, wF_stalls _ _, ?_⟩
      refine ⟨_, _, hss.dp ht, hss2.dp ht2, sts_shaped _, sts_shaped _, ?_⟩
      rw [show PyData.eqv (.tuple (ss.map stD)) (.tuple (tt.map stD)) = decide (ss = tt) from sts_eqv ss tt]
      exact q
    · have e2 : ¬ ((n : Nat) : Int) = (m : Nat) := by omega
      rw [decide_eq_false e, Bool.false_and] at q
      rw [decide_eq_false e2]
      walk_at "r"
      exact q
/-- two webs that are equal -/
def RWeb (K : PySem.W.Frag) (C : Addr) : Addr → Addr → Hp → Prop := fun a b H => ∃ n ss, IsWeb K C H (.ref a) n ss ∧ IsWeb K C H (.ref b) n ss
theorem ok_Web_eqR (T : Txt K mg f_is_integer f_is_row f_is_fraction f_is_some f_multiplied f_squared f_is_stall f_l_deck f_l_pick f_l_divisor f_l_made f_l_amount f_l_stall f_l_stalls f_l_others f_l_is_flag f_l_are_compared f_law f_Web_init f_Web_eq c_Web d_is_integer d_is_row d_is_fraction d_is_some d_multiplied d_squared d_is_stall d_l_deck d_l_pick d_l_divisor d_l_made d_l_amount d_l_stall d_l_stalls d_l_others d_l_is_flag d_l_are_compared d_law d_Web_init d_Web_eq) : FnOk P w K mg base CX0 1 f_Web_eq d_Web_eq ["self", "other"] (spEq (RWeb K c_Web)) :=
  (ok_Web_eq T).imp fun vs H Q E h => by
    obtain ⟨a, b, rfl, ⟨n, ss, h1, h2⟩, q⟩ := h
    refine ⟨_, _, n, n, ss, ss, rfl, h1, h2, ?_⟩
    rw [decide_eq_true rfl, decide_eq_true rfl]
    exact q H Ext.rfl'
theorem rc_web {X : Cx} (T : Txt X.K X.mg f_is_integer f_is_row f_is_fraction f_is_some f_multiplied f_squared f_is_stall f_l_deck f_l_pick f_l_divisor f_l_made f_l_amount f_l_stall f_l_stalls f_l_others f_l_is_flag f_l_are_compared f_law f_Web_init f_Web_eq c_Web d_is_integer d_is_row d_is_fraction d_is_some d_multiplied d_squared d_is_stall d_l_deck d_l_pick d_l_divisor d_l_made d_l_amount d_l_stall d_l_stalls d_l_others d_l_is_flag d_l_are_compared d_law d_Web_init d_Web_eq) : RcG X 1 (DIns c_Web (RWeb X.K c_Web)) :=
  rcG_ins (E := E0) (ok_Web_eqR T) T.i_Web_eq T.fn_Web_eq T.b_Web_eq pass0
/-- what the own == answers of two webs -/
def BWeb (K : PySem.W.Frag) (C : Addr) : Addr → Addr → Hp → Bool → Prop := fun a b H r => ∃ n m ss tt, IsWeb K C H (.ref a) n ss ∧ IsWeb K C H (.ref b) m tt ∧ r = (decide (n = m) && decide (ss = tt))
theorem ok_Web_eq_B (T : Txt K mg f_is_integer f_is_row f_is_fraction f_is_some f_multiplied f_squared f_is_stall f_l_deck f_l_pick f_l_divisor f_l_made f_l_amount f_l_stall f_l_stalls f_l_others f_l_is_flag f_l_are_compared f_law f_Web_init f_Web_eq c_Web d_is_integer d_is_row d_is_fraction d_is_some d_multiplied d_squared d_is_stall d_l_deck d_l_pick d_l_divisor d_l_made d_l_amount d_l_stall d_l_stalls d_l_others d_l_is_flag d_l_are_compared d_law d_Web_init d_Web_eq) : FnOk P w K mg base CX0 1 f_Web_eq d_Web_eq ["self", "other"] (spEqB (BWeb K c_Web)) :=
  (ok_Web_eq T).imp fun vs H Q E h => by
    obtain ⟨a, b, r, rfl, ⟨n, m, ss, tt, h1, h2, rfl⟩, q⟩ := h
    exact ⟨_, _, n, m, ss, tt, rfl, h1, h2, q⟩
end
end My
namespace My
open PySem PySem.Spec PyProof.Rows L2
variable {K : PySem.W.Frag}
theorem call_tuple_ofK {X : Cx} (h : X.K = K) : CallR X (.type "tuple") (fun xs H Q => ∃ p ys, xs = [.ref p] ∧ ((SqL K H p ys ∧ ∀ l, H l = none → Q (.ref l) (upd H l (.tup ys))) ∨ (SqT K H p ys ∧ Q (.ref p) H))) := h ▸ call_tuple_of
theorem frD_refl (r : Rat) : PyData.eqv (frD r) (frD r) = true := by rw [frD_eqv]; exact decide_eq_true rfl
theorem all_refl {α : Type} (f : α → PyData) (h : ∀ a, PyData.eqv (f a) (f a) = true) : ∀ l : List α, PyData.eqvAll (l.map f) (l.map f) = true
  | [] => rfl
  | a :: l => by
    show (PyData.eqv (f a) (f a) && PyData.eqvAll (l.map f) (l.map f)) = true
    rw [h, all_refl f h l]
    rfl
theorem all_lay {α : Type} (f : α → PyData) (h : ∀ a, PyData.canLay0 (f a) = true ∧ PyData.depth (f a) ≤ 2) : ∀ l : List α, PyData.canLayAll0 (l.map f) = true ∧ PyData.depthAll (l.map f) ≤ 2
  | [] => ⟨rfl, by show PyData.depthAll [] ≤ 2; decide⟩
  | a :: l => by
    obtain ⟨h1, h2⟩ := all_lay f h l
    obtain ⟨g1, g2⟩ := h a
    refine ⟨?_, ?_⟩
    · show (PyData.canLay0 (f a) && PyData.canLayAll0 (l.map f)) = true
      rw [h1, g1]
      rfl
    · show max (PyData.depth (f a)) (PyData.depthAll (l.map f)) ≤ 2
      omega
theorem shaped_list {α : Type} (f : α → PyData) (h : ∀ a, PyData.canLay0 (f a) = true ∧ PyData.depth (f a) ≤ 2) (l : List α) : SeqAt.shaped (.list (l.map f)) = true := by
  obtain ⟨h1, h2⟩ := all_lay f h l
  unfold SeqAt.shaped
  rw [Bool.and_eq_true]
  refine ⟨h1, decide_eq_true ?_⟩
  show PyData.depthAll (l.map f) + 1 ≤ 64
  omega
theorem shaped_tup {α : Type} (f : α → PyData) (h : ∀ a, PyData.canLay0 (f a) = true ∧ PyData.depth (f a) ≤ 2) (l : List α) : SeqAt.shaped (.tuple (l.map f)) = true := by
  obtain ⟨h1, h2⟩ := all_lay f h l
  unfold SeqAt.shaped
  rw [Bool.and_eq_true]
  refine ⟨h1, decide_eq_true ?_⟩
  show PyData.depthAll (l.map f) + 1 ≤ 64
  omega
theorem dps {α : Type} {R : Hp → V → α → Prop} {f : α → PyData} (hf : ∀ {H : Hp} {v : V} {a : α}, R H v a → Dp K H v (f a)) {H : Hp} {ys : List V} {as : List α} (h : Paired (R H) ys as) : DpAll K H ys (as.map f) := by
  induction h with
  | nil => exact .nil
  | cons h t ih => exact .cons (hf h) ih
theorem IsFs.dp {H : Hp} {v : V} {rs : List Rat} (h : IsFs K H v rs) : Dp K H v (.tuple (rs.map frD)) := by
  obtain ⟨L, ys, rfl, h1, h2⟩ := h
  exact .tup (.of h1) (dps (R := IsF K) (fun h => h.dp) h2)
theorem neFs {H : Hp} {v u : V} {rs : List Rat} {Q : VK} (h1 : IsFs K H v rs) (h2 : IsFs K H u rs) (q : Q (.bl false) H) : rNeD K v u H Q := by
  have sh := shaped_tup frD (fun m => ⟨rfl, Nat.le_succ 1⟩) rs
  refine ⟨_, _, h1.dp, h2.dp, sh, sh, ?_⟩
  rw [show PyData.eqv (.tuple (rs.map frD)) (.tuple (rs.map frD)) = true from all_refl frD frD_refl rs]
  exact q
theorem eqFs {H : Hp} {v u : V} {rs : List Rat} {Q : VK} (h1 : IsFs K H v rs) (h2 : IsFs K H u rs) (q : Q (.bl true) H) : rEqD K v u H Q := by
  have sh := shaped_tup frD (fun m => ⟨rfl, Nat.le_succ 1⟩) rs
  refine ⟨_, _, h1.dp, h2.dp, sh, sh, ?_⟩
  rw [show PyData.eqv (.tuple (rs.map frD)) (.tuple (rs.map frD)) = true from all_refl frD frD_refl rs]
  exact q
/-- own == and != of webs that are equal -/
theorem neWeb {C : Addr} {H : Hp} {v u : V} {n : Nat} {ss : List Stl} {Q : VK} (h1 : IsWeb K C H v n ss) (h2 : IsWeb K C H u n ss) (q : Q (.bl false) H) : rNeI C (BWeb K C) v u H Q := by
  obtain ⟨p, dx, t, xs, rfl, hp, _⟩ := id h1
  obtain ⟨p2, dx2, t2, xs2, rfl, hp2, _⟩ := id h2
  exact ⟨_, _, _, _, _, _, true, rfl, rfl, hp, hp2, ⟨n, n, _, _, h1, h2, by simp⟩, q⟩
theorem eqWeb {C : Addr} {H : Hp} {v u : V} {n : Nat} {ss : List Stl} {Q : VK} (h1 : IsWeb K C H v n ss) (h2 : IsWeb K C H u n ss) (q : Q (.bl true) H) : rEqI C (BWeb K C) v u H Q := by
  obtain ⟨p, dx, t, xs, rfl, hp, _⟩ := id h1
  obtain ⟨p2, dx2, t2, xs2, rfl, hp2, _⟩ := id h2
  exact ⟨_, _, _, _, _, _, true, rfl, rfl, hp, hp2, ⟨n, n, _, _, h1, h2, by simp⟩, q⟩
end My
namespace My
open PySem PySem.Spec PyProof.Rows L2
variable {K : PySem.W.Frag}
theorem ten6e : (10 : Int) ^ (6 : Int).toNat = 1000000 := by decide
theorem rat_pos {r : Rat} (h : 0 < r.num) : 0 < r := by
  rw [Rat.lt_iff]
  simpa using h
theorem divInt_pos {t b : Int} (ht : 0 < t) (hb : 0 < b) : 0 < Rat.divInt t b := by
  have h := (rat_cross (n := t) (d := b) (r := Rat.divInt t b) (by omega)).mp rfl
  have hd := den_pos (Rat.divInt t b)
  have h2 : 0 < t * ((Rat.divInt t b).den : Int) := Int.mul_pos ht hd
  rw [h] at h2
  refine rat_pos ?_
  exact Int.pos_of_mul_pos_left h2 hb
theorem divInt_mul' (r t : Rat) : Rat.divInt (r.num * t.num) ((r.den : Int) * t.den) = r * t := by
  rw [← Rat.divInt_mul_divInt, Rat.num_divInt_den, Rat.num_divInt_den]
theorem mul_lt' {a b : Int} {k l : Nat} (h1 : a.natAbs < 2 ^ k) (h2 : b.natAbs < 2 ^ l) : (a * b).natAbs < 2 ^ (k + l) := by
  rw [Int.natAbs_mul]
  exact nat_mul_lt h1 h2
theorem back_root (r f : Rat) (hf : 0 < f) : r * f * Rat.divInt (r.num * f.den) (r.den * f.num) = r * r := by
  have h0 : f.num * f.den ≠ 0 := Int.ne_of_gt (Int.mul_pos (num_pos' hf) (den_pos f))
  rw [← divInt_mul' r f, ← divInt_mul' r r, Rat.divInt_mul_divInt]
  rw [show r.num * f.num * (r.num * f.den) = r.num * r.num * (f.num * f.den) by grind, show (r.den : Int) * f.den * (r.den * f.num) = (r.den : Int) * r.den * (f.num * f.den) by grind]
  exact Rat.divInt_mul_right h0
theorem add_divInt (r t : Rat) : Rat.divInt (r.num * t.den + t.num * r.den) ((r.den : Int) * t.den) = r + t := by
  have h1 := den_pos r
  have h2 := den_pos t
  rw [← Rat.divInt_add_divInt r.num t.num (by omega) (by omega), Rat.num_divInt_den, Rat.num_divInt_den]
theorem sub_divInt (r t : Rat) : Rat.divInt (r.num * t.den - t.num * r.den) ((r.den : Int) * t.den) = r - t := by
  have h1 := den_pos r
  have h2 := den_pos t
  rw [Rat.sub_eq_add_neg, ← add_divInt r (-t)]
  show _ = Rat.divInt (r.num * t.den + -t.num * r.den) _
  rw [Int.neg_mul, ← Int.sub_eq_add_neg]
  rfl
end My
namespace My
open PySem PySem.Spec PyProof.Rows L2
variable {K : PySem.W.Frag}
section
variable {P : Program} {w : World} {K : PySem.W.Frag} {mg : Str → Option Value} {base : Heap} {f_is_integer f_is_row f_is_fraction f_is_some f_multiplied f_squared f_is_stall f_l_deck f_l_pick f_l_divisor f_l_made f_l_amount f_l_stall f_l_stalls f_l_others f_l_is_flag f_l_are_compared f_law f_Web_init f_Web_eq c_Web : Addr} {d_is_integer d_is_row d_is_fraction d_is_some d_multiplied d_squared d_is_stall d_l_deck d_l_pick d_l_divisor d_l_made d_l_amount d_l_stall d_l_stalls d_l_others d_l_is_flag d_l_are_compared d_law d_Web_init d_Web_eq : FuncData}
def sp_made (K : PySem.W.Frag) : Sp := fun vs H Q _ => ∃ n d : Int, vs = [.int n, .int d] ∧ 0 < d ∧ d.natAbs < 2 ^ 8000 ∧ ∀ H' v, Same H H' → IsF K H' v (Rat.divInt n d) → Q v H'
theorem ok_l_made (T : Txt K mg f_is_integer f_is_row f_is_fraction f_is_some f_multiplied f_squared f_is_stall f_l_deck f_l_pick f_l_divisor f_l_made f_l_amount f_l_stall f_l_stalls f_l_others f_l_is_flag f_l_are_compared f_law f_Web_init f_Web_eq c_Web d_is_integer d_is_row d_is_fraction d_is_some d_multiplied d_squared d_is_stall d_l_deck d_l_pick d_l_divisor d_l_made d_l_amount d_l_stall d_l_stalls d_l_others d_l_is_flag d_l_are_compared d_law d_Web_init d_Web_eq) : FnOk P w K mg base CX0 2 f_l_made d_l_made ["_law_top", "_law_bottom"] (sp_made K) := by
  have G_l_divisor : FnOk P w K mg base CX0 1 f_l_divisor d_l_divisor ["_law_one", "_law_other"] sp_divisor := ok_l_divisor T
  refine T.F_l_made.ok sc_l_made (fun vs H Q E h => ?_) (fun cdv A outer s H vs Q E hr h => ?_)
  · obtain ⟨n, d, rfl, _⟩ := h
    rfl
  · obtain ⟨n, d, rfl, hd, hb, q⟩ := h
    refine ⟨_, (pss_cons (ps_set (i := 2) sc_l_made.nd rfl (by first | exact Or.inl rfl | exact Or.inr rfl) (pe_call G_l_divisor (hr.mono (by decide)) (by rfl) T.g_l_divisor T.k_l_divisor T.b_l_divisor .nil pass0 (pa_cons (pv 0) (pa_cons (pv 1) pa_nil))))
      (pss_one (ps_ret (pe_tup (pa_cons (pe_op op_fdivX (pv 0) (pv 2)) (pa_cons (pe_op op_fdivX (pv 1) (pv 2)) pa_nil)))))), ?_⟩
    walk_at "r"
    refine ⟨_, _, rfl, Nat.lt_of_lt_of_le hb (pow_le (by decide)), ?_⟩
    obtain ⟨m1, m2, m3⟩ := low_math (n := n) hd hb _ rfl
    walk_at "r"
    · intro p np
      exact q _ _ (same_upd np) (isF_new m2 m3)
    all_goals exact m1 _
theorem p20k {n : Nat} (h : n < 2 ^ 1900) : n < 2 ^ 20000 := Nat.lt_of_lt_of_le h (pow_le (by decide))
def sp_two9 (K : PySem.W.Frag) (f : Rat → Rat → Rat) : Sp := fun vs H Q _ => ∃ x y r s, vs = [x, y] ∧ IsF K H x r ∧ IsF K H y s ∧ Bd 1900 r ∧ Bd 1900 s ∧ ∀ H' v, Same H H' → IsF K H' v (f r s) → Q v H'
end
end My
namespace My
open PySem PySem.Spec PyProof.Rows L2
variable {K : PySem.W.Frag}
theorem eq_div_of {h x k : Rat} (hz : h ≠ 0) (e : h * x = k) : x = k / h := by
  rw [← e, Rat.div_def, Rat.mul_comm h x, Rat.mul_assoc, Rat.mul_inv_cancel h hz, Rat.mul_one]
theorem rest_is (r h : Rat) (h0 : 0 < h) : Rat.divInt (r.num * r.num * h.den) ((r.den : Int) * r.den * h.num) = r * r / h := by
  refine eq_div_of (ne_of_pos h0) ?_
  have hn : h.num * h.den ≠ 0 := Int.ne_of_gt (Int.mul_pos (num_pos' h0) (den_pos h))
  have e : h * Rat.divInt (r.num * r.num * h.den) ((r.den : Int) * r.den * h.num) = Rat.divInt h.num h.den * Rat.divInt (r.num * r.num * h.den) ((r.den : Int) * r.den * h.num) := by rw [Rat.num_divInt_den]
  rw [e, Rat.divInt_mul_divInt, ← divInt_mul' r r]
  rw [show h.num * (r.num * r.num * h.den) = r.num * r.num * (h.num * h.den) by grind, show (h.den : Int) * ((r.den : Int) * r.den * h.num) = (r.den : Int) * r.den * (h.num * h.den) by grind]
  exact Rat.divInt_mul_right hn
theorem isi_web {K : PySem.W.Frag} {H : Hp} {Q : VK} {p C dx : Addr} {fs : List (Str × V)} (h : H p = some (.ins C dx fs)) (it : InsT K C) (q : Q (.bl true) H) : rIsi K [.ref p, .ref C] H Q :=
  ⟨_, _, _, _, _, rfl, .own _, .base (.ins h it.cl it.ha it.hn it.ht it.mo), kit_self, q⟩
theorem many_at (b : Bool) : ∃ z : Int, (z = 8 ∨ z = 16) ∧ atI [V.int 8, V.int 16] (if b = true then 1 else 0) = some (.int z) := by
  cases b
  · exact ⟨8, .inl rfl, rfl⟩
  · exact ⟨16, .inr rfl, rfl⟩
theorem sq_fw {K : PySem.W.Frag} {M c : Nat} {D C a : Addr} {H H' : Hp} {ns : List Int} (h : SqL K H a (ns.map V.int)) (d : Deck M D C H c) (f : Fw D H H') : SqL K H' a (ns.map V.int) := by
  obtain ⟨cells, pl, rest, cnt, h0, h1, h2⟩ := d
  rcases h with (h | ⟨o, h⟩) | h
  · exact .inl (.inl (f _ _ (ne_of h h1 (by
      intro z
      cases ns with
      | nil => cases z
      | cons x l => cases z)) h))
  · exact .inl (.inr ⟨o, f _ _ (ne_of h h1 (by intro z; cases z)) h⟩)
  · exact .inr h
/-- the script's list, beside a new list at S -/
def Kept (K : PySem.W.Frag) (S a : Addr) (ns : List Int) (H : Hp) : Prop := (a ≠ S ∧ SqL K H a (ns.map V.int)) ∨ SqL K (fun _ => none) a (ns.map V.int)
theorem Kept.sq {K : PySem.W.Frag} {S a : Addr} {ns : List Int} {H : Hp} (h : Kept K S a ns H) : SqL K H a (ns.map V.int) := by
  rcases h with h | h
  · exact h.2
  · exact Same.seq (fun _ _ h => by cases h) h
theorem kept_new {K : PySem.W.Frag} {S a : Addr} {ns : List Int} {H : Hp} {o : HO} (h : SqL K H a (ns.map V.int)) (n : H S = none) : Kept K S a ns (upd H S o) := by
  have h0 := (same_upd (o := o) n).seq h
  rcases h with (h | ⟨_, h⟩) | h
  · exact .inl ⟨ne_of_none h n, h0⟩
  · exact .inl ⟨ne_of_none h n, h0⟩
  · exact .inr (.inr h)
theorem Kept.fw {K : PySem.W.Frag} {M c : Nat} {D C S a : Addr} {ns : List Int} {H H' : Hp} (h : Kept K S a ns H) (d : Deck M D C H c) (f : Fw D H H') : Kept K S a ns H' :=
  h.imp (fun h => ⟨h.1, sq_fw h.2 d f⟩) id
theorem Kept.put {K : PySem.W.Frag} {S a : Addr} {ns : List Int} {H : Hp} {o : HO} (h : Kept K S a ns H) : Kept K S a ns (upd H S o) := by
  refine h.imp (fun ⟨n, h⟩ => ⟨n, ?_⟩) id
  rcases h with (h | ⟨_, h⟩) | h
  · exact .inl (.inl ((upd_ne n).trans h))
  · exact .inl (.inr ⟨_, (upd_ne n).trans h⟩)
  · exact .inr h
theorem Sts.snoc {H : Hp} {xs : List V} {ss : List Stl} {v : V} {s : Stl} (h : Sts K H xs ss) (hv : IsSt K H v s) : Sts K H (xs ++ [v]) (ss ++ [s]) := by
  unfold Sts at *
  induction h with
  | nil => exact .cons hv .nil
  | cons h t ih => exact .cons h ih
/-- tuples stand when only the deck changes -/
theorem Fw.ts {M c : Nat} {D C : Addr} {H H' : Hp} (f : Fw D H H') (d : Deck M D C H c) : Tps H H' := fun b xs h => by
  obtain ⟨cells, pl, rest, cnt, h0, h1, h2⟩ := d
  exact f _ _ (ne_of h h1 (by intro z; cases z)) h
theorem IsMv.fw {M c : Nat} {D C : Addr} {H H' : Hp} {v : V} {i wn : Nat} {y : Rat} (f : Fw D H H') (d : Deck M D C H c) (h : IsMv K H v i wn y) : IsMv K H' v i wn y := by
  obtain ⟨p, vx, e, h, a⟩ := h
  exact ⟨p, vx, e, f.ts d _ _ h, a.ts (f.ts d)⟩
theorem IsWeb.fw {M c n : Nat} {D C B : Addr} {H H' : Hp} {x : V} {ss : List Stl} (f : Fw D H H') (d : Deck M D C H c) (h : IsWeb K B H x n ss) : IsWeb K B H' x n ss := by
  obtain ⟨p, dx, t, xs, e, h1, h2, h3⟩ := h
  have d' := d
  obtain ⟨cells, pl, rest, cnt, g0, g1, g2⟩ := d'
  exact ⟨p, dx, t, xs, e, f _ _ (ne_of h1 g1 (by intro z; cases z)) h1, f.ts d _ _ h2, h3.ts (f.ts d)⟩
end My
namespace My
open PySem PySem.Spec PyProof.Rows L2
variable {K : PySem.W.Frag}
theorem size06 {i : Int} (h0 : 0 ≤ i) (h1 : i < 3) : ∃ z : Int, (3 ≤ z ∧ z ≤ 1000000) ∧ atI [V.int 3, V.int 12, V.int 1000] i = some (.int z) := by
  rcases (show i = 0 ∨ i = 1 ∨ i = 2 by omega) with rfl | rfl | rfl
  · exact ⟨3, by decide, rfl⟩
  · exact ⟨12, by decide, rfl⟩
  · exact ⟨1000, by decide, rfl⟩
theorem flag06 {i : Int} (h0 : 0 ≤ i) (h1 : i < 2) : ∃ z : Int, (z = 5 ∨ z = 17) ∧ atI [V.int 5, V.int 17] i = some (.int z) := by
  rcases (show i = 0 ∨ i = 1 by omega) with rfl | rfl
  · exact ⟨5, .inl rfl, rfl⟩
  · exact ⟨17, .inr rfl, rfl⟩
theorem rd_slLs {H : Hp} {Q : VK} {a : Addr} {xs : List V} {lo hi : Option Int} (h : H a = some (.lst xs)) (q : ∀ p H', H p = none → Same H H' → H' p = some (.lst (cutV xs lo hi)) → Q (.ref p) H') : rSlL K (.ref a) lo hi H Q := rd_slL (.of h) fun p np => q p _ np (same_upd np) upd_same
theorem rd_cats {H : Hp} {Q : VK} {a b : Addr} {xs ys : List V} (h1 : H a = some (.lst xs)) (h2 : H b = some (.lst ys)) (hl : xs.length + ys.length ≤ 1000) (q : ∀ p H', H p = none → Same H H' → H' p = some (.lst (xs ++ ys)) → Q (.ref p) H') : rCat (.ref a) (.ref b) H Q :=
  ⟨a, b, xs, ys, rfl, rfl, h1, h2, Nat.le_of_lt (small1000 hl), fun p np => q p _ np (same_upd np) upd_same⟩
theorem prd_take {α β : Type} {R : α → β → Prop} {xs : List α} {ys : List β} (h : Paired R xs ys) : ∀ i : Nat, Paired R (xs.take i) (ys.take i) := by
  induction h with
  | nil =>
    intro i
    rw [List.take_nil, List.take_nil]
    exact .nil
  | cons h t ih =>
    intro i
    cases i with
    | zero => exact .nil
    | succ i => exact .cons h (ih i)
theorem prd_drop {α β : Type} {R : α → β → Prop} {xs : List α} {ys : List β} (h : Paired R xs ys) : ∀ i : Nat, Paired R (xs.drop i) (ys.drop i) := by
  induction h with
  | nil =>
    intro i
    rw [List.drop_nil, List.drop_nil]
    exact .nil
  | cons h t ih =>
    intro i
    cases i with
    | zero => exact .cons h t
    | succ i => exact ih i
theorem prd_app {α β : Type} {R : α → β → Prop} {xs us : List α} {ys vs : List β} (h : Paired R xs ys) (g : Paired R us vs) : Paired R (xs ++ us) (ys ++ vs) := by
  induction h with
  | nil => exact g
  | cons h t ih => exact .cons h ih
theorem prd_rev {α β : Type} {R : α → β → Prop} {xs : List α} {ys : List β} (h : Paired R xs ys) : Paired R xs.reverse ys.reverse := by
  induction h with
  | nil => exact .nil
  | cons h t ih =>
    rw [List.reverse_cons, List.reverse_cons]
    exact prd_app ih (.cons h .nil)
section
variable {P : Program} {w : World} {K : PySem.W.Frag} {mg : Str → Option Value} {base : Heap} {f_is_integer f_is_row f_is_fraction f_is_some f_multiplied f_squared f_is_stall f_l_deck f_l_pick f_l_divisor f_l_made f_l_amount f_l_stall f_l_stalls f_l_others f_l_is_flag f_l_are_compared f_law f_Web_init f_Web_eq c_Web : Addr} {d_is_integer d_is_row d_is_fraction d_is_some d_multiplied d_squared d_is_stall d_l_deck d_l_pick d_l_divisor d_l_made d_l_amount d_l_stall d_l_stalls d_l_others d_l_is_flag d_l_are_compared d_law d_Web_init d_Web_eq : FuncData}
theorem ok_Web_eq_O (T : Txt K mg f_is_integer f_is_row f_is_fraction f_is_some f_multiplied f_squared f_is_stall f_l_deck f_l_pick f_l_divisor f_l_made f_l_amount f_l_stall f_l_stalls f_l_others f_l_is_flag f_l_are_compared f_law f_Web_init f_Web_eq c_Web d_is_integer d_is_row d_is_fraction d_is_some d_multiplied d_squared d_is_stall d_l_deck d_l_pick d_l_divisor d_l_made d_l_amount d_l_stall d_l_stalls d_l_others d_l_is_flag d_l_are_compared d_law d_Web_init d_Web_eq) : FnOk P w K mg base CX0 1 f_Web_eq d_Web_eq ["self", "other"] (spEqO c_Web) := by
  refine T.F_Web_eq.ok sc_Web_eq (fun vs H Q E h => ?_) (fun cdv A outer s H vs Q E hr h => ?_)
  · obtain ⟨a, dx, fs, y, T', rfl, _⟩ := h
    rfl
  · obtain ⟨a, dx, fs, y, T', rfl, ha, o, q⟩ := h
    refine ⟨_, (pss_one (ps_ret (pe_and (pe_callB call_isi (by rfl) T.z_isinstance (by decide +kernel) (pa_cons (pv 1) (pa_cons (pe_glob (v := .ref c_Web) (by rfl) T.w_Web.g rfl) pa_nil))) (pe_and (pe_cmpR op_eq (pe_fld (pv 0) rfl) (pe_fld (pv 1) rfl) (nomark _)) (pe_one (pe_cmpR (op_eqD hr.units) (pe_fld (pv 0) rfl) (pe_fld (pv 1) rfl) (nomark _))))))), ?_⟩
    walk_at "r"
    refine ⟨_, _, _, _, _, rfl, .own _, o.ty, kit_odd o T.od_Web, ?_⟩
    walk_at "r"
    exact q
def sp_am (K : PySem.W.Frag) (M n k : Nat) : Sp := fun vs H Q _ => ∃ (D C : Addr) (c : Nat), vs = [.ref D] ∧ Deck M D C H c ∧ c ≤ 2 ^ 39 ∧ ∀ H' v r, Fw D H H' → Deck M D C H' (c + n) → IsF K H' v r → Bd k r → 0 < r → Q v H'
theorem ok_l_amount {M : Nat} (hM : 64 ≤ M) (hM2 : M ≤ 1048576) (T : Txt K mg f_is_integer f_is_row f_is_fraction f_is_some f_multiplied f_squared f_is_stall f_l_deck f_l_pick f_l_divisor f_l_made f_l_amount f_l_stall f_l_stalls f_l_others f_l_is_flag f_l_are_compared f_law f_Web_init f_Web_eq c_Web d_is_integer d_is_row d_is_fraction d_is_some d_multiplied d_squared d_is_stall d_l_deck d_l_pick d_l_divisor d_l_made d_l_amount d_l_stall d_l_stalls d_l_others d_l_is_flag d_l_are_compared d_law d_Web_init d_Web_eq) : FnOk P w K mg base CX0 3 f_l_amount d_l_amount ["_law_deck_here"] (sp_am K M 3 20) := by
  have G_l_pick : FnOk P w K mg base CX0 1 f_l_pick d_l_pick ["_law_deck_here", "_law_many"] (sp_pick M) := ok_pick hM hM2 T
  have G_l_made : FnOk P w K mg base CX0 2 f_l_made d_l_made ["_law_top", "_law_bottom"] (sp_made K) := ok_l_made T
  refine T.F_l_amount.ok sc_l_amount (fun vs H Q E h => ?_) (fun cdv A outer s H vs Q E hr h => ?_)
  · obtain ⟨D, C, c, rfl, _⟩ := h
    rfl
  · obtain ⟨D, C, c, rfl, dk, hc, q⟩ := h
    refine ⟨_, (pss_cons (ps_set (i := 1) sc_l_amount.nd rfl (by first | exact Or.inl rfl | exact Or.inr rfl) (pe_ix ix_list (pe_lst (pa_cons pe_int (pa_cons pe_int (pa_cons pe_int pa_nil)))) (pe_call G_l_pick (hr.mono (by decide)) (by rfl) T.g_l_pick T.k_l_pick T.b_l_pick .nil pass0 (pa_cons (pv 0) (pa_cons pe_int pa_nil))) (fun _ _ => rfl)))
      (pss_one (ps_ret (pe_call G_l_made (hr.mono (by decide)) (by rfl) T.g_l_made T.k_l_made T.b_l_made .nil pass0 (pa_cons (pe_op op_add pe_int (pe_call G_l_pick (hr.mono (by decide)) (by rfl) T.g_l_pick T.k_l_pick T.b_l_pick .nil pass0 (pa_cons (pv 0) (pa_cons (pe_op op_sub (pv 1) pe_int) pa_nil)))) (pa_cons (pe_op op_add pe_int (pe_call G_l_pick (hr.mono (by decide)) (by rfl) T.g_l_pick T.k_l_pick T.b_l_pick .nil pass0 (pa_cons (pv 0) (pa_cons (pe_op op_sub (pv 1) pe_int) pa_nil)))) pa_nil)))))), ?_⟩
    walk_at "r"
    intro l5 nl5
    have s7 := same_upd (o := .lst [V.int 3, V.int 12, V.int 1000]) nl5
    have hl5 : upd H l5 (.lst [V.int 3, V.int 12, V.int 1000]) l5 = some (.lst [V.int 3, V.int 12, V.int 1000]) := upd_same
    have hl5D := dk.ne nl5
    generalize upd H l5 (.lst [V.int 3, V.int 12, V.int 1000]) = H7 at *
    have k7 := dk.same s7
    walk_at "r"
    refine ⟨_, _, _, _, rfl, ⟨by decide, by decide⟩, k7, by omega, fun H8 r8 w8 k8 a8 b8 => ?_⟩
    obtain ⟨z, ⟨z1, z2⟩, ez⟩ := size06 a8 b8
    refine rd_ixL (w8 _ _ hl5D hl5) ez ?_
    have f8 := (Same.fw s7).trans w8
    walk_at "r"
    refine ⟨_, _, _, _, rfl, ⟨by omega, by omega⟩, k8, by omega, fun H1 r1 w1 k1 a1 b1 => ?_⟩
    walk_at "r"
    refine ⟨_, _, _, _, rfl, ⟨by omega, by omega⟩, k1, by omega, fun H2 r2 w2 k2 a2 b2 => ?_⟩
    walk_at "r"
    have hb : (1 + r2).natAbs < 2 ^ 20 := by omega
    refine ⟨_, _, rfl, by omega, Nat.lt_of_lt_of_le hb (pow_le (by decide)), fun H3 v s3 hv => ?_⟩
    exact q _ _ _ (((f8.trans w1).trans w2).trans (Same.fw s3)) ((k2.same s3).mono (by omega)) hv (Bd.divInt (by omega) (by omega) hb) (divInt_pos (by omega) (by omega))
def sp_lstall7 (K : PySem.W.Frag) (M m k l : Nat) : Sp := fun vs H Q _ => ∃ (D C : Addr) (c n : Nat), vs = [.ref D, .int (n : Nat)] ∧ 2 ≤ n ∧ n ≤ 8 ∧ Deck M D C H c ∧ c ≤ 2 ^ 38 ∧ ∀ H' v s, Fw D H H' → Deck M D C H' (c + m) → IsSt K H' v s → OkSt n s → BdSt k s → Bd l s.r → Q v H'
theorem ok_l_stall {M : Nat} (hM : 64 ≤ M) (hM2 : M ≤ 1048576) (T : Txt K mg f_is_integer f_is_row f_is_fraction f_is_some f_multiplied f_squared f_is_stall f_l_deck f_l_pick f_l_divisor f_l_made f_l_amount f_l_stall f_l_stalls f_l_others f_l_is_flag f_l_are_compared f_law f_Web_init f_Web_eq c_Web d_is_integer d_is_row d_is_fraction d_is_some d_multiplied d_squared d_is_stall d_l_deck d_l_pick d_l_divisor d_l_made d_l_amount d_l_stall d_l_stalls d_l_others d_l_is_flag d_l_are_compared d_law d_Web_init d_Web_eq) : FnOk P w K mg base CX0 4 f_l_stall d_l_stall ["_law_deck_here", "_law_wares"] (sp_lstall7 K M 8 40 20) := by
  have G_l_pick : FnOk P w K mg base CX0 1 f_l_pick d_l_pick ["_law_deck_here", "_law_many"] (sp_pick M) := ok_pick hM hM2 T
  have G_l_made : FnOk P w K mg base CX0 2 f_l_made d_l_made ["_law_top", "_law_bottom"] (sp_made K) := ok_l_made T
  have G_l_amount : FnOk P w K mg base CX0 3 f_l_amount d_l_amount ["_law_deck_here"] (sp_am K M 3 20) := ok_l_amount hM hM2 T
  refine T.F_l_stall.ok sc_l_stall (fun vs H Q E h => ?_) (fun cdv A outer s H vs Q E hr h => ?_)
  · obtain ⟨D, C, c, n, rfl, _⟩ := h
    rfl
  · obtain ⟨D, C, c, n, rfl, hn2, hn8, dk, hc, q⟩ := h
    refine ⟨_, (pss_cons (ps_set (i := 2) sc_l_stall.nd rfl (by first | exact Or.inl rfl | exact Or.inr rfl) (pe_call G_l_pick (hr.mono (by decide)) (by rfl) T.g_l_pick T.k_l_pick T.b_l_pick .nil pass0 (pa_cons (pv 0) (pa_cons (pv 1) pa_nil))))
      (pss_cons (ps_set (i := 3) sc_l_stall.nd rfl (by first | exact Or.inl rfl | exact Or.inr rfl) (pe_call G_l_pick (hr.mono (by decide)) (by rfl) T.g_l_pick T.k_l_pick T.b_l_pick .nil pass0 (pa_cons (pv 0) (pa_cons (pe_op op_sub (pv 1) pe_int) pa_nil))))
      (C8.pss_cut (ps_if (pt_cmpR op_ge (pv 3) (pv 2) (nomark _))
        (pss_one (ps_set (i := 3) sc_l_stall.nd rfl (by first | exact Or.inl rfl | exact Or.inr rfl) (pe_op op_add (pv 3) pe_int)))
        pss_nil)
      (pss_cons (ps_set (i := 4) sc_l_stall.nd rfl (by first | exact Or.inl rfl | exact Or.inr rfl) (pe_call G_l_amount (hr.mono (by decide)) (by rfl) T.g_l_amount T.k_l_amount T.b_l_amount .nil pass0 (pa_cons (pv 0) pa_nil)))
      (pss_cons (ps_set (i := 5) sc_l_stall.nd rfl (by first | exact Or.inl rfl | exact Or.inr rfl) (pe_call G_l_amount (hr.mono (by decide)) (by rfl) T.g_l_amount T.k_l_amount T.b_l_amount .nil pass0 (pa_cons (pv 0) pa_nil)))
      (pss_cons (ps_set (i := 6) sc_l_stall.nd rfl (by first | exact Or.inl rfl | exact Or.inr rfl) (pe_call G_l_made (hr.mono (by decide)) (by rfl) T.g_l_made T.k_l_made T.b_l_made .nil pass0 (pa_cons (pe_op op_mulX (pe_ix ix_tup (pv 4) pe_int (fun _ _ => rfl)) (pe_ix ix_tup (pv 5) pe_int (fun _ _ => rfl))) (pa_cons (pe_op op_mulX (pe_ix ix_tup (pv 4) pe_int (fun _ _ => rfl)) (pe_ix ix_tup (pv 5) pe_int (fun _ _ => rfl))) pa_nil))))
      (pss_one (ps_ret (pe_tup (pa_cons (pv 2) (pa_cons (pv 3) (pa_cons (pv 6) (pa_cons (pe_call G_l_made (hr.mono (by decide)) (by rfl) T.g_l_made T.k_l_made T.b_l_made .nil pass0 (pa_cons (pe_op op_mulX (pe_ix ix_tup (pv 4) pe_int (fun _ _ => rfl)) (pe_ix ix_tup (pv 5) pe_int (fun _ _ => rfl))) (pa_cons (pe_op op_mulX (pe_ix ix_tup (pv 4) pe_int (fun _ _ => rfl)) (pe_ix ix_tup (pv 5) pe_int (fun _ _ => rfl))) pa_nil))) (pa_cons (pv 4) pa_nil)))))))))))))), ?_⟩
    walk_at "r"
    refine ⟨_, _, _, _, rfl, ⟨by omega, by omega⟩, dk, by omega, fun H1 r1 w1 k1 a1 b1 => ?_⟩
    walk_at "r"
    refine ⟨_, _, _, _, rfl, ⟨by omega, by omega⟩, k1, by omega, fun H2 r2 w2 k2 a2 b2 => ?_⟩
    have w2 := w1.trans w2
    walk_at "r"
    refine ⟨fun σ H' => ∃ (u v : Nat) (t4 t5 t6 : Option V), σ = [some (.ref D), some (.int (n : Nat)), some (.int (u : Nat)), some (.int (v : Nat)), t4, t5, t6] ∧ H' = H2 ∧ u < n ∧ v < n ∧ u ≠ v, ?_, ?_⟩
    · walk_at "r"
      walk_at "if"
      · rename_i h
        walk_at "r"
        refine ⟨r1.toNat, (r2 + 1).toNat, none, none, none, ?_, rfl, by omega, by omega, by omega⟩
        rw [show ((r1.toNat : Nat) : Int) = r1 by omega, show (((r2 + 1).toNat : Nat) : Int) = r2 + 1 by omega]
        rfl
      · rename_i h
        walk_at "r"
        refine ⟨r1.toNat, r2.toNat, none, none, none, ?_, rfl, by omega, by omega, by omega⟩
        rw [show ((r1.toNat : Nat) : Int) = r1 by omega, show ((r2.toNat : Nat) : Int) = r2 by omega]
        rfl
    rintro σ H' ⟨u, v, t4, t5, t6, rfl, rfl, hu, hv, huv⟩
    walk_at "r"
    refine ⟨_, _, _, rfl, k2, by omega, fun H3 root r w3 k3 fr br r0 => ?_⟩
    walk_at "r"
    refine ⟨_, _, _, rfl, k3, by omega, fun H4 fac f w4 k4 ff bf f0 => ?_⟩
    have fr := fr.fw k3 w4
    have w4 := (w2.trans w3).trans w4
    have rd4 : ((r.den : Int)).natAbs < 2 ^ 20 := by rw [Int.natAbs_natCast]; exact br.2
    have fd4 : ((f.den : Int)).natAbs < 2 ^ 20 := by rw [Int.natAbs_natCast]; exact bf.2
    have rn0 := num_pos' r0
    have fn0 := num_pos' f0
    have rd0 := den_pos r
    have fd0 := den_pos f
    obtain ⟨pr1, rfl, hpr⟩ := id fr
    obtain ⟨pf1, rfl, hpf⟩ := id ff
    have p64 : ∀ {z : Int}, z.natAbs < 2 ^ 20 → z.natAbs < 2 ^ 64 := fun h => Nat.lt_of_lt_of_le h (pow_le (by decide))
    walk_at "r"
    rotate_left
    · exact cmul_small (p64 rd4) (p64 fd4)
    · exact cmul_small (p64 br.1) (p64 bf.1)
    refine ⟨_, _, rfl, Int.mul_pos rd0 fd0, Nat.lt_of_lt_of_le (mul_lt' rd4 fd4) (pow_le (by decide)), fun H5 one s5 h1 => ?_⟩
    rw [divInt_mul'] at h1
    have fr := fr.same s5
    have hpr := hpr.same s5
    have hpf := hpf.same s5
    walk_at "r"
    rotate_left
    · exact cmul_small (p64 rd4) (p64 bf.1)
    · exact cmul_small (p64 br.1) (p64 fd4)
    refine ⟨_, _, rfl, Int.mul_pos rd0 fn0, Nat.lt_of_lt_of_le (mul_lt' rd4 bf.1) (pow_le (by decide)), fun H6 other s6 h2 => ?_⟩
    walk_at "r"
    intro p7 n7
    have sm := same_upd (o := .tup [V.int (u : Nat), .int (v : Nat), one, other, .ref pr1]) n7
    refine q _ _ ⟨u, v, r * f, Rat.divInt (r.num * f.den) (r.den * f.num), r⟩ (w4.trans (Same.fw ((s5.trans s6).trans sm))) ((k4.same ((s5.trans s6).trans sm)).mono (by omega)) ⟨p7, one, other, .ref pr1, rfl, upd_same, (h1.same s6).same sm, h2.same sm, (fr.same s6).same sm⟩ ?_ ?_ ?_
    · exact ⟨hu, hv, huv, Rat.mul_pos r0 f0, divInt_pos (Int.mul_pos rn0 fd0) (Int.mul_pos rd0 fn0), r0, back_root r f f0⟩
    · exact ⟨br.mul bf, Bd.divInt (Int.ne_of_gt (Int.mul_pos rd0 fn0)) (mul_lt' br.1 fd4) (mul_lt' rd4 bf.1), br.mono (by decide)⟩
    · exact br
def sp_lstalls7 (K : PySem.W.Frag) (M : Nat) : Sp := fun vs H Q _ => ∃ (D C : Addr) (c n : Nat), vs = [.ref D, .int (n : Nat)] ∧ 1 ≤ n ∧ n ≤ 8 ∧ Deck M D C H c ∧ c ≤ 2 ^ 37 ∧
  ∀ H' S xs ss, Fw D H H' → Deck M D C H' (c + 200) → S ≠ D → H' S = some (.lst xs) → Sts K H' xs ss → ss.length ≤ 16 → (∀ s ∈ ss, OkSt n s ∧ BdSt 40 s ∧ Bd 20 s.r) → Q (.ref S) H'
theorem ok_l_stalls {M : Nat} (hM : 64 ≤ M) (hM2 : M ≤ 1048576) (T : Txt K mg f_is_integer f_is_row f_is_fraction f_is_some f_multiplied f_squared f_is_stall f_l_deck f_l_pick f_l_divisor f_l_made f_l_amount f_l_stall f_l_stalls f_l_others f_l_is_flag f_l_are_compared f_law f_Web_init f_Web_eq c_Web d_is_integer d_is_row d_is_fraction d_is_some d_multiplied d_squared d_is_stall d_l_deck d_l_pick d_l_divisor d_l_made d_l_amount d_l_stall d_l_stalls d_l_others d_l_is_flag d_l_are_compared d_law d_Web_init d_Web_eq) : FnOk P w K mg base CX0 5 f_l_stalls d_l_stalls ["_law_deck_here", "_law_wares"] (sp_lstalls7 K M) := by
  have G_l_pick : FnOk P w K mg base CX0 1 f_l_pick d_l_pick ["_law_deck_here", "_law_many"] (sp_pick M) := ok_pick hM hM2 T
  have G_l_stall : FnOk P w K mg base CX0 4 f_l_stall d_l_stall ["_law_deck_here", "_law_wares"] (sp_lstall7 K M 8 40 20) := ok_l_stall hM hM2 T
  refine T.F_l_stalls.ok sc_l_stalls (fun vs H Q E h => ?_) (fun cdv A outer s H vs Q E hr h => ?_)
  · obtain ⟨D, C, c, n, rfl, _⟩ := h
    rfl
  · obtain ⟨D, C, c, n, rfl, n1, n8, dk, hc, q⟩ := h
    refine ⟨_, (pss_cons (ps_if (pt_cmpR op_lt (pv 1) pe_int (nomark _))
        (pss_one (ps_ret (pe_lst pa_nil)))
        pss_nil)
      (pss_one (ps_ret (pe_lc (own := [("_law_turn", 2)]) (g := gName 2) rfl sc_l_stalls.nd (pi_range1 (by rfl) T.z_range (pa_cons (pe_call G_l_pick (hr.mono (by decide)) (by rfl) T.g_l_pick T.k_l_pick T.b_l_pick .nil pass0 (pa_cons (pv 0) (pa_cons (pe_ix ix_list (pe_lst (pa_cons pe_int (pa_cons pe_int pa_nil))) (pe_call G_l_pick (hr.mono (by decide)) (by rfl) T.g_l_pick T.k_l_pick T.b_l_pick .nil pass0 (pa_cons (pv 0) (pa_cons pe_int pa_nil))) (fun _ _ => rfl)) pa_nil))) pa_nil)) (blkOk_by (own := [("_law_turn", 2)]) (N := N_l_stalls) (sc := defScope s_l_stalls) (by decide +kernel)) (fun _ _ _ _ _ => (pg_name (i := 2) sc_l_stalls.nd rfl (by first | exact Or.inl rfl | exact Or.inr rfl))) (fun _ _ _ _ _ => pts_nil) (fun _ _ _ _ _ => (pe_call G_l_stall (hr.mono (by decide)) (by rfl) T.g_l_stall T.k_l_stall T.b_l_stall .nil pass0 (pa_cons (pv 0) (pa_cons (pv 1) pa_nil)))))))), ?_⟩
    walk_at "r"
    walk_at "if"
    · walk_at "r"
      intro S nS
      exact q _ S [] [] (Same.fw (same_upd nS)) ((dk.same (same_upd nS)).mono (by omega)) (dk.ne nS) upd_same .nil (by simp) (by simp)
    · walk_at "r"
      intro l5 nl5
      have s7 := same_upd (o := .lst [V.int 5, V.int 17]) nl5
      have hl5 : upd H l5 (.lst [V.int 5, V.int 17]) l5 = some (.lst [V.int 5, V.int 17]) := upd_same
      have hl5D := dk.ne nl5
      generalize upd H l5 (.lst [V.int 5, V.int 17]) = H7 at *
      have k7 := dk.same s7
      walk_at "r"
      refine ⟨_, _, _, _, rfl, ⟨by decide, by decide⟩, k7, by omega, fun H8 r8 w8 k8 a8 b8 => ?_⟩
      obtain ⟨z, hz, ez⟩ := flag06 a8 b8
      refine rd_ixL (w8 _ _ hl5D hl5) ez ?_
      walk_at "r"
      refine ⟨_, _, z, _, rfl, ⟨by omega, by omega⟩, k8, by omega, fun H9 r9 w9 k9 a9 b9 => ?_⟩
      have f9 := ((Same.fw (D := D) s7).trans w8).trans w9
      walk_at "r"
      refine ⟨by omega, by omega, fun S nS => ?_⟩
      have nSD := k9.ne nS
      have nSC := k9.neC nS
      refine lc_range (lo := 0) (n := r9.toNat) (fun i H' => ∃ xs ss, Fw D H9 H' ∧ H' S = some (.lst xs) ∧ xs.length = i ∧ Sts K H' xs ss ∧ (∀ s ∈ ss, OkSt n s ∧ BdSt 40 s ∧ Bd 20 s.r) ∧ Deck M D C H' (c + 2 + 8 * i)) ?_ ?_ ?_
      · exact ⟨[], [], Same.fw (same_upd nS), upd_same, rfl, .nil, by simp, (k9.same (same_upd nS)).mono (by omega)⟩
      · rintro i H' hi ⟨xs, ss, fw, hS', hlen, hst, hok, k⟩
        walk_at "r"
        refine ⟨rfl, ?_⟩
        walk_at "r"
        refine ⟨_, _, _, n, rfl, by omega, n8, k, by omega, fun H5 v s w5 k5 iv ok5 bd5 br5 => ?_⟩
        refine ⟨xs, w5 _ _ nSD hS', small1000 (by omega), ?_⟩
        have tp := tps_put (H1 := H5) (o := .lst (xs ++ [v])) (w5 _ _ nSD hS')
        refine ⟨xs ++ [v], ss ++ [s], fun b o hb h => (upd_ne (ne_of_none h nS)).trans (w5 _ _ hb (fw _ _ hb h)), upd_same, by simp [hlen], ((hst.ts (w5.ts k)).snoc iv).ts tp, fun t ht => ?_, (k5.put nSD nSC).mono (by omega)⟩
        rcases List.mem_append.mp ht with h | h
        · exact hok t h
        · rw [List.mem_singleton.mp h]
          exact ⟨ok5, bd5, br5⟩
      · rintro H' ⟨xs, ss, fw, hS', hlen, hst, hok, k⟩
        have hl := hst.len
        exact q _ S xs ss (f9.trans fw) (k.mono (by omega)) nSD hS' hst (by omega) hok
end
end My
namespace My
open PySem PySem.Spec PyProof.Rows L2
variable {K : PySem.W.Frag}
theorem eqWebB {C : Addr} {H : Hp} {v u : V} {n m : Nat} {ss tt : List Stl} {Q : VK} (h1 : IsWeb K C H v n ss) (h2 : IsWeb K C H u m tt) (q : Q (.bl (decide (n = m) && decide (ss = tt))) H) : rEqI C (BWeb K C) v u H Q := by
  obtain ⟨p, dx, t, xs, rfl, hp, _⟩ := id h1
  obtain ⟨p2, dx2, t2, xs2, rfl, hp2, _⟩ := id h2
  exact ⟨_, _, _, _, _, _, _, rfl, rfl, hp, hp2, ⟨n, m, _, _, h1, h2, rfl⟩, q⟩
theorem neWebB {C : Addr} {H : Hp} {v u : V} {n m : Nat} {ss tt : List Stl} {Q : VK} (h1 : IsWeb K C H v n ss) (h2 : IsWeb K C H u m tt) (q : Q (.bl (!(decide (n = m) && decide (ss = tt)))) H) : rNeI C (BWeb K C) v u H Q := by
  obtain ⟨p, dx, t, xs, rfl, hp, _⟩ := id h1
  obtain ⟨p2, dx2, t2, xs2, rfl, hp2, _⟩ := id h2
  exact ⟨_, _, _, _, _, _, _, rfl, rfl, hp, hp2, ⟨n, m, _, _, h1, h2, rfl⟩, q⟩
section
variable {P : Program} {w : World} {K : PySem.W.Frag} {mg : Str → Option Value} {base : Heap} {f_is_integer f_is_row f_is_fraction f_is_some f_multiplied f_squared f_is_stall f_l_deck f_l_pick f_l_divisor f_l_made f_l_amount f_l_stall f_l_stalls f_l_others f_l_is_flag f_l_are_compared f_law f_Web_init f_Web_eq c_Web : Addr} {d_is_integer d_is_row d_is_fraction d_is_some d_multiplied d_squared d_is_stall d_l_deck d_l_pick d_l_divisor d_l_made d_l_amount d_l_stall d_l_stalls d_l_others d_l_is_flag d_l_are_compared d_law d_Web_init d_Web_eq : FuncData}
def sp_lflag : Sp := fun vs H Q _ => ∃ b : Bool, vs = [.bl b, .bl b] ∧ Q (.bl true) H
theorem ok_l_is_flag (T : Txt K mg f_is_integer f_is_row f_is_fraction f_is_some f_multiplied f_squared f_is_stall f_l_deck f_l_pick f_l_divisor f_l_made f_l_amount f_l_stall f_l_stalls f_l_others f_l_is_flag f_l_are_compared f_law f_Web_init f_Web_eq c_Web d_is_integer d_is_row d_is_fraction d_is_some d_multiplied d_squared d_is_stall d_l_deck d_l_pick d_l_divisor d_l_made d_l_amount d_l_stall d_l_stalls d_l_others d_l_is_flag d_l_are_compared d_law d_Web_init d_Web_eq) : FnOk P w K mg base CX0 1 f_l_is_flag d_l_is_flag ["_law_flag", "_law_due"] sp_lflag := by
  refine T.F_l_is_flag.ok sc_l_is_flag (fun vs H Q E h => ?_) (fun cdv A outer s H vs Q E hr h => ?_)
  · obtain ⟨b, rfl, _⟩ := h
    rfl
  · obtain ⟨b, rfl, q⟩ := h
    refine ⟨_, (pss_cons (ps_if (pt_val (pv 1))
        (pss_one (ps_ret (pe_cmpR op_isBl (pv 0) pe_bl (nomark _))))
        pss_nil)
      (pss_one (ps_ret (pe_cmpR op_isBl (pv 0) pe_bl (nomark _))))), ?_⟩
    cases b
    · walk_at "r"
      exact q
    · walk_at "r"
      exact q
def sp_lcmp (K : PySem.W.Frag) (C : Addr) : Sp := fun vs H Q _ => ∃ (x y : V) (n m : Nat) (ss tt : List Stl), vs = [x, y, .bl (decide (n = m) && decide (ss = tt))] ∧ IsWeb K C H x n ss ∧ IsWeb K C H y m tt ∧ Q (.bl true) H
theorem ok_l_are_compared (T : Txt K mg f_is_integer f_is_row f_is_fraction f_is_some f_multiplied f_squared f_is_stall f_l_deck f_l_pick f_l_divisor f_l_made f_l_amount f_l_stall f_l_stalls f_l_others f_l_is_flag f_l_are_compared f_law f_Web_init f_Web_eq c_Web d_is_integer d_is_row d_is_fraction d_is_some d_multiplied d_squared d_is_stall d_l_deck d_l_pick d_l_divisor d_l_made d_l_amount d_l_stall d_l_stalls d_l_others d_l_is_flag d_l_are_compared d_law d_Web_init d_Web_eq) : FnOk P w K mg base CX0 3 f_l_are_compared d_l_are_compared ["_law_one", "_law_other", "_law_due"] (sp_lcmp K c_Web) := by
  have G_l_is_flag : FnOk P w K mg base CX0 1 f_l_is_flag d_l_is_flag ["_law_flag", "_law_due"] sp_lflag := ok_l_is_flag T
  refine T.F_l_are_compared.ok sc_l_are_compared (fun vs H Q E h => ?_) (fun cdv A outer s H vs Q E hr h => ?_)
  · obtain ⟨x, y, n, m, ss, tt, rfl, _⟩ := h
    rfl
  · obtain ⟨x, y, n, m, ss, tt, rfl, h1, h2, q⟩ := h
    have e : (decide (m = n) && decide (tt = ss)) = (decide (n = m) && decide (ss = tt)) := by
      rw [Bool.eq_iff_iff]
      simp only [Bool.and_eq_true, decide_eq_true_eq]
      exact ⟨fun h => ⟨h.1.symm, h.2.symm⟩, fun h => ⟨h.1.symm, h.2.symm⟩⟩
    refine ⟨_, (pss_one (ps_ret (pe_and (pe_call G_l_is_flag (hr.mono (by decide)) (by rfl) T.g_l_is_flag T.k_l_is_flag T.b_l_is_flag .nil pass0 (pa_cons (pe_cmpR (op_eqI (ok_Web_eq_B T) (hr.mono (by decide)) T.i_Web_eq T.fn_Web_eq T.b_Web_eq) (pv 0) (pv 1) (nomark _)) (pa_cons (pv 2) pa_nil))) (pe_and (pe_call G_l_is_flag (hr.mono (by decide)) (by rfl) T.g_l_is_flag T.k_l_is_flag T.b_l_is_flag .nil pass0 (pa_cons (pe_cmpR (op_eqI (ok_Web_eq_B T) (hr.mono (by decide)) T.i_Web_eq T.fn_Web_eq T.b_Web_eq) (pv 1) (pv 0) (nomark _)) (pa_cons (pv 2) pa_nil))) (pe_one (pe_call G_l_is_flag (hr.mono (by decide)) (by rfl) T.g_l_is_flag T.k_l_is_flag T.b_l_is_flag .nil pass0 (pa_cons (pe_cmpR (op_neI (ok_Web_eq_B T) (hr.mono (by decide)) T.ne_Web T.w_Web.it.mo T.i_Web_eq T.fn_Web_eq T.b_Web_eq) (pv 0) (pv 1) (nomark _)) (pa_cons (pe_not (pv 2)) pa_nil)))))))), ?_⟩
    walk_at "r"
    refine eqWebB (K := K) h1 h2 ?_
    walk_at "r"
    refine ⟨_, rfl, ?_⟩
    walk_at "r"
    refine eqWebB (K := K) h2 h1 ?_
    rw [e]
    walk_at "r"
    refine ⟨_, rfl, ?_⟩
    walk_at "r"
    refine neWebB (K := K) h1 h2 ?_
    walk_at "r"
    refine ⟨_, rfl, ?_⟩
    walk_at "r"
    exact q
end
end My
namespace My
open PySem PySem.Spec PyProof.Rows L2
theorem cut_take (xs : List V) (i : Nat) : cutV xs none (some (i : Int)) = xs.take i := by
  unfold cutV
  rw [HT.sIx_none, HT.sIx_nat]
  by_cases h : i ≤ xs.length
  · simp [Nat.min_eq_left h]
  · rw [Nat.min_eq_right (by omega), List.take_of_length_le (show xs.length ≤ i by omega)]
    simp
theorem cut_drop (xs : List V) (i : Nat) : cutV xs (some (i : Int)) none = xs.drop i := by
  unfold cutV
  rw [HT.sIx_none, HT.sIx_nat]
  by_cases h : i ≤ xs.length
  · rw [Nat.min_eq_left h]
    exact List.take_of_length_le (by simp)
  · rw [Nat.min_eq_right (by omega), List.drop_eq_nil_of_le (show xs.length ≤ i by omega)]
    simp
end My
namespace My
open PySem PySem.Spec PyProof.Rows L2
variable {K : PySem.W.Frag}
end My
namespace My
open PySem PySem.Spec PyProof.Rows L2
variable {K : PySem.W.Frag}
theorem rd_revL {te : TE} {σ : L2.St} {H : Hp} {Q : VK} (h : te σ H fun x H1 => ∃ a xs, x = .ref a ∧ SqL K H1 a xs ∧ ∀ p, H1 p = none → Q (.ref p) (upd H1 p (.lst xs.reverse))) : tRevL K te σ H Q := h
/-- a list of a number of wares and a list of stalls -/
def IsPr (K : PySem.W.Frag) (D F : Addr) (H : Hp) (v : V) (p : Nat × List Stl) : Prop := ∃ a L xs, v = .ref a ∧ H a = some (.lst [.int (p.1 : Nat), .ref L]) ∧ H L = some (.lst xs) ∧ Sts K H xs p.2 ∧ a ≠ D ∧ L ≠ D ∧ a ≠ F ∧ L ≠ F
def OkP (p : Nat × List Stl) : Prop := 1 ≤ p.1 ∧ p.1 ≤ 8 ∧ p.2.length ≤ 16 ∧ ∀ s ∈ p.2, OkSt p.1 s ∧ BdSt 60 s
theorem IsPr.same {D F : Addr} {H H' : Hp} {v : V} {p : Nat × List Stl} (h : IsPr K D F H v p) (s : Same H H') : IsPr K D F H' v p := by
  obtain ⟨a, L, xs, e, h1, h2, h3, h4⟩ := h
  exact ⟨a, L, xs, e, s _ _ h1, s _ _ h2, h3.same s, h4⟩
theorem IsPr.fw {D F C : Addr} {M c : Nat} {H H' : Hp} {v : V} {p : Nat × List Stl} (h : IsPr K D F H v p) (d : Deck M D C H c) (f : Fw D H H') : IsPr K D F H' v p := by
  obtain ⟨a, L, xs, e, h1, h2, h3, h4, h5, h6⟩ := h
  exact ⟨a, L, xs, e, f _ _ h4 h1, f _ _ h5 h2, h3.ts (f.ts d), h4, h5, h6⟩
theorem IsPr.put {D F : Addr} {H : Hp} {v : V} {p : Nat × List Stl} {vs ws : List V} (h : IsPr K D F H v p) (hF : H F = some (.lst vs)) : IsPr K D F (upd H F (.lst ws)) v p := by
  obtain ⟨a, L, xs, e, h1, h2, h3, h4, h5, h6, h7⟩ := h
  exact ⟨a, L, xs, e, (upd_ne h6).trans h1, (upd_ne h7).trans h2, h3.ts (tps_put (H1 := H) hF), h4, h5, h6, h7⟩
structure G06 (K : PySem.W.Frag) (M : Nat) (D C S F : Addr) (H0 : Hp) (xs : List V) (ss : List Stl) (c k : Nat) (vs : List V) (ps : List (Nat × List Stl)) (H : Hp) : Prop where
  f0 : Fw D H0 H
  dk : Deck M D C H c
  fS : H S = some (.lst xs)
  st : Sts K H xs ss
  sD : S ≠ D
  sF : S ≠ F
  fF : H F = some (.lst vs)
  fD : F ≠ D
  fC : F ≠ C
  nF : H0 F = none
  it : Paired (IsPr K D F H) vs ps
  ok : ∀ p ∈ ps, OkP p
  ln : vs.length ≤ k
section
variable {M : Nat} {D C S F : Addr} {H0 H H' : Hp} {xs : List V} {ss : List Stl} {c k : Nat} {vs : List V} {ps : List (Nat × List Stl)}
theorem prd_imp {α β : Type} {R R' : α → β → Prop} (f : ∀ a b, R a b → R' a b) {l : List α} {m : List β} (h : Paired R l m) : Paired R' l m := by
  induction h with
  | nil => exact .nil
  | cons h t ih => exact .cons (f _ _ h) ih
theorem G06.same (g : G06 K M D C S F H0 xs ss c k vs ps H) (s : Same H H') : G06 K M D C S F H0 xs ss c k vs ps H' :=
  ⟨g.f0.trans (Same.fw s), g.dk.same s, s _ _ g.fS, g.st.same s, g.sD, g.sF, s _ _ g.fF, g.fD, g.fC, g.nF, prd_imp (fun _ _ h => h.same s) g.it, g.ok, g.ln⟩
theorem G06.fw {c' : Nat} (g : G06 K M D C S F H0 xs ss c k vs ps H) (f : Fw D H H') (d : Deck M D C H' c') : G06 K M D C S F H0 xs ss c' k vs ps H' :=
  ⟨g.f0.trans f, d, f _ _ g.sD g.fS, g.st.ts (f.ts g.dk), g.sD, g.sF, f _ _ g.fD g.fF, g.fD, g.fC, g.nF, prd_imp (fun _ _ h => h.fw g.dk f) g.it, g.ok, g.ln⟩
theorem G06.put (g : G06 K M D C S F H0 xs ss c k vs ps H) {a L : Addr} {ys : List V} {m : Nat} {tt : List Stl} (ha : H a = some (.lst [.int (m : Nat), .ref L])) (hL : H L = some (.lst ys)) (ht : Sts K H ys tt) (n1 : a ≠ D) (n2 : L ≠ D) (n3 : a ≠ F) (n4 : L ≠ F) (ok : OkP (m, tt)) :
    G06 K M D C S F H0 xs ss c (k + 1) (vs ++ [.ref a]) (ps ++ [(m, tt)]) (upd H F (.lst (vs ++ [.ref a]))) := by
  have one : IsPr K D F H (.ref a) (m, tt) := ⟨a, L, ys, rfl, ha, hL, ht, n1, n2, n3, n4⟩
  have hl := g.ln
  refine ⟨fun b o hb h => (upd_ne (ne_of_none h g.nF)).trans (g.f0 _ _ hb h), g.dk.put g.fD g.fC, (upd_ne g.sF).trans g.fS, g.st.ts (tps_put (H1 := H) g.fF), g.sD, g.sF, upd_same, g.fD, g.fC, g.nF, prd_app (prd_imp (fun _ _ h => h.put g.fF) g.it) (.cons (one.put g.fF) .nil), fun p hp => ?_, by simp; omega⟩
  rcases List.mem_append.mp hp with h | h
  · exact g.ok p h
  · rw [List.mem_singleton.mp h]
    exact ok
end
theorem tp6 {H H' : Hp} (s : Same H H') : Tps H H' := fun _ _ h => s _ _ h
section
variable {M : Nat} {D C S F : Addr} {H0 H : Hp} {xs : List V} {ss : List Stl} {c k : Nat} {vs : List V} {ps : List (Nat × List Stl)}
theorem G06.row (g : G06 K M D C S F H0 xs ss c k vs ps H) {a L : Addr} {ys : List V} {m : Nat} {tt : List Stl} (hL : H L = some (.lst ys)) (ht : Sts K H ys tt) (n2 : L ≠ D) (n4 : L ≠ F) (na : H a = none) (ok : OkP (m, tt)) :
    ∃ H', H' = upd (upd H a (.lst [.int (m : Nat), .ref L])) F (.lst (vs ++ [.ref a])) ∧ upd H a (.lst [.int (m : Nat), .ref L]) F = some (.lst vs) ∧ Tps H H' ∧ G06 K M D C S F H0 xs ss c (k + 1) (vs ++ [.ref a]) (ps ++ [(m, tt)]) H' := by
  have sp := same_upd (o := .lst [V.int (m : Nat), .ref L]) na
  have g' := g.same sp
  exact ⟨_, rfl, g'.fF, fun b zs hb => tps_put (H1 := H) g'.fF b zs (sp _ _ hb), g'.put upd_same (sp _ _ hL) (ht.same sp) (g.dk.ne na) n2 (ne_of_none g.fF na).symm n4 ok⟩
end
/-- the stall that is looked at -/
structure Z06 (K : PySem.W.Frag) (H : Hp) (z pa pr : Addr) (vb : V) (t : Stl) : Prop where
  hs : H z = some (.tup [.int (t.u : Nat), .int (t.v : Nat), .ref pa, vb, .ref pr])
  ha : Tp K H pa (frV t.a)
  fb : IsF K H vb t.b
  hr : Tp K H pr (frV t.r)
theorem Z06.ts {H H' : Hp} {z pa pr : Addr} {vb : V} {t : Stl} (h : Z06 K H z pa pr vb t) (f : Tps H H') : Z06 K H' z pa pr vb t := ⟨f _ _ h.hs, h.ha.ts f, h.fb.ts f, h.hr.ts f⟩
theorem Z06.is {H : Hp} {z pa pr : Addr} {vb : V} {t : Stl} (h : Z06 K H z pa pr vb t) : IsSt K H (.ref z) t := ⟨z, _, _, _, rfl, h.hs, ⟨pa, rfl, h.ha⟩, h.fb, ⟨pr, rfl, h.hr⟩⟩
structure Y06 (K : PySem.W.Frag) (H : Hp) (z pa pr : Addr) (vb : V) (t : Stl) (four two : V) : Prop where
  z : Z06 K H z pa pr vb t
  f4 : IsF K H four (Rat.divInt (t.a.num * 4) t.a.den)
  f2 : IsF K H two (Rat.divInt (t.r.num * 2) t.r.den)
theorem Y06.ts {H H' : Hp} {z pa pr : Addr} {vb four two : V} {t : Stl} (h : Y06 K H z pa pr vb t four two) (f : Tps H H') : Y06 K H' z pa pr vb t four two := ⟨h.z.ts f, h.f4.ts f, h.f2.ts f⟩
theorem bd_four {s : Stl} (h : BdSt 40 s) : BdSt 60 ⟨s.u, s.v, Rat.divInt (s.a.num * 4) s.a.den, s.b, Rat.divInt (s.r.num * 2) s.r.den⟩ := by
  have d : ∀ r : Rat, Bd 40 r → (r.den : Int) ≠ 0 ∧ ((r.den : Int)).natAbs < 2 ^ 60 := fun r h => ⟨Int.ne_of_gt (den_pos r), by
    rw [Int.natAbs_natCast]
    exact Nat.lt_of_lt_of_le h.2 (pow_le (by decide))⟩
  have n : ∀ (r : Rat) (k : Int), Bd 40 r → k.natAbs < 2 ^ 20 → (r.num * k).natAbs < 2 ^ 60 := fun r k h hk => mul_lt' h.1 hk
  exact ⟨Bd.divInt (d _ h.a).1 (n _ 4 h.a (by decide)) (d _ h.a).2, h.b.mono (by decide), Bd.divInt (d _ h.r).1 (n _ 2 h.r (by decide)) (d _ h.r).2⟩
theorem at_some {xs : List V} {i : Nat} {x : V} (h : xs[i]? = some x) : atI xs (i : Int) = some x := atI_nat h
theorem ok_more {n : Nat} {s : Stl} (h : OkSt n s) : OkSt (n + 1) s := by
  obtain ⟨h1, h2, h3, h4, h5, h6, h7⟩ := h
  exact ⟨by omega, by omega, h3, h4, h5, h6, h7⟩
theorem ok_turn {n : Nat} {s : Stl} (h : OkSt n s) : OkSt n ⟨s.v, s.u, s.b, s.a, s.r⟩ := by
  obtain ⟨h1, h2, h3, h4, h5, h6, h7⟩ := h
  exact ⟨h2, h1, fun e => h3 e.symm, h5, h4, h6, by
    show s.b * s.a = s.r * s.r
    rw [Rat.mul_comm]
    exact h7⟩
theorem four_of (r : Rat) (k : Int) : Rat.divInt (r.num * k) r.den = r * Rat.divInt k 1 := by
  have e2 : r = Rat.divInt r.num r.den := (Rat.num_divInt_den r).symm
  calc Rat.divInt (r.num * k) r.den = Rat.divInt (r.num * k) (r.den * 1) := by rw [Int.mul_one]
    _ = Rat.divInt r.num r.den * Rat.divInt k 1 := (Rat.divInt_mul_divInt ..).symm
    _ = r * Rat.divInt k 1 := by rw [← e2]
theorem ok_four {n : Nat} {s : Stl} (h : OkSt n s) : OkSt n ⟨s.u, s.v, Rat.divInt (s.a.num * 4) s.a.den, s.b, Rat.divInt (s.r.num * 2) s.r.den⟩ := by
  obtain ⟨h1, h2, h3, h4, h5, h6, h7⟩ := h
  rw [four_of, four_of]
  refine ⟨h1, h2, h3, Rat.mul_pos h4 (by decide +kernel), h5, Rat.mul_pos h6 (by decide +kernel), ?_⟩
  show s.a * Rat.divInt 4 1 * s.b = s.r * Rat.divInt 2 1 * (s.r * Rat.divInt 2 1)
  have h7 : s.a * s.b = s.r * s.r := h7
  have e : Rat.divInt 4 1 = Rat.divInt 2 1 * Rat.divInt 2 1 := by decide +kernel
  rw [e]
  generalize Rat.divInt 2 1 = t at *
  calc s.a * (t * t) * s.b = s.a * s.b * (t * t) := by grind
    _ = s.r * s.r * (t * t) := by rw [h7]
    _ = s.r * t * (s.r * t) := by grind
theorem sts_set {H : Hp} {xs : List V} {ss : List Stl} {v : V} {t : Stl} (h : Sts K H xs ss) (i : Nat) (hv : IsSt K H v t) : Sts K H (xs.take i ++ [v] ++ xs.drop (i + 1)) (ss.take i ++ [t] ++ ss.drop (i + 1)) :=
  prd_app (prd_app (prd_take h i) (.cons hv .nil)) (prd_drop h (i + 1))
theorem mem_set {ss : List Stl} {t : Stl} {i : Nat} {P : Stl → Prop} (h : ∀ s ∈ ss, P s) (ht : P t) : ∀ s ∈ ss.take i ++ [t] ++ ss.drop (i + 1), P s := fun s hs => by
  rcases List.mem_append.mp hs with h1 | h1
  · rcases List.mem_append.mp h1 with h2 | h2
    · exact h s (List.mem_of_mem_take h2)
    · rw [List.mem_singleton.mp h2]
      exact ht
  · exact h s (List.mem_of_mem_drop h1)
theorem cut_drop1 (xs : List V) (i : Nat) : cutV xs (some ((i : Int) + 1)) none = xs.drop (i + 1) := cut_drop xs (i + 1)
section
variable {P : Program} {w : World} {K : PySem.W.Frag} {mg : Str → Option Value} {base : Heap} {f_is_integer f_is_row f_is_fraction f_is_some f_multiplied f_squared f_is_stall f_l_deck f_l_pick f_l_divisor f_l_made f_l_amount f_l_stall f_l_stalls f_l_others f_l_is_flag f_l_are_compared f_law f_Web_init f_Web_eq c_Web : Addr} {d_is_integer d_is_row d_is_fraction d_is_some d_multiplied d_squared d_is_stall d_l_deck d_l_pick d_l_divisor d_l_made d_l_amount d_l_stall d_l_stalls d_l_others d_l_is_flag d_l_are_compared d_law d_Web_init d_Web_eq : FuncData}
def sp_loth (K : PySem.W.Frag) (M : Nat) : Sp := fun vs H Q _ => ∃ (D C S : Addr) (c n : Nat) (xs : List V) (ss : List Stl), vs = [.ref D, .int (n : Nat), .ref S] ∧ 1 ≤ n ∧ n ≤ 8 ∧ Deck M D C H c ∧ c ≤ 2 ^ 37 ∧ H S = some (.lst xs) ∧ Sts K H xs ss ∧ S ≠ D ∧ ss.length ≤ 16 ∧ (∀ s ∈ ss, OkSt n s ∧ BdSt 40 s) ∧
  ∀ H' F vs ps, Fw D H H' → Deck M D C H' (c + 20) → H' F = some (.lst vs) → F ≠ D → Paired (IsPr K D F H') vs ps → (∀ p ∈ ps, OkP p) → vs.length ≤ 8 → Q (.ref F) H'
theorem ok_l_others {M : Nat} (hM : 64 ≤ M) (hM2 : M ≤ 1048576) (T : Txt K mg f_is_integer f_is_row f_is_fraction f_is_some f_multiplied f_squared f_is_stall f_l_deck f_l_pick f_l_divisor f_l_made f_l_amount f_l_stall f_l_stalls f_l_others f_l_is_flag f_l_are_compared f_law f_Web_init f_Web_eq c_Web d_is_integer d_is_row d_is_fraction d_is_some d_multiplied d_squared d_is_stall d_l_deck d_l_pick d_l_divisor d_l_made d_l_amount d_l_stall d_l_stalls d_l_others d_l_is_flag d_l_are_compared d_law d_Web_init d_Web_eq) : FnOk P w K mg base CX0 5 f_l_others d_l_others ["_law_deck_here", "_law_wares", "_law_stalls_here"] (sp_loth K M) := by
  have G_l_pick : FnOk P w K mg base CX0 1 f_l_pick d_l_pick ["_law_deck_here", "_law_many"] (sp_pick M) := ok_pick hM hM2 T
  have G_l_made : FnOk P w K mg base CX0 2 f_l_made d_l_made ["_law_top", "_law_bottom"] (sp_made K) := ok_l_made T
  have G_l_stall : FnOk P w K mg base CX0 4 f_l_stall d_l_stall ["_law_deck_here", "_law_wares"] (sp_lstall7 K M 8 40 20) := ok_l_stall hM hM2 T
  refine T.F_l_others.ok sc_l_others (fun vs H Q E h => ?_) (fun cdv A outer s H vs Q E hr h => ?_)
  · obtain ⟨D, C, S, c, n, xs, ss, rfl, _⟩ := h
    rfl
  · obtain ⟨D, C, S, c, n, xs, ss, rfl, n1, n8, dk, hc, fS, st, sD, l16, hok, q⟩ := h
    refine ⟨_, (pss_cons (ps_set (i := 3) sc_l_others.nd rfl (by first | exact Or.inl rfl | exact Or.inr rfl) (pe_lst pa_nil))
      (C8.pss_cut (ps_if (pt_cmpR op_lt (pv 1) pe_int (nomark _))
        (pss_one (ps_expr (pe_bm PySem.F.plainAttrs_list PySem.F.slot_list_append PySem.F.type_list_append mt_append (pv 3) (pa_cons (pe_lst (pa_cons (pe_op op_add (pv 1) pe_int) (pa_cons (pv 2) pa_nil))) pa_nil))))
        pss_nil)
      (C8.pss_cut (ps_if (PW.pt (pw_and (pt_cmpR op_gt (pv 1) pe_int (nomark _)) (pw_and1 (pt_cmpR op_lt (pe_callB call_lenN (by rfl) T.z_len (by decide +kernel) (pa_cons (pv 2) pa_nil)) pe_int (nomark _)))))
        (pss_one (ps_expr (pe_bm PySem.F.plainAttrs_list PySem.F.slot_list_append PySem.F.type_list_append mt_append (pv 3) (pa_cons (pe_lst (pa_cons (pv 1) (pa_cons (pe_op op_cat (pv 2) (pe_lst (pa_cons (pe_call G_l_stall (hr.mono (by decide)) (by rfl) T.g_l_stall T.k_l_stall T.b_l_stall .nil pass0 (pa_cons (pv 0) (pa_cons (pv 1) pa_nil))) pa_nil))) pa_nil))) pa_nil))))
        pss_nil)
      (pss_cons (ps_if (pt_cmpR op_gt (pe_callB call_lenN (by rfl) T.z_len (by decide +kernel) (pa_cons (pv 2) pa_nil)) pe_int (nomark _))
        (pss_cons (ps_set (i := 4) sc_l_others.nd rfl (by first | exact Or.inl rfl | exact Or.inr rfl) (pe_call G_l_pick (hr.mono (by decide)) (by rfl) T.g_l_pick T.k_l_pick T.b_l_pick .nil pass0 (pa_cons (pv 0) (pa_cons (pe_callB call_lenN (by rfl) T.z_len (by decide +kernel) (pa_cons (pv 2) pa_nil)) pa_nil))))
          (pss_cons (ps_set (i := 5) sc_l_others.nd rfl (by first | exact Or.inl rfl | exact Or.inr rfl) (pe_ix ix_list (pv 2) (pv 4) (fun _ _ => rfl)))
          (pss_cons (ps_set (i := 6) sc_l_others.nd rfl (by first | exact Or.inl rfl | exact Or.inr rfl) (pe_call G_l_pick (hr.mono (by decide)) (by rfl) T.g_l_pick T.k_l_pick T.b_l_pick .nil pass0 (pa_cons (pv 0) (pa_cons (pe_callB call_lenN (by rfl) T.z_len (by decide +kernel) (pa_cons (pv 2) pa_nil)) pa_nil))))
          (pss_cons (ps_set (i := 7) sc_l_others.nd rfl (by first | exact Or.inl rfl | exact Or.inr rfl) (pe_call G_l_made (hr.mono (by decide)) (by rfl) T.g_l_made T.k_l_made T.b_l_made .nil pass0 (pa_cons (pe_op op_mulX (pe_ix ix_tup (pe_ix ix_tup (pv 5) pe_int (fun _ _ => rfl)) pe_int (fun _ _ => rfl)) pe_int) (pa_cons (pe_ix ix_tup (pe_ix ix_tup (pv 5) pe_int (fun _ _ => rfl)) pe_int (fun _ _ => rfl)) pa_nil))))
          (pss_cons (ps_set (i := 8) sc_l_others.nd rfl (by first | exact Or.inl rfl | exact Or.inr rfl) (pe_call G_l_made (hr.mono (by decide)) (by rfl) T.g_l_made T.k_l_made T.b_l_made .nil pass0 (pa_cons (pe_op op_mulX (pe_ix ix_tup (pe_ix ix_tup (pv 5) pe_int (fun _ _ => rfl)) pe_int (fun _ _ => rfl)) pe_int) (pa_cons (pe_ix ix_tup (pe_ix ix_tup (pv 5) pe_int (fun _ _ => rfl)) pe_int (fun _ _ => rfl)) pa_nil))))
          (pss_cons (ps_expr (pe_bm PySem.F.plainAttrs_list PySem.F.slot_list_append PySem.F.type_list_append mt_append (pv 3) (pa_cons (pe_lst (pa_cons (pv 1) (pa_cons (pe_op op_cat (pe_slice sl_list (pv 2) po_none (po_some (pv 4))) (pe_slice sl_list (pv 2) (po_some (pe_op op_add (pv 4) pe_int)) po_none)) pa_nil))) pa_nil)))
          (pss_cons (ps_expr (pe_bm PySem.F.plainAttrs_list PySem.F.slot_list_append PySem.F.type_list_append mt_append (pv 3) (pa_cons (pe_lst (pa_cons (pv 1) (pa_cons (pe_op op_cat (pe_op op_cat (pe_slice sl_list (pv 2) po_none (po_some (pv 4))) (pe_lst (pa_cons (pe_ix ix_list (pv 2) (pv 6) (fun _ _ => rfl)) pa_nil))) (pe_slice sl_list (pv 2) (po_some (pe_op op_add (pv 4) pe_int)) po_none)) pa_nil))) pa_nil)))
          (pss_cons (ps_expr (pe_bm PySem.F.plainAttrs_list PySem.F.slot_list_append PySem.F.type_list_append mt_append (pv 3) (pa_cons (pe_lst (pa_cons (pv 1) (pa_cons (pe_op op_cat (pe_op op_cat (pe_slice sl_list (pv 2) po_none (po_some (pv 4))) (pe_lst (pa_cons (pe_tup (pa_cons (pe_ix ix_tup (pv 5) pe_int (fun _ _ => rfl)) (pa_cons (pe_ix ix_tup (pv 5) pe_int (fun _ _ => rfl)) (pa_cons (pe_ix ix_tup (pv 5) pe_int (fun _ _ => rfl)) (pa_cons (pe_ix ix_tup (pv 5) pe_int (fun _ _ => rfl)) (pa_cons (pe_ix ix_tup (pv 5) pe_int (fun _ _ => rfl)) pa_nil)))))) pa_nil))) (pe_slice sl_list (pv 2) (po_some (pe_op op_add (pv 4) pe_int)) po_none)) pa_nil))) pa_nil)))
          (pss_cons (ps_expr (pe_bm PySem.F.plainAttrs_list PySem.F.slot_list_append PySem.F.type_list_append mt_append (pv 3) (pa_cons (pe_lst (pa_cons (pv 1) (pa_cons (pe_op op_cat (pe_op op_cat (pe_slice sl_list (pv 2) po_none (po_some (pv 4))) (pe_lst (pa_cons (pe_tup (pa_cons (pe_ix ix_tup (pv 5) pe_int (fun _ _ => rfl)) (pa_cons (pe_ix ix_tup (pv 5) pe_int (fun _ _ => rfl)) (pa_cons (pv 7) (pa_cons (pe_ix ix_tup (pv 5) pe_int (fun _ _ => rfl)) (pa_cons (pv 8) pa_nil)))))) pa_nil))) (pe_slice sl_list (pv 2) (po_some (pe_op op_add (pv 4) pe_int)) po_none)) pa_nil))) pa_nil)))
          (pss_cons (ps_expr (pe_bm PySem.F.plainAttrs_list PySem.F.slot_list_append PySem.F.type_list_append mt_append (pv 3) (pa_cons (pe_lst (pa_cons (pv 1) (pa_cons (pe_revL (pv 2)) pa_nil))) pa_nil)))
          (pss_one (ps_if (pt_cmpR op_lt (pe_callB call_lenN (by rfl) T.z_len (by decide +kernel) (pa_cons (pv 2) pa_nil)) pe_int (nomark _))
            (pss_one (ps_expr (pe_bm PySem.F.plainAttrs_list PySem.F.slot_list_append PySem.F.type_list_append mt_append (pv 3) (pa_cons (pe_lst (pa_cons (pv 1) (pa_cons (pe_op op_cat (pv 2) (pe_lst (pa_cons (pv 5) pa_nil))) pa_nil))) pa_nil))))
            pss_nil))))))))))))
        pss_nil)
      (pss_one (ps_ret (pv 3))))))), ?_⟩
    have hlx := st.len
    have hok60 : ∀ s ∈ ss, OkSt n s ∧ BdSt 60 s := fun s hs => ⟨(hok s hs).1, (hok s hs).2.mono (by decide)⟩
    walk_at "r"
    intro F nF
    have g : G06 K M D C S F H xs ss c 0 [] [] (upd H F (.lst [])) := ⟨Same.fw (same_upd nF), dk.same (same_upd nF), same_upd nF _ _ fS, st.same (same_upd nF), sD, ne_of_none fS nF, upd_same, dk.ne nF, dk.neC nF, nF, .nil, by simp, Nat.le_refl _⟩
    generalize upd H F (.lst []) = H1 at *
    walk_at "r"
    refine ⟨fun σ H' => ∃ vs ps, σ = [some (.ref D), some (.int (n : Nat)), some (.ref S), some (.ref F), none, none, none, none, none] ∧ G06 K M D C S F H xs ss c 1 vs ps H', ?_, ?_⟩
    · walk_at "r"
      walk_at "if"
      · rename_i h
        walk_at "r"
        refine ⟨Or.inl ⟨rfl, _, Or.inl (Or.inl g.fF)⟩, ?_⟩
        walk_at "r"
        intro p np
        have sp := same_upd (o := .lst [V.int ((n : Int) + 1), .ref S]) np
        have hp : upd H1 p (.lst [V.int ((n : Int) + 1), .ref S]) p = some (.lst [V.int ((n + 1 : Nat) : Int), .ref S]) := upd_same
        have npD := g.dk.ne np
        have npF := ne_of_none g.fF np
        have g := g.same sp
        generalize upd H1 p (.lst [V.int ((n : Int) + 1), .ref S]) = H2 at *
        walk_at "r"
        refine ⟨F, [], _, rfl, rfl, g.fF, small1000 (by decide), ?_⟩
        exact ⟨_, _, rfl, g.put hp g.fS g.st npD sD npF.symm g.sF ⟨by show 1 ≤ n + 1; omega, by show n + 1 ≤ 8; omega, l16, fun s hs => ⟨ok_more (hok60 s hs).1, (hok60 s hs).2⟩⟩⟩
      · rename_i h
        walk_at "r"
        exact ⟨_, _, rfl, { g with ln := Nat.le_succ_of_le g.ln }⟩
    rintro σ H2 ⟨vs2, ps2, rfl, g⟩
    have hF := g.fF
    have hS := g.fS
    walk_at "r"
    refine ⟨fun σ H' => ∃ vs ps, σ = [some (.ref D), some (.int (n : Nat)), some (.ref S), some (.ref F), none, none, none, none, none] ∧ G06 K M D C S F H xs ss (c + 8) 2 vs ps H', ?_, ?_⟩
    · have stay : G06 K M D C S F H xs ss (c + 8) 2 vs2 ps2 H2 := { g with ln := Nat.le_succ_of_le g.ln, dk := g.dk.mono (Nat.le_add_right _ _) }
      walk_at "r"
      walk_at "if"
      · rename_i h
        walk_at "r"
        walk_at "if"
        · rename_i h'
          walk_at "r"
          refine ⟨Or.inl ⟨rfl, _, Or.inl (Or.inl g.fF)⟩, ?_⟩
          walk_at "r"
          refine ⟨D, C, c, n, rfl, by omega, n8, g.dk, by omega, fun H3 v s w3 k3 iv o3 b3 r3 => ?_⟩
          have g := g.fw w3 k3
          walk_at "r"
          intro l nl
          have sl := same_upd (o := .lst [v]) nl
          have hl1 : upd H3 l (.lst [v]) l = some (.lst [v]) := upd_same
          have iv := iv.same sl
          have g := g.same sl
          generalize upd H3 l (.lst [v]) = H4 at *
          refine rd_cats g.fS hl1 (by simp; omega) fun L H5 nL s5 h5 => ?_
          have nLD := g.dk.ne nL
          have nLF := (ne_of_none g.fF nL).symm
          have g := g.same s5
          walk_at "r"
          intro a na
          walk_at "r"
          obtain ⟨H9, e9, f9, t9, g9⟩ := g.row (m := n) h5 (g.st.snoc (iv.same s5)) nLD nLF na ⟨n1, n8, by simp; omega, fun t ht => (List.mem_append.mp ht).elim (fun h => hok60 t h) fun h => by rw [List.mem_singleton.mp h]; exact ⟨o3, b3.mono (by decide)⟩⟩
          refine ⟨F, _, _, rfl, rfl, f9, small1000 (by have := g.ln; omega), ?_⟩
          rw [← e9]
          clear e9 f9
          exact ⟨_, _, rfl, g9⟩
        · walk_at "r"
          exact ⟨_, _, rfl, stay⟩
      · walk_at "r"
        exact ⟨_, _, rfl, stay⟩
    rintro σ H2 ⟨vs2, ps2, rfl, g⟩
    have hS := g.fS
    walk_at "r"
    walk_at "if"
    · rename_i h
      walk_at "r"
      refine ⟨D, C, _, _, rfl, ⟨by omega, by omega⟩, g.dk, by omega, fun H3 r3 w3 k3 a3 b3 => ?_⟩
      obtain ⟨i, rfl⟩ := Int.eq_ofNat_of_zero_le a3
      have hi : i < ss.length := by omega
      obtain ⟨t, ht⟩ : ∃ t, ss[i]? = some t := ⟨_, List.getElem?_eq_getElem hi⟩
      obtain ⟨to, tb⟩ := hok t (List.mem_of_getElem? ht)
      have g := g.fw w3 k3
      obtain ⟨zz, hzz, izz⟩ := g.st.get ht
      walk_at "r"
      refine rd_ixL g.fS (at_some hzz) ?_
      have hS := g.fS
      walk_at "r"
      refine ⟨D, C, _, _, rfl, ⟨by omega, by omega⟩, g.dk, by omega, fun H4 r4 w4 k4 a4 b4 => ?_⟩
      obtain ⟨j, rfl⟩ := Int.eq_ofNat_of_zero_le a4
      have hj : j < ss.length := by omega
      obtain ⟨t2, ht2⟩ : ∃ t, ss[j]? = some t := ⟨_, List.getElem?_eq_getElem hj⟩
      have izz := izz.ts (w4.ts g.dk)
      have g := g.fw w4 k4
      obtain ⟨zz, va, vb, vr, rfl, hs, ⟨pa, rfl, ha⟩, fb, ⟨pr, rfl, hr'⟩⟩ := izz
      have z4 : Z06 K H4 zz pa pr vb t := ⟨hs, ha, fb, hr'⟩
      have hs4 := z4.hs
      have ha4 := z4.ha
      have hr4 := z4.hr
      have p64 : ∀ {z : Int}, z.natAbs < 2 ^ 40 → z.natAbs < 2 ^ 64 := fun h => Nat.lt_of_lt_of_le h (pow_le (by decide))
      walk_at "r"
      rotate_left
      · exact cmul_small (p64 tb.a.1) (by decide)
      refine ⟨_, _, rfl, den_pos _, Nat.lt_of_lt_of_le (show ((t.a.den : Int)).natAbs < 2 ^ 40 by rw [Int.natAbs_natCast]; exact tb.a.2) (pow_le (by decide)), fun H5 four s5 h5 => ?_⟩
      have g := g.same s5
      have z5 := z4.ts (tp6 s5)
      clear hs4 ha4 hr4
      have hs5 := z5.hs
      have hr5 := z5.hr
      walk_at "r"
      rotate_left
      · exact cmul_small (p64 tb.r.1) (by decide)
      refine ⟨_, _, rfl, den_pos _, Nat.lt_of_lt_of_le (show ((t.r.den : Int)).natAbs < 2 ^ 40 by rw [Int.natAbs_natCast]; exact tb.r.2) (pow_le (by decide)), fun H6 two s6 h6 => ?_⟩
      have h5 := h5.same s6
      have g := g.same s6
      have z6 := z5.ts (tp6 s6)
      clear hs5 hr5
      have z : Y06 K H6 zz pa pr vb t four two := ⟨z6, h5, h6⟩
      have hl := g.ln
      walk_at "r"
      refine ⟨Or.inl ⟨rfl, _, Or.inl (Or.inl g.fF)⟩, ?_⟩
      walk_at "r"
      refine rd_slLs g.fS fun L7 H7 nn7 s7 h7 => ?_
      rw [cut_take] at h7
      have g := g.same s7
      have z := z.ts (tp6 s7)
      walk_at "r"
      refine rd_slLs g.fS fun L8 H8 nn8 s8 h8 => ?_
      rw [cut_drop1] at h8
      have g := g.same s8
      have z := z.ts (tp6 s8)
      walk_at "r"
      refine rd_cats (s8 _ _ h7) h8 (by simp; omega) fun L9 H9 nn9 s9 h9 => ?_
      have nD := g.dk.ne nn9
      have nF' := (ne_of_none g.fF nn9).symm
      have g := g.same s9
      have z := z.ts (tp6 s9)
      walk_at "r"
      intro a10 na10
      walk_at "r"
      obtain ⟨H10, e10, f10, t10, g⟩ := g.row (m := n) h9 (prd_app (prd_take g.st i) (prd_drop g.st (i + 1))) nD nF' na10 ⟨n1, n8, by simp; omega, fun s hs => (List.mem_append.mp hs).elim (fun h => hok60 s (List.mem_of_mem_take h)) fun h => hok60 s (List.mem_of_mem_drop h)⟩
      refine ⟨F, _, _, rfl, rfl, f10, small1000 (by first | omega | (simp; omega)), ?_⟩
      rw [← e10]
      clear e10 f10
      have z := z.ts t10
      have hl := g.ln
      walk_at "r"
      refine ⟨Or.inl ⟨rfl, _, Or.inl (Or.inl g.fF)⟩, ?_⟩
      walk_at "r"
      refine rd_slLs g.fS fun L11 H11 nn11 s11 h11 => ?_
      rw [cut_take] at h11
      have g := g.same s11
      have z := z.ts (tp6 s11)
      walk_at "r"
      obtain ⟨zz2, hzz2, izz⟩ := g.st.get ht2
      refine rd_ixL g.fS (at_some hzz2) ?_
      walk_at "r"
      intro l12 nl12
      have s12 := same_upd (o := .lst [zz2]) nl12
      have h12 : upd H11 l12 (.lst [zz2]) l12 = some (.lst [zz2]) := upd_same
      have g := g.same s12
      have z := z.ts (tp6 s12)
      have izz := izz.same s12
      have h11 := s12 _ _ h11
      generalize upd H11 l12 (.lst [zz2]) = H12 at *
      refine rd_cats h11 h12 (by simp; omega) fun L13 H13 nn13 s13 h13 => ?_
      have nD := g.dk.ne nn13
      have nF' := (ne_of_none g.fF nn13).symm
      have g := g.same s13
      have z := z.ts (tp6 s13)
      have izz := izz.same s13
      walk_at "r"
      refine rd_slLs g.fS fun L14 H14 nn14 s14 h14 => ?_
      rw [cut_drop1] at h14
      have g := g.same s14
      have z := z.ts (tp6 s14)
      walk_at "r"
      have izz := izz.same s14
      refine rd_cats (s14 _ _ h13) h14 (by simp; omega) fun L15 H15 nn15 s15 h15 => ?_
      have nD := g.dk.ne nn15
      have nF' := (ne_of_none g.fF nn15).symm
      have g := g.same s15
      have z := z.ts (tp6 s15)
      have izz := izz.same s15
      walk_at "r"
      intro a16 na16
      walk_at "r"
      obtain ⟨H16, e16, f16, t16, g⟩ := g.row (m := n) h15 (sts_set g.st i izz) nD nF' na16 ⟨n1, n8, by simp; omega, mem_set hok60 ⟨(hok _ (List.mem_of_getElem? ht2)).1, (hok _ (List.mem_of_getElem? ht2)).2.mono (by decide)⟩⟩
      refine ⟨F, _, _, rfl, rfl, f16, small1000 (by first | omega | (simp; omega)), ?_⟩
      rw [← e16]
      clear e16 f16
      have z := z.ts t16
      have hl := g.ln
      walk_at "r"
      refine ⟨Or.inl ⟨rfl, _, Or.inl (Or.inl g.fF)⟩, ?_⟩
      walk_at "r"
      refine rd_slLs g.fS fun L17 H17 nn17 s17 h17 => ?_
      rw [cut_take] at h17
      have g := g.same s17
      have z := z.ts (tp6 s17)
      walk_at "r"
      have hsz := z.z.hs
      walk_at "r"
      intro p18 np18
      have s18 := same_upd (o := .tup [V.int (t.v : Nat), .int (t.u : Nat), vb, .ref pa, .ref pr]) np18
      have h18 : upd H17 p18 (.tup [V.int (t.v : Nat), .int (t.u : Nat), vb, .ref pa, .ref pr]) p18 = some (.tup [V.int (t.v : Nat), .int (t.u : Nat), vb, .ref pa, .ref pr]) := upd_same
      have g := g.same s18
      have z := z.ts (tp6 s18)
      have h17 := s18 _ _ h17
      generalize upd H17 p18 (.tup [V.int (t.v : Nat), .int (t.u : Nat), vb, .ref pa, .ref pr]) = H18 at *
      have izz : IsSt K H18 (.ref p18) ⟨t.v, t.u, t.b, t.a, t.r⟩ := ⟨_, _, _, _, rfl, h18, z.z.fb, ⟨pa, rfl, z.z.ha⟩, ⟨pr, rfl, z.z.hr⟩⟩
      walk_at "r"
      intro l19 nl19
      have s19 := same_upd (o := .lst [.ref p18]) nl19
      have h19 : upd H18 l19 (.lst [.ref p18]) l19 = some (.lst [.ref p18]) := upd_same
      have g := g.same s19
      have z := z.ts (tp6 s19)
      have izz := izz.same s19
      have h17 := s19 _ _ h17
      generalize upd H18 l19 (.lst [.ref p18]) = H19 at *
      refine rd_cats h17 h19 (by simp; omega) fun L20 H20 nn20 s20 h20 => ?_
      have nD := g.dk.ne nn20
      have nF' := (ne_of_none g.fF nn20).symm
      have g := g.same s20
      have z := z.ts (tp6 s20)
      have izz := izz.same s20
      walk_at "r"
      refine rd_slLs g.fS fun L21 H21 nn21 s21 h21 => ?_
      rw [cut_drop1] at h21
      have g := g.same s21
      have z := z.ts (tp6 s21)
      walk_at "r"
      have izz := izz.same s21
      refine rd_cats (s21 _ _ h20) h21 (by simp; omega) fun L22 H22 nn22 s22 h22 => ?_
      have nD := g.dk.ne nn22
      have nF' := (ne_of_none g.fF nn22).symm
      have g := g.same s22
      have z := z.ts (tp6 s22)
      have izz := izz.same s22
      walk_at "r"
      intro a23 na23
      walk_at "r"
      obtain ⟨H23, e23, f23, t23, g⟩ := g.row (m := n) h22 (sts_set g.st i izz) nD nF' na23 ⟨n1, n8, by simp; omega, mem_set hok60 ⟨ok_turn to, ⟨tb.b.mono (by decide), tb.a.mono (by decide), tb.r.mono (by decide)⟩⟩⟩
      refine ⟨F, _, _, rfl, rfl, f23, small1000 (by first | omega | (simp; omega)), ?_⟩
      rw [← e23]
      clear e23 f23
      have z := z.ts t23
      have hl := g.ln
      walk_at "r"
      refine ⟨Or.inl ⟨rfl, _, Or.inl (Or.inl g.fF)⟩, ?_⟩
      walk_at "r"
      refine rd_slLs g.fS fun L24 H24 nn24 s24 h24 => ?_
      rw [cut_take] at h24
      have g := g.same s24
      have z := z.ts (tp6 s24)
      walk_at "r"
      have hsz := z.z.hs
      walk_at "r"
      intro p25 np25
      have s25 := same_upd (o := .tup [V.int (t.u : Nat), .int (t.v : Nat), four, vb, two]) np25
      have h25 : upd H24 p25 (.tup [V.int (t.u : Nat), .int (t.v : Nat), four, vb, two]) p25 = some (.tup [V.int (t.u : Nat), .int (t.v : Nat), four, vb, two]) := upd_same
      have g := g.same s25
      have z := z.ts (tp6 s25)
      have h24 := s25 _ _ h24
      generalize upd H24 p25 (.tup [V.int (t.u : Nat), .int (t.v : Nat), four, vb, two]) = H25 at *
      have izz : IsSt K H25 (.ref p25) ⟨t.u, t.v, Rat.divInt (t.a.num * 4) t.a.den, t.b, Rat.divInt (t.r.num * 2) t.r.den⟩ := ⟨_, _, _, _, rfl, h25, z.f4, z.z.fb, z.f2⟩
      walk_at "r"
      intro l26 nl26
      have s26 := same_upd (o := .lst [.ref p25]) nl26
      have h26 : upd H25 l26 (.lst [.ref p25]) l26 = some (.lst [.ref p25]) := upd_same
      have g := g.same s26
      have z := z.ts (tp6 s26)
      have izz := izz.same s26
      have h24 := s26 _ _ h24
      generalize upd H25 l26 (.lst [.ref p25]) = H26 at *
      refine rd_cats h24 h26 (by simp; omega) fun L27 H27 nn27 s27 h27 => ?_
      have nD := g.dk.ne nn27
      have nF' := (ne_of_none g.fF nn27).symm
      have g := g.same s27
      have z := z.ts (tp6 s27)
      have izz := izz.same s27
      walk_at "r"
      refine rd_slLs g.fS fun L28 H28 nn28 s28 h28 => ?_
      rw [cut_drop1] at h28
      have g := g.same s28
      have z := z.ts (tp6 s28)
      walk_at "r"
      have izz := izz.same s28
      refine rd_cats (s28 _ _ h27) h28 (by simp; omega) fun L29 H29 nn29 s29 h29 => ?_
      have nD := g.dk.ne nn29
      have nF' := (ne_of_none g.fF nn29).symm
      have g := g.same s29
      have z := z.ts (tp6 s29)
      have izz := izz.same s29
      walk_at "r"
      intro a30 na30
      walk_at "r"
      obtain ⟨H30, e30, f30, t30, g⟩ := g.row (m := n) h29 (sts_set g.st i izz) nD nF' na30 ⟨n1, n8, by simp; omega, mem_set hok60 ⟨ok_four to, bd_four tb⟩⟩
      refine ⟨F, _, _, rfl, rfl, f30, small1000 (by first | omega | (simp; omega)), ?_⟩
      rw [← e30]
      clear e30 f30
      have z := z.ts t30
      have hl := g.ln
      walk_at "r"
      refine ⟨Or.inl ⟨rfl, _, Or.inl (Or.inl g.fF)⟩, ?_⟩
      walk_at "r"
      refine rd_revL ?_
      walk_at "r"
      refine ⟨S, xs, rfl, .of g.fS, fun L31 nn31 => ?_⟩
      have nD := g.dk.ne nn31
      have nF' := (ne_of_none g.fF nn31).symm
      have s31 := same_upd (o := .lst xs.reverse) nn31
      have h31 : upd H30 L31 (.lst xs.reverse) L31 = some (.lst xs.reverse) := upd_same
      have g := g.same s31
      have z := z.ts (tp6 s31)
      generalize upd H30 L31 (.lst xs.reverse) = H31 at *
      walk_at "r"
      intro a32 na32
      walk_at "r"
      obtain ⟨H32, e32, f32, t32, g⟩ := g.row (m := n) h31 (prd_rev g.st) nD nF' na32 ⟨n1, n8, by simp; omega, fun s hs => hok60 s (List.mem_reverse.mp hs)⟩
      refine ⟨F, _, _, rfl, rfl, f32, small1000 (by first | omega | (simp; omega)), ?_⟩
      rw [← e32]
      clear e32 f32
      have z := z.ts t32
      have hl := g.ln
      have hS := g.fS
      walk_at "r"
      walk_at "if"
      · rename_i hlt
        walk_at "r"
        refine ⟨Or.inl ⟨rfl, _, Or.inl (Or.inl g.fF)⟩, ?_⟩
        walk_at "r"
        intro l33 nl33
        have s33 := same_upd (o := .lst [.ref zz]) nl33
        have h33 : upd H32 l33 (.lst [.ref zz]) l33 = some (.lst [.ref zz]) := upd_same
        have g := g.same s33
        have z := z.ts (tp6 s33)
        generalize upd H32 l33 (.lst [.ref zz]) = H33 at *
        refine rd_cats g.fS h33 (by simp; omega) fun L34 H34 nn34 s34 h34 => ?_
        have nD := g.dk.ne nn34
        have nF' := (ne_of_none g.fF nn34).symm
        have g := g.same s34
        have z := z.ts (tp6 s34)
        walk_at "r"
        intro a35 na35
        walk_at "r"
        obtain ⟨H35, e35, f35, t35, g⟩ := g.row (m := n) h34 (g.st.snoc z.z.is) nD nF' na35 ⟨n1, n8, by simp; omega, fun s hs => (List.mem_append.mp hs).elim (fun h => hok60 s h) fun h => by rw [List.mem_singleton.mp h]; exact ⟨to, tb.mono (by decide)⟩⟩
        refine ⟨F, _, _, rfl, rfl, f35, small1000 (by first | omega | (simp; omega)), ?_⟩
        rw [← e35]
        clear e35 f35
        have z := z.ts t35
        have hl := g.ln
        walk_at "r"
        exact q _ F _ _ g.f0 (g.dk.mono (by omega)) g.fF g.fD g.it g.ok (Nat.le_trans g.ln (by decide))
      · walk_at "r"
        exact q _ F _ _ g.f0 (g.dk.mono (by omega)) g.fF g.fD g.it g.ok (Nat.le_trans g.ln (by decide))
    · walk_at "r"
      exact q _ F _ _ g.f0 (g.dk.mono (by omega)) g.fF g.fD g.it g.ok (Nat.le_trans g.ln (by decide))
end
end My
namespace My
open PySem PySem.Spec PyProof.Rows L2
variable {K : PySem.W.Frag}
structure L06 (K : PySem.W.Frag) (B D C S x : Addr) (n c : Nat) (xs : List V) (ss : List Stl) (H : Hp) : Prop where
  dk : Deck 1048576 D C H c
  web : IsWeb K B H (.ref x) n ss
  fS : H S = some (.lst xs)
  st : Sts K H xs ss
  sD : S ≠ D
section
variable {B D C S x : Addr} {n c : Nat} {xs : List V} {ss : List Stl} {H H' : Hp}
theorem L06.same (g : L06 K B D C S x n c xs ss H) (s : Same H H') : L06 K B D C S x n c xs ss H' := ⟨g.dk.same s, g.web.same s, s _ _ g.fS, g.st.same s, g.sD⟩
theorem L06.fw {c' : Nat} (g : L06 K B D C S x n c xs ss H) (f : Fw D H H') (k : Deck 1048576 D C H' c') : L06 K B D C S x n c' xs ss H' := ⟨k, g.web.fw f g.dk, f _ _ g.sD g.fS, g.st.ts (f.ts g.dk), g.sD⟩
theorem L06.put {P : Addr} {ys zs : List V} (g : L06 K B D C S x n c xs ss H) (hP : H P = some (.lst ys)) (n1 : P ≠ D) (n2 : P ≠ C) (n3 : S ≠ P) : L06 K B D C S x n c xs ss (upd H P (.lst zs)) := by
  obtain ⟨p, dx, t, us, e, h1, h2, h3⟩ := g.web
  exact ⟨g.dk.put n1 n2, ⟨p, dx, t, us, e, (upd_ne fun z => by rw [z, hP] at h1; cases h1).trans h1, tps_put (H1 := H) hP _ _ h2, h3.ts (tps_put (H1 := H) hP)⟩, (upd_ne n3).trans g.fS, g.st.ts (tps_put (H1 := H) hP), g.sD⟩
end
theorem prd_at {α β : Type} {R : α → β → Prop} {xs : List α} {ys : List β} (h : Paired R xs ys) : ∀ {i : Nat} {x : α}, xs[i]? = some x → ∃ y, ys[i]? = some y ∧ R x y := by
  induction h with
  | nil =>
    intro i x h
    rw [List.getElem?_nil] at h
    cases h
  | cons h t ih =>
    intro i x hx
    cases i with
    | zero =>
      rw [List.getElem?_cons_zero] at hx
      cases hx
      exact ⟨_, rfl, h⟩
    | succ i =>
      rw [List.getElem?_cons_succ] at hx
      obtain ⟨y, e, r⟩ := ih hx
      exact ⟨y, by rw [List.getElem?_cons_succ]; exact e, r⟩
theorem stT_dp {H : Hp} {p : Addr} {xs : List V} {ss : List Stl} (h : H p = some (.tup xs)) (f : Sts K H xs ss) : Dp K H (.ref p) (.tuple (ss.map stD)) := f.dp h
theorem stL_dp {H : Hp} {p : Addr} {xs : List V} {ss : List Stl} (h : H p = some (.lst xs)) (f : Sts K H xs ss) : Dp K H (.ref p) (.list (ss.map stD)) := .lst (.of h) (dps (R := IsSt K) (f := stD) (fun h => h.dp) f)
theorem stL_sh (ss : List Stl) : SeqAt.shaped (.list (ss.map stD)) = true := by
  obtain ⟨h1, h2⟩ := sts_lay ss
  unfold SeqAt.shaped
  rw [Bool.and_eq_true]
  refine ⟨h1, decide_eq_true ?_⟩
  show PyData.depthAll (ss.map stD) + 1 ≤ 64
  omega
theorem rd_bm0 {T : String} {K : PySem.W.Frag} {r : V → List V → Hp → VK → Prop} {to : TE} {σ : L2.St} {H : Hp} {Q : VK} (h : to σ H fun x H1 => tyV K T x H1 ∧ r x [] H1 Q) : tBM0 K T r to σ H Q := h
theorem neSL {H : Hp} {p p2 : Addr} {xs ys : List V} {ss : List Stl} {Q : VK} (h1 : H p = some (.lst xs)) (f1 : Sts K H xs ss) (h2 : H p2 = some (.lst ys)) (f2 : Sts K H ys ss) (q : Q (.bl false) H) : rNeD K (.ref p) (.ref p2) H Q := by
  refine ⟨_, _, stL_dp h1 f1, stL_dp h2 f2, stL_sh _, stL_sh _, ?_⟩
  rw [show PyData.eqv (.list (ss.map stD)) (.list (ss.map stD)) = true from (sts_eqv ss ss).trans (decide_eq_true rfl)]
  exact q
theorem eqSL {H : Hp} {p p2 : Addr} {xs ys : List V} {ss tt : List Stl} {Q : VK} (h1 : H p = some (.lst xs)) (f1 : Sts K H xs ss) (h2 : H p2 = some (.lst ys)) (f2 : Sts K H ys tt) (q : Q (.bl (decide (ss = tt))) H) : rEqD K (.ref p) (.ref p2) H Q := by
  refine ⟨_, _, stL_dp h1 f1, stL_dp h2 f2, stL_sh _, stL_sh _, ?_⟩
  rw [show PyData.eqv (.list (ss.map stD)) (.list (tt.map stD)) = decide (ss = tt) from sts_eqv ss tt]
  exact q
theorem neST {H : Hp} {p p2 : Addr} {xs ys : List V} {ss : List Stl} {Q : VK} (h1 : H p = some (.tup xs)) (f1 : Sts K H xs ss) (h2 : H p2 = some (.tup ys)) (f2 : Sts K H ys ss) (q : Q (.bl false) H) : rNeD K (.ref p) (.ref p2) H Q := by
  refine ⟨_, _, f1.dp h1, f2.dp h2, sts_shaped _, sts_shaped _, ?_⟩
  rw [show PyData.eqv (.tuple (ss.map stD)) (.tuple (ss.map stD)) = true from (sts_eqv ss ss).trans (decide_eq_true rfl)]
  exact q
theorem eqST {H : Hp} {p p2 : Addr} {xs ys : List V} {ss : List Stl} {Q : VK} (h1 : H p = some (.tup xs)) (f1 : Sts K H xs ss) (h2 : H p2 = some (.tup ys)) (f2 : Sts K H ys ss) (q : Q (.bl true) H) : rEqD K (.ref p) (.ref p2) H Q := by
  refine ⟨_, _, f1.dp h1, f2.dp h2, sts_shaped _, sts_shaped _, ?_⟩
  rw [show PyData.eqv (.tuple (ss.map stD)) (.tuple (ss.map stD)) = true from (sts_eqv ss ss).trans (decide_eq_true rfl)]
  exact q
section
variable {P : Program} {w : World} {K : PySem.W.Frag} {mg : Str → Option Value} {base : Heap} {f_is_integer f_is_row f_is_fraction f_is_some f_multiplied f_squared f_is_stall f_l_deck f_l_pick f_l_divisor f_l_made f_l_amount f_l_stall f_l_stalls f_l_others f_l_is_flag f_l_are_compared f_law f_Web_init f_Web_eq c_Web : Addr} {d_is_integer d_is_row d_is_fraction d_is_some d_multiplied d_squared d_is_stall d_l_deck d_l_pick d_l_divisor d_l_made d_l_amount d_l_stall d_l_stalls d_l_others d_l_is_flag d_l_are_compared d_law d_Web_init d_Web_eq : FuncData}
def sp_law (K : PySem.W.Frag) : Sp := fun vs H Q _ => ∃ (a : Addr) (ns : List Int), vs = [.ref a] ∧ SqL K H a (ns.map V.int) ∧ ns.length ≤ 63 ∧ (∀ z ∈ ns, Builtin.Int.intBits z ≤ 1048576) ∧ ∀ H', Q (.bl true) H'
theorem ok_law (T : Txt K mg f_is_integer f_is_row f_is_fraction f_is_some f_multiplied f_squared f_is_stall f_l_deck f_l_pick f_l_divisor f_l_made f_l_amount f_l_stall f_l_stalls f_l_others f_l_is_flag f_l_are_compared f_law f_Web_init f_Web_eq c_Web d_is_integer d_is_row d_is_fraction d_is_some d_multiplied d_squared d_is_stall d_l_deck d_l_pick d_l_divisor d_l_made d_l_amount d_l_stall d_l_stalls d_l_others d_l_is_flag d_l_are_compared d_law d_Web_init d_Web_eq) : FnOk P w K mg base CX0 7 f_law d_law ["_law_script"] (sp_law K) := by
  have G_l_deck : FnOk P w K mg base CX0 1 f_l_deck d_l_deck ["_law_script"] (sp_deck K) := ok_l_deck T
  have G_l_pick : FnOk P w K mg base CX0 1 f_l_pick d_l_pick ["_law_deck_here", "_law_many"] (sp_pick 1048576) := ok_pick (by decide) (by decide) T
  have G_l_stalls : FnOk P w K mg base CX0 5 f_l_stalls d_l_stalls ["_law_deck_here", "_law_wares"] (sp_lstalls7 K 1048576) := ok_l_stalls (by decide) (by decide) T
  have G_l_others : FnOk P w K mg base CX0 5 f_l_others d_l_others ["_law_deck_here", "_law_wares", "_law_stalls_here"] (sp_loth K 1048576) := ok_l_others (by decide) (by decide) T
  have G_l_are_compared : FnOk P w K mg base CX0 3 f_l_are_compared d_l_are_compared ["_law_one", "_law_other", "_law_due"] (sp_lcmp K c_Web) := ok_l_are_compared T
  have G_Web_init : FnOk P w K mg base CX0 5 f_Web_init d_Web_init ["self", "wares", "stalls"] (sp_web K c_Web) := ok_Web_init T
  refine T.F_law.ok sc_law (fun vs H Q E h => ?_) (fun cdv A outer sh H vs Q E hr h => ?_)
  · obtain ⟨a, ns, rfl, _⟩ := h
    rfl
  · obtain ⟨a, ns, rfl, hS, hl, hb, q⟩ := h
    refine ⟨_, (pss_cons (ps_set (i := 1) sc_law.nd rfl (by first | exact Or.inl rfl | exact Or.inr rfl) (pe_call G_l_deck (hr.mono (by decide)) (by rfl) T.g_l_deck T.k_l_deck T.b_l_deck .nil pass0 (pa_cons (pv 0) pa_nil)))
      (pss_cons (ps_set (i := 2) sc_law.nd rfl (by first | exact Or.inl rfl | exact Or.inr rfl) (pe_op op_add pe_int (pe_call G_l_pick (hr.mono (by decide)) (by rfl) T.g_l_pick T.k_l_pick T.b_l_pick .nil pass0 (pa_cons (pv 1) (pa_cons pe_int pa_nil)))))
      (pss_cons (ps_set (i := 3) sc_law.nd rfl (by first | exact Or.inl rfl | exact Or.inr rfl) (pe_call G_l_stalls (hr.mono (by decide)) (by rfl) T.g_l_stalls T.k_l_stalls T.b_l_stalls .nil pass0 (pa_cons (pv 1) (pa_cons (pv 2) pa_nil))))
      (pss_cons (ps_set (i := 4) sc_law.nd rfl (by first | exact Or.inl rfl | exact Or.inr rfl) (pe_callTy call_list_of (by rfl) T.z_list (by decide +kernel) (pa_cons (pv 3) pa_nil)))
      (pss_cons (ps_set (i := 5) sc_law.nd rfl (by first | exact Or.inl rfl | exact Or.inr rfl) (pe_make T.w_Web.mks G_Web_init (hr.mono (by decide)) (by rfl) T.w_Web.g T.b_Web_init .nil pass0 (pa_cons (pv 2) (pa_cons (pv 4) pa_nil))))
      (pss_cons (ps_if (PW.pt (pw_or (pt_cmpR (op_neD hr.units) (pv 4) (pv 3) (nomark _)) (pw_or (pt_cmpR op_ne (pe_fld (pv 5) rfl) (pv 2) (nomark _)) (pw_or1 (pt_cmpR (op_neD hr.units) (pe_fld (pv 5) rfl) (pe_callTy call_tuple_of (by rfl) T.z_tuple (by decide +kernel) (pa_cons (pv 3) pa_nil)) (nomark _))))))
        (pss_one (ps_ret pe_bl))
        pss_nil)
      (pss_cons (ps_expr (pe_bm0 PySem.F.plainAttrs_list PySem.F.slot_list_reverse PySem.F.type_list_reverse mt_reverse (pv 4)))
      (pss_cons (ps_expr (pe_bm PySem.F.plainAttrs_list PySem.F.slot_list_append PySem.F.type_list_append mt_append (pv 4) (pa_cons pe_non pa_nil)))
      (pss_cons (ps_if (PW.pt (pw_or (pt_cmpR (op_neD hr.units) (pe_fld (pv 5) rfl) (pe_callTy call_tuple_of (by rfl) T.z_tuple (by decide +kernel) (pa_cons (pv 3) pa_nil)) (nomark _)) (pw_or1 (pt_not (pt_val (pe_call G_l_are_compared (hr.mono (by decide)) (by rfl) T.g_l_are_compared T.k_l_are_compared T.b_l_are_compared .nil pass0 (pa_cons (pv 5) (pa_cons (pe_make T.w_Web.mks G_Web_init (hr.mono (by decide)) (by rfl) T.w_Web.g T.b_Web_init .nil pass0 (pa_cons (pv 2) (pa_cons (pe_callTy call_tuple_of (by rfl) T.z_tuple (by decide +kernel) (pa_cons (pv 3) pa_nil)) pa_nil))) (pa_cons pe_bl pa_nil)))))))))
        (pss_one (ps_ret pe_bl))
        pss_nil)
      (pss_cons (ps_for PassesOwn.never rfl (pi_list (pe_call G_l_others (hr.mono (by decide)) (by rfl) T.g_l_others T.k_l_others T.b_l_others .nil pass0 (pa_cons (pv 1) (pa_cons (pv 2) (pa_cons (pv 3) pa_nil))))) (pg_name (i := 6) sc_law.nd rfl (by first | exact Or.inl rfl | exact Or.inr rfl))
        (pss_cons (ps_set (i := 7) sc_law.nd rfl (by first | exact Or.inl rfl | exact Or.inr rfl) (pe_and (pe_cmpR op_eq (pe_ix ix_list (pv 6) pe_int (fun _ _ => rfl)) (pv 2) (nomark _)) (pe_one (pe_cmpR (op_eqD hr.units) (pe_ix ix_list (pv 6) pe_int (fun _ _ => rfl)) (pv 3) (nomark _)))))
          (pss_one (ps_if (pt_not (pt_val (pe_call G_l_are_compared (hr.mono (by decide)) (by rfl) T.g_l_are_compared T.k_l_are_compared T.b_l_are_compared .nil pass0 (pa_cons (pv 5) (pa_cons (pe_make T.w_Web.mks G_Web_init (hr.mono (by decide)) (by rfl) T.w_Web.g T.b_Web_init .nil pass0 (pa_cons (pe_ix ix_list (pv 6) pe_int (fun _ _ => rfl)) (pa_cons (pe_ix ix_list (pv 6) pe_int (fun _ _ => rfl)) pa_nil))) (pa_cons (pv 7) pa_nil))))))
            (pss_one (ps_ret pe_bl))
            pss_nil))))
      (pss_cons (ps_for PassesOwn.never rfl (pi_list (pe_lst (pa_cons (pv 3) (pa_cons (pe_callTy call_tuple_of (by rfl) T.z_tuple (by decide +kernel) (pa_cons (pv 3) pa_nil)) (pa_cons (pe_tup (pa_cons (pv 2) (pa_cons (pe_callTy call_tuple_of (by rfl) T.z_tuple (by decide +kernel) (pa_cons (pv 3) pa_nil)) pa_nil))) (pa_cons pe_non (pa_cons pe_int (pa_cons pe_bl (pa_cons pe_dnewK (pa_cons (pe_lst (pa_cons (pv 5) pa_nil)) (pa_cons (pv 2) pa_nil))))))))))) (pg_name (i := 8) sc_law.nd rfl (by first | exact Or.inl rfl | exact Or.inr rfl))
        (pss_one (ps_if (PW.pt (pw_or (pt_cmpR (My.op_eqO (ok_Web_eq_O T) (hr.mono (by decide)) T.i_Web_eq T.fn_Web_eq T.b_Web_eq) (pv 5) (pv 8) (nomark _)) (pw_or (pt_cmpR (My.op_oEq (ok_Web_eq_O T) (hr.mono (by decide)) T.od_Web T.w_Web.it T.i_Web_eq T.fn_Web_eq T.b_Web_eq) (pv 8) (pv 5) (nomark _)) (pw_or1 (pt_not (pt_cmpR (My.op_neO (ok_Web_eq_O T) (hr.mono (by decide)) T.ne_Web T.w_Web.it.mo T.i_Web_eq T.fn_Web_eq T.b_Web_eq) (pv 5) (pv 8) (nomark _)))))))
            (pss_one (ps_ret pe_bl))
            pss_nil)))
      (pss_one (ps_ret (pe_and (pe_cmpR op_eq (pe_fld (pv 5) rfl) (pv 2) (nomark _)) (pe_one (pe_cmpR (op_eqD hr.units) (pe_fld (pv 5) rfl) (pe_callTy call_tuple_of (by rfl) T.z_tuple (by decide +kernel) (pa_cons (pv 3) pa_nil)) (nomark _))))))))))))))))), ?_⟩
    walk_at "r"
    refine ⟨_, _, rfl, hS, hl, hb, fun H1 D C s1 k1 => ?_⟩
    walk_at "r"
    refine ⟨_, _, _, _, rfl, ⟨by decide, by decide⟩, k1, by decide, fun H3 r3 w3 k3 a3 b3 => ?_⟩
    obtain ⟨n, n1, n8, en⟩ : ∃ n : Nat, 1 ≤ n ∧ n ≤ 8 ∧ 1 + r3 = (n : Int) := ⟨(1 + r3).toNat, by omega, by omega, by omega⟩
    walk_at "r"
    rw [en]
    refine ⟨D, C, _, n, rfl, n1, n8, k3, by decide, fun H4 S xs ss w4 k4 sD hS4 hst4 l16 hok => ?_⟩
    clear k1 s1 w3 k3 w4 hS
    have hlx := hst4.len
    walk_at "r"
    -- MARK
    refine ⟨S, xs, rfl, .inl (.of hS4), fun pl npl => ?_⟩
    have pD := k4.ne npl
    have pC := k4.neC npl
    have pS := ne_of_none hS4 npl
    have s0 := same_upd (o := .lst xs) npl
    have hp0 : upd H4 pl (.lst xs) pl = some (.lst xs) := upd_same
    have hS4 := s0 _ _ hS4
    have hst4 := hst4.same s0
    have k4 := k4.same s0
    generalize upd H4 pl (.lst xs) = H5 at *
    walk_at "r"
    intro x dx nx nd ne
    have xS := ne_of_none hp0 nx
    have dS := ne_of_none hp0 nd
    refine ⟨x, dx, pl, n, xs, ss, rfl, upd_same, .inl ((upd_ne xS).trans ((upd_ne dS).trans hp0)), n1, n8, by omega, ?_, fun s hs => ⟨(hok s hs).1, (hok s hs).2.1.mono (by decide)⟩, fun H6 hweb kp => ⟨rfl, ?_⟩⟩
    · refine hst4.ts fun b zs hb => ?_
      rw [upd_ne (ne_of_none hb nx), upd_ne (ne_of_none hb nd)]
      exact hb
    have s6 : Same H5 H6 := Same.made nx nd kp
    have g : L06 K c_Web D C S x n 300 xs ss H6 := ⟨(k4.same s6).mono (by decide), hweb, s6 _ _ hS4, hst4.same s6, sD⟩
    have hp6 := s6 _ _ hp0
    clear hS4 hst4 k4 s6 kp xS dS nx nd ne hweb sD s0 hp0
    walk_at "r"
    refine neSL hp6 g.st g.fS g.st ?_
    walk_at "r"
    have gw := g.web
    obtain ⟨_, dx6, t6, zs, e6, hx6, ht6, hz6⟩ := gw
    cases e6
    refine ⟨_, _, _, _, _, rfl, hx6, T.w_Web.it.cl, T.n_Web_wares, wF_wares _ _, ?_⟩
    walk_at "r"
    refine ⟨_, _, _, _, _, rfl, hx6, T.w_Web.it.cl, T.n_Web_stalls, wF_stalls _ _, ?_⟩
    walk_at "r"
    refine ⟨S, xs, rfl, .inl ⟨.of g.fS, fun p8 n8' => ?_⟩⟩
    have s8 := same_upd (o := .tup xs) n8'
    have h8 : upd H6 p8 (.tup xs) p8 = some (.tup xs) := upd_same
    have g := g.same s8
    have hp8 := s8 _ _ hp6
    refine neST (s8 _ _ ht6) (hz6.same s8) h8 g.st ?_
    generalize upd H6 p8 (.tup xs) = H8 at *
    clear hx6 ht6 hz6 hp6
    walk_at "r"
    refine rd_bm0 ?_
    walk_at "r"
    refine ⟨Or.inl ⟨rfl, _, Or.inl (Or.inl hp8)⟩, pl, xs, rfl, rfl, hp8, ?_⟩
    have g := g.put (zs := xs.reverse) hp8 pD pC pS
    have hp9 : upd H8 pl (.lst xs.reverse) pl = some (.lst xs.reverse) := upd_same
    generalize upd H8 pl (.lst xs.reverse) = H9 at *
    walk_at "r"
    refine ⟨Or.inl ⟨rfl, _, Or.inl (Or.inl hp9)⟩, ?_⟩
    walk_at "r"
    refine ⟨pl, _, _, rfl, rfl, hp9, small1000 (by simp; omega), ?_⟩
    have g := g.put (zs := xs.reverse ++ [.non]) hp9 pD pC pS
    clear h8 hp8 hp9 s8 n8'
    generalize upd H9 pl (.lst (xs.reverse ++ [.non])) = H9 at *
    obtain ⟨_, dx6, t6, zs, e6, hx6, ht6, hz6⟩ := g.web
    cases e6
    walk_at "r"
    refine ⟨_, _, _, _, _, rfl, hx6, T.w_Web.it.cl, T.n_Web_stalls, wF_stalls _ _, ?_⟩
    walk_at "r"
    refine ⟨S, xs, rfl, .inl ⟨.of g.fS, fun p8 n8' => ?_⟩⟩
    have s8 := same_upd (o := .tup xs) n8'
    have h8 : upd H9 p8 (.tup xs) p8 = some (.tup xs) := upd_same
    have g := g.same s8
    refine neST (s8 _ _ ht6) (hz6.same s8) h8 g.st ?_
    generalize upd H9 p8 (.tup xs) = H10 at *
    clear hx6 ht6 hz6 h8 s8
    walk_at "r"
    refine ⟨S, xs, rfl, .inl ⟨.of g.fS, fun p8 n8' => ?_⟩⟩
    have s8 := same_upd (o := .tup xs) n8'
    have h8 : upd H10 p8 (.tup xs) p8 = some (.tup xs) := upd_same
    have g := g.same s8
    generalize upd H10 p8 (.tup xs) = H11 at *
    walk_at "r"
    intro x2 dx2 nx nd ne
    have xS := ne_of_none h8 nx
    have dS := ne_of_none h8 nd
    refine ⟨x2, dx2, p8, n, xs, ss, rfl, upd_same, .inr ((upd_ne xS).trans ((upd_ne dS).trans h8)), n1, n8, by omega, ?_, fun s hs => ⟨(hok s hs).1, (hok s hs).2.1.mono (by decide)⟩, fun H12 hweb kp => ⟨rfl, ?_⟩⟩
    · refine g.st.ts fun b zs hb => ?_
      rw [upd_ne (ne_of_none hb nx), upd_ne (ne_of_none hb nd)]
      exact hb
    have s12 : Same H11 H12 := Same.made nx nd kp
    have g := g.same s12
    clear kp xS dS nx nd ne s8 h8
    walk_at "r"
    have e1 : (decide (n = n) && decide (ss = ss)) = true := by simp
    refine ⟨_, _, n, n, ss, ss, by rw [e1]; rfl, g.web, hweb, ?_⟩
    clear hweb
    walk_at "r"
    refine ⟨D, C, S, _, n, xs, ss, rfl, n1, n8, g.dk, by decide, g.fS, g.st, g.sD, l16, fun s hs => ⟨(hok s hs).1, (hok s hs).2.1⟩, fun H13 F vs ps w13 k13 fF fD it okp lF => ?_⟩
    have g := g.fw w13 k13
    clear s12 n8'
    refine ⟨F, rfl, ⟨_, .of fF⟩, ?_⟩
    refine for_list (K := K) (a := F) (xs := vs) (fun i σ H' => ∃ (t6 t7 t8 : Option V), σ = [some (.ref a), some (.ref D), some (.int (n : Nat)), some (.ref S), some (.ref pl), some (.ref x), t6, t7, t8] ∧ Same H13 H') ?_ ?_ ?_ ?_
    · exact ⟨_, _, _, rfl, fun _ _ h => h⟩
    · rintro i σ H' hi ⟨t6, t7, t8, rfl, sm⟩
      exact .of (sm _ _ fF)
    · rintro i v σ H14 hv ⟨t6, t7, t8, rfl, sm⟩
      obtain ⟨⟨m, tt⟩, hp, iv⟩ := prd_at it hv
      obtain ⟨m1, m8, lt16, okt⟩ := okp _ (List.mem_of_getElem? hp)
      have iv := iv.same sm
      have g := g.same sm
      obtain ⟨p, L, ys, rfl, hp1, hL, hst, _⟩ := iv
      have hly := hst.len
      walk_at "r"
      by_cases e : m = n
      · subst e
        walk_at "r"
        refine eqSL hL hst g.fS g.st ?_
        walk_at "r"
        intro x3 dx3 nx nd ne
        have xS := ne_of_none hL nx
        have dS := ne_of_none hL nd
        refine ⟨x3, dx3, L, m, ys, tt, rfl, upd_same, .inl ((upd_ne xS).trans ((upd_ne dS).trans hL)), m1, m8, by rw [hly]; exact lt16, ?_, fun s hs => ⟨(okt s hs).1, (okt s hs).2.mono (by decide)⟩, fun H15 hweb kp => ⟨rfl, ?_⟩⟩
        · refine hst.ts fun b zs hb => ?_
          rw [upd_ne (ne_of_none hb nx), upd_ne (ne_of_none hb nd)]
          exact hb
        have s15 : Same H14 H15 := Same.made nx nd kp
        walk_at "r"
        refine ⟨_, _, m, m, ss, tt, by rw [show (decide (m = m) && decide (ss = tt)) = decide (tt = ss) by simp [eq_comm]]; rfl, g.web.same s15, hweb, ?_⟩
        walk_at "r"
        exact ⟨_, _, _, rfl, sm.trans s15⟩
      · have e' : ¬ ((m : Nat) : Int) = (n : Nat) := by omega
        walk_at "r"
        intro x3 dx3 nx nd ne
        have xS := ne_of_none hL nx
        have dS := ne_of_none hL nd
        refine ⟨x3, dx3, L, m, ys, tt, rfl, upd_same, .inl ((upd_ne xS).trans ((upd_ne dS).trans hL)), m1, m8, by rw [hly]; exact lt16, ?_, fun s hs => ⟨(okt s hs).1, (okt s hs).2.mono (by decide)⟩, fun H15 hweb kp => ⟨rfl, ?_⟩⟩
        · refine hst.ts fun b zs hb => ?_
          rw [upd_ne (ne_of_none hb nx), upd_ne (ne_of_none hb nd)]
          exact hb
        have s15 : Same H14 H15 := Same.made nx nd kp
        walk_at "r"
        refine ⟨_, _, n, m, ss, tt, by rw [show (decide (n = m) && decide (ss = tt)) = false by rw [decide_eq_false (fun h : n = m => e h.symm)]; rfl]; rfl, g.web.same s15, hweb, ?_⟩
        walk_at "r"
        exact ⟨_, _, _, rfl, sm.trans s15⟩
    rintro σ H' ⟨t6, t7, t8, rfl, sm⟩
    have g := g.same sm
    walk_at "r"
    refine ⟨S, xs, rfl, .inl ⟨.of g.fS, fun p1 np1 => ?_⟩⟩
    have s1 := same_upd (o := .tup xs) np1
    have hp1 : upd H' p1 (.tup xs) p1 = some (.tup xs) := upd_same
    have g := g.same s1
    clear sm
    generalize upd H' p1 (.tup xs) = H1 at *
    walk_at "r"
    refine ⟨S, xs, rfl, .inl ⟨.of g.fS, fun p2 np2 => ?_⟩⟩
    have s2 := same_upd (o := .tup xs) np2
    have hp1 := s2 _ _ hp1
    have g := g.same s2
    generalize upd H1 p2 (.tup xs) = H2 at *
    walk_at "r"
    intro p3 np3
    have s3 := same_upd (o := .tup [V.int (n : Nat), .ref p2]) np3
    have hp3 : upd H2 p3 (.tup [V.int (n : Nat), .ref p2]) p3 = some (.tup [V.int (n : Nat), .ref p2]) := upd_same
    have hp1 := s3 _ _ hp1
    have g := g.same s3
    generalize upd H2 p3 (.tup [V.int (n : Nat), .ref p2]) = H3 at *
    walk_at "r"
    intro p4 np4
    have s4 := same_upd (o := .dK []) np4
    have hp4 : upd H3 p4 (.dK []) p4 = some (.dK []) := upd_same
    have hp1 := s4 _ _ hp1
    have hp3 := s4 _ _ hp3
    have g := g.same s4
    generalize upd H3 p4 (.dK []) = H4 at *
    walk_at "r"
    intro p5 np5
    have s5 := same_upd (o := .lst [V.ref x]) np5
    have hp5 : upd H4 p5 (.lst [V.ref x]) p5 = some (.lst [V.ref x]) := upd_same
    have hp1 := s5 _ _ hp1
    have hp3 := s5 _ _ hp3
    have hp4 := s5 _ _ hp4
    have g := g.same s5
    generalize upd H4 p5 (.lst [V.ref x]) = H5 at *
    walk_at "r"
    intro p6 np6
    have s6 := same_upd (o := .lst [V.ref S, V.ref p1, V.ref p3, V.non, V.int 0, V.bl true, V.ref p4, V.ref p5, V.int (n : Nat)]) np6
    have hp6 : upd H5 p6 (.lst [V.ref S, V.ref p1, V.ref p3, V.non, V.int 0, V.bl true, V.ref p4, V.ref p5, V.int (n : Nat)]) p6 = some (.lst [V.ref S, V.ref p1, V.ref p3, V.non, V.int 0, V.bl true, V.ref p4, V.ref p5, V.int (n : Nat)]) := upd_same
    have hp1 := s6 _ _ hp1
    have hp3 := s6 _ _ hp3
    have hp4 := s6 _ _ hp4
    have hp5 := s6 _ _ hp5
    have g := g.same s6
    generalize upd H5 p6 (.lst [V.ref S, V.ref p1, V.ref p3, V.non, V.int 0, V.bl true, V.ref p4, V.ref p5, V.int (n : Nat)]) = H6 at *
    obtain ⟨_, dx6, t6', zs, e6, hx6, ht6, hz6⟩ := id g.web
    cases e6
    have odd : ∀ v ∈ [V.ref S, V.ref p1, V.ref p3, V.non, V.int 0, V.bl true, V.ref p4, V.ref p5, V.int (n : Nat)], ∃ T, OddV H6 v T := by
      intro v hv
      simp only [List.mem_cons, List.not_mem_nil, or_false] at hv
      rcases hv with rfl | rfl | rfl | rfl | rfl | rfl | rfl | rfl | rfl
      · exact ⟨_, .lst g.fS⟩
      · exact ⟨_, .tup hp1⟩
      · exact ⟨_, .tup hp3⟩
      · exact ⟨_, .non⟩
      · exact ⟨_, .int _⟩
      · exact ⟨_, .bl _⟩
      · exact ⟨_, .dK hp4⟩
      · exact ⟨_, .lst hp5⟩
      · exact ⟨_, .int _⟩
    refine ⟨p6, rfl, ⟨_, .of hp6⟩, ?_⟩
    refine for_list (K := K) (a := p6) (xs := [V.ref S, V.ref p1, V.ref p3, V.non, V.int 0, V.bl true, V.ref p4, V.ref p5, V.int (n : Nat)]) (fun i σ H' => ∃ (t8 : Option V), σ = [some (.ref a), some (.ref D), some (.int (n : Nat)), some (.ref S), some (.ref pl), some (.ref x), t6, t7, t8] ∧ H' = H6) ?_ ?_ ?_ ?_
    · exact ⟨_, rfl, rfl⟩
    · rintro i σ H' hi ⟨t8, rfl, rfl⟩
      exact .of hp6
    · rintro i v σ H14 hv ⟨t8, rfl, rfl⟩
      obtain ⟨T', o⟩ := odd v (List.mem_of_getElem? hv)
      walk_at "r"
      refine ⟨x, dx6, _, T', rfl, hx6, o, ?_⟩
      walk_at "r"
      refine ⟨x, dx6, _, T', rfl, hx6, o, ?_⟩
      walk_at "r"
      refine ⟨x, dx6, _, T', rfl, hx6, o, ?_⟩
      walk_at "r"
      rfl
    rintro σ H' ⟨t8, rfl, rfl⟩
    clear odd
    walk_at "r"
    refine ⟨_, _, _, _, _, rfl, hx6, T.w_Web.it.cl, T.n_Web_wares, wF_wares _ _, ?_⟩
    walk_at "r"
    refine ⟨_, _, _, _, _, rfl, hx6, T.w_Web.it.cl, T.n_Web_stalls, wF_stalls _ _, ?_⟩
    walk_at "r"
    refine ⟨S, xs, rfl, .inl ⟨.of g.fS, fun p8 n8' => ?_⟩⟩
    have s8 := same_upd (o := .tup xs) n8'
    have h8 : upd H' p8 (.tup xs) p8 = some (.tup xs) := upd_same
    have g := g.same s8
    refine eqST (s8 _ _ ht6) (hz6.same s8) h8 g.st ?_
    exact q _
theorem ok_all (T : Txt K mg f_is_integer f_is_row f_is_fraction f_is_some f_multiplied f_squared f_is_stall f_l_deck f_l_pick f_l_divisor f_l_made f_l_amount f_l_stall f_l_stalls f_l_others f_l_is_flag f_l_are_compared f_law f_Web_init f_Web_eq c_Web d_is_integer d_is_row d_is_fraction d_is_some d_multiplied d_squared d_is_stall d_l_deck d_l_pick d_l_divisor d_l_made d_l_amount d_l_stall d_l_stalls d_l_others d_l_is_flag d_l_are_compared d_law d_Web_init d_Web_eq) : FnOk P w K mg base CX0 7 f_law d_law ["_law_script"] (sp_law K) := ok_law T
end
end My
namespace My
open PySem PySem.Spec PyProof.Rows L2
theorem all_mk {l : PySem.W.OpenLaw} {w : World} {K : PySem.W.Frag} {h : Heap} {mg : Str → Option Value} {fa : Addr} (X : K.In h) (G : h.Ns mainGlobals mg) (hfa : mg "law" = some (.ref fa))
    {c_Web : Addr}
    {tk_MOST_STALLS : Tok}
    {tk_MOST_WARES : Tok}
    {od0 an0 : Option Addr} {sl0 : Array (Option Value)} {oc0 kV0 dc0 pm0 cd0 ct0 : Value} {f_is_integer : Addr}
    {od1 an1 : Option Addr} {sl1 : Array (Option Value)} {oc1 kV1 dc1 pm1 cd1 ct1 : Value} {f_is_row : Addr}
    {od2 an2 : Option Addr} {sl2 : Array (Option Value)} {oc2 kV2 dc2 pm2 cd2 ct2 : Value} {f_is_fraction : Addr}
    {od3 an3 : Option Addr} {sl3 : Array (Option Value)} {oc3 kV3 dc3 pm3 cd3 ct3 : Value} {f_is_some : Addr}
    {od4 an4 : Option Addr} {sl4 : Array (Option Value)} {oc4 kV4 dc4 pm4 cd4 ct4 : Value} {f_multiplied : Addr}
    {od5 an5 : Option Addr} {sl5 : Array (Option Value)} {oc5 kV5 dc5 pm5 cd5 ct5 : Value} {f_squared : Addr}
    {od6 an6 : Option Addr} {sl6 : Array (Option Value)} {oc6 kV6 dc6 pm6 cd6 ct6 : Value} {f_is_stall : Addr}
    {od7 an7 : Option Addr} {sl7 : Array (Option Value)} {oc7 kV7 dc7 pm7 cd7 ct7 : Value} {f_l_deck : Addr}
    {od8 an8 : Option Addr} {sl8 : Array (Option Value)} {oc8 kV8 dc8 pm8 cd8 ct8 : Value} {f_l_pick : Addr}
    {od9 an9 : Option Addr} {sl9 : Array (Option Value)} {oc9 kV9 dc9 pm9 cd9 ct9 : Value} {f_l_divisor : Addr}
    {od10 an10 : Option Addr} {sl10 : Array (Option Value)} {oc10 kV10 dc10 pm10 cd10 ct10 : Value} {f_l_made : Addr}
    {od11 an11 : Option Addr} {sl11 : Array (Option Value)} {oc11 kV11 dc11 pm11 cd11 ct11 : Value} {f_l_amount : Addr}
    {od12 an12 : Option Addr} {sl12 : Array (Option Value)} {oc12 kV12 dc12 pm12 cd12 ct12 : Value} {f_l_stall : Addr}
    {od13 an13 : Option Addr} {sl13 : Array (Option Value)} {oc13 kV13 dc13 pm13 cd13 ct13 : Value} {f_l_stalls : Addr}
    {od14 an14 : Option Addr} {sl14 : Array (Option Value)} {oc14 kV14 dc14 pm14 cd14 ct14 : Value} {f_l_others : Addr}
    {od15 an15 : Option Addr} {sl15 : Array (Option Value)} {oc15 kV15 dc15 pm15 cd15 ct15 : Value} {f_l_is_flag : Addr}
    {od16 an16 : Option Addr} {sl16 : Array (Option Value)} {oc16 kV16 dc16 pm16 cd16 ct16 : Value} {f_l_are_compared : Addr}
    {od17 an17 : Option Addr} {sl17 : Array (Option Value)} {oc17 kV17 dc17 pm17 cd17 ct17 : Value} {f_law : Addr}
    {od18 an18 : Option Addr} {sl18 : Array (Option Value)} {oc18 kV18 dc18 pm18 cd18 ct18 : Value} {f_Web_init : Addr}
    {od19 an19 : Option Addr} {sl19 : Array (Option Value)} {oc19 kV19 dc19 pm19 cd19 ct19 : Value} {f_Web_eq : Addr}
    (z_abs : PySem.W.nsIn K mainGlobals "abs" = some none)
    (z_bool : PySem.W.nsIn K mainGlobals "bool" = some none)
    (z_enumerate : PySem.W.nsIn K mainGlobals "enumerate" = some none)
    (z_int : PySem.W.nsIn K mainGlobals "int" = some none)
    (z_isinstance : PySem.W.nsIn K mainGlobals "isinstance" = some none)
    (z_len : PySem.W.nsIn K mainGlobals "len" = some none)
    (z_list : PySem.W.nsIn K mainGlobals "list" = some none)
    (z_range : PySem.W.nsIn K mainGlobals "range" = some none)
    (z_tuple : PySem.W.nsIn K mainGlobals "tuple" = some none)
    (m_gcd : PySem.W.nsIn K mainGlobals "gcd" = some (some (.builtin "math.gcd")))
    (a_Web : PySem.W.nsIn K mainGlobals "Web" = some (some (.ref c_Web)))
    (mk_Web : PySem.W.makesIn K c_Web = true)
    (in_Web : PySem.W.findIn K (.ref c_Web) "__init__" = some (some (.ref f_Web_init)))
    (fn_Web : PySem.W.isFn K (.ref f_Web_init) = true)
    (kp_Web : PySem.W.keepIn K (.ref c_Web) = true)
    (pg_Web : PySem.W.plainGet K c_Web Str.empty = true)
    (hd_Web : PySem.W.hasDictIn K c_Web = true)
    (po_Web : PySem.W.plainOver K c_Web = true)
    (sa_Web : PySem.W.findIn K (.ref c_Web) "__setattr__" = some (some (.builtin "object.__setattr__")))
    (ha_Web : PySem.W.findIn K (.ref c_Web) "__class__" = some (some (.builtin "object.__class__")))
    (hn_Web : PySem.W.specialIn K (.builtin "object.__class__") "__get__" = some (some (.builtin "getset_descriptor.__get__")))
    (ht_Web : PySem.W.takesIn K (.builtin "object.__class__") = some true)
    (mo_Web : PySem.W.mroIn K c_Web (.type "object") = some true)
    (i_int_Web : PySem.W.kitOne K (.ref c_Web) (.type "int") = some false)
    (i_bool_Web : PySem.W.kitOne K (.ref c_Web) (.type "bool") = some false)
    (i_tuple_Web : PySem.W.kitOne K (.ref c_Web) (.type "tuple") = some false)
    (i_list_Web : PySem.W.kitOne K (.ref c_Web) (.type "list") = some false)
    (yd_Web : PySem.W.mroIn K c_Web (.type "dict") = some false)
    (yn_Web : PySem.W.mroIn K c_Web (.type "NoneType") = some false)
    (yt_Web : PySem.W.typeIn K (.ref c_Web) = some (.type "type"))
    (na_Web_wares : PySem.W.findIn K (.ref c_Web) "wares" = some none)
    (na_Web_stalls : PySem.W.findIn K (.ref c_Web) "stalls" = some none)
    (v_MOST_STALLS : PySem.W.nsIn K mainGlobals "MOST_STALLS" = some (some (.int 16 tk_MOST_STALLS)))
    (v_MOST_WARES : PySem.W.nsIn K mainGlobals "MOST_WARES" = some (some (.int 8 tk_MOST_WARES)))
    (a_is_integer : PySem.W.nsIn K mainGlobals "is_integer" = some (some (.ref f_is_integer)))
    (l_is_integer : K.lookup f_is_integer = some ⟨oc0, od0, .func (PySem.W.fnOf "is_integer" "is_integer" (defArgs s_is_integer) (defBody s_is_integer) (defScope s_is_integer) .none kV0 dc0 pm0 an0 cd0 ct0), sl0⟩)
    (c_is_integer : PySem.W.codeIn K cd0 "is_integer" = true)
    (k_is_integer : PySem.W.keepIn K (.ref f_is_integer) = true)
    (a_is_row : PySem.W.nsIn K mainGlobals "is_row" = some (some (.ref f_is_row)))
    (l_is_row : K.lookup f_is_row = some ⟨oc1, od1, .func (PySem.W.fnOf "is_row" "is_row" (defArgs s_is_row) (defBody s_is_row) (defScope s_is_row) .none kV1 dc1 pm1 an1 cd1 ct1), sl1⟩)
    (c_is_row : PySem.W.codeIn K cd1 "is_row" = true)
    (k_is_row : PySem.W.keepIn K (.ref f_is_row) = true)
    (a_is_fraction : PySem.W.nsIn K mainGlobals "is_fraction" = some (some (.ref f_is_fraction)))
    (l_is_fraction : K.lookup f_is_fraction = some ⟨oc2, od2, .func (PySem.W.fnOf "is_fraction" "is_fraction" (defArgs s_is_fraction) (defBody s_is_fraction) (defScope s_is_fraction) .none kV2 dc2 pm2 an2 cd2 ct2), sl2⟩)
    (c_is_fraction : PySem.W.codeIn K cd2 "is_fraction" = true)
    (k_is_fraction : PySem.W.keepIn K (.ref f_is_fraction) = true)
    (a_is_some : PySem.W.nsIn K mainGlobals "is_some" = some (some (.ref f_is_some)))
    (l_is_some : K.lookup f_is_some = some ⟨oc3, od3, .func (PySem.W.fnOf "is_some" "is_some" (defArgs s_is_some) (defBody s_is_some) (defScope s_is_some) .none kV3 dc3 pm3 an3 cd3 ct3), sl3⟩)
    (c_is_some : PySem.W.codeIn K cd3 "is_some" = true)
    (k_is_some : PySem.W.keepIn K (.ref f_is_some) = true)
    (a_multiplied : PySem.W.nsIn K mainGlobals "multiplied" = some (some (.ref f_multiplied)))
    (l_multiplied : K.lookup f_multiplied = some ⟨oc4, od4, .func (PySem.W.fnOf "multiplied" "multiplied" (defArgs s_multiplied) (defBody s_multiplied) (defScope s_multiplied) .none kV4 dc4 pm4 an4 cd4 ct4), sl4⟩)
    (c_multiplied : PySem.W.codeIn K cd4 "multiplied" = true)
    (k_multiplied : PySem.W.keepIn K (.ref f_multiplied) = true)
    (a_squared : PySem.W.nsIn K mainGlobals "squared" = some (some (.ref f_squared)))
    (l_squared : K.lookup f_squared = some ⟨oc5, od5, .func (PySem.W.fnOf "squared" "squared" (defArgs s_squared) (defBody s_squared) (defScope s_squared) .none kV5 dc5 pm5 an5 cd5 ct5), sl5⟩)
    (c_squared : PySem.W.codeIn K cd5 "squared" = true)
    (k_squared : PySem.W.keepIn K (.ref f_squared) = true)
    (a_is_stall : PySem.W.nsIn K mainGlobals "is_stall" = some (some (.ref f_is_stall)))
    (l_is_stall : K.lookup f_is_stall = some ⟨oc6, od6, .func (PySem.W.fnOf "is_stall" "is_stall" (defArgs s_is_stall) (defBody s_is_stall) (defScope s_is_stall) .none kV6 dc6 pm6 an6 cd6 ct6), sl6⟩)
    (c_is_stall : PySem.W.codeIn K cd6 "is_stall" = true)
    (k_is_stall : PySem.W.keepIn K (.ref f_is_stall) = true)
    (a_l_deck : PySem.W.nsIn K mainGlobals "_law_deck" = some (some (.ref f_l_deck)))
    (l_l_deck : K.lookup f_l_deck = some ⟨oc7, od7, .func (PySem.W.fnOf "_law_deck" "_law_deck" (defArgs s_l_deck) (defBody s_l_deck) (defScope s_l_deck) .none kV7 dc7 pm7 an7 cd7 ct7), sl7⟩)
    (c_l_deck : PySem.W.codeIn K cd7 "_law_deck" = true)
    (k_l_deck : PySem.W.keepIn K (.ref f_l_deck) = true)
    (a_l_pick : PySem.W.nsIn K mainGlobals "_law_pick" = some (some (.ref f_l_pick)))
    (l_l_pick : K.lookup f_l_pick = some ⟨oc8, od8, .func (PySem.W.fnOf "_law_pick" "_law_pick" (defArgs s_l_pick) (defBody s_l_pick) (defScope s_l_pick) .none kV8 dc8 pm8 an8 cd8 ct8), sl8⟩)
    (c_l_pick : PySem.W.codeIn K cd8 "_law_pick" = true)
    (k_l_pick : PySem.W.keepIn K (.ref f_l_pick) = true)
    (a_l_divisor : PySem.W.nsIn K mainGlobals "_law_divisor" = some (some (.ref f_l_divisor)))
    (l_l_divisor : K.lookup f_l_divisor = some ⟨oc9, od9, .func (PySem.W.fnOf "_law_divisor" "_law_divisor" (defArgs s_l_divisor) (defBody s_l_divisor) (defScope s_l_divisor) .none kV9 dc9 pm9 an9 cd9 ct9), sl9⟩)
    (c_l_divisor : PySem.W.codeIn K cd9 "_law_divisor" = true)
    (k_l_divisor : PySem.W.keepIn K (.ref f_l_divisor) = true)
    (a_l_made : PySem.W.nsIn K mainGlobals "_law_made" = some (some (.ref f_l_made)))
    (l_l_made : K.lookup f_l_made = some ⟨oc10, od10, .func (PySem.W.fnOf "_law_made" "_law_made" (defArgs s_l_made) (defBody s_l_made) (defScope s_l_made) .none kV10 dc10 pm10 an10 cd10 ct10), sl10⟩)
    (c_l_made : PySem.W.codeIn K cd10 "_law_made" = true)
    (k_l_made : PySem.W.keepIn K (.ref f_l_made) = true)
    (a_l_amount : PySem.W.nsIn K mainGlobals "_law_amount" = some (some (.ref f_l_amount)))
    (l_l_amount : K.lookup f_l_amount = some ⟨oc11, od11, .func (PySem.W.fnOf "_law_amount" "_law_amount" (defArgs s_l_amount) (defBody s_l_amount) (defScope s_l_amount) .none kV11 dc11 pm11 an11 cd11 ct11), sl11⟩)
    (c_l_amount : PySem.W.codeIn K cd11 "_law_amount" = true)
    (k_l_amount : PySem.W.keepIn K (.ref f_l_amount) = true)
    (a_l_stall : PySem.W.nsIn K mainGlobals "_law_stall" = some (some (.ref f_l_stall)))
    (l_l_stall : K.lookup f_l_stall = some ⟨oc12, od12, .func (PySem.W.fnOf "_law_stall" "_law_stall" (defArgs s_l_stall) (defBody s_l_stall) (defScope s_l_stall) .none kV12 dc12 pm12 an12 cd12 ct12), sl12⟩)
    (c_l_stall : PySem.W.codeIn K cd12 "_law_stall" = true)
    (k_l_stall : PySem.W.keepIn K (.ref f_l_stall) = true)
    (a_l_stalls : PySem.W.nsIn K mainGlobals "_law_stalls" = some (some (.ref f_l_stalls)))
    (l_l_stalls : K.lookup f_l_stalls = some ⟨oc13, od13, .func (PySem.W.fnOf "_law_stalls" "_law_stalls" (defArgs s_l_stalls) (defBody s_l_stalls) (defScope s_l_stalls) .none kV13 dc13 pm13 an13 cd13 ct13), sl13⟩)
    (c_l_stalls : PySem.W.codeIn K cd13 "_law_stalls" = true)
    (k_l_stalls : PySem.W.keepIn K (.ref f_l_stalls) = true)
    (a_l_others : PySem.W.nsIn K mainGlobals "_law_others" = some (some (.ref f_l_others)))
    (l_l_others : K.lookup f_l_others = some ⟨oc14, od14, .func (PySem.W.fnOf "_law_others" "_law_others" (defArgs s_l_others) (defBody s_l_others) (defScope s_l_others) .none kV14 dc14 pm14 an14 cd14 ct14), sl14⟩)
    (c_l_others : PySem.W.codeIn K cd14 "_law_others" = true)
    (k_l_others : PySem.W.keepIn K (.ref f_l_others) = true)
    (a_l_is_flag : PySem.W.nsIn K mainGlobals "_law_is_flag" = some (some (.ref f_l_is_flag)))
    (l_l_is_flag : K.lookup f_l_is_flag = some ⟨oc15, od15, .func (PySem.W.fnOf "_law_is_flag" "_law_is_flag" (defArgs s_l_is_flag) (defBody s_l_is_flag) (defScope s_l_is_flag) .none kV15 dc15 pm15 an15 cd15 ct15), sl15⟩)
    (c_l_is_flag : PySem.W.codeIn K cd15 "_law_is_flag" = true)
    (k_l_is_flag : PySem.W.keepIn K (.ref f_l_is_flag) = true)
    (a_l_are_compared : PySem.W.nsIn K mainGlobals "_law_are_compared" = some (some (.ref f_l_are_compared)))
    (l_l_are_compared : K.lookup f_l_are_compared = some ⟨oc16, od16, .func (PySem.W.fnOf "_law_are_compared" "_law_are_compared" (defArgs s_l_are_compared) (defBody s_l_are_compared) (defScope s_l_are_compared) .none kV16 dc16 pm16 an16 cd16 ct16), sl16⟩)
    (c_l_are_compared : PySem.W.codeIn K cd16 "_law_are_compared" = true)
    (k_l_are_compared : PySem.W.keepIn K (.ref f_l_are_compared) = true)
    (a_law : PySem.W.nsIn K mainGlobals "law" = some (some (.ref f_law)))
    (l_law : K.lookup f_law = some ⟨oc17, od17, .func (PySem.W.fnOf "law" "law" (defArgs s_law) (defBody s_law) (defScope s_law) .none kV17 dc17 pm17 an17 cd17 ct17), sl17⟩)
    (c_law : PySem.W.codeIn K cd17 "law" = true)
    (k_law : PySem.W.keepIn K (.ref f_law) = true)
    (l_Web_init : K.lookup f_Web_init = some ⟨oc18, od18, .func (PySem.W.fnOf "__init__" "Web.__init__" (defArgs s_Web_init) (defBody s_Web_init) (defScope s_Web_init) .none kV18 dc18 pm18 an18 cd18 ct18), sl18⟩)
    (c_Web_init : PySem.W.codeIn K cd18 "Web.__init__" = true)
    (k_Web_init : PySem.W.keepIn K (.ref f_Web_init) = true)
    (mi_Web_eq : PySem.W.findIn K (.ref c_Web) "__eq__" = some (some (.ref f_Web_eq)))
    (l_Web_eq : K.lookup f_Web_eq = some ⟨oc19, od19, .func (PySem.W.fnOf "__eq__" "Web.__eq__" (defArgs s_Web_eq) (defBody s_Web_eq) (defScope s_Web_eq) .none kV19 dc19 pm19 an19 cd19 ct19), sl19⟩)
    (c_Web_eq : PySem.W.codeIn K cd19 "Web.__eq__" = true)
    (k_Web_eq : PySem.W.keepIn K (.ref f_Web_eq) = true)
    (mf_Web_eq : PySem.W.isFn K (.ref f_Web_eq) = true)
    (mn_Web : PySem.W.findIn K (.ref c_Web) "__ne__" = some (some (.builtin "object.__ne__")))
    : ∃ fd : FuncData, (∀ (s : Shared) (v : Value), BindsTo s fd ⟨[v], []⟩ [("_law_script", v)]) ∧ ∀ base : Heap, K.In base → base.Ns mainGlobals mg → FnOk l.prog w K mg base CX0 7 fa fd ["_law_script"] (sp_law K) := by
  have e := hfa.symm.trans (PySem.W.mg_of X G a_law)
  cases e
  have T : Txt K mg f_is_integer f_is_row f_is_fraction f_is_some f_multiplied f_squared f_is_stall f_l_deck f_l_pick f_l_divisor f_l_made f_l_amount f_l_stall f_l_stalls f_l_others f_l_is_flag f_l_are_compared fa f_Web_init f_Web_eq c_Web _ _ _ _ _ _ _ _ _ _ _ _ _ _ _ _ _ _ _ _ := {
    z_abs := PySem.W.mg_none_of X G z_abs
    z_bool := PySem.W.mg_none_of X G z_bool
    z_enumerate := PySem.W.mg_none_of X G z_enumerate
    z_int := PySem.W.mg_none_of X G z_int
    z_isinstance := PySem.W.mg_none_of X G z_isinstance
    z_len := PySem.W.mg_none_of X G z_len
    z_list := PySem.W.mg_none_of X G z_list
    z_range := PySem.W.mg_none_of X G z_range
    z_tuple := PySem.W.mg_none_of X G z_tuple
    m_gcd := PySem.W.mg_of X G m_gcd
    w_Web := ⟨PySem.W.mg_of X G a_Web, ⟨mk_Web, in_Web, fn_Web, kp_Web⟩, ⟨⟨pg_Web, hd_Web, po_Web, sa_Web⟩, ha_Web, hn_Web, ht_Web, mo_Web, i_int_Web, i_bool_Web, i_tuple_Web, i_list_Web⟩⟩
    od_Web := ⟨yd_Web, yn_Web, yt_Web⟩
    n_Web_wares := na_Web_wares
    n_Web_stalls := na_Web_stalls
    v_MOST_STALLS := ⟨_, PySem.W.mg_of X G v_MOST_STALLS, ⟨_, rfl⟩⟩
    v_MOST_WARES := ⟨_, PySem.W.mg_of X G v_MOST_WARES, ⟨_, rfl⟩⟩
    g_is_integer := PySem.W.mg_of X G a_is_integer
    F_is_integer := fun_mk (st := s_is_integer) l_is_integer c_is_integer k_is_integer
    k_is_integer := k_is_integer
    b_is_integer := (fun_mk (st := s_is_integer) l_is_integer c_is_integer k_is_integer).binds (ps := ["thing"]) fun _ _ _ _ _ _ us hl => match us, hl with | [_], _ => rfl
    g_is_row := PySem.W.mg_of X G a_is_row
    F_is_row := fun_mk (st := s_is_row) l_is_row c_is_row k_is_row
    k_is_row := k_is_row
    b_is_row := (fun_mk (st := s_is_row) l_is_row c_is_row k_is_row).binds (ps := ["thing"]) fun _ _ _ _ _ _ us hl => match us, hl with | [_], _ => rfl
    g_is_fraction := PySem.W.mg_of X G a_is_fraction
    F_is_fraction := fun_mk (st := s_is_fraction) l_is_fraction c_is_fraction k_is_fraction
    k_is_fraction := k_is_fraction
    b_is_fraction := (fun_mk (st := s_is_fraction) l_is_fraction c_is_fraction k_is_fraction).binds (ps := ["thing"]) fun _ _ _ _ _ _ us hl => match us, hl with | [_], _ => rfl
    g_is_some := PySem.W.mg_of X G a_is_some
    F_is_some := fun_mk (st := s_is_some) l_is_some c_is_some k_is_some
    k_is_some := k_is_some
    b_is_some := (fun_mk (st := s_is_some) l_is_some c_is_some k_is_some).binds (ps := ["thing"]) fun _ _ _ _ _ _ us hl => match us, hl with | [_], _ => rfl
    g_multiplied := PySem.W.mg_of X G a_multiplied
    F_multiplied := fun_mk (st := s_multiplied) l_multiplied c_multiplied k_multiplied
    k_multiplied := k_multiplied
    b_multiplied := (fun_mk (st := s_multiplied) l_multiplied c_multiplied k_multiplied).binds (ps := ["one", "other"]) fun _ _ _ _ _ _ us hl => match us, hl with | [_, _], _ => rfl
    g_squared := PySem.W.mg_of X G a_squared
    F_squared := fun_mk (st := s_squared) l_squared c_squared k_squared
    k_squared := k_squared
    b_squared := (fun_mk (st := s_squared) l_squared c_squared k_squared).binds (ps := ["one"]) fun _ _ _ _ _ _ us hl => match us, hl with | [_], _ => rfl
    g_is_stall := PySem.W.mg_of X G a_is_stall
    F_is_stall := fun_mk (st := s_is_stall) l_is_stall c_is_stall k_is_stall
    k_is_stall := k_is_stall
    b_is_stall := (fun_mk (st := s_is_stall) l_is_stall c_is_stall k_is_stall).binds (ps := ["wares", "thing"]) fun _ _ _ _ _ _ us hl => match us, hl with | [_, _], _ => rfl
    g_l_deck := PySem.W.mg_of X G a_l_deck
    F_l_deck := fun_mk (st := s_l_deck) l_l_deck c_l_deck k_l_deck
    k_l_deck := k_l_deck
    b_l_deck := (fun_mk (st := s_l_deck) l_l_deck c_l_deck k_l_deck).binds (ps := ["_law_script"]) fun _ _ _ _ _ _ us hl => match us, hl with | [_], _ => rfl
    g_l_pick := PySem.W.mg_of X G a_l_pick
    F_l_pick := fun_mk (st := s_l_pick) l_l_pick c_l_pick k_l_pick
    k_l_pick := k_l_pick
    b_l_pick := (fun_mk (st := s_l_pick) l_l_pick c_l_pick k_l_pick).binds (ps := ["_law_deck_here", "_law_many"]) fun _ _ _ _ _ _ us hl => match us, hl with | [_, _], _ => rfl
    g_l_divisor := PySem.W.mg_of X G a_l_divisor
    F_l_divisor := fun_mk (st := s_l_divisor) l_l_divisor c_l_divisor k_l_divisor
    k_l_divisor := k_l_divisor
    b_l_divisor := (fun_mk (st := s_l_divisor) l_l_divisor c_l_divisor k_l_divisor).binds (ps := ["_law_one", "_law_other"]) fun _ _ _ _ _ _ us hl => match us, hl with | [_, _], _ => rfl
    g_l_made := PySem.W.mg_of X G a_l_made
    F_l_made := fun_mk (st := s_l_made) l_l_made c_l_made k_l_made
    k_l_made := k_l_made
    b_l_made := (fun_mk (st := s_l_made) l_l_made c_l_made k_l_made).binds (ps := ["_law_top", "_law_bottom"]) fun _ _ _ _ _ _ us hl => match us, hl with | [_, _], _ => rfl
    g_l_amount := PySem.W.mg_of X G a_l_amount
    F_l_amount := fun_mk (st := s_l_amount) l_l_amount c_l_amount k_l_amount
    k_l_amount := k_l_amount
    b_l_amount := (fun_mk (st := s_l_amount) l_l_amount c_l_amount k_l_amount).binds (ps := ["_law_deck_here"]) fun _ _ _ _ _ _ us hl => match us, hl with | [_], _ => rfl
    g_l_stall := PySem.W.mg_of X G a_l_stall
    F_l_stall := fun_mk (st := s_l_stall) l_l_stall c_l_stall k_l_stall
    k_l_stall := k_l_stall
    b_l_stall := (fun_mk (st := s_l_stall) l_l_stall c_l_stall k_l_stall).binds (ps := ["_law_deck_here", "_law_wares"]) fun _ _ _ _ _ _ us hl => match us, hl with | [_, _], _ => rfl
    g_l_stalls := PySem.W.mg_of X G a_l_stalls
    F_l_stalls := fun_mk (st := s_l_stalls) l_l_stalls c_l_stalls k_l_stalls
    k_l_stalls := k_l_stalls
    b_l_stalls := (fun_mk (st := s_l_stalls) l_l_stalls c_l_stalls k_l_stalls).binds (ps := ["_law_deck_here", "_law_wares"]) fun _ _ _ _ _ _ us hl => match us, hl with | [_, _], _ => rfl
    g_l_others := PySem.W.mg_of X G a_l_others
    F_l_others := fun_mk (st := s_l_others) l_l_others c_l_others k_l_others
    k_l_others := k_l_others
    b_l_others := (fun_mk (st := s_l_others) l_l_others c_l_others k_l_others).binds (ps := ["_law_deck_here", "_law_wares", "_law_stalls_here"]) fun _ _ _ _ _ _ us hl => match us, hl with | [_, _, _], _ => rfl
    g_l_is_flag := PySem.W.mg_of X G a_l_is_flag
    F_l_is_flag := fun_mk (st := s_l_is_flag) l_l_is_flag c_l_is_flag k_l_is_flag
    k_l_is_flag := k_l_is_flag
    b_l_is_flag := (fun_mk (st := s_l_is_flag) l_l_is_flag c_l_is_flag k_l_is_flag).binds (ps := ["_law_flag", "_law_due"]) fun _ _ _ _ _ _ us hl => match us, hl with | [_, _], _ => rfl
    g_l_are_compared := PySem.W.mg_of X G a_l_are_compared
    F_l_are_compared := fun_mk (st := s_l_are_compared) l_l_are_compared c_l_are_compared k_l_are_compared
    k_l_are_compared := k_l_are_compared
    b_l_are_compared := (fun_mk (st := s_l_are_compared) l_l_are_compared c_l_are_compared k_l_are_compared).binds (ps := ["_law_one", "_law_other", "_law_due"]) fun _ _ _ _ _ _ us hl => match us, hl with | [_, _, _], _ => rfl
    g_law := PySem.W.mg_of X G a_law
    F_law := fun_mk (st := s_law) l_law c_law k_law
    k_law := k_law
    b_law := (fun_mk (st := s_law) l_law c_law k_law).binds (ps := ["_law_script"]) fun _ _ _ _ _ _ us hl => match us, hl with | [_], _ => rfl
    F_Web_init := fun_mk (st := s_Web_init) l_Web_init c_Web_init k_Web_init
    b_Web_init := (fun_mk (st := s_Web_init) l_Web_init c_Web_init k_Web_init).binds (ps := ["self", "wares", "stalls"]) fun _ _ _ _ _ _ us hl => match us, hl with | [_, _, _], _ => rfl
    i_Web_eq := mi_Web_eq
    fn_Web_eq := mf_Web_eq
    ne_Web := mn_Web
    F_Web_eq := fun_mk (st := s_Web_eq) l_Web_eq c_Web_eq k_Web_eq
    b_Web_eq := (fun_mk (st := s_Web_eq) l_Web_eq c_Web_eq k_Web_eq).binds (ps := ["self", "other"]) fun _ _ _ _ _ _ us hl => match us, hl with | [_, _], _ => rfl
  }
  exact ⟨_, fun s v => .of_eq rfl, fun base _ _ => ok_all T⟩
end My
open PySem PySem.W PyProof.Rows
set_option maxRecDepth 100000 in
set_option maxHeartbeats 0 in
theorem PySem.Challenge.cw_rootstalls_k06_webs_kept_and_compared_holds : PySem.Challenge.rw_rootstalls_k06_webs_kept_and_compared.Holds := by
  w_on; o_law; k_head; (case hw => w_witness2)
  k_fill
  refine L2.walk_ofB (l := PySem.Challenge.rw_rootstalls_k06_webs_kept_and_compared) (n := 63) (k := 7) (x := "_law_script") (CX := fun _ => L2.CX0) (sp := fun w => My.sp_law _) rfl (by decide) rfl ⟨rfl, by decide, by decide⟩ (fun w h Y => PySem.W.kIn_of Y) ?F (fun _ _ a ns hl hb _ hS => ⟨a, ns, rfl, hS, hl, hb, fun _ => rfl⟩) (fun _ _ _ _ _ h => h)
  case F =>
    intro w mg fa h KX G hmg
    refine' My.all_mk KX G hmg ?z_abs ?z_bool ?z_enumerate ?z_int ?z_isinstance ?z_len ?z_list ?z_range ?z_tuple ?m_gcd ?a_Web ?mk_Web ?in_Web ?fn_Web ?kp_Web ?pg_Web ?hd_Web ?po_Web ?sa_Web ?ha_Web ?hn_Web ?ht_Web ?mo_Web ?i_int_Web ?i_bool_Web ?i_tuple_Web ?i_list_Web ?yd_Web ?yn_Web ?yt_Web ?na_Web_wares ?na_Web_stalls ?v_MOST_STALLS ?v_MOST_WARES ?a_is_integer ?l_is_integer ?c_is_integer ?k_is_integer ?a_is_row ?l_is_row ?c_is_row ?k_is_row ?a_is_fraction ?l_is_fraction ?c_is_fraction ?k_is_fraction ?a_is_some ?l_is_some ?c_is_some ?k_is_some ?a_multiplied ?l_multiplied ?c_multiplied ?k_multiplied ?a_squared ?l_squared ?c_squared ?k_squared ?a_is_stall ?l_is_stall ?c_is_stall ?k_is_stall ?a_l_deck ?l_l_deck ?c_l_deck ?k_l_deck ?a_l_pick ?l_l_pick ?c_l_pick ?k_l_pick ?a_l_divisor ?l_l_divisor ?c_l_divisor ?k_l_divisor ?a_l_made ?l_l_made ?c_l_made ?k_l_made ?a_l_amount ?l_l_amount ?c_l_amount ?k_l_amount ?a_l_stall ?l_l_stall ?c_l_stall ?k_l_stall ?a_l_stalls ?l_l_stalls ?c_l_stalls ?k_l_stalls ?a_l_others ?l_l_others ?c_l_others ?k_l_others ?a_l_is_flag ?l_l_is_flag ?c_l_is_flag ?k_l_is_flag ?a_l_are_compared ?l_l_are_compared ?c_l_are_compared ?k_l_are_compared ?a_law ?l_law ?c_law ?k_law ?l_Web_init ?c_Web_init ?k_Web_init ?mi_Web_eq ?l_Web_eq ?c_Web_eq ?k_Web_eq ?mf_Web_eq ?mn_Web
    (case z_abs => k_is)
    (case z_bool => k_is)
    (case z_enumerate => k_is)
    (case z_int => k_is)
    (case z_isinstance => k_is)
    (case z_len => k_is)
    (case z_list => k_is)
    (case z_range => k_is)
    (case z_tuple => k_is)
    (case m_gcd => k_is)
    (case a_Web => k_is)
    (case mk_Web => k_is)
    (case in_Web => k_is)
    (case fn_Web => k_is)
    (case kp_Web => k_is)
    (case pg_Web => k_is)
    (case hd_Web => k_is)
    (case po_Web => k_is)
    (case sa_Web => k_is)
    (case ha_Web => k_is)
    (case hn_Web => k_is)
    (case ht_Web => k_is)
    (case mo_Web => k_is)
    (case i_int_Web => first | rfl | k_is | decide +kernel)
    (case i_bool_Web => first | rfl | k_is | decide +kernel)
    (case i_tuple_Web => first | rfl | k_is | decide +kernel)
    (case i_list_Web => first | rfl | k_is | decide +kernel)
    (case yd_Web => k_is)
    (case yn_Web => k_is)
    (case yt_Web => k_is)
    (case na_Web_wares => k_is)
    (case na_Web_stalls => k_is)
    (case v_MOST_STALLS => k_is)
    (case v_MOST_WARES => k_is)
    (case a_is_integer => k_is)
    (case l_is_integer => k_is)
    (case c_is_integer => k_is)
    (case k_is_integer => k_is)
    (case a_is_row => k_is)
    (case l_is_row => k_is)
    (case c_is_row => k_is)
    (case k_is_row => k_is)
    (case a_is_fraction => k_is)
    (case l_is_fraction => k_is)
    (case c_is_fraction => k_is)
    (case k_is_fraction => k_is)
    (case a_is_some => k_is)
    (case l_is_some => k_is)
    (case c_is_some => k_is)
    (case k_is_some => k_is)
    (case a_multiplied => k_is)
    (case l_multiplied => k_is)
    (case c_multiplied => k_is)
    (case k_multiplied => k_is)
    (case a_squared => k_is)
    (case l_squared => k_is)
    (case c_squared => k_is)
    (case k_squared => k_is)
    (case a_is_stall => k_is)
    (case l_is_stall => k_is)
    (case c_is_stall => k_is)
    (case k_is_stall => k_is)
    (case a_l_deck => k_is)
    (case l_l_deck => k_is)
    (case c_l_deck => k_is)
    (case k_l_deck => k_is)
    (case a_l_pick => k_is)
    (case l_l_pick => k_is)
    (case c_l_pick => k_is)
    (case k_l_pick => k_is)
    (case a_l_divisor => k_is)
    (case l_l_divisor => k_is)
    (case c_l_divisor => k_is)
    (case k_l_divisor => k_is)
    (case a_l_made => k_is)
    (case l_l_made => k_is)
    (case c_l_made => k_is)
    (case k_l_made => k_is)
    (case a_l_amount => k_is)
    (case l_l_amount => k_is)
    (case c_l_amount => k_is)
    (case k_l_amount => k_is)
    (case a_l_stall => k_is)
    (case l_l_stall => k_is)
    (case c_l_stall => k_is)
    (case k_l_stall => k_is)
    (case a_l_stalls => k_is)
    (case l_l_stalls => k_is)
    (case c_l_stalls => k_is)
    (case k_l_stalls => k_is)
    (case a_l_others => k_is)
    (case l_l_others => k_is)
    (case c_l_others => k_is)
    (case k_l_others => k_is)
    (case a_l_is_flag => k_is)
    (case l_l_is_flag => k_is)
    (case c_l_is_flag => k_is)
    (case k_l_is_flag => k_is)
    (case a_l_are_compared => k_is)
    (case l_l_are_compared => k_is)
    (case c_l_are_compared => k_is)
    (case k_l_are_compared => k_is)
    (case a_law => k_is)
    (case l_law => k_is)
    (case c_law => k_is)
    (case k_law => k_is)
    (case l_Web_init => k_is)
    (case c_Web_init => k_is)
    (case k_Web_init => k_is)
    (case mi_Web_eq => k_is)
    (case l_Web_eq => k_is)
    (case c_Web_eq => k_is)
    (case k_Web_eq => k_is)
    (case mf_Web_eq => k_is)
    (case mn_Web => k_is)
