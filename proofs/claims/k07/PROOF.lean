import PyProof.Rows.All
import Wide.All
import OpenK.AllK
import Wide.FinOn
import HandS.ForMost
import HandS.WideBits
import HandS.Gcd
import HandS.IsInst
import HandS.Style
import HandS.SetFor
import HandS.EndBits
import HandS.Codes
import HandS.ForExc
import HandS.Small
import HandS.Exc
import HandS.ExcOwn
import HandS.TryOnly
import HandS.WordsExc
import HandS.ExcInit
import HandS.ExcField
import Flt.RightSqrt
import HandS.GenYield
import HandS.OwnEq
import HandS.TupAny
import PyProof.Draws
import KE.DataMinMax
import HandS.Zip
import KE.GoesZip
import HandS.TupMul
import HandS.Strs
import PySem.Challenge.RW_rootstalls_k07_whole_held_roots_neighbou
set_option Elab.async false
set_option linter.all false
set_option maxRecDepth 100000
set_option maxHeartbeats 4000000
namespace My
/-! ### fractions in lowest terms are the rationals -/
theorem rat_of {n : Int} {d : Nat} {r : Rat} (hd : d ≠ 0) (hc : n.natAbs.Coprime d) (h : Rat.divInt n (d : Int) = r) : r.num = n ∧ r.den = d := by
  subst h
  rw [← Rat.mk_eq_divInt (nz := hd) (c := hc)]
  exact ⟨rfl, rfl⟩
theorem rat_cross {n d : Int} {r : Rat} (hd : d ≠ 0) : Rat.divInt n d = r ↔ n * r.den = r.num * d := by
  have h := Rat.num_divInt_den r
  have hz : (r.den : Int) ≠ 0 := by
    have := r.den_pos
    omega
  constructor
  · intro e
    rw [← h] at e
    exact (Rat.divInt_eq_divInt_iff hd hz).mp e
  · intro e
    rw [← h]
    exact (Rat.divInt_eq_divInt_iff hd hz).mpr e
theorem den_pos (r : Rat) : (0 : Int) < r.den := by
  have := r.den_pos
  omega
theorem gcd_den (r : Rat) : Nat.gcd r.num.natAbs r.den = 1 := r.reduced
/-- the sum -/
theorem add_form (r s : Rat) (g ad bd : Nat) (top : Int) (g1 : Nat) (hg : g = r.den.gcd s.den) (had : ad = r.den / g) (hbd : bd = s.den / g) (ht : top = r.num * bd + s.num * ad) (h1 : g1 = top.natAbs.gcd g) :
    (r + s).num = top / g1 ∧ (r + s).den = ad * (s.den / g1) := by
  have hd := r.den_pos
  have hs := s.den_pos
  have gpos : 0 < g := hg ▸ Nat.gcd_pos_of_pos_left _ hd
  have ae : ad * g = r.den := had ▸ Nat.div_mul_cancel (hg ▸ Nat.gcd_dvd_left ..)
  have be : bd * g = s.den := hbd ▸ Nat.div_mul_cancel (hg ▸ Nat.gcd_dvd_right ..)
  have adpos : 0 < ad := by
    rcases Nat.eq_zero_or_pos ad with e | e
    · rw [e] at ae
      omega
    · exact e
  have aux : top.natAbs.gcd g = top.natAbs.gcd (ad * s.den) := by
    rw [ht]
    exact Rat.add.aux r s hg had hbd
  have g1pos : 0 < g1 := h1 ▸ Nat.gcd_pos_of_pos_right _ gpos
  have d1 : g1 ∣ top.natAbs := h1 ▸ Nat.gcd_dvd_left ..
  have d2 : g1 ∣ g := h1 ▸ Nat.gcd_dvd_right ..
  have d3 : g1 ∣ s.den := Nat.dvd_trans d2 ⟨bd, by rw [← be, Nat.mul_comm]⟩
  have e1 : ad * (s.den / g1) = ad * s.den / g1 := (Nat.mul_div_assoc ad d3).symm
  have d4 : g1 ∣ ad * s.den := Nat.dvd_trans d3 (Nat.dvd_mul_left ..)
  rw [e1]
  have tz : (g1 : Int) ∣ top := Int.ofNat_dvd_left.mpr d1
  have tm : top / g1 * g1 = top := Int.ediv_mul_cancel tz
  have dm : ad * s.den / g1 * g1 = ad * s.den := Nat.div_mul_cancel d4
  have nz : ad * s.den / g1 ≠ 0 := by
    intro e
    rw [e] at dm
    have : 0 < ad * s.den := Nat.mul_pos adpos hs
    omega
  refine rat_of nz ?_ ?_
  · have na : (top / (g1 : Int)).natAbs = top.natAbs / g1 := by
      rw [Int.natAbs_ediv_of_dvd tz, Int.natAbs_natCast]
    rw [na, h1, aux]
    exact Nat.coprime_div_gcd_div_gcd (Nat.gcd_pos_of_pos_right _ (Nat.mul_pos adpos hs))
  · have z1 : (g1 : Int) ≠ 0 := by omega
    have z2 : (g : Int) ≠ 0 := by omega
    rw [← Rat.divInt_mul_right z1, tm, ← Int.natCast_mul, dm, ← Rat.divInt_mul_right z2]
    have er := Rat.num_divInt_den r
    have es := Rat.num_divInt_den s
    have rz : (r.den : Int) ≠ 0 := by omega
    have sz : (s.den : Int) ≠ 0 := by omega
    have key := Rat.divInt_add_divInt r.num s.num rz sz
    rw [er, es] at key
    rw [key]
    have k1 : top * g = r.num * s.den + s.num * r.den := by
      rw [ht, ← be, ← ae, Int.natCast_mul, Int.natCast_mul, Int.add_mul, Int.mul_assoc, Int.mul_assoc]
    have k2 : ((ad * s.den : Nat) : Int) * (g : Int) = r.den * s.den := by
      rw [← ae, Int.natCast_mul, Int.natCast_mul, Int.mul_assoc, Int.mul_comm (s.den : Int), ← Int.mul_assoc]
    rw [k1, k2]
/-- the product -/
theorem mul_form (r s : Rat) (g1 g2 : Nat) (h1 : g1 = r.num.natAbs.gcd s.den) (h2 : g2 = s.num.natAbs.gcd r.den) :
    (r * s).num = r.num / g1 * (s.num / g2) ∧ (r * s).den = r.den / g2 * (s.den / g1) := by
  subst h1 h2
  have e : r * s = Rat.mul r s := rfl
  rw [e]
  unfold Rat.mul
  refine ⟨?_, ?_⟩
  · show r.num.divExact _ _ * s.num.divExact _ _ = _
    rw [Int.divExact_eq_tdiv, Int.divExact_eq_tdiv, Int.tdiv_eq_ediv_of_dvd, Int.tdiv_eq_ediv_of_dvd]
    · exact Int.ofNat_dvd_left.mpr (Nat.gcd_dvd_left ..)
    · exact Int.ofNat_dvd_left.mpr (Nat.gcd_dvd_left ..)
  · show r.den.divExact _ _ * s.den.divExact _ _ = _
    rw [Nat.divExact_eq_div, Nat.divExact_eq_div]
/-- lowest terms of any pair -/
theorem low_form (n d : Int) (hd : d ≠ 0) : (Rat.divInt n d).num = (if d < 0 then n / (-(n.natAbs.gcd d.natAbs : Nat) : Int) else n / (n.natAbs.gcd d.natAbs : Nat)) ∧
    ((Rat.divInt n d).den : Int) = (if d < 0 then d / (-(n.natAbs.gcd d.natAbs : Nat) : Int) else d / (n.natAbs.gcd d.natAbs : Nat)) := by
  have pos : ∀ (n d : Int), 0 < d → (Rat.divInt n d).num = n / (n.natAbs.gcd d.natAbs : Nat) ∧ ((Rat.divInt n d).den : Int) = d / (n.natAbs.gcd d.natAbs : Nat) := by
    intro n d h
    have gp : 0 < n.natAbs.gcd d.natAbs := Nat.gcd_pos_of_pos_right _ (by omega)
    have z1 : ((n.natAbs.gcd d.natAbs : Nat) : Int) ≠ 0 := by omega
    have dn : ((n.natAbs.gcd d.natAbs : Nat) : Int) ∣ n := Int.ofNat_dvd_left.mpr (Nat.gcd_dvd_left ..)
    have dd : ((n.natAbs.gcd d.natAbs : Nat) : Int) ∣ d := Int.ofNat_dvd_left.mpr (Nat.gcd_dvd_right ..)
    have e : d / ((n.natAbs.gcd d.natAbs : Nat) : Int) = ((d.natAbs / n.natAbs.gcd d.natAbs : Nat) : Int) := by
      rw [Int.natCast_ediv]
      congr 1
      omega
    have dpos : d.natAbs / n.natAbs.gcd d.natAbs ≠ 0 := Nat.ne_of_gt (Nat.div_pos (Nat.le_of_dvd (by omega) (Nat.gcd_dvd_right ..)) gp)
    have key := rat_of (n := n / ((n.natAbs.gcd d.natAbs : Nat) : Int)) (d := d.natAbs / n.natAbs.gcd d.natAbs) (r := Rat.divInt n d) dpos
      (by
        rw [Int.natAbs_ediv_of_dvd dn, Int.natAbs_natCast]
        exact Nat.coprime_div_gcd_div_gcd gp)
      (by rw [← e, ← Rat.divInt_mul_right z1, Int.ediv_mul_cancel dn, Int.ediv_mul_cancel dd])
    exact ⟨key.1, by rw [key.2, e]⟩
  rcases Int.lt_or_gt_of_ne hd with h | h
  · rw [if_pos h, if_pos h, ← Rat.neg_divInt_neg]
    have k := pos (-n) (-d) (by omega)
    rw [Int.natAbs_neg, Int.natAbs_neg] at k
    rw [k.1, k.2]
    have dn : ((n.natAbs.gcd d.natAbs : Nat) : Int) ∣ n := Int.ofNat_dvd_left.mpr (Nat.gcd_dvd_left ..)
    have dd : ((n.natAbs.gcd d.natAbs : Nat) : Int) ∣ d := Int.ofNat_dvd_left.mpr (Nat.gcd_dvd_right ..)
    rw [Int.neg_ediv_of_dvd dn, Int.neg_ediv_of_dvd dd, Int.ediv_neg, Int.ediv_neg]
    exact ⟨rfl, rfl⟩
  · have k := pos n d h
    rw [if_neg (by omega), if_neg (by omega)]
    exact k
theorem low_self (r : Rat) : Rat.divInt r.num r.den = r := Rat.num_divInt_den r
/-! ### sizes -/
def Bd (k : Nat) (r : Rat) : Prop := r.num.natAbs < 2 ^ k ∧ r.den < 2 ^ k
theorem Bd.mono {k l : Nat} {r : Rat} (h : Bd k r) (hl : k ≤ l) : Bd l r := ⟨Nat.lt_of_lt_of_le h.1 (Nat.pow_le_pow_right (by decide) hl), Nat.lt_of_lt_of_le h.2 (Nat.pow_le_pow_right (by decide) hl)⟩
theorem nat_mul_lt {a b k l : Nat} (ha : a < 2 ^ k) (hb : b < 2 ^ l) : a * b < 2 ^ (k + l) := by
  rw [Nat.pow_add]
  exact Nat.mul_lt_mul'' ha hb
theorem Bd.divInt {k : Nat} {n d : Int} (hd : d ≠ 0) (h1 : n.natAbs < 2 ^ k) (h2 : d.natAbs < 2 ^ k) : Bd k (Rat.divInt n d) := by
  obtain ⟨a, b⟩ := low_form n d hd
  have dn : ((n.natAbs.gcd d.natAbs : Nat) : Int) ∣ n := Int.ofNat_dvd_left.mpr (Nat.gcd_dvd_left ..)
  have dd : ((n.natAbs.gcd d.natAbs : Nat) : Int) ∣ d := Int.ofNat_dvd_left.mpr (Nat.gcd_dvd_right ..)
  have dp := (Rat.divInt n d).den_pos
  refine ⟨Nat.lt_of_le_of_lt ?_ h1, Nat.lt_of_le_of_lt ?_ h2⟩
  · rw [a]
    split
    · rw [Int.ediv_neg, Int.natAbs_neg, Int.natAbs_ediv_of_dvd dn]
      exact Nat.div_le_self _ _
    · rw [Int.natAbs_ediv_of_dvd dn]
      exact Nat.div_le_self _ _
  · have e : (Rat.divInt n d).den = ((Rat.divInt n d).den : Int).natAbs := (Int.natAbs_natCast _).symm
    rw [e, b]
    split
    · rw [Int.ediv_neg, Int.natAbs_neg, Int.natAbs_ediv_of_dvd dd]
      exact Nat.div_le_self _ _
    · rw [Int.natAbs_ediv_of_dvd dd]
      exact Nat.div_le_self _ _
theorem Bd.add {k l : Nat} {r s : Rat} (hr : Bd k r) (hs : Bd l s) : Bd (k + l + 1) (r + s) := by
  have rz : (r.den : Int) ≠ 0 := Int.ne_of_gt (den_pos r)
  have sz : (s.den : Int) ≠ 0 := Int.ne_of_gt (den_pos s)
  have key := Rat.divInt_add_divInt r.num s.num rz sz
  rw [low_self, low_self] at key
  rw [key]
  have a := nat_mul_lt hr.1 hs.2
  have b := nat_mul_lt hs.1 hr.2
  have c := nat_mul_lt hr.2 hs.2
  rw [Nat.add_comm l k] at b
  refine Bd.divInt (Int.mul_ne_zero rz sz) ?_ ?_
  · have h1 : (r.num * (s.den : Int) + s.num * (r.den : Int)).natAbs ≤ (r.num * (s.den : Int)).natAbs + (s.num * (r.den : Int)).natAbs := Int.natAbs_add_le _ _
    rw [Int.natAbs_mul, Int.natAbs_mul, Int.natAbs_natCast, Int.natAbs_natCast] at h1
    rw [Nat.pow_succ]
    omega
  · rw [Int.natAbs_mul, Int.natAbs_natCast, Int.natAbs_natCast, Nat.pow_succ]
    omega
theorem Bd.mul {k l : Nat} {r s : Rat} (hr : Bd k r) (hs : Bd l s) : Bd (k + l) (r * s) := by
  have rz : (r.den : Int) ≠ 0 := Int.ne_of_gt (den_pos r)
  have sz : (s.den : Int) ≠ 0 := Int.ne_of_gt (den_pos s)
  have key := Rat.divInt_mul_divInt r.num s.num (d₁ := r.den) (d₂ := s.den)
  rw [low_self, low_self] at key
  rw [key]
  refine Bd.divInt (Int.mul_ne_zero rz sz) ?_ ?_
  · rw [Int.natAbs_mul]
    exact nat_mul_lt hr.1 hs.1
  · rw [Int.natAbs_mul, Int.natAbs_natCast, Int.natAbs_natCast]
    exact nat_mul_lt hr.2 hs.2
theorem Bd.neg {k : Nat} {r : Rat} (hr : Bd k r) : Bd k (-r) := by
  refine ⟨?_, ?_⟩
  · rw [Rat.neg_num, Int.natAbs_neg]
    exact hr.1
  · rw [Rat.neg_den]
    exact hr.2
theorem Bd.sub {k l : Nat} {r s : Rat} (hr : Bd k r) (hs : Bd l s) : Bd (k + l + 1) (r - s) := by
  rw [Rat.sub_eq_add_neg]
  exact hr.add hs.neg
theorem inv_num {s : Rat} (h : s ≠ 0) : (if s.num < 0 then -(s.den : Int) else s.den) = (s⁻¹).num ∧ (if s.num < 0 then -s.num else s.num) = (s⁻¹).den := by
  have hn : s.num ≠ 0 := fun e => h (Rat.num_eq_zero.mp e)
  rw [Rat.num_inv, Rat.den_inv, if_neg hn]
  split
  · rename_i g
    rw [Int.sign_eq_neg_one_of_neg g]
    omega
  · rename_i g
    rw [Int.sign_eq_one_of_pos (by omega)]
    omega
theorem Bd.inv {k : Nat} {s : Rat} (h : s ≠ 0) (hs : Bd k s) : Bd k s⁻¹ := by
  obtain ⟨a, b⟩ := inv_num h
  have dp := den_pos s
  refine ⟨?_, ?_⟩
  · rw [← a]
    have := hs.2
    split <;> omega
  · have := hs.1
    have e : (s⁻¹).den = ((s⁻¹).den : Int).natAbs := (Int.natAbs_natCast _).symm
    rw [e, ← b]
    split <;> omega
theorem Bd.div {k l : Nat} {r s : Rat} (h : s ≠ 0) (hr : Bd k r) (hs : Bd l s) : Bd (k + l) (r / s) := by
  rw [Rat.div_def]
  exact hr.mul (hs.inv h)
end My
namespace My
open PySem PySem.Spec PyProof.Rows L2
theorem and_sw {A B : Prop} (b : B) (a : A) : A ∧ B := ⟨a, b⟩
theorem if_dec {p : Prop} [Decidable p] {A B : Prop} (h1 : p → A) (h2 : ¬ p → B) : if decide p = true then A else B := by
  by_cases h : p
  · rw [if_pos (decide_eq_true h)]
    exact h1 h
  · rw [if_neg (fun q => h (of_decide_eq_true q))]
    exact h2 h
theorem if_ndec {p : Prop} [Decidable p] {A B : Prop} (h1 : ¬ p → A) (h2 : p → B) : if (!decide p) = true then A else B := by
  by_cases h : p
  · rw [decide_eq_true h]
    exact iteF (h2 h)
  · rw [decide_eq_false h]
    exact iteT (h1 h)
/-- // by a divisor that is not 0, below 2 ^ 9000 -/
def CDivX (_ j : Int) : Prop := j ≠ 0 ∧ j.natAbs.log2 < 9000
section
variable {X : Cx}
theorem op_fdivX : OpR X (binaryOp .FloorDiv) (rI CDivX fun i j => .int (i.fdiv j)) := opI fun _ _ _ _ _ _ _ hc q => floordiv_int hc.1 q (.inl (PyProof.noPylong_of_log2 hc.2))
end
theorem cdivx {i j : Int} {b : Nat} (h : j ≠ 0) (hb : j.natAbs < 2 ^ b) (h9 : b ≤ 9000) : CDivX i j := by
  refine ⟨h, ?_⟩
  by_cases h0 : b = 0
  · subst h0
    omega
  · exact Nat.lt_of_lt_of_le (PySem.Flt.log2_lt_of (by omega) hb) h9
/-! ### heaps: all that was there, but what stands at D, stands -/
def Fw (D : Addr) (H H' : Hp) : Prop := ∀ b o, b ≠ D → H b = some o → H' b = some o
theorem Fw.refl (D : Addr) (H : Hp) : Fw D H H := fun _ _ _ h => h
theorem Fw.trans {D : Addr} {H H1 H2 : Hp} (a : Fw D H H1) (b : Fw D H1 H2) : Fw D H H2 := fun c o n h => b c o n (a c o n h)
theorem Same.fw {D : Addr} {H H' : Hp} (s : Same H H') : Fw D H H' := fun b o _ h => s b o h
theorem same_upd {H : Hp} {p : Addr} {o : HO} (h : H p = none) : Same H (upd H p o) := fun b x e => by
  rw [upd_ne (ne_of_none e h)]
  exact e
theorem fw_upd {D : Addr} {H : Hp} {o : HO} : Fw D H (upd H D o) := fun b x n e => by
  rw [upd_ne n]
  exact e
/-! ### the deck -/
def Deck (M : Nat) (D C : Addr) (H : Hp) (c : Nat) : Prop := ∃ (cells : List Int) (pl rest cnt : Int), C ≠ D ∧ H D = some (.lst [.ref C, .int pl, .int rest, .int cnt]) ∧ H C = some (.lst (cells.map V.int)) ∧
  cells.length ≤ 63 ∧ (∀ z ∈ cells, z.natAbs < 2 ^ M) ∧ (0 ≤ rest ∧ rest.natAbs < 2 ^ M) ∧ 0 ≤ cnt ∧ cnt ≤ c
theorem Deck.same {M : Nat} {D C : Addr} {H H' : Hp} {c : Nat} (d : Deck M D C H c) (s : Same H H') : Deck M D C H' c := by
  obtain ⟨cells, pl, rest, cnt, h0, h1, h2, h3⟩ := d
  exact ⟨cells, pl, rest, cnt, h0, s _ _ h1, s _ _ h2, h3⟩
theorem Deck.mono {M : Nat} {D C : Addr} {H : Hp} {c c' : Nat} (d : Deck M D C H c) (h : c ≤ c') : Deck M D C H c' := by
  obtain ⟨cells, pl, rest, cnt, h0, h1, h2, h3, h4, h5, h6, h7⟩ := d
  exact ⟨cells, pl, rest, cnt, h0, h1, h2, h3, h4, h5, h6, by omega⟩
theorem Deck.ne {M : Nat} {D C p : Addr} {H : Hp} {c : Nat} (d : Deck M D C H c) (h : H p = none) : p ≠ D := by
  obtain ⟨cells, pl, rest, cnt, h0, h1, h2⟩ := d
  exact (ne_of_none h1 h).symm
theorem Deck.neC {M : Nat} {D C p : Addr} {H : Hp} {c : Nat} (d : Deck M D C H c) (h : H p = none) : p ≠ C := by
  obtain ⟨cells, pl, rest, cnt, h0, h1, h2, _⟩ := d
  exact (ne_of_none h2 h).symm
theorem Deck.put {M : Nat} {D C p : Addr} {H : Hp} {c : Nat} {o : HO} (d : Deck M D C H c) (n1 : p ≠ D) (n2 : p ≠ C) : Deck M D C (upd H p o) c := by
  obtain ⟨cells, pl, rest, cnt, h0, h1, h2, h3⟩ := d
  exact ⟨cells, pl, rest, cnt, h0, (upd_ne (Ne.symm n1)).trans h1, (upd_ne (Ne.symm n2)).trans h2, h3⟩
theorem pow_le {a b : Nat} (h : a ≤ b) : (2 : Nat) ^ a ≤ 2 ^ b := Nat.pow_le_pow_right (by decide) h
theorem div_small {i j : Int} {M : Nat} (h0 : 0 ≤ i) (h : i.natAbs < 2 ^ M) (hj : 0 < j) : 0 ≤ i.fdiv j ∧ (i.fdiv j).natAbs < 2 ^ M := by
  rw [Int.fdiv_eq_ediv_of_nonneg i (by omega)]
  have a := Int.ediv_nonneg h0 (Int.le_of_lt hj)
  have b : i / j ≤ i := Int.ediv_le_self j h0
  exact ⟨a, by omega⟩
end My
namespace My
open PySem PySem.Spec PyProof.Rows L2
theorem at_ints {cells : List Int} {i : Int} (h0 : 0 ≤ i) (h1 : i < ((cells.map V.int).length : Nat)) : ∃ z, z ∈ cells ∧ atI (cells.map V.int) i = some (.int z) := by
  obtain ⟨j, rfl⟩ := Int.eq_ofNat_of_zero_le h0
  rw [List.length_map] at h1
  have hj : j < cells.length := by omega
  refine ⟨cells[j], List.getElem_mem hj, atI_nat ?_⟩
  rw [List.getElem?_map, List.getElem?_eq_getElem hj]
  rfl
theorem bits_lt {z : Int} {M : Nat} (h : Builtin.Int.intBits z ≤ M) : z.natAbs < 2 ^ M := by
  unfold Builtin.Int.intBits at h
  split at h
  · rename_i e
    have e' : z = 0 := by simpa using e
    subst e'
    exact Nat.two_pow_pos M
  · have := Nat.lt_log2_self (n := z.natAbs)
    exact Nat.lt_of_lt_of_le this (pow_le h)
theorem pw_big {z cnt : Int} {c M : Nat} (hz : z.natAbs < 2 ^ M) (hM : 64 ≤ M) (h0 : 0 ≤ cnt) (h1 : cnt ≤ c) (hc : c ≤ 2 ^ 40) : (z + 7919 * (cnt + 1) + 1).natAbs < 2 ^ (M + 1) := by
  have e : (2 : Nat) ^ 64 ≤ 2 ^ M := pow_le hM
  rw [Nat.pow_succ]
  generalize (2 : Nat) ^ M = p at *
  omega
theorem fdiv_dvd {a b : Int} (h : b ∣ a) : a.fdiv b = a / b := by
  obtain ⟨c, rfl⟩ := h
  by_cases hb : b = 0
  · subst hb
    rw [Int.zero_mul]
    simp
  · rw [Int.mul_fdiv_cancel_left _ hb, Int.mul_ediv_cancel_left _ hb]
theorem mod_rng (x : Int) {m : Int} (h : 0 < m) : 0 ≤ x % m ∧ x % m < m := ⟨Int.emod_nonneg _ (by omega), Int.emod_lt_of_pos _ h⟩
end My
namespace My
open PySem PySem.Spec PyProof.Rows L2
theorem cpow_of {i j : Int} (h : 0 ≤ j ∧ j ≤ 1000000 ∧ i.natAbs < 2 ^ 64) : CPow i j := h
theorem ten18 : (0 : Int) ≤ 10 ^ (18 : Int).toNat := by decide
theorem cmul_small {i j : Int} (h : i.natAbs < 2 ^ 64) (h2 : j.natAbs < 2 ^ 64) : CMulX i j := mulx_ok h h2 (by decide)
theorem cmul_big {i j : Int} {M : Nat} (h : i.natAbs < 2 ^ M) (h2 : j.natAbs < 2 ^ 64) (hM : M ≤ 100000000) : CMulX i j := mulx_ok h h2 (by omega)
theorem pick_mul2 (x : Int) {m k : Int} (h0 : 0 < m) (hm : m.natAbs < 2 ^ 32) (hk : k.natAbs < 2 ^ 32) {d : Int} (hd : 0 < d) : CMulX (x % m) ((x % m).fdiv d + k) := by
  obtain ⟨a, b⟩ := mod_rng x h0
  rw [Int.fdiv_eq_ediv_of_nonneg _ (by omega)]
  have c := Int.ediv_nonneg a (Int.le_of_lt hd)
  have e : (x % m) / d ≤ x % m := Int.ediv_le_self d a
  exact cmul_small (by omega) (by omega)
end My
namespace My
open PySem PySem.Spec PyProof.Rows L2
variable {K : PySem.W.Frag}
/-! ### isinstance -/
section
variable {K : PySem.W.Frag} {H : Hp} {Q : VK}
theorem isi_int_int {i : Int} (q : Q (.bl true) H) : rIsi K [.int i, .ty "int"] H Q := ⟨_, _, _, _, _, rfl, .ty _, .base (.int _), kit_ty (by decide +kernel), q⟩
theorem isi_int_bool {i : Int} (q : Q (.bl false) H) : rIsi K [.int i, .ty "bool"] H Q := ⟨_, _, _, _, _, rfl, .ty _, .base (.int _), kit_ty (by decide +kernel), q⟩
theorem isi_bl_bool {b : Bool} (q : Q (.bl true) H) : rIsi K [.bl b, .ty "bool"] H Q := ⟨_, _, _, _, _, rfl, .ty _, .base (.bl _), kit_ty (by decide +kernel), q⟩
theorem isi_tup_tup {p : Addr} {xs : List V} (h : H p = some (.tup xs)) (q : Q (.bl true) H) : rIsi K [.ref p, .ty "tuple"] H Q := ⟨_, _, _, _, _, rfl, .ty _, .base (.tup h), kit_ty (by decide +kernel), q⟩
end
/-! ### a fraction that stands in the heap -/
abbrev frV (r : Rat) : List V := [.int r.num, .int r.den]
/-- a tuple: in the heap, or one of the module's own -/
def Tp (K : PySem.W.Frag) (H : Hp) (p : Addr) (xs : List V) : Prop := H p = some (.tup xs) ∨ SqT K (fun _ => none) p xs
theorem Tp.same {H H' : Hp} {p : Addr} {xs : List V} (s : Same H H') (h : Tp K H p xs) : Tp K H' p xs := h.imp (fun h => s _ _ h) id
theorem Tp.sq {H : Hp} {p : Addr} {xs : List V} (h : Tp K H p xs) : SqT K H p xs := by
  rcases h with h | (h | ⟨_, h⟩) | h
  · exact .of h
  · cases h
  · cases h
  · exact .inr h
def IsF (K : PySem.W.Frag) (H : Hp) (v : V) (r : Rat) : Prop := ∃ p, v = .ref p ∧ Tp K H p (frV r)
theorem IsF.same {H H' : Hp} {v : V} {r : Rat} (s : Same H H') (h : IsF K H v r) : IsF K H' v r := by
  obtain ⟨p, e, h⟩ := h
  exact ⟨p, e, h.same s⟩
theorem Tp.new {H : Hp} {p : Addr} {xs : List V} : Tp K (upd H p (.tup xs)) p xs := .inl upd_same
theorem at_same {H H' : Hp} {p : Addr} {o : HO} (s : Same H H') (h : H p = some o) : H' p = some o := s _ _ h
theorem Tp.fw {M : Nat} {D C : Addr} {c : Nat} {H H' : Hp} {p : Addr} {xs : List V} (d : Deck M D C H c) (s : Fw D H H') (h : Tp K H p xs) : Tp K H' p xs := by
  obtain ⟨cells, pl, rest, cnt, h0, h1, h2⟩ := d
  exact h.imp (fun h => s _ _ (ne_of h h1 (by intro z; cases z)) h) id
theorem IsF.fw {M : Nat} {D C : Addr} {c : Nat} {H H' : Hp} {v : V} {r : Rat} (d : Deck M D C H c) (s : Fw D H H') (h : IsF K H v r) : IsF K H' v r := by
  obtain ⟨p, e, h⟩ := h
  exact ⟨p, e, h.fw d s⟩
/-- all tuples stand -/
def Tps (H H' : Hp) : Prop := ∀ b xs, H b = some (.tup xs) → H' b = some (.tup xs)
theorem Tp.ts {H H' : Hp} {p : Addr} {xs : List V} (f : Tps H H') (h : Tp K H p xs) : Tp K H' p xs := h.imp (fun h => f _ _ h) id
theorem isi_tp {K' : PySem.W.Frag} {H : Hp} {Q : VK} {p : Addr} {xs : List V} (h : Tp K' H p xs) (hk : K' = K) (q : Q (.bl true) H) : rIsi K [.ref p, .ty "tuple"] H Q := by
  subst hk
  rcases h with h | (h | ⟨_, h⟩) | ⟨o, its, n, h1, h2, _⟩
  · exact ⟨_, _, _, _, _, rfl, .ty _, .base (.tup h), kit_ty (by decide +kernel), q⟩
  · cases h
  · cases h
  · exact ⟨_, _, _, _, _, rfl, .ty _, .kTuple h1 h2, kit_ty (by decide +kernel), q⟩
theorem isF_new {H : Hp} {p : Addr} {a b : Int} {r : Rat} (h1 : r.num = a) (h2 : (r.den : Int) = b) : IsF K (upd H p (.tup [.int a, .int b])) (.ref p) r := by
  subst h1 h2
  exact ⟨p, rfl, .new⟩
def frD (r : Rat) : PyData := .tuple [.int r.num, .int r.den]
theorem IsF.dp {K : PySem.W.Frag} {H : Hp} {v : V} {r : Rat} (h : IsF K H v r) : Dp K H v (frD r) := by
  obtain ⟨p, rfl, h⟩ := h
  exact .tup h.sq (.cons (.int _) (.cons (.int _) .nil))
theorem frD_shaped (r : Rat) : SeqAt.shaped (frD r) = true := by rfl
theorem frD_eqv (r s : Rat) : PyData.eqv (frD r) (frD s) = decide (r = s) := by
  have e : PyData.eqv (frD r) (frD s) = (decide (r.num = s.num) && decide ((r.den : Int) = s.den)) := by
    simp only [frD, PyData.eqv, PyData.eqvAll, Bool.and_true, Bool.beq_eq_decide_eq]
  rw [e, Bool.eq_iff_iff]
  simp only [Bool.and_eq_true, decide_eq_true_eq]
  constructor
  · rintro ⟨a, b⟩
    exact Rat.ext a (by omega)
  · rintro rfl
    exact ⟨rfl, rfl⟩
theorem eqF {K : PySem.W.Frag} {H : Hp} {v w : V} {r s : Rat} {Q : VK} (h1 : IsF K H v r) (h2 : IsF K H w s) (q : Q (.bl (decide (r = s))) H) : rEqD K v w H Q := ⟨_, _, h1.dp, h2.dp, frD_shaped r, frD_shaped s, by rw [frD_eqv]; exact q⟩
theorem neF {K : PySem.W.Frag} {H : Hp} {v w : V} {r s : Rat} {Q : VK} (h1 : IsF K H v r) (h2 : IsF K H w s) (q : Q (.bl (!decide (r = s))) H) : rNeD K v w H Q := ⟨_, _, h1.dp, h2.dp, frD_shaped r, frD_shaped s, by rw [frD_eqv]; exact q⟩
end My
namespace My
open PySem PySem.Spec PyProof.Rows L2
/-! ### calls of built-ins by named readings -/
def rInt : List V → Hp → VK → Prop := fun xs H Q => (∃ i, xs = [.int i] ∧ Q (.int i) H) ∨ ∃ k, xs = [.bl k] ∧ Q (.int (if k then 1 else 0)) H
def rLen (K : PySem.W.Frag) : List V → Hp → VK → Prop := fun xs H Q => ∃ p ys, xs = [.ref p] ∧ (SqL K H p ys ∨ SqT K H p ys) ∧ Q (.int ys.length) H
def rAbs : List V → Hp → VK → Prop := fun xs H Q => ∃ i, xs = [.int i] ∧ Q (.int (if i < 0 then -i else i)) H
def rMin : List V → Hp → VK → Prop := fun xs H Q => ∃ i j, xs = [.int i, .int j] ∧ Q (.int (if j < i then j else i)) H
theorem call_intN {X : Cx} : CallR X (.type "int") rInt := call_int1
theorem call_lenN {X : Cx} : CallR X (.builtin "len") (rLen X.K) := call_len_seq
theorem call_absN {X : Cx} : CallR X (.builtin "abs") rAbs := call_abs
theorem call_minN {X : Cx} (hc : X.calm = true) : CallR X (.builtin "min") rMin := call_min2 hc
/-! ### a reading, one step a rule: each says what its left side asks first -/
section
variable {σ : L2.St} {H : Hp} {Q : VK} {K : PySem.W.Frag} {D : Ends} {ta tb te : TE} {t : TA} {i : Nat} {v x y : V}
theorem rd_var (e : σ[i]? = some (some v)) (q : Q v H) : tVar i σ H Q := ⟨v, e, q⟩
theorem rd_C (q : Q v H) : tC v σ H Q := q
theorem rd_op {r : R2} (h : ta σ H fun x H1 => tb σ H1 fun y H2 => r x y H2 Q) : tOp r ta tb σ H Q := h
theorem rd_un {r : V → Hp → VK → Prop} (h : ta σ H fun x H1 => r x H1 Q) : tUn r ta σ H Q := h
theorem rd_CB {r : List V → Hp → VK → Prop} (h : t σ H fun vs H1 => r vs H1 Q) : tCB r t σ H Q := h
theorem rd_nil {Q : List V → Hp → Prop} (q : Q [] H) : tNil σ H Q := q
theorem rd_cons {Q : List V → Hp → Prop} (h : ta σ H fun x H1 => t σ H1 fun xs H2 => Q (x :: xs) H2) : tCons ta t σ H Q := h
theorem rd_call {sp : Sp} {dvs : List V} {E : XK} (h : t σ H fun vs H1 => sp (vs ++ dvs) H1 Q E) : tCall sp dvs E t σ H Q := h
theorem rd_rI {C : Int → Int → Prop} {g : Int → Int → V} {i j : Int} (q : Q (g i j) H) (c : C i j) : rI C g (.int i) (.int j) H Q := ⟨i, j, rfl, rfl, c, q⟩
theorem rd_rI0 {g : Int → Int → V} {i j : Int} (q : Q (g i j) H) : rI0 g (.int i) (.int j) H Q := ⟨i, j, rfl, rfl, q⟩
theorem rd_rU {g : Int → V} {i : Int} (q : Q (g i) H) : rU g (.int i) H Q := ⟨i, rfl, q⟩
theorem rd_eq (s : scal x y = true) (q : Q (.bl (decide (x = y))) H) : rEq x y H Q := ⟨s, q⟩
theorem rd_ne (s : scal x y = true) (q : Q (.bl (!decide (x = y))) H) : rNe x y H Q := ⟨s, q⟩
theorem int_eq {i j : Int} : (V.int i = V.int j) = (i = j) := by simp
theorem rd_eqI {i j : Int} (q : Q (.bl (decide (i = j))) H) : rEq (.int i) (.int j) H Q := ⟨rfl, by simpa using q⟩
theorem rd_neI {i j : Int} (q : Q (.bl (!decide (i = j))) H) : rNe (.int i) (.int j) H Q := ⟨rfl, by simpa using q⟩
theorem rd_ixL {p : Addr} {xs : List V} {i : Int} {v : V} (h : H p = some (.lst xs)) (e : atI xs i = some v) (q : Q v H) : rIxL K (.ref p) (.int i) H Q := ⟨p, xs, i, v, rfl, rfl, .of h, e, q⟩
theorem rd_ixT {p : Addr} {xs : List V} {i : Int} {v : V} (h : H p = some (.tup xs)) (e : atI xs i = some v) (q : Q v H) : rIxT K (.ref p) (.int i) H Q := ⟨p, xs, i, v, rfl, rfl, .of h, e, q⟩
theorem rd_ixTp {K' : PySem.W.Frag} {p : Addr} {xs : List V} {i : Int} {v : V} (h : Tp K' H p xs) (hk : K' = K) (e : atI xs i = some v) (q : Q v H) : rIxT K (.ref p) (.int i) H Q := ⟨p, xs, i, v, rfl, rfl, hk ▸ h.sq, e, q⟩
theorem rd_setL {p : Addr} {xs : List V} {k : Int} {j : Nat} {Q : Hp → Prop} (h : H p = some (.lst xs)) (e : ixN xs.length k = some j) (q : Q (upd H p (.lst (xs.set j v)))) : rSetL (.ref p) (.int k) v H Q := ⟨p, xs, k, j, rfl, rfl, h, e, q⟩
theorem rd_gcd {a b : Int} (q : Q (.int ((Nat.gcd a.natAbs b.natAbs : Nat) : Int)) H) : rGcd [.int a, .int b] H Q := ⟨a, b, rfl, q⟩
theorem rd_bits (h : te σ H fun x H1 => ∃ i, x = .int i ∧ Q (.int (Builtin.Int.intBits i : Nat)) H1) : tBits te σ H Q := h
theorem rd_tup (h : t σ H fun xs H1 => xs.length ≤ sizeLine ∧ ∀ p, H1 p = none → Q (.ref p) (upd H1 p (.tup xs))) : tTup t σ H Q := h
theorem rd_lst (h : t σ H fun xs H1 => xs.length ≤ sizeLine ∧ ∀ p, H1 p = none → Q (.ref p) (upd H1 p (.lst xs))) : tLst t σ H Q := h
theorem rd_sl {r : V → Option Int → Option Int → Hp → VK → Prop} {tl th : TO} (h : te σ H fun x H1 => tl σ H1 fun l H2 => th σ H2 fun u H3 => r x l u H3 Q) : tSl r te tl th σ H Q := h
theorem rd_part {Q : Option Int → Hp → Prop} (h : te σ H fun x H1 => ∃ i, x = .int i ∧ Q (some i) H1) : tPart te σ H Q := h
theorem rd_nopart {Q : Option Int → Hp → Prop} (h : Q none H) : tNoPart σ H Q := h
theorem rd_slL {a : Addr} {xs : List V} {lo hi : Option Int} (h : SqL K H a xs) (q : ∀ p, H p = none → Q (.ref p) (upd H p (.lst (cutV xs lo hi)))) : rSlL K (.ref a) lo hi H Q := ⟨a, xs, rfl, h, q⟩
theorem rd_bm {T : String} {r : V → List V → Hp → VK → Prop} (h : te σ H fun x H1 => tyV K T x H1 ∧ t σ H1 fun xs H2 => r x xs H2 Q) : tBM K T r te t σ H Q := h
theorem rd_chain {r r' : R2} (h : ta σ H fun x H1 => tb σ H1 fun y H2 => r x y H2 fun z H3 => ∃ k, z = .bl k ∧ (if k = true then te σ H3 fun w' H4 => r' y w' H4 Q else Q (.bl false) H3)) : tChain r r' ta tb te σ H Q := h
theorem rd_andV (h : ta σ H fun x H1 => ∃ c, x = .bl c ∧ if c = true then tb σ H1 Q else Q (.bl false) H1) : tAndV ta tb σ H Q := h
theorem rd_orV (h : ta σ H fun x H1 => ∃ c, x = .bl c ∧ if c = true then Q (.bl true) H1 else tb σ H1 Q) : tOrV ta tb σ H Q := h
theorem rd_notV (h : ta σ H fun x H1 => ∃ c, x = .bl c ∧ Q (.bl (!c)) H1) : tNotV ta σ H Q := h
theorem rd_ifE {c : TT} (h : c σ H fun c H1 => if c = true then ta σ H1 Q else tb σ H1 Q) : tIf c ta tb σ H Q := h
section
variable {Q : Bool → Hp → Prop} {u u' : TT}
theorem rd_test (h : te σ H fun x H' => ∃ k, x = .bl k ∧ Q k H') : tTest te σ H Q := h
theorem rd_B (h : te σ H fun x H1 => ∃ c, x = .bl c ∧ Q c H1) : tB te σ H Q := h
theorem rd_not (h : u σ H fun c H1 => Q (!c) H1) : tNot u σ H Q := h
theorem rd_and (h : u σ H fun c H1 => if c = true then u' σ H1 Q else Q false H1) : tAnd u u' σ H Q := h
theorem rd_or (h : u σ H fun c H1 => if c = true then Q true H1 else u' σ H1 Q) : tOr u u' σ H Q := h
theorem rd_yes (q : Q true H) : tYes σ H Q := q
end
section
variable {s s' : TS} {g : TG} {gs : TGs}
theorem rd_seq (h : s { D with nx := s' D } σ H) : tSeq s s' D σ H := h
theorem rd_next (h : D.nx σ H) : tNext D σ H := h
theorem rd_drop (h : te σ H fun _ H1 => D.nx σ H1) : tDrop te D σ H := h
theorem rd_ret (h : te σ H D.rt) : tRet te D σ H := h
theorem rd_ifS {c : TT} (h : c σ H fun b H1 => if b = true then s D σ H1 else s' D σ H1) : tIfS c s s' D σ H := h
theorem rd_asg (h : te σ H fun x H1 => g x σ H1 D.nx) : tAsg te g D σ H := h
theorem rd_gName {Q : L2.St → Hp → Prop} (h : Q (σ.set i (some v)) H) : gName i v σ H Q := h
theorem rd_gSub {Q : L2.St → Hp → Prop} {ts : TSet} (h : ta σ H fun o H1 => tb σ H1 fun i H2 => ts o i v H2 fun H3 => Q σ H3) : gSub ta tb ts v σ H Q := h
theorem rd_gTup {Q : L2.St → Hp → Prop} {p : Addr} {xs : List V} {n : Nat} (h : H p = some (.tup xs)) (e : xs.length = n) (q : gs xs σ H Q) : gTup K n gs (.ref p) σ H Q := ⟨p, xs, rfl, .of h, e, q⟩
theorem rd_gTp {K' : PySem.W.Frag} {Q : L2.St → Hp → Prop} {p : Addr} {xs : List V} {n : Nat} (h : Tp K' H p xs) (hk : K' = K) (e : xs.length = n) (q : gs xs σ H Q) : gTup K n gs (.ref p) σ H Q := ⟨p, xs, rfl, hk ▸ h.sq, e, q⟩
theorem rd_gNil {Q : L2.St → Hp → Prop} (q : Q σ H) : gNil [] σ H Q := ⟨rfl, q⟩
theorem rd_gCons {Q : L2.St → Hp → Prop} {r : List V} (h : g v σ H fun σ' H' => gs r σ' H' Q) : gCons g gs (v :: r) σ H Q := ⟨v, r, rfl, h⟩
theorem rd_for {wi : TI} (h : wi σ H fun J H1 => ∃ W : Nat → Nat → L2.St → Hp → Prop, (∃ m, W 0 m σ H1) ∧ ∀ i m σ H, W i m σ H →
  (J.stop i H ∧ D.nx σ H) ∨ (J.go i H ∧ ∃ N : L2.St → Hp → Prop, (∀ σ' H', N σ' H' → ∃ m', m' < m ∧ W (i + 1) m' σ' H') ∧ ∀ x H', J.yld i H x H' → g x σ H' fun σ2 H2 => s { D with nx := N, ct := N, bk := D.nx } σ2 H2)) : tFor wi g s D σ H := h
theorem rd_rng1 {R : It → Hp → Prop} (h : t σ H fun vs H1 => ∃ j : Int, vs = [.int j] ∧ -(2 ^ 62) ≤ j ∧ j < 2 ^ 62 ∧ R (Itr 0 j.toNat) H1) : iRng1 t σ H R := h
theorem rd_itL {R : It → Hp → Prop} (h : te σ H fun x H1 => ∃ a, x = .ref a ∧ (∃ xs, SqL K H1 a xs) ∧ R (Itl K a) H1) : iList K te σ H R := h
theorem rd_itT {R : It → Hp → Prop} (h : te σ H fun x H1 => ∃ a, x = .ref a ∧ (∃ xs, SqT K H1 a xs) ∧ R (Itt K a) H1) : iTup K te σ H R := h
end
theorem if_T {p : Prop} [Decidable p] {A B : Prop} (hp : p) (h : A) : if decide p = true then A else B := by
  rw [if_pos (decide_eq_true hp)]
  exact h
theorem if_F {p : Prop} [Decidable p] {A B : Prop} (hp : ¬ p) (h : B) : if decide p = true then A else B := by
  rw [if_neg (fun q => hp (of_decide_eq_true q))]
  exact h
theorem if_nF {p : Prop} [Decidable p] {A B : Prop} (hp : p) (h : B) : if (!decide p) = true then A else B := by
  rw [decide_eq_true hp]
  exact iteF h
theorem if_nT {p : Prop} [Decidable p] {A B : Prop} (hp : ¬ p) (h : A) : if (!decide p) = true then A else B := by
  rw [decide_eq_false hp]
  exact iteT h
theorem ite_nt {A B : Prop} (h : B) : if (!true) = true then A else B := iteF h
theorem ite_nf {A B : Prop} (h : A) : if (!false) = true then A else B := iteT h
theorem rd_len {xs : List V} {R : Prop} (q : R) (h : xs.length.ble sizeLine = true) : xs.length ≤ sizeLine ∧ R := ⟨Nat.le_of_ble_eq_true h, q⟩
theorem rd_lenL {p : Addr} {xs : List V} (q : Q (.int xs.length) H) (h : H p = some (.lst xs)) : rLen K [.ref p] H Q := ⟨p, xs, rfl, .inl (.of h), q⟩
theorem rd_lenS {p : Addr} {xs : List V} (q : Q (.int xs.length) H) (h : SqL K H p xs) : rLen K [.ref p] H Q := ⟨p, xs, rfl, .inl h, q⟩
theorem rd_lenT {p : Addr} {xs : List V} (q : Q (.int xs.length) H) (h : H p = some (.tup xs)) : rLen K [.ref p] H Q := ⟨p, xs, rfl, .inr (.of h), q⟩
theorem rd_lenTp {K' : PySem.W.Frag} {p : Addr} {xs : List V} (q : Q (.int xs.length) H) (h : Tp K' H p xs) (hk : K' = K) : rLen K [.ref p] H Q := ⟨p, xs, rfl, .inr (hk ▸ h.sq), q⟩
theorem rd_int {i : Int} (q : Q (.int i) H) : rInt [.int i] H Q := .inl ⟨i, rfl, q⟩
theorem rd_intB {k : Bool} (q : Q (.int (if k then 1 else 0)) H) : rInt [.bl k] H Q := .inr ⟨k, rfl, q⟩
theorem rd_abs {i : Int} (q : Q (.int (i.natAbs : Nat)) H) : rAbs [.int i] H Q := ⟨i, rfl, by
  have e : (if i < 0 then -i else i) = (i.natAbs : Int) := by split <;> omega
  rw [e]
  exact q⟩
theorem rd_min {i j : Int} (q : Q (.int (min i j)) H) : rMin [.int i, .int j] H Q := ⟨i, j, rfl, by
  have e : (if j < i then j else i) = min i j := by split <;> omega
  rw [e]
  exact q⟩
theorem rd_neB {a b : Bool} (q : Q (.bl (!decide (a = b))) H) : rNe (.bl a) (.bl b) H Q := ⟨rfl, by simpa using q⟩
theorem rd_eqB {a b : Bool} (q : Q (.bl (decide (a = b))) H) : rEq (.bl a) (.bl b) H Q := ⟨rfl, by simpa using q⟩
theorem rd_neS {a b : Str} (q : Q (.bl (!decide (a = b))) H) : rNe (.str a) (.str b) H Q := ⟨rfl, by simpa using q⟩
theorem rd_eqS {a b : Str} (q : Q (.bl (decide (a = b))) H) : rEq (.str a) (.str b) H Q := ⟨rfl, by simpa using q⟩
theorem rd_isBl {a b : Bool} (q : Q (.bl (decide (a = b))) H) : rIsB (.bl a) (.bl b) H Q := ⟨a, b, rfl, rfl, q⟩
end
end My
namespace My
open PySem PySem.Spec PyProof.Rows L2
theorem rd_lc {wi : TI} {g : TG} {tt : TT} {te : TE} {vs : List Nat} {σ : L2.St} {H : Hp} {Q : VK} (h : wi σ H fun J H1 => ∀ D, H1 D = none → ∃ W : Nat → Nat → Hp → Prop, (∃ m, W 0 m (upd H1 D (.lst []))) ∧ ∀ i m H, W i m H →
  (J.stop i H ∧ Q (.ref D) H) ∨ (J.go i H ∧ ∃ Nx : Hp → Prop, (∀ H', Nx H' → ∃ m', m' < m ∧ W (i + 1) m' H') ∧ ∀ x H', J.yld i H x H' → g x (wipe σ vs) H' fun σ2 H2 => wipe σ2 vs = wipe σ vs ∧ tt σ2 H2 fun b H3 =>
    if b = true then te σ2 H3 fun y H4 => ∃ acc, H4 D = some (.lst acc) ∧ acc.length < sizeLine ∧ Nx (upd H4 D (.lst (acc ++ [y]))) else Nx H3)) : tLc wi g tt te vs σ H Q := h
theorem cut_all {xs : List V} {n : Nat} (h : xs.length ≤ n) : cutV xs none (some (n : Int)) = xs := by
  unfold cutV
  rw [HT.sIx_none, HT.sIx_nat, List.drop_zero]
  exact List.take_of_length_le (by omega)
theorem take_succ_map {ns : List Int} {i : Nat} {x : V} (h : (ns.map V.int)[i]? = some x) : ∃ z, x = .int z ∧ z ∈ ns ∧ (ns.take (i + 1)).map V.int = (ns.take i).map V.int ++ [x] := by
  rw [List.getElem?_map] at h
  cases e : ns[i]? with
  | none =>
    rw [e] at h
    cases h
  | some z =>
    rw [e] at h
    have hx : x = .int z := (Option.some.inj h).symm
    refine ⟨z, hx, List.mem_of_getElem? e, ?_⟩
    rw [List.take_add_one, e, List.map_append, hx]
    rfl
/-! ### list.count of flags -/
def eqb (k : Bool) (v : Value) : Bool := match v with
  | .bool b => b == k
  | _ => false
theorem eqb_at {A : Around} {s : Shared} {k : Bool} : ∀ {us : List Value} {bs : List Bool}, Vals (bs.map V.bl) us → ∀ y ∈ us, SeqAt.EqAt A s y (.bool k) (eqb k y)
  | [], bs, r => fun y hy => nomatch hy
  | u :: us, [], r => nomatch r
  | u :: us, b :: bs, r => fun y hy => by
    cases r with
    | cons r1 r2 =>
      rcases List.mem_cons.mp hy with e | e
      · rw [e]
        cases (show u = Value.bool b from r1)
        exact SeqAt.EqAt.bool_bool b k
      · exact eqb_at r2 y e
theorem eqb_count {k : Bool} : ∀ {us : List Value} {bs : List Bool}, Vals (bs.map V.bl) us → us.countP (eqb k) = bs.count k
  | [], [], _ => rfl
  | [], b :: bs, r => nomatch r
  | u :: us, [], r => nomatch r
  | u :: us, b :: bs, r => by
    cases r with
    | cons r1 r2 =>
      cases (show u = Value.bool b from r1)
      rw [List.countP_cons, List.count_cons, eqb_count r2] <;> rfl
def rCntB (K : PySem.W.Frag) : V → List V → Hp → VK → Prop := fun x xs H Q => ∃ (p : Addr) (bs : List Bool) (k : Bool), x = .ref p ∧ xs = [.bl k] ∧ SqL K H p (bs.map V.bl) ∧ Q (.int (bs.count k : Nat)) H
theorem mt_bcount {X : Cx} : MtR X "list.count" (rCntB X.K) := by
  intro pins s σ H x xs v us Q I rx rxs h
  obtain ⟨p, bs, k, rfl, rfl, hs, q⟩ := h
  cases rx
  obtain ⟨u, rfl, ru⟩ := rxs.one
  cases (show u = Value.bool k from ru)
  obtain ⟨its, rv, ⟨⟨cls, dd, data, sl⟩, n, ho, hc, hdn, hd⟩, hlen⟩ := I.list hs
  simp only at hc hd
  subst hc hd
  refine call_meets PySem.F.slot_list_count ⟨_, ho, rfl⟩ PySem.F.entry_list_count (PySem.F.args_list_count_2 _ _)
    (SeqAt.list_countAt p its.toArray n dd sl (.bool k) (eqb k)) ⟨ho, fun y hy => eqb_at rv y (by simpa using hy), ?_⟩
  have ec : its.toArray.toList.countP (eqb k) = bs.count k := eqb_count rv
  refine ⟨.int (bs.count k : Nat), H, I.tok _, ⟨s.toks, ?_⟩, q⟩
  show Value.int ((its.toArray.toList.countP (eqb k) : Nat) : Int) s.toks = Value.int ((bs.count k : Nat) : Int) s.toks
  rw [ec]
/-! ### greatest common divisors by remainders -/
structure Euc (G b i : Nat) (x y : Nat) : Prop where
  g : x.gcd y = G
  h : y * 2 ^ (i / 2) ≤ b
  m : i ≠ 0 → y < x ∧ x * 2 ^ ((i - 1) / 2) ≤ b
theorem Euc.step {G b i x y : Nat} (e : Euc G b i x y) (hy : y ≠ 0) : Euc G b (i + 1) y (x % y) := by
  have lt : x % y < y := Nat.mod_lt _ (by omega)
  refine ⟨?_, ?_, fun _ => ⟨lt, ?_⟩⟩
  · rw [← e.g, Nat.gcd_comm x y, Nat.gcd_comm y (x % y)]
    exact (Nat.gcd_rec y x).symm
  · rcases Nat.mod_two_eq_zero_or_one i with p | p
    · have q : (i + 1) / 2 = i / 2 := by omega
      rw [q]
      exact Nat.le_trans (Nat.mul_le_mul_right _ (Nat.le_of_lt lt)) e.h
    · have q : (i + 1) / 2 = (i - 1) / 2 + 1 := by omega
      obtain ⟨m1, m2⟩ := e.m (by omega)
      have half : 2 * (x % y) ≤ x := by
        have d := Nat.div_add_mod x y
        have dp : 1 ≤ x / y := Nat.div_pos (Nat.le_of_lt m1) (by omega)
        have : y ≤ y * (x / y) := Nat.le_mul_of_pos_right y dp
        omega
      rw [q, Nat.pow_succ]
      calc x % y * (2 ^ ((i - 1) / 2) * 2) = (2 * (x % y)) * 2 ^ ((i - 1) / 2) := by rw [Nat.mul_comm (2 ^ _) 2, ← Nat.mul_assoc, Nat.mul_comm (x % y) 2]
        _ ≤ x * 2 ^ ((i - 1) / 2) := Nat.mul_le_mul_right _ half
        _ ≤ b := m2
  · have q : (i + 1 - 1) / 2 = i / 2 := by omega
    rw [q]
    exact e.h
theorem Euc.done {G b k x y : Nat} (e : Euc G b (2 * k + 2) x y) (hb : b < 2 ^ k) : y = 0 ∧ x = G := by
  have h := e.h
  have q : (2 * k + 2) / 2 = k + 1 := by omega
  rw [q] at h
  have hy : y = 0 := by
    rcases Nat.eq_zero_or_pos y with z | z
    · exact z
    · have p : 2 ^ (k + 1) ≤ y * 2 ^ (k + 1) := Nat.le_mul_of_pos_left _ z
      rw [Nat.pow_succ] at p
      have : 0 < 2 ^ k := Nat.two_pow_pos k
      rw [Nat.pow_succ] at h
      omega
  have g := e.g
  rw [hy, Nat.gcd_zero_right] at g
  exact ⟨hy, g⟩
end My
namespace My
open PySem PySem.Spec PyProof.Rows L2
theorem cdv {j : Int} (h : 0 < j) (hb : j.natAbs < 2 ^ 8000) (i : Int) : CDivX i j := cdivx (by omega) hb (by decide)
theorem cmx {i j : Int} (h1 : i.natAbs < 2 ^ 20000) (h2 : j.natAbs < 2 ^ 20000) : CMulX i j := mulx_ok h1 h2 (by decide)
theorem div_nat (a b : Nat) : (a : Int).fdiv (b : Int) = ((a / b : Nat) : Int) := by
  rw [Int.fdiv_eq_ediv_of_nonneg _ (by omega), Int.natCast_ediv]
theorem p45 {n : Nat} (h : n < 2 ^ 4000) : n < 2 ^ 8000 := Nat.lt_of_lt_of_le h (pow_le (by decide))
theorem p46 {n : Nat} (h : n < 2 ^ 4000) : n < 2 ^ 20000 := Nat.lt_of_lt_of_le h (pow_le (by decide))
theorem added_math {r s : Rat} (hr : Bd 4000 r) (hs : Bd 4000 s) : ∀ g top sh : Int, g = ((Nat.gcd (r.den : Int).natAbs (s.den : Int).natAbs : Nat) : Int) → top = r.num * (s.den : Int).fdiv g + s.num * (r.den : Int).fdiv g →
    sh = ((Nat.gcd top.natAbs g.natAbs : Nat) : Int) → (∀ i, CDivX i g) ∧ CMulX r.num ((s.den : Int).fdiv g) ∧ CMulX s.num ((r.den : Int).fdiv g) ∧ (∀ i, CDivX i sh) ∧ CMulX ((r.den : Int).fdiv g) ((s.den : Int).fdiv sh) ∧
      (r + s).num = top.fdiv sh ∧ ((r + s).den : Int) = (r.den : Int).fdiv g * (s.den : Int).fdiv sh := by
  intro g top sh hg ht hsh
  have hd := r.den_pos
  have hs' := s.den_pos
  rw [Int.natAbs_natCast, Int.natAbs_natCast] at hg
  have gpos : 0 < r.den.gcd s.den := Nat.gcd_pos_of_pos_left _ hd
  have gle : r.den.gcd s.den ≤ r.den := Nat.gcd_le_left _ hd
  have gna : g.natAbs = r.den.gcd s.den := by rw [hg, Int.natAbs_natCast]
  have shpos : 0 < top.natAbs.gcd (r.den.gcd s.den) := Nat.gcd_pos_of_pos_right _ gpos
  have shle : top.natAbs.gcd (r.den.gcd s.den) ≤ r.den.gcd s.den := Nat.gcd_le_right _ gpos
  rw [gna] at hsh
  have hr2 := hr.2
  have hs2 := hs.2
  have e1 : (s.den : Int).fdiv g = ((s.den / r.den.gcd s.den : Nat) : Int) := by rw [hg, div_nat]
  have e2 : (r.den : Int).fdiv g = ((r.den / r.den.gcd s.den : Nat) : Int) := by rw [hg, div_nat]
  have l1 : s.den / r.den.gcd s.den ≤ s.den := Nat.div_le_self _ _
  have l2 : r.den / r.den.gcd s.den ≤ r.den := Nat.div_le_self _ _
  have form := add_form r s (r.den.gcd s.den) (r.den / r.den.gcd s.den) (s.den / r.den.gcd s.den) top (top.natAbs.gcd (r.den.gcd s.den)) rfl rfl rfl (by rw [ht, e1, e2]) rfl
  have e3 : (s.den : Int).fdiv sh = ((s.den / top.natAbs.gcd (r.den.gcd s.den) : Nat) : Int) := by rw [hsh, div_nat]
  have l3 : s.den / top.natAbs.gcd (r.den.gcd s.den) ≤ s.den := Nat.div_le_self _ _
  refine ⟨cdv (by omega) (by rw [gna]; exact p45 (by omega)), ?_, ?_, cdv (by omega) ?_, ?_, ?_, ?_⟩
  · rw [e1]
    exact cmx (p46 hr.1) (by rw [Int.natAbs_natCast]; exact p46 (by omega))
  · rw [e2]
    exact cmx (p46 hs.1) (by rw [Int.natAbs_natCast]; exact p46 (by omega))
  · rw [hsh, Int.natAbs_natCast]
    exact p45 (by omega)
  · rw [e2, e3]
    exact cmx (by rw [Int.natAbs_natCast]; exact p46 (by omega)) (by rw [Int.natAbs_natCast]; exact p46 (by omega))
  · rw [form.1, hsh, Int.fdiv_eq_ediv_of_nonneg _ (by omega)]
  · rw [form.2, e2, e3, Int.natCast_mul]
theorem mul_math {r s : Rat} (hr : Bd 4000 r) (hs : Bd 4000 s) : ∀ a b : Int, a = ((Nat.gcd r.num.natAbs (s.den : Int).natAbs : Nat) : Int) → b = ((Nat.gcd s.num.natAbs (r.den : Int).natAbs : Nat) : Int) →
    (∀ i, CDivX i a) ∧ (∀ i, CDivX i b) ∧ CMulX (r.num.fdiv a) (s.num.fdiv b) ∧ CMulX ((r.den : Int).fdiv b) ((s.den : Int).fdiv a) ∧
      (r * s).num = r.num.fdiv a * s.num.fdiv b ∧ ((r * s).den : Int) = (r.den : Int).fdiv b * (s.den : Int).fdiv a := by
  intro a b ha hb
  rw [Int.natAbs_natCast] at ha hb
  have hd := r.den_pos
  have hs' := s.den_pos
  have ap : 0 < r.num.natAbs.gcd s.den := Nat.gcd_pos_of_pos_right _ hs'
  have bp : 0 < s.num.natAbs.gcd r.den := Nat.gcd_pos_of_pos_right _ hd
  have al : r.num.natAbs.gcd s.den ≤ s.den := Nat.gcd_le_right _ hs'
  have bl : s.num.natAbs.gcd r.den ≤ r.den := Nat.gcd_le_right _ hd
  have da : a ∣ r.num := by rw [ha]; exact Int.ofNat_dvd_left.mpr (Nat.gcd_dvd_left ..)
  have db : b ∣ s.num := by rw [hb]; exact Int.ofNat_dvd_left.mpr (Nat.gcd_dvd_left ..)
  have hr2 := hr.2
  have hs2 := hs.2
  obtain ⟨f1, f2⟩ := mul_form r s _ _ rfl rfl
  have e1 : r.num.fdiv a = r.num / a := fdiv_dvd da
  have e2 : s.num.fdiv b = s.num / b := fdiv_dvd db
  have e3 : (r.den : Int).fdiv b = ((r.den / s.num.natAbs.gcd r.den : Nat) : Int) := by rw [hb, div_nat]
  have e4 : (s.den : Int).fdiv a = ((s.den / r.num.natAbs.gcd s.den : Nat) : Int) := by rw [ha, div_nat]
  have l3 : r.den / s.num.natAbs.gcd r.den ≤ r.den := Nat.div_le_self _ _
  have l4 : s.den / r.num.natAbs.gcd s.den ≤ s.den := Nat.div_le_self _ _
  have n1 : (r.num / a).natAbs ≤ r.num.natAbs := by
    rw [Int.natAbs_ediv_of_dvd da]
    exact Nat.div_le_self _ _
  have n2 : (s.num / b).natAbs ≤ s.num.natAbs := by
    rw [Int.natAbs_ediv_of_dvd db]
    exact Nat.div_le_self _ _
  have hr1 := hr.1
  have hs1 := hs.1
  refine ⟨cdv (by omega) (by rw [ha, Int.natAbs_natCast]; exact p45 (by omega)), cdv (by omega) (by rw [hb, Int.natAbs_natCast]; exact p45 (by omega)), ?_, ?_, ?_, ?_⟩
  · rw [e1, e2]
    exact cmx (p46 (by omega)) (p46 (by omega))
  · rw [e3, e4]
    exact cmx (by rw [Int.natAbs_natCast]; exact p46 (by omega)) (by rw [Int.natAbs_natCast]; exact p46 (by omega))
  · rw [f1, e1, e2, ha, hb]
  · rw [f2, e3, e4, Int.natCast_mul]
end My
namespace My
open PySem PySem.Spec PyProof.Rows L2
theorem low_math {n b : Int} (hb : 0 < b) (hl : b.natAbs < 2 ^ 8000) : ∀ g : Int, g = ((n.natAbs.gcd b.natAbs : Nat) : Int) → (∀ i, CDivX i g) ∧ (Rat.divInt n b).num = n.fdiv g ∧ ((Rat.divInt n b).den : Int) = b.fdiv g := by
  rintro g rfl
  have gp : 0 < n.natAbs.gcd b.natAbs := Nat.gcd_pos_of_pos_right _ (by omega)
  have gl : n.natAbs.gcd b.natAbs ≤ b.natAbs := Nat.gcd_le_right _ (by omega)
  obtain ⟨e1, e2⟩ := low_form n b (by omega)
  rw [if_neg (by omega)] at e1 e2
  refine ⟨cdv (by omega) (by rw [Int.natAbs_natCast]; omega), ?_, ?_⟩
  · rw [e1, fdiv_dvd (Int.ofNat_dvd_left.mpr (Nat.gcd_dvd_left ..))]
  · rw [e2, fdiv_dvd (Int.ofNat_dvd_left.mpr (Nat.gcd_dvd_right ..))]
theorem sign_na {t r : Int} (a : 0 ≤ r) (b : r < 2) : (t * (1 - 2 * r)).natAbs = t.natAbs := by
  have h : r = 0 ∨ r = 1 := by omega
  rcases h with rfl | rfl
  · simp
  · rw [Int.natAbs_mul]
    simp
end My
namespace My
open PySem PySem.Spec PyProof.Rows L2
/-! ### an own error class without __init__, made without arguments -/
abbrev veChain : List Value := [.type "ValueError", .type "Exception", .type "BaseException", .type "object"]
theorem pmk_own0 {X : Cx} {C : Addr} {bmB : List Value} {B newId initId : String} {x : Str} {p pos : Pos} (F : ExcBaseFacts B newId initId bmB) (q : PySem.W.excIn X.K C bmB newId = true) (gC : X.mg x = some (.ref C))
    (kC : PySem.W.keepIn X.K (.ref C) = true) (r : Raises X (.ref C)) (hg : Gl X x) (hdb : (x == ("__debug__" : Str)) = false := by decide) :
    PMk X (.Call (.Name x p) [] [] pos) (fun _ H Q => Q (.ref C) none H) := by
  intro pins s σ H Q I h
  refine wpAny_Call_Name_kw (ld_glob I hg gC ?_ hdb)
  refine PySem.W.callWith_K0 I.kIn kC ?_
  show wpAny _ _ (call (.ref C) []) _ _ _
  obtain ⟨hp, g, d, t, os⟩ := s
  obtain ⟨bm, N, nm, qn, bs, hdct, sn, sub, ab, col, dd, k0, k1, k2, k3, k5, mN, hC, hN, hni, T⟩ := exc_obj I.kIn q
  refine wpAny_call_exc_subT F T hC hN hni (fun h' e hm => ?_) (Nat.zero_le _)
  exact mk_of I hm r h (I.hok.gone hm.new)
/-- what the top holds of such a class -/
structure ExC (K : PySem.W.Frag) (mg : Str → Option Value) (x : Str) (C : Addr) : Prop where
  g : mg x = some (.ref C)
  ex : PySem.W.excIn K C veChain "ValueError.__new__" = true
  kp : PySem.W.keepIn K (.ref C) = true
  be : PySem.W.subIn K (.ref C) (.type "BaseException") = some true
  ty : PySem.W.typeIn K (.ref C) = some (.type "type")
  ic : PySem.W.isClsIn K C = true
  sf : PySem.W.subIn K (.ref C) (.ref C) = some true
theorem exm_sub {K : PySem.W.Frag} {C S : Addr} {b : Bool} (h1 : PySem.W.subIn K (.ref S) (.type "BaseException") = some true) (h2 : PySem.W.isClsIn K S = true) (h3 : PySem.W.typeIn K (.ref S) = some (.type "type")) (h4 : PySem.W.subIn K (.ref C) (.ref S) = some b) :
    PySem.W.exmOne K (.ref C) (.ref S) = some b := by
  have e1 : (PySem.W.subIn K (.ref S) (.type "BaseException") == some true) = true := by rw [h1] <;> rfl
  have e2 : ((PySem.W.clsIn K S).isSome && PySem.W.typeIn K (.ref S) == some (.type "type")) = true := by
    have h2' : (PySem.W.clsIn K S).isSome = true := h2
    rw [h2', h3] <;> rfl
  show (if (PySem.W.subIn K (.ref S) (.type "BaseException") == some true) = true then (if ((PySem.W.clsIn K S).isSome && PySem.W.typeIn K (.ref S) == some (.type "type")) = true then PySem.W.subIn K (.ref C) (.ref S) else none) else none) = some b
  rw [if_pos e1, if_pos e2]
  exact h4
theorem ExC.te {K : PySem.W.Frag} {mg : Str → Option Value} {x : Str} {C : Addr} (e : ExC K mg x C) : PySem.W.exmOne K (.ref C) (.ref C) = some true := exm_sub e.be e.ic e.ty e.sf
/-- raise X() -/
theorem ps_raise0 {X : Cx} {W : WX} {C : Addr} {x : Str} {p pos pos2 : Pos} (hc : X.calm = true) (e : ExC X.K X.mg x C) (tk : Takes X W) (hg : Gl X x := by rfl) (hdb : (x == ("__debug__" : Str)) = false := by decide) :
    PS X (.Raise (some (.Call (.Name x p) [] [] pos)) none pos2) (fun _ σ H => W (.ref C) none σ H) :=
  ps_raise hc tk (pmk_own0 PySem.F.excBase_ValueError e.ex e.g e.kp (raises_own e.be e.ty) hg hdb)
theorem rd_callS {sp : Sp} {E : L2.St → XK} {t : TA} {σ : L2.St} {H : Hp} {Q : VK} (h : t σ H fun vs H1 => sp vs H1 Q (E σ)) : tCallS sp E t σ H Q := h
theorem rd_newK {σ : L2.St} {H : Hp} {Q : VK} (h : ∀ p, H p = none → Q (.ref p) (upd H p (.dK []))) : tDNewK σ H Q := h
theorem at_any {xs : List V} {i : Int} (h0 : 0 ≤ i) (h1 : i < (xs.length : Nat)) : ∃ v, v ∈ xs ∧ atI xs i = some v := by
  obtain ⟨j, rfl⟩ := Int.eq_ofNat_of_zero_le h0
  have hj : j < xs.length := by omega
  exact ⟨xs[j], List.getElem_mem hj, atI_nat (List.getElem?_eq_getElem hj)⟩
/-! ### things that are no integers -/
inductive Odd (D : Addr) (H : Hp) : V → Prop where
  | non : Odd D H .non
  | bl (b : Bool) : Odd D H (.bl b)
  | str (s : Str) : Odd D H (.str s)
  | lst {p : Addr} {xs : List V} (n : p ≠ D) (h : H p = some (.lst xs)) : Odd D H (.ref p)
  | tup {p : Addr} {xs : List V} (n : p ≠ D) (h : H p = some (.tup xs)) : Odd D H (.ref p)
  | dK {p : Addr} {kvs : List (Key × V)} (n : p ≠ D) (h : H p = some (.dK kvs)) : Odd D H (.ref p)
theorem Odd.fw {D : Addr} {H H' : Hp} {v : V} (o : Odd D H v) (f : Fw D H H') : Odd D H' v := by
  cases o with
  | non => exact .non
  | bl b => exact .bl b
  | str s => exact .str s
  | lst n h => exact .lst n (f _ _ n h)
  | tup n h => exact .tup n (f _ _ n h)
  | dK n h => exact .dK n (f _ _ n h)
theorem Odd.isi {D : Addr} {H : Hp} {v : V} (o : Odd D H v) (K : PySem.W.Frag) : ∃ b1 b2 : Bool, (b1 && !b2) = false ∧ (∀ Q : VK, Q (.bl b1) H → rIsi K [v, .ty "int"] H Q) ∧ (∀ Q : VK, Q (.bl b2) H → rIsi K [v, .ty "bool"] H Q) := by
  cases o with
  | non => exact ⟨false, false, rfl, fun Q q => ⟨_, _, _, _, _, rfl, .ty _, .base .non, kit_ty (by decide +kernel), q⟩, fun Q q => ⟨_, _, _, _, _, rfl, .ty _, .base .non, kit_ty (by decide +kernel), q⟩⟩
  | bl b => exact ⟨true, true, rfl, fun Q q => ⟨_, _, _, _, _, rfl, .ty _, .base (.bl _), kit_ty (by decide +kernel), q⟩, fun Q q => ⟨_, _, _, _, _, rfl, .ty _, .base (.bl _), kit_ty (by decide +kernel), q⟩⟩
  | str s => exact ⟨false, false, rfl, fun Q q => ⟨_, _, _, _, _, rfl, .ty _, .base (.str _), kit_ty (by decide +kernel), q⟩, fun Q q => ⟨_, _, _, _, _, rfl, .ty _, .base (.str _), kit_ty (by decide +kernel), q⟩⟩
  | lst n h => exact ⟨false, false, rfl, fun Q q => ⟨_, _, _, _, _, rfl, .ty _, .base (.lst h), kit_ty (by decide +kernel), q⟩, fun Q q => ⟨_, _, _, _, _, rfl, .ty _, .base (.lst h), kit_ty (by decide +kernel), q⟩⟩
  | tup n h => exact ⟨false, false, rfl, fun Q q => ⟨_, _, _, _, _, rfl, .ty _, .base (.tup h), kit_ty (by decide +kernel), q⟩, fun Q q => ⟨_, _, _, _, _, rfl, .ty _, .base (.tup h), kit_ty (by decide +kernel), q⟩⟩
  | dK n h => exact ⟨false, false, rfl, fun Q q => ⟨_, _, _, _, _, rfl, .ty _, .base (.dK h), kit_ty (by decide +kernel), q⟩, fun Q q => ⟨_, _, _, _, _, rfl, .ty _, .base (.dK h), kit_ty (by decide +kernel), q⟩⟩
end My
namespace My
open PySem PySem.Spec PyProof.Rows L2
/-! ### for i, x in enumerate(t), t a tuple -/
section
variable {prog : Program} {w : World} {A : Around} {E : Value → Shared → Prop} {s : Shared}
theorem tupNext {it t : Addr} {i : Nat} {its : Array Value} {x : Value} {Q : Value → Shared → Prop} (h1 : IsTupIter s.heap it t i) (h2 : IsTup s.heap t its) (hx : its[i]? = some x)
    (q : ∀ h', IsTupIter h' it t (i + 1) → Heap.SameBut it s.heap h' → Q x { s with heap := h' }) : wpAny (model prog w) A (Builtin.SmallTypes.nextOf (.ref it)) Q E s := by
  unfold Builtin.SmallTypes.nextOf
  exact wpAny_bind (special_tup_item h1 h2 hx fun h' a b => wpAny_pure (q h' a b))
theorem tupNo {it t : Addr} {i : Nat} {its : Array Value} {Q : Value → Shared → Prop} (hh : A.handled = none) (h1 : IsTupIter s.heap it t i) (h2 : IsTup s.heap t its) (hx : its[i]? = none)
    (q : ∀ h' e, Heap.ExtBut it s.heap h' → (∃ o, h'.get? e = some o ∧ o.cls = .type "StopIteration") → E (.ref e) { s with heap := h' }) : wpAny (model prog w) A (Builtin.SmallTypes.nextOf (.ref it)) Q E s := by
  unfold Builtin.SmallTypes.nextOf
  refine wpAny_bind (special_tup_end hh h1 h2 hx fun e h' sx eb => ?_)
  obtain ⟨a, o, vs, rfl, ho, hc, _⟩ := sx
  exact q h' a eb ⟨o, ho, hc⟩
theorem tupDraws {it t : Addr} {its : Array Value} (hh : A.handled = none) (ne : t ≠ it) : Draws prog w A it [it, t] its.size (fun i x => its[i]? = some x) (fun i h => IsTupIter h it t i ∧ IsTup h t its) where
  live := fun i h st => by
    obtain ⟨⟨o, ho, _⟩, _⟩ := st
    exact ⟨o, ho⟩
  frame := fun i h h' st k => by
    obtain ⟨⟨o, ho, r⟩, ⟨o2, ho2, r2⟩⟩ := st
    exact ⟨⟨o, k it (by simp) o ho, r⟩, ⟨o2, k t (by simp) o2 ho2, r2⟩⟩
  item := fun i s Q E hi st q => tupNext st.1 st.2 (x := its[i]) (by simp [hi]) fun h' a b => q _ h' s.toks (by simp [hi]) ⟨a, st.2.extBut b.extBut ne⟩ b
  done := fun s Q E st q => tupNo hh st.1 st.2 (by simp) q
theorem newEnumT (t : Addr) (its : Array Value) (n : Nat) (dct : Option Addr) (sl : Array (Option Value)) :
    Meets (Builtin.«enumerate.__new__» ⟨[.type "enumerate", .ref t], []⟩) (fun _ R s => s.heap.get? t = some { cls := .type "tuple", dict := dct, data := .seq its n, slots := sl } ∧
      R (.ok (.ret (.ref (s.heap.push { cls := .type "tuple_iterator", data := .fields #[.ref t, .int 0 0] }).objs.size)))
        { s with heap := (s.heap.push { cls := .type "tuple_iterator", data := .fields #[.ref t, .int 0 0] }).push { cls := .type "enumerate", data := .fields #[.none, .bool false, .ref s.heap.objs.size, rawInt 0, .none, .none] } }) :=
  Meets.of_wp fun prog w A R s h => by
    obtain ⟨hp, g, d, tk, os⟩ := s
    obtain ⟨ht, hR⟩ := h
    have hsub := sub_enumerate
    have hT : IsTup (Shared.heap ⟨hp, g, d, tk, os⟩) t its := ⟨_, ht, rfl, n, rfl⟩
    wp_walk using AutoSeq1.wpAny_loadPart' ht
    refine wpAny_stack_any (fun st => wpAny_pure ?_)
    split
    · rename_i c _ _ _ _ _
      cases (c == Value.type "enumerate") <;> (wp_walk using AutoSeq1.wpAny_loadPart' ht, iter_tuple hT; exact ⟨_, rfl, hR⟩)
    · wp_walk using AutoSeq1.wpAny_loadPart' ht, iter_tuple hT
      exact ⟨_, rfl, hR⟩
theorem callEnumT {t : Addr} {its : Array Value} {Q : Value → Shared → Prop} (hT : IsTup s.heap t its)
    (q : ∀ h', IsEnum h' (s.heap.objs.size + 1) s.heap.objs.size 0 .none → IsTupIter h' s.heap.objs.size t 0 → (∀ b o, s.heap.get? b = some o → h'.get? b = some o) → Q (.ref (s.heap.objs.size + 1)) { s with heap := h' }) :
    wpAny (model prog w) A (call (.type "enumerate") [.ref t]) Q E s := by
  obtain ⟨⟨c, dct, dt, sl⟩, ht, hc, n, hd⟩ := hT
  simp only at hc hd
  subst hc hd
  refine callType_new F.called_enumerate (by decide) (F.typeCall_enumerate_1 _) (F.newCall_enumerate_1 _) (fun obj => F.args_object_init_2 obj _) F.entry_enumerate_new (newEnumT t its n dct sl) ⟨ht, ?_⟩
  generalize hh1 : s.heap.push { cls := .type "tuple_iterator", data := .fields #[.ref t, .int 0 0] } = h1
  have z1 : h1.objs.size = s.heap.objs.size + 1 := by rw [← hh1, Heap.size_push]
  have k1 : ∀ b o, s.heap.get? b = some o → h1.get? b = some o := fun b o e => by rw [← hh1]; exact Heap.get?_push_of_some _ e
  have i1 : h1.get? s.heap.objs.size = some { cls := .type "tuple_iterator", data := .fields #[.ref t, .int 0 0] } := by rw [← hh1]; exact Heap.get?_push_size _ rfl
  show _ ∧ _
  rw [z1]
  have e1 := Heap.get?_push_size h1 (o := { cls := .type "enumerate", data := .fields #[.none, .bool false, .ref s.heap.objs.size, rawInt 0, .none, .none] }) rfl
  rw [z1] at e1
  exact ⟨⟨_, e1, rfl⟩, q _ e1 ⟨_, Heap.get?_push_of_some _ i1, rfl, rfl⟩ fun b o e => Heap.get?_push_of_some _ (k1 b o e)⟩
end
def IteT (K : PySem.W.Frag) (a : Addr) : It :=
  ⟨fun i H => ∃ (xs : List V) (x : V), SqT K H a xs ∧ xs[i]? = some x, fun i H v H' => ∃ T x, v = .ref T ∧ H T = none ∧ H' = upd H T (.tup [.int (i : Nat), x]) ∧ ∀ xs, SqT K H a xs → xs[i]? = some x, fun i H => ∃ xs : List V, SqT K H a xs ∧ xs.length = i⟩
theorem turnEnumT {P : Program} {w : World} {K : PySem.W.Frag} {elts : List Expr} {kk : Nat} {tpos : Pos} (a e it : Addr) :
    Turn P w K (.Tuple elts kk tpos) (IteT K a) [e, it] e (fun i h => (∃ old, IsEnum h e it ((i : Nat) : Int) old) ∧ IsTupIter h it a i ∧ e ≠ it) where
  mem := by simp
  obj := fun i h st b hb => by
    obtain ⟨⟨old, he⟩, ⟨o, ho, hc, hd⟩, _⟩ := st
    rcases (show b = e ∨ b = it by simpa using hb) with rfl | rfl
    · exact ⟨_, he, fun v q => nomatch q⟩
    · exact ⟨o, ho, fun v q => by rw [hd] at q; cases q⟩
  keep := fun i h h' st k => by
    obtain ⟨⟨old, he⟩, ⟨o, ho, r⟩, hne⟩ := st
    exact ⟨⟨old, k e (by simp) _ he⟩, ⟨o, k it (by simp) o ho, r⟩, hne⟩
  item := by
    intro X hP hw hK hc i pins s σ H E I hf st hg
    subst hP hw hK
    obtain ⟨⟨old, he⟩, hit, hne⟩ := st
    obtain ⟨xs, x, hq, hx⟩ := hg
    obtain ⟨its, rv, p, hz⟩ := I.tuple hq
    obtain ⟨u, hu, ru⟩ := rv.get hx
    have elt := Heap.lt_size he
    have ilt : it < s.heap.objs.size := by obtain ⟨_, q, _⟩ := hit; exact Heap.lt_size q
    have hh := I.ok.hd hc
    have hti : a ≠ it := fun z => by
      obtain ⟨o1, e1, c1, _⟩ := hit
      obtain ⟨o2, e2, c2, _⟩ := p
      rw [z, e1] at e2
      cases e2
      rw [c1] at c2
      exact absurd c2 (by decide)
    have hte : e ≠ a := fun z => by
      obtain ⟨o2, e2, c2, _⟩ := p
      rw [← z, he] at e2
      cases e2
      exact absurd (show (Value.type "enumerate" : Value) = .type "tuple" from c2) (by decide)
    have ii : i < its.toArray.size := by
      have hl := rv.length
      have : i < xs.length := by
        rcases Nat.lt_or_ge i xs.length with h | h
        · exact h
        · rw [List.getElem?_eq_none h] at hx
          cases hx
      simp
      omega
    refine wpAny_pyNext_enum_itemD (tupDraws (A := X.A.in1) hh hti) he ⟨hit, p⟩ ii hne (by simp [hne, hte]) fun u' h' tk hu' ho st' hT hsz hk => ?_
    obtain rfl : u = u' := by
      have e2 : its.toArray[i]? = some u := by simpa using hu
      rw [e2] at hu'
      exact Option.some.inj hu'
    refine ⟨_, rfl, wpAny_letOwnedTupleGo_enum (s := { s with heap := h', toks := tk + 1 }) ho fun h'' he' sb => ?_⟩
    have hT2 := (sb.2 _ (Nat.ne_of_gt elt)).trans hT
    have new : ObjOk X.prog X.w (upd H s.heap.objs.size (.tup [.int (i : Nat), x])) h'' s.heap.objs.size (.tup [.int (i : Nat), x]) := ⟨by show 2 ≤ sizeLine; decide, [.int i tk, u], .cons ⟨_, rfl⟩ (.cons ru .nil), ⟨_, hT2, rfl, _, rfl⟩⟩
    have I1 : Inv X pins σ (upd H s.heap.objs.size (.tup [.int (i : Nat), x])) { s with heap := h'', toks := tk + 1 } :=
      I.turnedNew (t' := tk + 1) (ch := [e, it]) (fun b ob hb q => by
        have b1 : b ≠ e := fun z => hb (by simp [z])
        have b2 : b ≠ it := fun z => hb (by simp [z])
        exact (sb.2 b b1).trans (hk b ob b1 b2 q)) hf (Nat.le_refl _) new
    refine ⟨.ref s.heap.objs.size, _, I1, rfl, ⟨_, x, rfl, I.hok.fresh (Nat.le_refl _), rfl, fun ys hy => by rw [I.tuple_inj hy hq]; exact hx⟩, ⟨⟨u, ?_⟩, ?_, hne⟩, fun b hb => ?_⟩
    · rw [show ((i + 1 : Nat) : Int) = (i : Int) + 1 by omega]
      exact he'
    · obtain ⟨o, ho', r⟩ := st'.1
      exact ⟨o, (sb.2 it (Ne.symm hne)).trans ho', r⟩
    · have hb' : b < s.heap.objs.size := by
        rcases (show b = e ∨ b = it by simpa using hb) with rfl | rfl
        · exact elt
        · exact ilt
      rw [upd_ne (Nat.ne_of_lt hb')]
      exact (hf b hb).1
  done := by
    intro X hP hw hK hc i pins s σ H E I hf st hg
    subst hP hw hK
    obtain ⟨⟨old, he⟩, hit, hne⟩ := st
    obtain ⟨xs, hq, hx⟩ := hg
    obtain ⟨its, rv, p, hz⟩ := I.tuple hq
    obtain ⟨f0, f1, f2, f3, f4, f5⟩ := hf it (by simp)
    have hl := rv.length
    have hh := I.ok.hd hc
    have hti : a ≠ it := fun z => by
      obtain ⟨o1, e1, c1, _⟩ := hit
      obtain ⟨o2, e2, c2, _⟩ := p
      rw [z, e1] at e2
      cases e2
      rw [c1] at c2
      exact absurd c2 (by decide)
    have en : i = its.toArray.size := by
      simp
      omega
    rw [en] at he hit
    exact wpAny_pyNext_enum_endD (tupDraws (A := X.A.in1) hh hti) he ⟨hit, p⟩ fun h' eb => ⟨rfl, I.turned (t' := s.toks) (fun b o hb q => eb b o hb q) f0 f1 f3 f4 f5⟩
  self := fun A i s Q E st h => by
    obtain ⟨⟨_, he⟩, _⟩ := st
    exact wpAny_pyIter_enum he h
/-- enumerate over a list or a tuple -/
def iEnumX (K : PySem.W.Frag) (ta : TA) : TI := fun σ H R => ta σ H fun vs H1 => ∃ a xs, vs = [.ref a] ∧ ((SqL K H1 a xs ∧ R (Ite K a) H1) ∨ (SqT K H1 a xs ∧ R (IteT K a) H1))
theorem pi_enumX {X : Cx} {e : Expr} {ta : TA} {p pos tpos : Pos} {elts : List Expr} {kk : Nat} (hg : Gl X "enumerate") (hm : X.mg "enumerate" = none) (ha : PA X [e] ta) (hs : starEach [e] X.env = [(false, eval e X.env)] := by rfl) :
    PI X (.Tuple elts kk tpos) (.Call (.Name "enumerate" p) [e] [] pos) (iEnumX X.K ta) := by
  refine ⟨fun pins s σ H R I h => ?_⟩
  refine Call_ (ld_blt I hg hm boot_enumerate (PyProof.Rows.callWith_type1 (thn (ha.run pos pins s σ H _ I h) fun us s1 q1 => ?_) hs rfl))
  obtain ⟨vs, H1, I1, r1, a, xs, ex, q⟩ := q1
  subst ex
  obtain ⟨u, rfl, ru⟩ := vals1 r1
  cases ru
  have go : ∀ (h' : Heap) (J : It) (tn : Nat → Heap → Prop), (∀ b o, s1.heap.get? b = some o → h'.get? b = some o) → IsEnum h' (s1.heap.objs.size + 1) s1.heap.objs.size 0 .none → Turn X.prog X.w X.K (.Tuple elts kk tpos) J [s1.heap.objs.size + 1, s1.heap.objs.size] (s1.heap.objs.size + 1) tn → tn 0 h' → R J H1 →
      wpAny (model X.prog X.w) X.A (pyIter (.ref (s1.heap.objs.size + 1))) (PIE X pins σ (.Tuple elts kk tpos) R) X.xe { s1 with heap := h' } := fun h' J tn hk he T t0 q => by
    refine wpAny_pyIter_enum he ?_
    refine ⟨s1.heap.objs.size + 1, [s1.heap.objs.size + 1, s1.heap.objs.size], tn, J, H1, rfl, I1.kept (t' := s1.toks) hk, T, t0, fun b hb => ?_, q⟩
    have hle : s1.heap.objs.size ≤ b := by
      rcases (show b = s1.heap.objs.size + 1 ∨ b = s1.heap.objs.size by simpa using hb) with rfl | rfl
      · exact Nat.le_succ _
      · exact Nat.le_refl _
    exact I1.fpOk hle (I1.hok.fresh hle)
  rcases q with ⟨hq, q⟩ | ⟨hq, q⟩
  · obtain ⟨its, rv, p', hz⟩ := I1.list hq
    exact call_enumerate_list p'.isList fun h' he hit hsz hk => go h' _ _ hk he (turn_enum a _ _) ⟨⟨.none, he⟩, hit, Nat.succ_ne_self _⟩ q
  · obtain ⟨its, rv, p', hz⟩ := I1.tuple hq
    exact callEnumT p' fun h' he hit hk => go h' _ _ hk he (turnEnumT a _ _) ⟨⟨.none, he⟩, hit, Nat.succ_ne_self _⟩ q
theorem rd_enumX {K : PySem.W.Frag} {ta : TA} {R : It → Hp → Prop} {σ : L2.St} {H : Hp} (h : ta σ H fun vs H1 => ∃ a xs, vs = [.ref a] ∧ ((SqL K H1 a xs ∧ R (Ite K a) H1) ∨ (SqT K H1 a xs ∧ R (IteT K a) H1))) : iEnumX K ta σ H R := h
theorem for_enumT {K : PySem.W.Frag} {a : Addr} {xs : List V} {g : TG} {tb : TS} {D : Ends} {σ : L2.St} {H : Hp} (Pv : Nat → L2.St → Hp → Prop) (h0 : Pv 0 σ H) (hl : ∀ i σ H, i ≤ xs.length → Pv i σ H → SqT K H a xs)
    (hs : ∀ i x T σ H, xs[i]? = some x → Pv i σ H → H T = none → g (.ref T) σ (upd H T (.tup [.int (i : Nat), x])) fun σ2 H2 => tb { D with nx := Pv (i + 1), ct := Pv (i + 1), bk := D.nx } σ2 H2) (hd : ∀ σ H, Pv xs.length σ H → D.nx σ H) :
    ∃ W : Nat → Nat → L2.St → Hp → Prop, (∃ m, W 0 m σ H) ∧ ∀ i m σ H, W i m σ H →
      ((IteT K a).stop i H ∧ D.nx σ H) ∨ ((IteT K a).go i H ∧ ∃ N : L2.St → Hp → Prop, (∀ σ' H', N σ' H' → ∃ m', m' < m ∧ W (i + 1) m' σ' H') ∧ ∀ x H', (IteT K a).yld i H x H' → g x σ H' fun σ2 H2 => tb { D with nx := N, ct := N, bk := D.nx } σ2 H2) := by
  refine ⟨fun i m σ H => m = xs.length - i ∧ i ≤ xs.length ∧ Pv i σ H, ⟨xs.length, by simp, Nat.zero_le _, h0⟩, ?_⟩
  rintro i m σ H ⟨rfl, hi, p⟩
  have q := hl i σ H hi p
  by_cases hlt : i < xs.length
  · refine .inr ⟨⟨xs, xs[i], q, by simp [hlt]⟩, Pv (i + 1), fun σ' H' p' => ⟨xs.length - (i + 1), by omega, rfl, hlt, p'⟩, fun x H' y => ?_⟩
    obtain ⟨T, x, rfl, nT, rfl, y⟩ := y
    exact hs i x T σ H (y xs q) p nT
  · have e : i = xs.length := by omega
    subst e
    exact .inl ⟨⟨xs, q, rfl⟩, hd σ H p⟩
end My
namespace My
open PySem PySem.Spec PyProof.Rows L2
/-! ### max of a tuple of two ints -/
def rMaxT (K : PySem.W.Frag) : List V → Hp → VK → Prop := fun vs H Q => ∃ (a : Addr) (i j : Int), vs = [V.ref a] ∧ SqT K H a [.int i, .int j] ∧ ∀ m, m = i ∨ m = j → Q (.int m) H
theorem cr_maxT {X : Cx} (hc : X.calm = true) (hu : X.A.units + 64 < cLine) : CallR X (.builtin "max") (rMaxT X.K) := by
  intro pins s σ H vs us Q I r h
  obtain ⟨a, i, j, rfl, hs, q⟩ := h
  obtain ⟨its, rv, hl, _⟩ := I.tuple hs
  rw [Vals.ref1 r]
  have hv : ∃ (u1 u2 : Value), its = [u1, u2] ∧ RelV (.int i) u1 ∧ RelV (.int j) u2 := by
    cases rv with
    | cons r1 r2 =>
      cases r2 with
      | cons r2 r3 =>
        cases r3
        exact ⟨_, _, rfl, r1, r2⟩
  clear rv
  obtain ⟨_, _, rfl, ⟨t1, rfl⟩, ⟨t2, rfl⟩⟩ := hv
  have e : PyData.depthAll [PyData.int i, .int j] ≤ 2 := by simp [PyData.depthAll, PyData.depth]
  have hm : PySem.W.maxD (.int i) [.int j] = .int i ∨ PySem.W.maxD (.int i) [.int j] = .int j := by
    unfold PySem.W.maxD
    simp only [List.foldl]
    split <;> simp
  have hr : ReadsAll s.heap [Value.int i t1, Value.int j t2] [PyData.int i, .int j] [] := .cons (as := []) (.int _ _) (.cons (as := []) (.int _ _) .nil)
  have ha : PySem.W.AlikeAll [PyData.int i, .int j] := by
    refine ⟨fun x hx y hy => ?_, fun x hx => ?_⟩
    · simp only [List.mem_cons, List.not_mem_nil, or_false] at hx hy
      rcases hx with rfl | rfl <;> rcases hy with rfl | rfl <;> rfl
    · simp only [List.mem_cons, List.not_mem_nil, or_false] at hx
      rcases hx with rfl | rfl <;> simp
  refine PySem.W.max_tuple_data (x := .int i) (xs := [.int j]) (as := []) (I.ok.hd hc) hl hr ha ?_ fun k v h' tk bs hk hr hk' => ?_
  · omega
  · rcases hm with e | e <;> (rw [e] at hr; cases hr)
    · exact ⟨.int i, H, I.kept hk', ⟨_, rfl⟩, q i (.inl rfl)⟩
    · exact ⟨.int j, H, I.kept hk', ⟨_, rfl⟩, q j (.inr rfl)⟩
end My
namespace My
open PySem PySem.Spec PyProof.Rows L2
variable {K : PySem.W.Frag}
/-! ### own error classes with one field -/
structure ExF (K : PySem.W.Frag) (mg : Str → Option Value) (x : Str) (C fI : Addr) (fl : Str) : Prop where
  g : mg x = some (.ref C)
  ox : OexC K C
  iC : PySem.W.findIn K (.ref C) "__init__" = some (some (.ref fI))
  tI : PySem.W.typeIn K (.ref fI) = some (.type "function")
  no : PySem.W.findIn K (.ref C) fl = some none
  xf : XfC K C
  ic : PySem.W.isClsIn K C = true
  sf : PySem.W.subIn K (.ref C) (.ref C) = some true
theorem ExF.te {K : PySem.W.Frag} {mg : Str → Option Value} {x : Str} {C fI : Addr} {fl : Str} (e : ExF K mg x C fI fl) : PySem.W.exmOne K (.ref C) (.ref C) = some true := exm_sub e.ox.exC e.ic e.ox.tyC e.sf
/-- what such an __init__ does -/
def sp_xinit (C : Addr) (fl : Str) : Sp := fun vs H Q _ => ∃ p v, vs = [.ref p, v] ∧ H p = some (exo p C none) ∧ ∀ dx, H dx = none → dx ≠ p → Q .non (upd (upd H dx (exd dx [(fl, v)])) p (exo p C (some dx)))
theorem rd_ost {K : PySem.W.Frag} {f : Str} {to te : TE} {D : Ends} {σ : L2.St} {H : Hp} (h : te σ H fun y H1 => to σ H1 fun x H2 => ∃ a C : Addr, x = .ref a ∧ OexC K C ∧ PySem.W.findIn K (.ref C) f = some none ∧
    ((H2 a = some (exo a C none) ∧ ∀ dx, H2 dx = none → dx ≠ a → D.nx σ (upd (upd H2 dx (exd dx [(f, y)])) a (exo a C (some dx)))) ∨
      ∃ (dx : Addr) (fs : List (Str × V)), H2 a = some (exo a C (some dx)) ∧ H2 dx = some (exd dx fs) ∧ fs.length ≤ 900 ∧ D.nx σ (upd H2 dx (exd dx ((f, y) :: fs))))) : tOst K f to te D σ H := h
theorem del_upd_back {H1 : Hp} {a d : Addr} {o1 o2 o3 : HO} {fs : List (Str × V)} (ha : H1 a = none) (hd : H1 d = none) (hn : d ≠ a) :
    upd (del (upd (upd (upd H1 a o1) d o2) a o3) a) d (.xd fs) = upd H1 d (.xd fs) := by
  funext b
  by_cases hb : b = d
  · rw [hb, upd_same, upd_same]
  · rw [upd_ne hb, upd_ne hb]
    by_cases hb2 : b = a
    · rw [hb2, del_same, ha]
    · rw [del_ne hb2, upd_ne hb2, upd_ne hb, upd_ne hb2]
theorem lk1 {f : Str} {v : V} : ([(f, v)] : List (Str × V)).lookup f = some v := by
  have e : (f == f) = true := beq_self_eq_true f
  simp only [List.lookup, e]
/-- raise X(e) -/
def tRaise1 (C : Addr) (fl : Str) (W : WX) (ta : TA) : TS := fun _ σ H => tMkO C (sp_xinit C fl) [] ta σ H fun cls d H' => W cls d σ H'
theorem rd_raise1 {C : Addr} {fl : Str} {W : WX} {ta : TA} {D : Ends} {σ : L2.St} {H : Hp} (h : ta σ H fun vs H1 => vs.length ≤ 1000 ∧ ∀ a, H1 a = none → sp_xinit C fl (.ref a :: (vs ++ [])) (upd H1 a (exo a C none))
    (fun v H2 => v = .non ∧ ∃ (d : Addr) (fs : List (Str × V)), H2 a = some (exo a C (some d)) ∧ H2 d = some (exd d fs) ∧ H1 d = none ∧ W (.ref C) (some d) σ (upd (del H2 a) d (.xd fs))) (fun _ _ _ => False)) : tRaise1 C fl W ta D σ H := h
theorem rd_x1 {C : Addr} {fl : Str} {v : V} {H1 : Hp} {Q : Value → Option Addr → Hp → Prop} (h : ∀ d, H1 d = none → Q (.ref C) (some d) (upd H1 d (.xd [(fl, v)]))) :
    [v].length ≤ 1000 ∧ ∀ a, H1 a = none → sp_xinit C fl (.ref a :: ([v] ++ [])) (upd H1 a (exo a C none))
      (fun v H2 => v = .non ∧ ∃ (d : Addr) (fs : List (Str × V)), H2 a = some (exo a C (some d)) ∧ H2 d = some (exd d fs) ∧ H1 d = none ∧ Q (.ref C) (some d) (upd (del H2 a) d (.xd fs))) (fun _ _ _ => False) := by
  refine ⟨by show 1 ≤ 1000; decide, fun a na => ⟨a, v, rfl, upd_same, fun dx nd ne => ⟨rfl, dx, [(fl, v)], upd_same, ?_, ?_, ?_⟩⟩⟩
  · rw [upd_ne ne, upd_same]
  · rw [upd_ne ne] at nd
    exact nd
  · rw [upd_ne ne] at nd
    rw [del_upd_back na nd ne]
    exact h dx nd
theorem ps_raise1 {X : Cx} {W : WX} {C fI : Addr} {x : Str} {fl : Str} {k : Nat} {fd : FuncData} {ta : TA} {e : Expr} {es : List Expr} {p pos pos2 : Pos} (hc : X.calm = true) (E : ExF X.K X.mg x C fI fl)
    (F1 : FnOk X.prog X.w X.K X.mg X.base CX0 k fI fd ["self", fl] (sp_xinit C fl)) (hr : Room (k + 1) X.A) (tk : Takes X W) (hb : Binds X.K fd ["self", fl] []) (ha : PA X (e :: es) ta) (hg : Gl X x := by rfl)
    (hdb : (x == ("__debug__" : Str)) = false := by decide) (he : starEach (e :: es) X.env = (false, eval e X.env) :: starEach es X.env := by rfl) (hpl : (backTo pos (starEach es X.env)).any (·.1) = false := by rfl) :
    PS X (.Raise (some (.Call (.Name x p) (e :: es) [] pos)) none pos2) (tRaise1 C fl W ta) :=
  ps_raise (pos := pos2) hc tk (pmk_oex (pos := pos) E.ox E.iC E.tI F1 hr hb .nil pass0 hg E.g ha hdb he hpl)
/-- e.f of the caught error -/
theorem rd_xf {a : Addr} {cls : Value} {d : Option Addr} {C : Addr} {f : Str} {te : TE} {σ : L2.St} {H : Hp} {Q : VK} (h : te σ H fun x H1 => x = .ref a ∧ cls = .ref C ∧ ∃ (dd : Addr) (fs : List (Str × V)) (v : V), d = some dd ∧ H1 dd = some (.xd fs) ∧ fs.lookup f = some v ∧ Q v H1) : tXf a cls d C f te σ H Q := h
theorem rd_xf1 {a : Addr} {C dd : Addr} {f : Str} {v : V} {H : Hp} {Q : VK} (h : H dd = some (.xd [(f, v)])) (q : Q v H) : (V.ref a) = .ref a ∧ (Value.ref C) = .ref C ∧ ∃ (dd2 : Addr) (fs : List (Str × V)) (v : V), some dd = some dd2 ∧ H dd2 = some (.xd fs) ∧ fs.lookup f = some v ∧ Q v H := ⟨rfl, rfl, dd, _, v, rfl, h, lk1, q⟩
/-! ### own classes with fields -/
structure InsT (K : PySem.W.Frag) (C : Addr) : Prop where
  cl : Cls K C
  ha : PySem.W.findIn K (.ref C) "__class__" = some (some (.builtin "object.__class__"))
  hn : PySem.W.specialIn K (.builtin "object.__class__") "__get__" = some (some (.builtin "getset_descriptor.__get__"))
  ht : PySem.W.takesIn K (.builtin "object.__class__") = some true
  mo : PySem.W.mroIn K C (.type "object") = some true
  ki : PySem.W.kitOne K (.ref C) (.type "int") = some false
  kb : PySem.W.kitOne K (.ref C) (.type "bool") = some false
  kt : PySem.W.kitOne K (.ref C) (.type "tuple") = some false
  kl : PySem.W.kitOne K (.ref C) (.type "list") = some false
structure WebC (K : PySem.W.Frag) (mg : Str → Option Value) (x : Str) (C fI : Addr) : Prop where
  g : mg x = some (.ref C)
  mks : Mk K C fI
  it : InsT K C
theorem rd_fldS {K : PySem.W.Frag} {ta tv : TE} {f : Str} {D : Ends} {σ : L2.St} {H : Hp} (h : tv σ H fun y H1 => ta σ H1 fun x H2 => ∃ a C dx fs, x = .ref a ∧ H2 a = some (.ins C dx fs) ∧ Cls K C ∧ NoAttr K C f ∧ fs.length < 1000 ∧ D.nx σ (upd H2 a (.ins C dx (putF f y fs)))) : sFld K ta tv f D σ H := h
theorem rd_make {C : Addr} {sp : Sp} {dvs : List V} {E : XK} {t : TA} {σ : L2.St} {H : Hp} {Q : VK} (h : t σ H fun vs H1 => ∀ x dx, H1 x = none → H1 dx = none → dx ≠ x → sp (.ref x :: (vs ++ dvs)) (upd (upd H1 dx (.own x)) x (.ins C dx [])) (fun v H2 => v = .non ∧ Q (.ref x) H2) E) : tMake C sp dvs E t σ H Q := h
theorem rd_enum {K : PySem.W.Frag} {ta : TA} {R : It → Hp → Prop} {σ : L2.St} {H : Hp} (h : ta σ H fun vs H1 => ∃ a xs, vs = [.ref a] ∧ SqL K H1 a xs ∧ R (Ite K a) H1) : iEnum K ta σ H R := h
/-! ### things of all kinds; D: the deck, which alone is changed -/
inductive Od (K : PySem.W.Frag) (D : Addr) (H : Hp) : V → Prop where
  | non : Od K D H .non
  | bl (b : Bool) : Od K D H (.bl b)
  | str (s : Str) : Od K D H (.str s)
  | lst {p : Addr} {xs : List V} (n : p ≠ D) (h : H p = some (.lst xs)) : Od K D H (.ref p)
  | tup {p : Addr} {xs : List V} (n : p ≠ D) (h : H p = some (.tup xs)) : Od K D H (.ref p)
  | dK {p : Addr} {kvs : List (Key × V)} (n : p ≠ D) (h : H p = some (.dK kvs)) : Od K D H (.ref p)
  | ins {p C dx : Addr} {fs : List (Str × V)} (n : p ≠ D) (h : H p = some (.ins C dx fs)) (c : InsT K C) : Od K D H (.ref p)
theorem Od.fw {K : PySem.W.Frag} {D : Addr} {H H' : Hp} {v : V} (o : Od K D H v) (f : Fw D H H') : Od K D H' v := by
  cases o with
  | non => exact .non
  | bl b => exact .bl b
  | str s => exact .str s
  | lst n h => exact .lst n (f _ _ n h)
  | tup n h => exact .tup n (f _ _ n h)
  | dK n h => exact .dK n (f _ _ n h)
  | ins n h c => exact .ins n (f _ _ n h) c
/-- what isinstance says of it -/
theorem Od.isi {K : PySem.W.Frag} {D : Addr} {H : Hp} {v : V} (o : Od K D H v) : ∃ b1 b2 b3 : Bool, (b1 && !b2) = false ∧ (∀ Q : VK, Q (.bl b1) H → rIsi K [v, .ty "int"] H Q) ∧ (∀ Q : VK, Q (.bl b2) H → rIsi K [v, .ty "bool"] H Q) ∧ (∀ Q : VK, Q (.bl b3) H → rIsi K [v, .ty "tuple"] H Q) ∧ (b3 = true → ∃ p xs, v = .ref p ∧ p ≠ D ∧ H p = some (.tup xs)) := by
  cases o with
  | non => exact ⟨false, false, false, rfl, fun Q q => ⟨_, _, _, _, _, rfl, .ty _, .base .non, kit_ty (by decide +kernel), q⟩, fun Q q => ⟨_, _, _, _, _, rfl, .ty _, .base .non, kit_ty (by decide +kernel), q⟩, fun Q q => ⟨_, _, _, _, _, rfl, .ty _, .base .non, kit_ty (by decide +kernel), q⟩, fun z => Bool.noConfusion z⟩
  | bl b => exact ⟨true, true, false, rfl, fun Q q => ⟨_, _, _, _, _, rfl, .ty _, .base (.bl _), kit_ty (by decide +kernel), q⟩, fun Q q => ⟨_, _, _, _, _, rfl, .ty _, .base (.bl _), kit_ty (by decide +kernel), q⟩, fun Q q => ⟨_, _, _, _, _, rfl, .ty _, .base (.bl _), kit_ty (by decide +kernel), q⟩, fun z => Bool.noConfusion z⟩
  | str s => exact ⟨false, false, false, rfl, fun Q q => ⟨_, _, _, _, _, rfl, .ty _, .base (.str _), kit_ty (by decide +kernel), q⟩, fun Q q => ⟨_, _, _, _, _, rfl, .ty _, .base (.str _), kit_ty (by decide +kernel), q⟩, fun Q q => ⟨_, _, _, _, _, rfl, .ty _, .base (.str _), kit_ty (by decide +kernel), q⟩, fun z => Bool.noConfusion z⟩
  | lst n h => exact ⟨false, false, false, rfl, fun Q q => ⟨_, _, _, _, _, rfl, .ty _, .base (.lst h), kit_ty (by decide +kernel), q⟩, fun Q q => ⟨_, _, _, _, _, rfl, .ty _, .base (.lst h), kit_ty (by decide +kernel), q⟩, fun Q q => ⟨_, _, _, _, _, rfl, .ty _, .base (.lst h), kit_ty (by decide +kernel), q⟩, fun z => Bool.noConfusion z⟩
  | tup n h => exact ⟨false, false, true, rfl, fun Q q => ⟨_, _, _, _, _, rfl, .ty _, .base (.tup h), kit_ty (by decide +kernel), q⟩, fun Q q => ⟨_, _, _, _, _, rfl, .ty _, .base (.tup h), kit_ty (by decide +kernel), q⟩, fun Q q => ⟨_, _, _, _, _, rfl, .ty _, .base (.tup h), kit_ty (by decide +kernel), q⟩, fun _ => ⟨_, _, rfl, n, h⟩⟩
  | dK n h => exact ⟨false, false, false, rfl, fun Q q => ⟨_, _, _, _, _, rfl, .ty _, .base (.dK h), kit_ty (by decide +kernel), q⟩, fun Q q => ⟨_, _, _, _, _, rfl, .ty _, .base (.dK h), kit_ty (by decide +kernel), q⟩, fun Q q => ⟨_, _, _, _, _, rfl, .ty _, .base (.dK h), kit_ty (by decide +kernel), q⟩, fun z => Bool.noConfusion z⟩
  | ins n h c => exact ⟨false, false, false, rfl, fun Q q => ⟨_, _, _, _, _, rfl, .ty _, .base (.ins h c.cl c.ha c.hn c.ht c.mo), c.ki, q⟩, fun Q q => ⟨_, _, _, _, _, rfl, .ty _, .base (.ins h c.cl c.ha c.hn c.ht c.mo), c.kb, q⟩, fun Q q => ⟨_, _, _, _, _, rfl, .ty _, .base (.ins h c.cl c.ha c.hn c.ht c.mo), c.kt, q⟩, fun z => Bool.noConfusion z⟩
/-- what is no fraction -/
inductive NoF (K : PySem.W.Frag) (D : Addr) (H : Hp) : V → Prop where
  | int (i : Int) : NoF K D H (.int i)
  | not {v : V} (o : Od K D H v) (h : ∀ p xs, v = .ref p → H p = some (.tup xs) → xs.length ≠ 2) : NoF K D H v
  | fst {p : Addr} {x y : V} (n : p ≠ D) (h : H p = some (.tup [x, y])) (o : Od K D H x) : NoF K D H (.ref p)
  | snd {p : Addr} {i : Int} {y : V} (n : p ≠ D) (h : H p = some (.tup [.int i, y])) (o : Od K D H y) : NoF K D H (.ref p)
  | low {p : Addr} {i j : Int} (n : p ≠ D) (h : H p = some (.tup [.int i, .int j])) (z : ¬ (0 < j ∧ Nat.gcd i.natAbs j.natAbs = 1)) (b : j.natAbs < 2 ^ 4000) : NoF K D H (.ref p)
theorem NoF.fw {K : PySem.W.Frag} {D : Addr} {H H' : Hp} {v : V} (o : NoF K D H v) (f : Fw D H H') : NoF K D H' v := by
  cases o with
  | int i => exact .int i
  | not o h =>
    refine .not (o.fw f) fun p xs e h2 => ?_
    subst e
    cases o with
    | lst n h3 =>
      rw [f _ _ n h3] at h2
      cases h2
    | tup n h3 =>
      rw [f _ _ n h3] at h2
      cases h2
      exact h _ _ rfl h3
    | dK n h3 =>
      rw [f _ _ n h3] at h2
      cases h2
    | ins n h3 c =>
      rw [f _ _ n h3] at h2
      cases h2
  | fst n h o => exact .fst n (f _ _ n h) (o.fw f)
  | snd n h o => exact .snd n (f _ _ n h) (o.fw f)
  | low n h z b => exact .low n (f _ _ n h) z b
/-- a thing with the word whether it is a fraction -/
def JF (K : PySem.W.Frag) (D : Addr) (H : Hp) (v : V) (b : Option Rat) : Prop := (∃ r, IsF K H v r ∧ Bd 40 r ∧ b = some r) ∨ (NoF K D H v ∧ b = none)
theorem isi_int_tup {K : PySem.W.Frag} {H : Hp} {Q : VK} {i : Int} (q : Q (.bl false) H) : rIsi K [.int i, .ty "tuple"] H Q := ⟨_, _, _, _, _, rfl, .ty _, .base (.int _), kit_ty (by decide +kernel), q⟩
end My
namespace My
open PySem PySem.Spec PyProof.Rows L2
variable {K : PySem.W.Frag}
theorem for_enum {K : PySem.W.Frag} {a : Addr} {xs : List V} {g : TG} {tb : TS} {D : Ends} {σ : L2.St} {H : Hp} (Pv : Nat → L2.St → Hp → Prop) (h0 : Pv 0 σ H) (hl : ∀ i σ H, i ≤ xs.length → Pv i σ H → SqL K H a xs)
    (hs : ∀ i x T σ H, xs[i]? = some x → Pv i σ H → H T = none → g (.ref T) σ (upd H T (.tup [.int (i : Nat), x])) fun σ2 H2 => tb { D with nx := Pv (i + 1), ct := Pv (i + 1), bk := D.nx } σ2 H2) (hd : ∀ σ H, Pv xs.length σ H → D.nx σ H) :
    ∃ W : Nat → Nat → L2.St → Hp → Prop, (∃ m, W 0 m σ H) ∧ ∀ i m σ H, W i m σ H →
      ((Ite K a).stop i H ∧ D.nx σ H) ∨ ((Ite K a).go i H ∧ ∃ N : L2.St → Hp → Prop, (∀ σ' H', N σ' H' → ∃ m', m' < m ∧ W (i + 1) m' σ' H') ∧ ∀ x H', (Ite K a).yld i H x H' → g x σ H' fun σ2 H2 => tb { D with nx := N, ct := N, bk := D.nx } σ2 H2) := by
  refine ⟨fun i m σ H => m = xs.length - i ∧ i ≤ xs.length ∧ Pv i σ H, ⟨xs.length, by simp, Nat.zero_le _, h0⟩, ?_⟩
  rintro i m σ H ⟨rfl, hi, p⟩
  have q := hl i σ H hi p
  by_cases hlt : i < xs.length
  · refine .inr ⟨⟨xs, xs[i], q, by simp [hlt]⟩, Pv (i + 1), fun σ' H' p' => ⟨xs.length - (i + 1), by omega, rfl, hlt, p'⟩, fun x H' y => ?_⟩
    obtain ⟨T, x, rfl, nT, rfl, y⟩ := y
    exact hs i x T σ H (y xs q) p nT
  · have e : i = xs.length := by omega
    subst e
    exact .inl ⟨⟨xs, q, Nat.le_refl _⟩, hd σ H p⟩
/-! ### right stalls and webs of them -/
structure Stl where
  u : Nat
  v : Nat
  a : Rat
  b : Rat
  r : Rat
structure OkSt (n : Nat) (s : Stl) : Prop where
  u : s.u < n
  v : s.v < n
  ne : s.u ≠ s.v
  a : 0 < s.a
  b : 0 < s.b
  r : 0 < s.r
  e : s.a * s.b = s.r * s.r
structure BdSt (k : Nat) (s : Stl) : Prop where
  a : Bd k s.a
  b : Bd k s.b
  r : Bd k s.r
def IsSt (K : PySem.W.Frag) (H : Hp) (x : V) (s : Stl) : Prop := ∃ p va vb vr, x = .ref p ∧ H p = some (.tup [.int (s.u : Nat), .int (s.v : Nat), va, vb, vr]) ∧ IsF K H va s.a ∧ IsF K H vb s.b ∧ IsF K H vr s.r
theorem IsSt.same {H H' : Hp} {x : V} {s : Stl} (f : Same H H') (h : IsSt K H x s) : IsSt K H' x s := by
  obtain ⟨p, va, vb, vr, e, h, a, b, c⟩ := h
  exact ⟨p, va, vb, vr, e, f _ _ h, a.same f, b.same f, c.same f⟩
def Sts (K : PySem.W.Frag) (H : Hp) (xs : List V) (ss : List Stl) : Prop := Paired (IsSt K H) xs ss
theorem Sts.same {H H' : Hp} {xs : List V} {ss : List Stl} (f : Same H H') (h : Sts K H xs ss) : Sts K H' xs ss := by
  unfold Sts at *
  induction h with
  | nil => exact .nil
  | cons h t ih => exact .cons (h.same f) ih
theorem Sts.len {H : Hp} {xs : List V} {ss : List Stl} (h : Sts K H xs ss) : xs.length = ss.length := Paired.length h
theorem Sts.at {H : Hp} {xs : List V} {ss : List Stl} (h : Sts K H xs ss) : ∀ {i : Nat} {x : V}, xs[i]? = some x → ∃ s, ss[i]? = some s ∧ IsSt K H x s := by
  unfold Sts at h
  induction h with
  | nil =>
    intro i x e
    simp at e
  | cons h t ih =>
    intro i x e
    match i with
    | 0 =>
      simp at e
      subst e
      exact ⟨_, rfl, h⟩
    | i + 1 => exact ih (by simpa using e)
theorem IsF.ts {H H' : Hp} {x : V} {r : Rat} (f : Tps H H') (h : IsF K H x r) : IsF K H' x r := by
  obtain ⟨p, e, h⟩ := h
  exact ⟨p, e, h.ts f⟩
theorem IsSt.ts {H H' : Hp} {x : V} {s : Stl} (f : Tps H H') (h : IsSt K H x s) : IsSt K H' x s := by
  obtain ⟨p, va, vb, vr, e, h, a, b, c⟩ := h
  exact ⟨p, va, vb, vr, e, f _ _ h, a.ts f, b.ts f, c.ts f⟩
theorem Sts.ts {H H' : Hp} {xs : List V} {ss : List Stl} (f : Tps H H') (h : Sts K H xs ss) : Sts K H' xs ss := by
  unfold Sts at *
  induction h with
  | nil => exact .nil
  | cons h t ih => exact .cons (h.ts f) ih
def wF (n : Nat) (t : Addr) : List (Str × V) := [("wares", .int (n : Nat)), ("stalls", .ref t)]
def IsWeb (K : PySem.W.Frag) (C : Addr) (H : Hp) (x : V) (n : Nat) (ss : List Stl) : Prop := ∃ p dx t xs, x = .ref p ∧ H p = some (.ins C dx (wF n t)) ∧ H t = some (.tup xs) ∧ Sts K H xs ss
theorem IsWeb.same {C : Addr} {H H' : Hp} {x : V} {n : Nat} {ss : List Stl} (f : Same H H') (h : IsWeb K C H x n ss) : IsWeb K C H' x n ss := by
  obtain ⟨p, dx, t, xs, e, h1, h2, h3⟩ := h
  exact ⟨p, dx, t, xs, e, f _ _ h1, f _ _ h2, h3.same f⟩
theorem lk_here {k : Str} {v : V} {r : List (Str × V)} : List.lookup k ((k, v) :: r) = some v := by
  have e : (k == k) = true := beq_self_eq_true k
  simp only [List.lookup, e]
theorem lk_past {k g : Str} {v : V} {r : List (Str × V)} (h : (k == g) = false) : List.lookup k ((g, v) :: r) = List.lookup k r := by
  simp only [List.lookup, h]
theorem wF_wares (n : Nat) (t : Addr) : (wF n t).lookup ("wares" : Str) = some (.int (n : Nat)) := lk_here
theorem wF_stalls (n : Nat) (t : Addr) : (wF n t).lookup ("stalls" : Str) = some (.ref t) := (lk_past (by decide +kernel)).trans lk_here
theorem wF_new (n : Nat) (t : Addr) : putF "stalls" (.ref t) (putF "wares" (.int (n : Nat)) []) = wF n t := by
  have h : ¬ (("wares" : Str) = "stalls") := by decide +kernel
  show putF "stalls" (.ref t) [("wares", .int (n : Nat))] = _
  simp [putF, h, wF]
theorem rd_fld {K : PySem.W.Frag} {ta : TE} {f : Str} {σ : L2.St} {H : Hp} {Q : VK} (h : ta σ H fun x H1 => ∃ a C dx fs v, x = .ref a ∧ H1 a = some (.ins C dx fs) ∧ Cls K C ∧ NoAttr K C f ∧ fs.lookup f = some v ∧ Q v H1) : tFld K ta f σ H Q := h
/-- what a stall is behind a move -/
def Stl.first (s : Stl) (x : Rat) : Stl := ⟨s.u, s.v, x, s.r * s.r / x, s.r⟩
def Stl.secnd (s : Stl) (y : Rat) : Stl := ⟨s.u, s.v, s.r * s.r / y, y, s.r⟩
def Stl.behind (s : Stl) (w : Nat) (x : Rat) : Stl := if w = s.u then s.first (s.a + x) else s.secnd (s.b + x)
def Stl.out (s t : Stl) (w : Nat) : Rat := if w = s.u then s.b - t.b else s.a - t.a
/-- a move of the web -/
def IsMv (K : PySem.W.Frag) (H : Hp) (v : V) (i w : Nat) (x : Rat) : Prop := ∃ p vx, v = .ref p ∧ H p = some (.tup [.int (i : Nat), .int (w : Nat), vx]) ∧ IsF K H vx x
theorem IsMv.same {H H' : Hp} {v : V} {i w : Nat} {x : Rat} (f : Same H H') (h : IsMv K H v i w x) : IsMv K H' v i w x := by
  obtain ⟨p, vx, e, h, a⟩ := h
  exact ⟨p, vx, e, f _ _ h, a.same f⟩
theorem Sts.get {H : Hp} {xs : List V} {ss : List Stl} (h : Sts K H xs ss) : ∀ {i : Nat} {s : Stl}, ss[i]? = some s → ∃ x, xs[i]? = some x ∧ IsSt K H x s := by
  unfold Sts at h
  induction h with
  | nil =>
    intro i x e
    simp at e
  | cons h t ih =>
    intro i x e
    match i with
    | 0 =>
      simp at e
      subst e
      exact ⟨_, rfl, h⟩
    | i + 1 => exact ih (by simpa using e)
end My
namespace My
open PySem PySem.Spec PyProof.Rows L2
variable {K : PySem.W.Frag}
theorem tps_put {H1 H : Hp} {D : Addr} {o : HO} {ys : List V} (h : H D = some (.lst ys)) : Tps H (upd H D o) := fun b xs hb => by
  refine (upd_ne fun e => ?_).trans hb
  rw [e, h] at hb
  cases hb
theorem same_put {H1 H : Hp} {D : Addr} {o : HO} (n : H1 D = none) (s : Same H1 H) : Same H1 (upd H D o) := fun b x h => (upd_ne (ne_of_none h n)).trans (s b x h)
/-- what stands while the tuples stand -/
def Mn {α : Type} (R : Hp → V → α → Prop) : Prop := ∀ H H' v a, Tps H H' → R H v a → R H' v a
theorem Paired.mono {α : Type} {R : Hp → V → α → Prop} (hR : Mn R) {H H' : Hp} (f : Tps H H') {ys : List V} {as : List α} (h : Paired (R H) ys as) : Paired (R H') ys as := by
  induction h with
  | nil => exact .nil
  | cons h t ih => exact .cons (hR _ _ _ _ f h) ih
theorem same_tps {H H' : Hp} (s : Same H H') : Tps H H' := fun b xs h => s _ _ h
theorem sqT_same {H H' : Hp} {a : Addr} {xs : List V} (e : Same H H') (h : SqT K H a xs) : SqT K H' a xs := by
  rcases h with (h | ⟨o, h⟩) | h
  · exact .inl (.inl (e _ _ h))
  · exact .inl (.inr ⟨o, e _ _ h⟩)
  · exact .inr h
section
variable {α : Type} {R : Hp → V → α → Prop} {g : TG} {tt : TT} {te : TE} {vs : List Nat} {σ : L2.St} {H1 : Hp} {D : Addr} {Qd : Hp → Prop} {f : Nat → Option α}
/-- the state of a list under way -/
def Lst (R : Hp → V → α → Prop) (H1 : Hp) (D : Addr) (as : List α) (H : Hp) : Prop := Same H1 H ∧ ∃ ys, H D = some (.lst ys) ∧ Paired (R H) ys as
theorem Lst.len {as : List α} {H : Hp} : Lst R H1 D as H → ∃ ys, H D = some (.lst ys) ∧ ys.length = as.length := fun ⟨_, ys, h, p⟩ => ⟨ys, h, Paired.length p⟩
theorem Lst.add (hR : Mn R) (nD : H1 D = none) {as : List α} {a : α} {H H' : Hp} {y : V} (l : Lst R H1 D as H) (s : Same H H') (h : R H' y a) (hn : as.length < 1000) :
    ∃ acc, H' D = some (.lst acc) ∧ acc.length < sizeLine ∧ Lst R H1 D (as ++ [a]) (upd H' D (.lst (acc ++ [y]))) := by
  obtain ⟨s1, ys, hD, p⟩ := l
  have hl := Paired.length p
  refine ⟨ys, s _ _ hD, small1000 (by omega), same_put nD (s1.trans s), _, upd_same, ?_⟩
  have t : Tps H' (upd H' D (.lst (ys ++ [y]))) := tps_put (H1 := H1) (s _ _ hD)
  exact Paired.mono hR t (Paired.snoc (Paired.mono hR (same_tps s) p) h)
theorem Lst.skip (hR : Mn R) {as : List α} {H H' : Hp} (l : Lst R H1 D as H) (s : Same H H') : Lst R H1 D as H' := by
  obtain ⟨s1, ys, hD, p⟩ := l
  exact ⟨s1.trans s, ys, s _ _ hD, Paired.mono hR (same_tps s) p⟩
def upTo (f : Nat → Option α) (i : Nat) : List α := (List.range i).filterMap f
theorem upTo_some {i : Nat} {a : α} (h : f i = some a) : upTo f (i + 1) = upTo f i ++ [a] := by
  unfold upTo
  rw [List.range_succ, List.filterMap_append]
  simp [h]
theorem upTo_none {i : Nat} (h : f i = none) : upTo f (i + 1) = upTo f i := by
  unfold upTo
  rw [List.range_succ, List.filterMap_append]
  simp [h]
theorem upTo_len (f : Nat → Option α) (i : Nat) : (upTo f i).length ≤ i := by
  unfold upTo
  refine Nat.le_trans (List.length_filterMap_le _ _) ?_
  simp
/-- one turn -/
def Turn1 (R : Hp → V → α → Prop) (H1 : Hp) (f : Nat → Option α) (i : Nat) (G : Hp → VK → (Hp → Prop) → Prop) : Prop :=
  ∀ H' (Q : VK) (N : Hp → Prop), Same H1 H' → (∀ a y H4, f i = some a → Same H' H4 → R H4 y a → Q y H4) → (∀ H3, f i = none → Same H' H3 → N H3) → G H' Q N
theorem Turn1.step (hR : Mn R) (nD : H1 D = none) {i : Nat} (hi : i < 1000) {G : Hp → VK → (Hp → Prop) → Prop} (t : Turn1 R H1 f i G) {H : Hp} (l : Lst R H1 D (upTo f i) H) :
    G H (fun y H4 => ∃ acc, H4 D = some (.lst acc) ∧ acc.length < sizeLine ∧ Lst R H1 D (upTo f (i + 1)) (upd H4 D (.lst (acc ++ [y])))) (Lst R H1 D (upTo f (i + 1))) := by
  refine t H _ _ l.1 (fun a y H4 e s h => ?_) fun H3 e s => ?_
  · rw [upTo_some e]
    exact l.add hR nD s h (Nat.lt_of_le_of_lt (upTo_len f i) hi)
  · rw [upTo_none e]
    exact l.skip hR s
theorem lst_new (nD : H1 D = none) : Lst R H1 D (upTo f 0) (upd H1 D (.lst [])) := ⟨same_upd nD, [], upd_same, .nil⟩
theorem lc_rangeP (hR : Mn R) {lo : Int} {n : Nat} (nD : H1 D = none) (hn : n ≤ 1000)
    (hs : ∀ i, i < n → Turn1 R H1 f i fun H' Q N => g (.int (lo + i)) (wipe σ vs) H' fun σ2 H2 => wipe σ2 vs = wipe σ vs ∧ tt σ2 H2 fun b H3 => if b = true then te σ2 H3 Q else N H3)
    (hd : ∀ H', Lst R H1 D (upTo f n) H' → Qd H') :
    ∃ W : Nat → Nat → Hp → Prop, (∃ m, W 0 m (upd H1 D (.lst []))) ∧ ∀ i m H, W i m H →
      ((Itr lo n).stop i H ∧ Qd H) ∨ ((Itr lo n).go i H ∧ ∃ Nx : Hp → Prop, (∀ H', Nx H' → ∃ m', m' < m ∧ W (i + 1) m' H') ∧ ∀ x H', (Itr lo n).yld i H x H' → g x (wipe σ vs) H' fun σ2 H2 => wipe σ2 vs = wipe σ vs ∧ tt σ2 H2 fun b H3 =>
        if b = true then te σ2 H3 fun y H4 => ∃ acc, H4 D = some (.lst acc) ∧ acc.length < sizeLine ∧ Nx (upd H4 D (.lst (acc ++ [y]))) else Nx H3) :=
  lc_range (fun i H => Lst R H1 D (upTo f i) H) (lst_new nD) (fun i H hi l => Turn1.step (i := i) hR nD (by omega) (hs i hi) l) hd
theorem lc_tupP (hR : Mn R) {a : Addr} {xs : List V} (nD : H1 D = none) (hn : xs.length ≤ 1000) (hl : SqT K H1 a xs)
    (hs : ∀ i x, xs[i]? = some x → Turn1 R H1 f i fun H' Q N => g x (wipe σ vs) H' fun σ2 H2 => wipe σ2 vs = wipe σ vs ∧ tt σ2 H2 fun b H3 => if b = true then te σ2 H3 Q else N H3)
    (hd : ∀ H', Lst R H1 D (upTo f xs.length) H' → Qd H') :
    ∃ W : Nat → Nat → Hp → Prop, (∃ m, W 0 m (upd H1 D (.lst []))) ∧ ∀ i m H, W i m H →
      ((Itt K a).stop i H ∧ Qd H) ∨ ((Itt K a).go i H ∧ ∃ Nx : Hp → Prop, (∀ H', Nx H' → ∃ m', m' < m ∧ W (i + 1) m' H') ∧ ∀ x H', (Itt K a).yld i H x H' → g x (wipe σ vs) H' fun σ2 H2 => wipe σ2 vs = wipe σ vs ∧ tt σ2 H2 fun b H3 =>
        if b = true then te σ2 H3 fun y H4 => ∃ acc, H4 D = some (.lst acc) ∧ acc.length < sizeLine ∧ Nx (upd H4 D (.lst (acc ++ [y]))) else Nx H3) :=
  lc_tup (xs := xs) (fun i H => Lst R H1 D (upTo f i) H) (lst_new nD) (fun i H _ l => sqT_same l.1 hl) (fun i x H hx l => Turn1.step (i := i) hR nD (by
    have := (List.getElem?_eq_some_iff.mp hx).1
    omega) (hs i x hx) l) hd
theorem lc_listP (hR : Mn R) {a : Addr} {xs : List V} (nD : H1 D = none) (hn : xs.length ≤ 1000) (hl : SqL K H1 a xs)
    (hs : ∀ i x, xs[i]? = some x → Turn1 R H1 f i fun H' Q N => g x (wipe σ vs) H' fun σ2 H2 => wipe σ2 vs = wipe σ vs ∧ tt σ2 H2 fun b H3 => if b = true then te σ2 H3 Q else N H3)
    (hd : ∀ H', Lst R H1 D (upTo f xs.length) H' → Qd H') :
    ∃ W : Nat → Nat → Hp → Prop, (∃ m, W 0 m (upd H1 D (.lst []))) ∧ ∀ i m H, W i m H →
      ((Itl K a).stop i H ∧ Qd H) ∨ ((Itl K a).go i H ∧ ∃ Nx : Hp → Prop, (∀ H', Nx H' → ∃ m', m' < m ∧ W (i + 1) m' H') ∧ ∀ x H', (Itl K a).yld i H x H' → g x (wipe σ vs) H' fun σ2 H2 => wipe σ2 vs = wipe σ vs ∧ tt σ2 H2 fun b H3 =>
        if b = true then te σ2 H3 fun y H4 => ∃ acc, H4 D = some (.lst acc) ∧ acc.length < sizeLine ∧ Nx (upd H4 D (.lst (acc ++ [y]))) else Nx H3) :=
  lc_list (xs := xs) (fun i H => Lst R H1 D (upTo f i) H) (lst_new nD) (fun i H _ l => l.1.seq hl) (fun i x H hx l => Turn1.step (i := i) hR nD (by
    have := (List.getElem?_eq_some_iff.mp hx).1
    omega) (hs i x hx) l) hd
theorem lc_enumTP (hR : Mn R) {a : Addr} {xs : List V} (nD : H1 D = none) (hn : xs.length ≤ 1000) (hl : SqT K H1 a xs)
    (hs : ∀ i x, xs[i]? = some x → Turn1 R H1 f i fun H' Q N => ∀ T, H' T = none → g (.ref T) (wipe σ vs) (upd H' T (.tup [.int (i : Nat), x])) fun σ2 H2 => wipe σ2 vs = wipe σ vs ∧ tt σ2 H2 fun b H3 => if b = true then te σ2 H3 Q else N H3)
    (hd : ∀ H', Lst R H1 D (upTo f xs.length) H' → Qd H') :
    ∃ W : Nat → Nat → Hp → Prop, (∃ m, W 0 m (upd H1 D (.lst []))) ∧ ∀ i m H, W i m H →
      ((IteT K a).stop i H ∧ Qd H) ∨ ((IteT K a).go i H ∧ ∃ Nx : Hp → Prop, (∀ H', Nx H' → ∃ m', m' < m ∧ W (i + 1) m' H') ∧ ∀ x H', (IteT K a).yld i H x H' → g x (wipe σ vs) H' fun σ2 H2 => wipe σ2 vs = wipe σ vs ∧ tt σ2 H2 fun b H3 =>
        if b = true then te σ2 H3 fun y H4 => ∃ acc, H4 D = some (.lst acc) ∧ acc.length < sizeLine ∧ Nx (upd H4 D (.lst (acc ++ [y]))) else Nx H3) := by
  refine ⟨fun i m H => m = xs.length - i ∧ i ≤ xs.length ∧ Lst R H1 D (upTo f i) H, ⟨xs.length, by simp, Nat.zero_le _, lst_new nD⟩, ?_⟩
  rintro i m H ⟨rfl, hi, l⟩
  have q := sqT_same l.1 hl
  by_cases hlt : i < xs.length
  · refine .inr ⟨⟨xs, xs[i], q, by simp [hlt]⟩, Lst R H1 D (upTo f (i + 1)), fun H' p' => ⟨xs.length - (i + 1), by omega, rfl, hlt, p'⟩, fun x H' y => ?_⟩
    obtain ⟨T, x, rfl, nT, rfl, y⟩ := y
    exact Turn1.step (i := i) hR nD (by omega) (hs i x (y xs q)) l T nT
  · have e : i = xs.length := by omega
    subst e
    exact .inl ⟨⟨xs, q, rfl⟩, hd H l⟩
end
end My
namespace My
open PySem PySem.Spec PyProof.Rows L2
section
variable {X : Cx} {K : PySem.W.Frag}
theorem sl_tupK (h : X.K = K) : SlR X (rSlT K) := h ▸ sl_tup
theorem sl_listK (h : X.K = K) : SlR X (rSlL K) := h ▸ sl_list
def rIxA (K : PySem.W.Frag) : R2 := fun x y H Q => ∃ p xs i v, x = .ref p ∧ y = .int i ∧ (SqL K H p xs ∨ SqT K H p xs) ∧ atI xs i = some v ∧ Q v H
theorem ix_any : IxR X (rIxA X.K) := by
  intro value slice pins s σ H x y v u Q I rx ry h hs
  obtain ⟨p, xs, i, z, e1, e2, hq, he, q⟩ := h
  rcases hq with hq | hq
  · exact ix_list value slice pins s σ H x y v u Q I rx ry ⟨p, xs, i, z, e1, e2, hq, he, q⟩ hs
  · exact ix_tup value slice pins s σ H x y v u Q I rx ry ⟨p, xs, i, z, e1, e2, hq, he, q⟩ hs
theorem ix_anyK (h : X.K = K) : IxR X (rIxA K) := h ▸ ix_any
theorem ix_tupK (h : X.K = K) : IxR X (rIxT K) := h ▸ ix_tup
theorem ix_listK (h : X.K = K) : IxR X (rIxL K) := h ▸ ix_list
theorem op_inK (h : X.K = K) : OpR X (compareOp .In) (rIn K false) := h ▸ op_in_seq
theorem op_eqDK (h : X.K = K) (hu : X.A.units + 64 < cLine) : OpR X (compareOp .Eq) (rEqD K) := h ▸ op_eqD hu
theorem op_neDK (h : X.K = K) (hu : X.A.units + 64 < cLine) : OpR X (compareOp .NotEq) (rNeD K) := h ▸ op_neD hu
theorem call_lenNK (h : X.K = K) : CallR X (.builtin "len") (rLen K) := h ▸ call_lenN
theorem call_isiK' (h : X.K = K) : CallR X (.builtin "isinstance") (rIsi K) := h ▸ call_isi
theorem pe_fldK {e : Expr} {f : Str} {pos : Pos} {ta : TE} (h : X.K = K) (he : PE X e ta) (hb : attributeBase e f X.env (eval e X.env) = eval e X.env) : PE X (.Attribute e f pos) (tFld K ta f) := h ▸ pe_fld he hb
end
end My
namespace My
open PySem PySem.Spec PyProof.Rows L2
/-! ### a set made of a list of ints -/
abbrev bareSet (w : World) : Obj :=
  ⟨.type "set", none, .set #[] 0 (.fresh 0 0 (!w.params.followText "set-order")), #[]⟩
section
variable {P : Program} {w : World} {A : Around} {E : Value → Shared → Prop} {s : Shared}
/-- what the set's own __init__ comes to -/
def Filled (w : World) (s : Shared) (ns : List Int) (u : Value) (s' : Shared) : Prop :=
  u = .none ∧ ∃ (hp : Heap) (tk c : Nat), s' = { s with heap := hp, toks := tk } ∧
    SetR w hp s.heap.objs.size (fun j => decide (j ∈ ns)) c ∧ c ≤ ns.length ∧
    ∀ b o, s.heap.get? b = some o → hp.get? b = some o
theorem set_filled {l : Addr} {zs : Array Value} {ns : List Int} (nh : A.handled = none)
    (hl : s.heap.IsList l zs) (hi : IntsAre zs.toList ns) (room : ns.length + 1 < scanBound) :
    codeAny (model P w) A (.call (.builtin "set.__init__") ⟨[.ref s.heap.objs.size, .ref l], []⟩)
      (wants (Filled w s ns) E) { s with heap := s.heap.push (bareSet w) } := by
  have sz : zs.size = ns.length := by
    have := IntsAre.length hi
    rwa [Array.length_toList] at this
  have here : (s.heap.push (bareSet w)).get? s.heap.objs.size = some (bareSet w) :=
    Heap.get?_push_size _ rfl
  refine codeAny_call_builtin F.called_set.init.plain F.entry_set_init (check_set_init_1 ⟨_, here, rfl⟩ ?_)
  obtain ⟨⟨c1, d1, dt1, sl1⟩, at1, ec, k1, ed⟩ := hl
  dsimp only at ec ed
  subst ec ed
  have at2 : (s.heap.push (bareSet w)).get? l = some ⟨.type "list", d1, .seq zs k1, sl1⟩ :=
    Heap.get?_push_of_some _ at1
  have n1 := F.sub_list_set
  have n2 := F.sub_list_frozenset
  have n3 : (Value.type "list" == Value.type "dict") = false := by decide
  have isl : (s.heap.push (bareSet w)).IsList l zs := ⟨_, at2, rfl, k1, rfl⟩
  have lt : l < s.heap.objs.size := Heap.lt_size at1
  unfold Builtin.«set.__init__» noKeywords Builtin.Frozenset.updateFrom
  generalize ePI : pyIter = PI
  wp_walk
  subst ePI
  refine wpAny_pyIter_list isl (wpAny_bind (wpAny_runValue ?_))
  have nh3 : A.in1.in1.handled = none := by simp [nh]
  have sz1 : (s.heap.push (bareSet w)).objs.size = s.heap.objs.size + 1 := Heap.size_push ..
  have apart : l ≠ (s.heap.push (bareSet w)).objs.size := by
    rw [sz1]
    exact Nat.ne_of_lt (Nat.lt_succ_of_lt lt)
  have fresh : s.heap.objs.size ∉ [(s.heap.push (bareSet w)).objs.size, l] := by
    rw [sz1]
    intro hm
    rcases List.mem_cons.mp hm with z | z
    · exact absurd z (Nat.ne_of_lt (Nat.lt_succ_self _))
    · exact absurd (List.mem_singleton.mp z) (Nat.ne_of_gt lt)
  have each : ∀ (i : Nat) (v : Value), zs[i]? = some v → ∃ k t, ns[i]? = some k ∧ v = .int k t := fun i v hv => by
    have hn : i < ns.length := sz ▸ (Array.getElem?_eq_some_iff.mp hv).1
    obtain ⟨t, e⟩ := IntsAre.int_at hi i v ((Array.getElem?_toList ..).trans hv)
    refine ⟨ns[i], t, List.getElem?_eq_getElem hn, e.trans ?_⟩
    simp [List.getD_eq_getElem?_getD, List.getElem?_eq_getElem hn]
  have got : ((s.heap.push (bareSet w)).push ⟨.type "list_iterator", none, .fields #[.ref l, .int 0 0], #[]⟩).get? s.heap.objs.size = some (bareSet w) :=
    Heap.get?_push_of_some _ here
  refine set_update_ints ((Walks.list nh3 _ l apart zs).toS) s.heap.objs.size fresh ns sz room each (zs.size - 0) 0 _ (by omega)
    (Nat.zero_le _) ?z1 ?z0 fun s2 c mv hc hR => ?_
  case z1 => exact ⟨⟨_, Heap.get?_push_size _ rfl, rfl, rfl⟩, isl.push _⟩
  case z0 => exact ⟨0, Nat.le_refl 0, setR_new_at got⟩
  obtain ⟨hp2, gg, dr, tk, os2⟩ := s2
  have e1 : gg = s.gens := mv.gens
  have e2 : dr = s.drawn := mv.drawn
  have e3 : os2 = s.os := mv.os
  subst e1 e2 e3
  rw [sz] at hc
  show wpAny _ _ _ _ _ _
  refine wpAny_pure ?_
  show wpAny _ _ (ret Value.none) _ _ _
  refine wpAny_pure ⟨rfl, hp2, tk, c, rfl, hR, hc, fun b o e => ?_⟩
  have lb : b < s.heap.objs.size := Heap.lt_size e
  refine mv.heap b o (fun hm => ?_) (Heap.get?_push_of_some _ (Heap.get?_push_of_some _ e))
  rcases List.mem_cons.mp hm with z | hm
  · exact absurd z (Nat.ne_of_lt lb)
  · have z := List.mem_singleton.mp hm
    rw [sz1] at z
    exact absurd z (Nat.ne_of_lt (Nat.lt_succ_of_lt lb))
theorem set_of_list {l : Addr} {zs : Array Value} {ns : List Int} {Q : Value → Shared → Prop} (nh : A.handled = none)
    (hl : s.heap.IsList l zs) (hi : IntsAre zs.toList ns) (room : ns.length + 1 < scanBound)
    (h : ∀ (hp : Heap) (tk c : Nat), SetR w hp s.heap.objs.size (fun j => decide (j ∈ ns)) c → c ≤ ns.length →
      (∀ b o, s.heap.get? b = some o → hp.get? b = some o) → Q (.ref s.heap.objs.size) { s with heap := hp, toks := tk }) :
    wpAny (model P w) A (call (.type "set") [.ref l]) Q E s := by
  obtain ⟨c, tl, hmro⟩ := F.called_set.mro
  have g1 := F.called_set.made
  have g2 := F.called_set.sub
  have g3 := F.called_set.notType
  have g4 := F.called_set.canCreate
  have g5 := F.typeCall_set_1 (.ref l)
  refine wpAny_call (codeAny_of_tree ?_)
  show wpAny _ _ (callAny (.type "set") _) _ _ _
  refine wpAny_pure ⟨Code.quiet_builtin _ (by decide +kernel), codeAny_builtin F.entry_type_call ?_⟩
  rw [Around.under_plain (weight_type_call_type "set" [.ref l] []) rfl]
  repeat any_goals (first | assumption | wp_step)
  refine codeAny_mono (code_set_led1 (.ref l) (E := E)
    (Q₁ := fun obj s₁ => obj = .ref s.heap.objs.size ∧ s₁ = { s with heap := s.heap.push (bareSet w) }) ⟨rfl, rfl⟩) fun r s₁ hr => ?_
  cases r with
  | error e => exact hr
  | ok fl =>
    cases fl with
    | ret obj =>
      obtain ⟨rfl, rfl⟩ := hr
      have here : (s.heap.push (bareSet w)).get? s.heap.objs.size = some (bareSet w) := Heap.get?_push_size _ rfl
      have ty : Shared.TypeIs { s with heap := s.heap.push (bareSet w) } (.ref s.heap.objs.size) "set" := ⟨_, here, rfl⟩
      have g6 := F.called_set.init.lookup
      have g7 := F.called_set.init.bind (.ref s.heap.objs.size)
      repeat any_goals (first | assumption | wp_step)
      refine codeAny_mono (set_filled (E := E) (by simp [nh]) hl hi room) fun r₂ s₂ hr₂ => ?_
      cases r₂ with
      | error e => exact hr₂
      | ok fl₂ =>
        cases fl₂ with
        | ret r =>
          obtain ⟨rfl, hp, tk, c', rfl, f1, f2, f3⟩ := hr₂
          repeat any_goals (first | assumption | wp_step)
          exact h hp tk c' f1 f2 f3
        | _ => exact hr₂.elim
    | _ => exact hr.elim
end
/-- set(xs), xs a list of ints -/
def rSetOfI (K : PySem.W.Frag) (w : World) : List V → Hp → VK → Prop := fun xs H Q => ∃ (l : Addr) (ns : List Int), xs = [V.ref l] ∧ SqL K H l (ns.map V.int) ∧ ns.length ≤ 1000 ∧
  ∀ p c, H p = none → c ≤ ns.length → Q (.ref p) (upd H p (SetO w p (fun j => decide (j ∈ ns)) c))
theorem cr_setOfI {X : Cx} (hc : X.calm = true) : CallR X (.type "set") (rSetOfI X.K X.w) := by
  intro pins s σ H xs us Q I r h
  obtain ⟨l, ns, rfl, hq, hn, q⟩ := h
  rw [Vals.ref1 r]
  obtain ⟨its, rv, pl, hz⟩ := I.list hq
  refine set_of_list (I.ok.hd hc) pl.isList (by simpa using intsAre_of rv) (by unfold scanBound; omega) fun hp tk c hR cl kp => ?_
  exact ⟨.ref s.heap.objs.size, _, I.laid (t' := tk) kp (Nat.le_refl _) (setO_new hR), rfl, q _ c (I.hok.fresh (Nat.le_refl _)) cl⟩
end My
namespace My
open PySem PySem.Spec PyProof.Rows L2
/-- the data of roots told -/
theorem room65 {k : Nat} {A : Around} (r : Room k A) : A.units + 65 < cLine := by
  have := r.un
  omega
def rInDT (K : PySem.W.Frag) : R2 := fun x y H Q => ∃ d ds, Dp K H x d ∧ Dp K H y (.tuple ds) ∧ SeqAt.shaped d = true ∧ SeqAt.shaped (.tuple ds) = true ∧ Q (.bl (ds.any fun z => PyData.eqv z d)) H
theorem op_inDT {X : Cx} (hu : X.A.units + 65 < cLine) : OpR X (compareOp .In) (rInDT X.K) := by
  intro pins s σ H x y v u Q I rx ry h
  obtain ⟨d, ds, hd, he, sd, se, q⟩ := h
  obtain ⟨as, r1⟩ := Dp.reads I d x v hd rx
  obtain ⟨bs, r2⟩ := Dp.reads I (.tuple ds) y u he ry
  exact SeqAt.in_tuple_reads r2 r1 (SeqAt.canLay_of_shaped se) (SeqAt.canLay_of_shaped sd) (room_in_shaped sd hu) ⟨.bl _, H, I, rfl, q⟩
theorem op_inDTK {X : Cx} {K : PySem.W.Frag} (h : X.K = K) (hu : X.A.units + 65 < cLine) : OpR X (compareOp .In) (rInDT K) := h ▸ op_inDT hu
end My
namespace My
open PySem PySem.Spec PyProof.Rows L2
/-! ### a list or a tuple walked -/
def iSeqA (K : PySem.W.Frag) (te : TE) : TI := fun σ H R => te σ H fun x H1 => ∃ a, x = .ref a ∧ (((∃ xs, SqL K H1 a xs) ∧ R (Itl K a) H1) ∨ ((∃ xs, SqT K H1 a xs) ∧ R (Itt K a) H1))
theorem pi_seqA {X : Cx} {tg l : Expr} {tl : TE} (hl : PE X l tl) : PI X tg l (iSeqA X.K tl) := by
  refine ⟨fun pins s σ H R I h => ?_⟩
  refine thn (hl.run pins s σ H _ I h) fun v s1 ⟨x, H1, I1, r1, q1⟩ => ?_
  obtain ⟨a, e, q⟩ := q1
  subst e
  cases r1
  rcases q with ⟨⟨xs, hq⟩, q⟩ | ⟨⟨xs, hq⟩, q⟩
  · obtain ⟨its, rv, p, hz⟩ := I1.list hq
    refine wpAny_pyIter_list p.isList ?_
    refine ⟨s1.heap.objs.size, [s1.heap.objs.size], _, _, H1, rfl, I1.kept (t' := s1.toks) fun b o e => Heap.get?_push_of_some _ e, turn_list a _, ⟨_, Heap.get?_push_size _ rfl, rfl, rfl⟩, fun b hb => ?_, q⟩
    have e : b = s1.heap.objs.size := by simpa using hb
    subst e
    exact I1.fpOk (Nat.le_refl _) (I1.hok.fresh (Nat.le_refl _))
  · obtain ⟨its, rv, p, hz⟩ := I1.tuple hq
    refine wpAny_pyIter_tuple (show s1.heap.IsTuple a its.toArray from p) ?_
    refine ⟨s1.heap.objs.size, [s1.heap.objs.size], _, _, H1, rfl, I1.kept (t' := s1.toks) fun b o e => Heap.get?_push_of_some _ e, turn_tuple a _, ⟨_, Heap.get?_push_size _ rfl, rfl, rfl⟩, fun b hb => ?_, q⟩
    have e : b = s1.heap.objs.size := by simpa using hb
    subst e
    exact I1.fpOk (Nat.le_refl _) (I1.hok.fresh (Nat.le_refl _))
variable {K : PySem.W.Frag}
theorem rd_seqA {te : TE} {σ : L2.St} {H : Hp} {R : It → Hp → Prop} (h : te σ H fun x H1 => ∃ a, x = .ref a ∧ (((∃ xs, SqL K H1 a xs) ∧ R (Itl K a) H1) ∨ ((∃ xs, SqT K H1 a xs) ∧ R (Itt K a) H1))) : iSeqA K te σ H R := h
/-- an address of a list or a tuple of these values -/
def Sq (K : PySem.W.Frag) (H : Hp) (a : Addr) (xs : List V) : Prop := SqL K H a xs ∨ SqT K H a xs
theorem Sq.same {H H' : Hp} {a : Addr} {xs : List V} (s : Same H H') (h : Sq K H a xs) : Sq K H' a xs := h.imp (Same.seq s) (sqT_same s)
theorem Sq.l {H : Hp} {a : Addr} {xs : List V} (h : H a = some (.lst xs)) : Sq K H a xs := .inl (.of h)
theorem Sq.t {H : Hp} {a : Addr} {xs : List V} (h : H a = some (.tup xs)) : Sq K H a xs := .inr (.of h)
section
variable {α : Type} {R : Hp → V → α → Prop} {g : TG} {tt : TT} {te : TE} {vs : List Nat} {σ : L2.St} {H1 : Hp} {Qd : Addr → Hp → Prop} {f : Nat → Option α}
theorem lc_seqA (hR : Mn R) {a : Addr} {xs : List V} (hn : xs.length ≤ 1000) (hl : Sq K H1 a xs)
    (hs : ∀ i x, xs[i]? = some x → Turn1 R H1 f i fun H' Q N => g x (wipe σ vs) H' fun σ2 H2 => wipe σ2 vs = wipe σ vs ∧ tt σ2 H2 fun b H3 => if b = true then te σ2 H3 Q else N H3)
    (hd : ∀ D H', Lst R H1 D (upTo f xs.length) H' → Qd D H') {RR : It → Hp → Prop}
    (hRR : RR = fun J H1 => ∀ D, H1 D = none → ∃ W : Nat → Nat → Hp → Prop, (∃ m, W 0 m (upd H1 D (.lst []))) ∧ ∀ i m H, W i m H →
      (J.stop i H ∧ Qd D H) ∨ (J.go i H ∧ ∃ Nx : Hp → Prop, (∀ H', Nx H' → ∃ m', m' < m ∧ W (i + 1) m' H') ∧ ∀ x H', J.yld i H x H' → g x (wipe σ vs) H' fun σ2 H2 => wipe σ2 vs = wipe σ vs ∧ tt σ2 H2 fun b H3 =>
        if b = true then te σ2 H3 fun y H4 => ∃ acc, H4 D = some (.lst acc) ∧ acc.length < sizeLine ∧ Nx (upd H4 D (.lst (acc ++ [y]))) else Nx H3)) :
    ((∃ xs, SqL K H1 a xs) ∧ RR (Itl K a) H1) ∨ ((∃ xs, SqT K H1 a xs) ∧ RR (Itt K a) H1) := by
  subst hRR
  rcases hl with hl | hl
  · exact .inl ⟨⟨_, hl⟩, fun D nD => lc_listP hR nD hn hl hs fun H' l => hd D H' l⟩
  · exact .inr ⟨⟨_, hl⟩, fun D nD => lc_tupP hR nD hn hl hs fun H' l => hd D H' l⟩
end
section
variable {g : TG} {tb : TS} {D : Ends} {σ : L2.St} {H : Hp}
theorem for_seqA {H0 : Hp} {a : Addr} {xs : List V} (Pv : Nat → L2.St → Hp → Prop) (h : Sq K H0 a xs) (h0 : Pv 0 σ H) (hl : ∀ i σ' H', Pv i σ' H' → Same H0 H')
    (hs : ∀ i x σ H, xs[i]? = some x → Pv i σ H → g x σ H fun σ2 H2 => tb { D with nx := Pv (i + 1), ct := Pv (i + 1), bk := D.nx } σ2 H2) (hd : ∀ σ H, Pv xs.length σ H → D.nx σ H) {RR : It → Hp → Prop}
    (hRR : RR = fun J H1 => ∃ W : Nat → Nat → L2.St → Hp → Prop, (∃ m, W 0 m σ H1) ∧ ∀ i m σ H, W i m σ H →
      (J.stop i H ∧ D.nx σ H) ∨ (J.go i H ∧ ∃ N : L2.St → Hp → Prop, (∀ σ' H', N σ' H' → ∃ m', m' < m ∧ W (i + 1) m' σ' H') ∧ ∀ x H', J.yld i H x H' → g x σ H' fun σ2 H2 => tb { D with nx := N, ct := N, bk := D.nx } σ2 H2)) :
    ((∃ xs, SqL K H a xs) ∧ RR (Itl K a) H) ∨ ((∃ xs, SqT K H a xs) ∧ RR (Itt K a) H) := by
  subst hRR
  rcases h with h | h
  · exact .inl ⟨⟨_, (hl 0 σ H h0).seq h⟩, for_list Pv h0 (fun i σ' H' hi p => (hl i σ' H' p).seq h) hs hd⟩
  · exact .inr ⟨⟨_, sqT_same (hl 0 σ H h0) h⟩, for_tup Pv h0 (fun i σ' H' hi p => sqT_same (hl i σ' H' p) h) hs hd⟩
end
end My
namespace My
open PySem PySem.Spec PyProof.Rows L2
/-! ### zip of a tuple and a list -/
abbrev zmH1 (h : Heap) (l1 : Addr) : Heap := h.push { cls := .type "tuple_iterator", data := .fields #[.ref l1, .int 0 0] }
abbrev zmH2 (h : Heap) (l1 l2 : Addr) : Heap := (zmH1 h l1).push { cls := .type "list_iterator", data := .fields #[.ref l2, .int 0 0] }
abbrev zmH3 (h : Heap) (l1 l2 : Addr) : Heap := (zmH2 h l1 l2).push { cls := .type "tuple", data := .seq #[.ref h.objs.size, .ref (zmH1 h l1).objs.size] }
abbrev zmH4 (h : Heap) (l1 l2 : Addr) : Heap := (zmH3 h l1 l2).push { cls := .type "tuple", data := .seq #[.none, .none] }
abbrev zmH5 (h : Heap) (l1 l2 : Addr) : Heap := (zmH4 h l1 l2).push { cls := .type "zip", data := .fields #[.none, .bool false, .bool false, .ref (zmH2 h l1 l2).objs.size, .ref (zmH3 h l1 l2).objs.size] }
theorem meets_zm_new (l1 l2 : Addr) (xs ys : Array Value) :
    Meets (Builtin.«zip.__new__» ⟨[.type "zip", .ref l1, .ref l2], []⟩) (fun _ R s => s.heap.IsTuple l1 xs ∧ s.heap.IsList l2 ys ∧
      R (.ok (.ret (.ref (zmH4 s.heap l1 l2).objs.size))) { s with heap := zmH5 s.heap l1 l2 }) :=
  .of_wp fun prog w A R s h => by
    obtain ⟨hp, g, d, tk, os⟩ := s
    obtain ⟨hl1, hl2, h⟩ := h
    have hsub := sub_zip
    have hL1 : Heap.IsTuple (Shared.heap ⟨hp, g, d, tk, os⟩) l1 xs := hl1
    have hL2 : Heap.IsList (Shared.heap ⟨hp.push { cls := .type "tuple_iterator", data := .fields #[.ref l1, .int 0 0] }, g, d, tk, os⟩) l2 ys := Heap.IsList.push hl2 _
    wp_walk using wpAny_pyIter_tuple hL1, wpAny_pyIter_list hL2
    exact ⟨_, rfl, h⟩
section
variable {prog : Program} {w : World} {A : Around} {E : Value → Shared → Prop} {s : Shared}
theorem call_zm {l1 l2 : Addr} {xs ys : Array Value} {Q : Value → Shared → Prop} (hl1 : s.heap.IsTuple l1 xs) (hl2 : s.heap.IsList l2 ys)
    (h : ∀ h', IsZip h' (s.heap.objs.size + 4) (s.heap.objs.size + 2) (s.heap.objs.size + 3) .none → IsPair h' (s.heap.objs.size + 2) (.ref s.heap.objs.size) (.ref (s.heap.objs.size + 1)) →
      IsPair h' (s.heap.objs.size + 3) .none .none → h'.IsTupleIter s.heap.objs.size l1 0 → h'.IsListIter (s.heap.objs.size + 1) l2 0 → h'.objs.size = s.heap.objs.size + 5 →
      (∀ c o, s.heap.get? c = some o → h'.get? c = some o) → Q (.ref (s.heap.objs.size + 4)) { s with heap := h' }) :
    wpAny (model prog w) A (call (.type "zip") [.ref l1, .ref l2]) Q E s := by
  refine callType_new F.called_zip (by decide) (F.typeCall_zip_2 _ _) (F.newCall_zip_2 _ _) (fun obj => F.args_object_init_3 obj _ _) F.entry_zip_new
    (meets_zm_new l1 l2 xs ys) ⟨hl1, hl2, ?_⟩
  have z1 : (zmH1 s.heap l1).objs.size = s.heap.objs.size + 1 := Heap.size_push ..
  have z2 : (zmH2 s.heap l1 l2).objs.size = s.heap.objs.size + 2 := by rw [Heap.size_push, z1]
  have z3 : (zmH3 s.heap l1 l2).objs.size = s.heap.objs.size + 3 := by rw [Heap.size_push, z2]
  have z4 : (zmH4 s.heap l1 l2).objs.size = s.heap.objs.size + 4 := by rw [Heap.size_push, z3]
  have z5 : (zmH5 s.heap l1 l2).objs.size = s.heap.objs.size + 5 := by rw [Heap.size_push, z4]
  have g5 : (zmH5 s.heap l1 l2).get? (zmH4 s.heap l1 l2).objs.size = some _ := Heap.get?_push_size _ rfl
  have g4 : (zmH5 s.heap l1 l2).get? (zmH3 s.heap l1 l2).objs.size = some _ := Heap.get?_push_of_some _ (Heap.get?_push_size _ rfl)
  have g3 : (zmH5 s.heap l1 l2).get? (zmH2 s.heap l1 l2).objs.size = some _ := Heap.get?_push_of_some _ (Heap.get?_push_of_some _ (Heap.get?_push_size _ rfl))
  have g2 : (zmH5 s.heap l1 l2).get? (zmH1 s.heap l1).objs.size = some _ := Heap.get?_push_of_some _ (Heap.get?_push_of_some _ (Heap.get?_push_of_some _ (Heap.get?_push_size _ rfl)))
  have g1 : (zmH5 s.heap l1 l2).get? s.heap.objs.size = some _ := Heap.get?_push_of_some _ (Heap.get?_push_of_some _ (Heap.get?_push_of_some _ (Heap.get?_push_of_some _ (Heap.get?_push_size _ rfl))))
  show _ ∧ _
  rw [z2, z3, z4] at g5
  rw [z1, z2] at g3
  rw [z3] at g4
  rw [z1] at g2
  rw [z4]
  exact ⟨⟨_, g5, rfl⟩, h _ g5 g3 g4 ⟨_, g1, rfl, rfl⟩ ⟨_, g2, rfl, rfl⟩ z5 fun c o x =>
    Heap.get?_push_of_some _ (Heap.get?_push_of_some _ (Heap.get?_push_of_some _ (Heap.get?_push_of_some _ (Heap.get?_push_of_some _ x))))⟩
end
def ItzM (K : PySem.W.Frag) (a b : Addr) : It :=
  ⟨fun i H => ∃ (xs ys : List V) (x y : V), SqT K H a xs ∧ SqL K H b ys ∧ xs[i]? = some x ∧ ys[i]? = some y,
    fun i H v H' => ∃ T x y, v = .ref T ∧ H T = none ∧ H' = upd H T (.tup [x, y]) ∧ (∀ xs, SqT K H a xs → xs[i]? = some x) ∧ ∀ ys, SqL K H b ys → ys[i]? = some y,
    fun i H => ∃ xs ys : List V, SqT K H a xs ∧ SqL K H b ys ∧ (xs.length = i ∧ i ≤ ys.length)⟩
theorem zip_sep {z TI TO i1 i2 a b : Addr} (D : ZipApart z TI TO i1 i2 a b) : ZipSep2 z TI TO i1 i2 [i1, a] [i2, b] where
  TIz := D.TIz
  TOz := D.TOz
  TITO := D.TITO
  TIi1 := D.TIi1
  mem1 := by simp
  zf1 := by
    simp
    exact ⟨D.i1z.symm, D.l1z.symm⟩
  Tf1 := by
    simp
    exact ⟨D.TOi1, D.l1TO.symm⟩
  TIi2 := D.TIi2
  mem2 := by simp
  zf2 := by
    simp
    exact ⟨D.i2z.symm, D.l2z.symm⟩
  Tf2 := by
    simp
    exact ⟨D.TOi2, D.l2TO.symm⟩
  sep1_2 := by
    simp
    exact ⟨D.i12, D.l2i1.symm⟩
  sep2_1 := by
    simp
    exact ⟨D.i12.symm, D.l1i2.symm⟩
theorem turn_zm {P : Program} {w : World} {K : PySem.W.Frag} {elts : List Expr} {kk : Nat} {tpos : Pos} {a b z TI TO i1 i2 : Addr} (D : ZipApart z TI TO i1 i2 a b) :
    Turn P w K (.Tuple elts kk tpos) (ItzM K a b) [z, TI, TO, i1, i2] z (fun i h => IsZip h z TI TO .none ∧ IsPair h TI (.ref i1) (.ref i2) ∧ (∃ x y, IsPair h TO x y) ∧ h.IsTupleIter i1 a i ∧ h.IsListIter i2 b i) where
  mem := by simp
  obj := fun i h st c hc => by
    obtain ⟨hz, hTI, ⟨x, y, hTO⟩, ⟨o1, e1, _, d1⟩, ⟨o2, e2, _, d2⟩⟩ := st
    have e' : c = z ∨ c = TI ∨ c = TO ∨ c = i1 ∨ c = i2 := by simpa using hc
    rcases e' with q | q | q | q | q
    · rw [q]; exact ⟨_, hz, fun v q => nomatch q⟩
    · rw [q]; exact ⟨_, hTI, fun v q => nomatch q⟩
    · rw [q]; exact ⟨_, hTO, fun v q => nomatch q⟩
    · rw [q]; exact ⟨o1, e1, fun v q => by rw [d1] at q; cases q⟩
    · rw [q]; exact ⟨o2, e2, fun v q => by rw [d2] at q; cases q⟩
  keep := fun i h h' st k => by
    obtain ⟨hz, hTI, ⟨x, y, hTO⟩, h1, h2⟩ := st
    exact ⟨k z (by simp) _ hz, k TI (by simp) _ hTI, ⟨x, y, k TO (by simp) _ hTO⟩, h1.at fun o q => k i1 (by simp) o q, h2.at fun o q => k i2 (by simp) o q⟩
  item := by
    intro X hP hw hK hc i pins s σ H E I hf st hg
    subst hP hw hK
    obtain ⟨hz, hTI, ⟨x0, y0, hTO⟩, h1, h2⟩ := st
    obtain ⟨xs, ys, x, y, hqx, hqy, hx, hy⟩ := hg
    obtain ⟨its, rv, p, _⟩ := I.tuple hqx
    obtain ⟨its2, rv2, p2, _⟩ := I.list hqy
    obtain ⟨u, hu, ru⟩ := rv.get hx
    obtain ⟨u2, hu2, ru2⟩ := rv2.get hy
    have hzl : z < s.heap.objs.size := Heap.lt_size hz
    have hh : X.A.in1.handled = none := I.ok.hd hc
    have D1 := tupDraws (prog := X.prog) (w := X.w) (A := X.A.in1) (its := its.toArray) hh D.l1i1
    have D2 := Draws.list (prog := X.prog) (w := X.w) (A := X.A.in1) hh i2 b D.l2i2 its2.toArray
    have n1 : i < its.toArray.size := by
      have := (List.getElem?_eq_some_iff.mp hu).1
      simpa using this
    have n2 : i < its2.toArray.size := by
      have := (List.getElem?_eq_some_iff.mp hu2).1
      simpa using this
    refine wpAny_pyNext_zipD2_item (zip_sep D) D1 D2 hz hTI hTO ⟨h1, p⟩ ⟨h2, p2.isList⟩ n1 n2 fun v1 v2 h' tk e1 e2 z' TO' h1' h2' hT hsz hk => ?_
    obtain rfl : u = v1 := by
      have e3 : its.toArray[i]? = some u := by simpa using hu
      exact Option.some.inj (e3.symm.trans e1)
    obtain rfl : u2 = v2 := by
      have e3 : its2.toArray[i]? = some u2 := by simpa using hu2
      exact Option.some.inj (e3.symm.trans e2)
    refine ⟨_, rfl, wpAny_letOwnedTupleGo_zip (s := { s with heap := h', toks := tk }) z' fun h'' z'' sb => ?_⟩
    have hT2 : h''.get? s.heap.objs.size = some { cls := .type "tuple", data := .seq #[u, u2] } := (sb.2 _ (Nat.ne_of_gt hzl)).trans hT
    have new : ObjOk X.prog X.w (upd H s.heap.objs.size (.tup [x, y])) h'' s.heap.objs.size (.tup [x, y]) :=
      ⟨by show 2 ≤ sizeLine; decide, [u, u2], .cons ru (.cons ru2 .nil), ⟨_, hT2, rfl, _, rfl⟩⟩
    have I1 : Inv X pins σ (upd H s.heap.objs.size (.tup [x, y])) { s with heap := h'', toks := tk } :=
      I.turnedNew (t' := tk) (ch := [z, TI, TO, i1, i2]) (fun c o hb q => (sb.2 c (fun q' => hb (by simp [q']))).trans (hk c o (fun q' => hb (by simp [q'])) (fun q' => hb (by simp [q'])) (fun q' => hb (by simp [q'])) (fun q' => hb (by simp [q'])) q)) hf (Nat.le_refl _) new
    refine ⟨.ref s.heap.objs.size, _, I1, rfl, ⟨_, x, y, rfl, I.hok.fresh (Nat.le_refl _), rfl, fun l hl => by rw [I.tuple_inj hl hqx]; exact hx, fun l hl => by rw [I.list_inj hl hqy]; exact hy⟩, ⟨z'', ?_, ⟨u, u2, ?_⟩, ?_, ?_⟩, fun c hcm => ?_⟩
    · exact (sb.2 _ D.TIz).trans (hk _ _ D.TIz D.TITO D.TIi1 D.TIi2 hTI)
    · exact (sb.2 _ D.TOz).trans TO'
    · exact Heap.IsTupleIter.at (show h'.IsTupleIter i1 a (i + 1) from h1'.1) fun o q => (sb.2 _ D.i1z).trans q
    · exact h2'.1.at fun o q => (sb.2 _ D.i2z).trans q
    · have hlt : c < s.heap.objs.size := by
        have e' : c = z ∨ c = TI ∨ c = TO ∨ c = i1 ∨ c = i2 := by simpa using hcm
        rcases e' with q | q | q | q | q
        · rw [q]; exact hzl
        · rw [q]; exact Heap.lt_size hTI
        · rw [q]; exact Heap.lt_size hTO
        · rw [q]; obtain ⟨_, e1, _⟩ := h1; exact Heap.lt_size e1
        · rw [q]; obtain ⟨_, e2, _⟩ := h2; exact Heap.lt_size e2
      rw [upd_ne (Nat.ne_of_lt hlt)]
      exact (hf c hcm).1
  done := by
    intro X hP hw hK hc i pins s σ H E I hf st hg
    subst hP hw hK
    obtain ⟨hz, hTI, ⟨x0, y0, hTO⟩, h1, h2⟩ := st
    obtain ⟨xs, ys, hqx, hqy, hend⟩ := hg
    obtain ⟨its, rv, p, _⟩ := I.tuple hqx
    obtain ⟨its2, rv2, p2, _⟩ := I.list hqy
    have l1 := rv.length
    have l2 := rv2.length
    have hh : X.A.in1.handled = none := I.ok.hd hc
    have D1 := tupDraws (prog := X.prog) (w := X.w) (A := X.A.in1) (its := its.toArray) hh D.l1i1
    have D2 := Draws.list (prog := X.prog) (w := X.w) (A := X.A.in1) hh i2 b D.l2i2 its2.toArray
    exact wpAny_pyNext_zipD2_end (zip_sep D) D1 D2 hz hTI hTO ⟨h1, p⟩ ⟨h2, p2.isList⟩ (by simp; omega) (by simp; omega) (.inl (by simp; omega)) fun h' tk hk => ⟨rfl, I.turnedL (t' := tk) (ch := [z, TI, TO, i1, i2]) (fun c o hb q =>
      hk c o (fun q' => hb (by simp [q'])) (fun q' => hb (by simp [q'])) (fun q' => hb (by simp [q'])) (fun q' => hb (by simp [q'])) q) hf⟩
  self := fun A i s Q E st h => wpAny_pyIter_zip st.1 h
def iZipM (K : PySem.W.Frag) (ta : TA) : TI := fun σ H R => ta σ H fun vs H1 => ∃ a b xs ys, vs = [.ref a, .ref b] ∧ SqT K H1 a xs ∧ ((SqL K H1 b ys ∧ R (ItzM K a b) H1) ∨ (SqT K H1 b ys ∧ R (RZ.ItzT K a b) H1))
theorem pi_zipM {X : Cx} {e e2 : Expr} {ta : TA} {p pos tpos : Pos} {elts : List Expr} {kk : Nat} (hg : Gl X "zip") (hm : X.mg "zip" = none) (ha : PA X [e, e2] ta)
    (hs : starEach [e, e2] X.env = (false, eval e X.env) :: starEach [e2] X.env := by rfl) (hpl : (backTo pos (starEach [e2] X.env)).any (·.1) = false := by rfl) :
    PI X (.Tuple elts kk tpos) (.Call (.Name "zip" p) [e, e2] [] pos) (iZipM X.K ta) := by
  refine ⟨fun pins s σ H R I h => ?_⟩
  refine Call_ (ld_blt I hg hm PyProof.Rows.boot_zip (PyProof.Rows.callWith_type1 (thn (ha.run pos pins s σ H _ I h) fun us s1 ⟨vs, H1, I1, r1, q1⟩ => ?_) hs hpl))
  obtain ⟨a, b, xs, ys, ex, hqx, q1⟩ := q1
  subst ex
  cases r1 with
  | cons r rr =>
    cases rr with
    | cons r' rr =>
      cases rr
      cases r
      cases r'
      have fresh5 : ∀ c, c ∈ [s1.heap.objs.size + 4, s1.heap.objs.size + 2, s1.heap.objs.size + 3, s1.heap.objs.size, s1.heap.objs.size + 1] → FpOk X pins H1 c := fun c hcm => by
        have e' : c = s1.heap.objs.size + 4 ∨ c = s1.heap.objs.size + 2 ∨ c = s1.heap.objs.size + 3 ∨ c = s1.heap.objs.size ∨ c = s1.heap.objs.size + 1 := by simpa using hcm
        have hle : s1.heap.objs.size ≤ c := by
          rcases e' with z | z | z | z | z
          · rw [z]; exact Nat.le_add_right _ _
          · rw [z]; exact Nat.le_add_right _ _
          · rw [z]; exact Nat.le_add_right _ _
          · rw [z]; exact Nat.le_refl _
          · rw [z]; exact Nat.le_add_right _ _
        exact I1.fpOk hle (I1.hok.fresh hle)
      obtain ⟨its, rv, p1, _⟩ := I1.tuple hqx
      obtain ⟨o1, ho1, _⟩ := id p1
      rcases q1 with ⟨hqy, q⟩ | ⟨hqy, q⟩
      · obtain ⟨its2, rv2, p2, _⟩ := I1.list hqy
        refine call_zm (show s1.heap.IsTuple a its.toArray from p1) p2.isList fun h' hz hTI hTO h1 h2 hsz hk => wpAny_pyIter_zip hz ?_
        have I2 : Inv X pins σ H1 { s1 with heap := h' } := I1.kept (t' := s1.toks) hk
        exact ⟨s1.heap.objs.size + 4, [s1.heap.objs.size + 4, s1.heap.objs.size + 2, s1.heap.objs.size + 3, s1.heap.objs.size, s1.heap.objs.size + 1], _, _, H1, rfl, I2, turn_zm (PySem.W.ktu_apart s1.heap.objs.size a b (Heap.lt_size ho1) p2.lt), ⟨hz, hTI, ⟨_, _, hTO⟩, h1, h2⟩, fresh5, q⟩
      · obtain ⟨its2, rv2, p2, _⟩ := I1.tuple hqy
        obtain ⟨o2, ho2, _⟩ := id p2
        refine RZ.call_zipT (show s1.heap.IsTuple a its.toArray from p1) (show s1.heap.IsTuple b its2.toArray from p2) fun h' hz hTI hTO h1 h2 hsz hk => wpAny_pyIter_zip hz ?_
        have I2 : Inv X pins σ H1 { s1 with heap := h' } := I1.kept (t' := s1.toks) hk
        exact ⟨s1.heap.objs.size + 4, [s1.heap.objs.size + 4, s1.heap.objs.size + 2, s1.heap.objs.size + 3, s1.heap.objs.size, s1.heap.objs.size + 1], _, _, H1, rfl, I2, RZ.turn_zipT (PySem.W.ktu_apart s1.heap.objs.size a b (Heap.lt_size ho1) (Heap.lt_size ho2)), ⟨hz, hTI, ⟨_, _, hTO⟩, h1, h2⟩, fresh5, q⟩
variable {K : PySem.W.Frag}
theorem rd_zipM {ta : TA} {σ : L2.St} {H : Hp} {R : It → Hp → Prop} (h : ta σ H fun vs H1 => ∃ a b xs ys, vs = [.ref a, .ref b] ∧ SqT K H1 a xs ∧ ((SqL K H1 b ys ∧ R (ItzM K a b) H1) ∨ (SqT K H1 b ys ∧ R (RZ.ItzT K a b) H1))) : iZipM K ta σ H R := h
section
variable {α : Type} {R : Hp → V → α → Prop} {g : TG} {tt : TT} {te : TE} {vs : List Nat} {σ : L2.St} {H1 : Hp} {Qd : Addr → Hp → Prop} {f : Nat → Option α}
/-- a comprehension over zip of a tuple and a list or a tuple of the same length -/
theorem lc_zipM (hR : Mn R) {a b : Addr} {xs ys : List V} (hn : xs.length ≤ 1000) (hlen : xs.length = ys.length) (ha : SqT K H1 a xs) (hb : Sq K H1 b ys)
    (hs : ∀ i x y, xs[i]? = some x → ys[i]? = some y → Turn1 R H1 f i fun H' Q N => ∀ T, H' T = none → g (.ref T) (wipe σ vs) (upd H' T (.tup [x, y])) fun σ2 H2 => wipe σ2 vs = wipe σ vs ∧ tt σ2 H2 fun b H3 => if b = true then te σ2 H3 Q else N H3)
    (hd : ∀ D H', Lst R H1 D (upTo f xs.length) H' → Qd D H') {RR : It → Hp → Prop}
    (hRR : RR = fun J H1 => ∀ D, H1 D = none → ∃ W : Nat → Nat → Hp → Prop, (∃ m, W 0 m (upd H1 D (.lst []))) ∧ ∀ i m H, W i m H →
      (J.stop i H ∧ Qd D H) ∨ (J.go i H ∧ ∃ Nx : Hp → Prop, (∀ H', Nx H' → ∃ m', m' < m ∧ W (i + 1) m' H') ∧ ∀ x H', J.yld i H x H' → g x (wipe σ vs) H' fun σ2 H2 => wipe σ2 vs = wipe σ vs ∧ tt σ2 H2 fun b H3 =>
        if b = true then te σ2 H3 fun y H4 => ∃ acc, H4 D = some (.lst acc) ∧ acc.length < sizeLine ∧ Nx (upd H4 D (.lst (acc ++ [y]))) else Nx H3)) :
    (SqL K H1 b ys ∧ RR (ItzM K a b) H1) ∨ (SqT K H1 b ys ∧ RR (RZ.ItzT K a b) H1) := by
  subst hRR
  rcases hb with hb | hb
  · refine .inl ⟨hb, fun D nD => ?_⟩
    refine ⟨fun i m H => m = xs.length - i ∧ i ≤ xs.length ∧ Lst R H1 D (upTo f i) H, ⟨xs.length, by simp, Nat.zero_le _, lst_new nD⟩, ?_⟩
    rintro i m H ⟨rfl, hi, l⟩
    have qa := sqT_same l.1 ha
    have qb := l.1.seq hb
    by_cases hlt : i < xs.length
    · refine .inr ⟨⟨xs, ys, xs[i], ys[i], qa, qb, by simp [hlt], by simp⟩, Lst R H1 D (upTo f (i + 1)), fun H' p' => ⟨xs.length - (i + 1), by omega, rfl, hlt, p'⟩, fun x H' y => ?_⟩
      obtain ⟨T, x, y, rfl, nT, rfl, hx, hy⟩ := y
      exact Turn1.step (i := i) hR nD (by omega) (hs i x y (hx xs qa) (hy ys qb)) l T nT
    · have e : i = xs.length := by omega
      subst e
      exact .inl ⟨⟨xs, ys, qa, qb, rfl, by omega⟩, hd D H l⟩
  · refine .inr ⟨hb, fun D nD => ?_⟩
    refine ⟨fun i m H => m = xs.length - i ∧ i ≤ xs.length ∧ Lst R H1 D (upTo f i) H, ⟨xs.length, by simp, Nat.zero_le _, lst_new nD⟩, ?_⟩
    rintro i m H ⟨rfl, hi, l⟩
    have qa := sqT_same l.1 ha
    have qb := sqT_same l.1 hb
    by_cases hlt : i < xs.length
    · refine .inr ⟨⟨xs, ys, xs[i], ys[i], qa, qb, by simp [hlt], by simp⟩, Lst R H1 D (upTo f (i + 1)), fun H' p' => ⟨xs.length - (i + 1), by omega, rfl, hlt, p'⟩, fun x H' y => ?_⟩
      obtain ⟨T, x, y, rfl, nT, rfl, hx, hy⟩ := y
      exact Turn1.step (i := i) hR nD (by omega) (hs i x y (hx xs qa) (hy ys qb)) l T nT
    · have e : i = xs.length := by omega
      subst e
      exact .inl ⟨⟨xs, ys, qa, qb, .inl (Nat.le_refl _)⟩, hd D H l⟩
end
end My
namespace My
open PySem PySem.Spec PyProof.Rows L2
/-! ### zip of a list and a tuple -/
abbrev znH1 (h : Heap) (l1 : Addr) : Heap := h.push { cls := .type "list_iterator", data := .fields #[.ref l1, .int 0 0] }
abbrev znH2 (h : Heap) (l1 l2 : Addr) : Heap := (znH1 h l1).push { cls := .type "tuple_iterator", data := .fields #[.ref l2, .int 0 0] }
abbrev znH3 (h : Heap) (l1 l2 : Addr) : Heap := (znH2 h l1 l2).push { cls := .type "tuple", data := .seq #[.ref h.objs.size, .ref (znH1 h l1).objs.size] }
abbrev znH4 (h : Heap) (l1 l2 : Addr) : Heap := (znH3 h l1 l2).push { cls := .type "tuple", data := .seq #[.none, .none] }
abbrev znH5 (h : Heap) (l1 l2 : Addr) : Heap := (znH4 h l1 l2).push { cls := .type "zip", data := .fields #[.none, .bool false, .bool false, .ref (znH2 h l1 l2).objs.size, .ref (znH3 h l1 l2).objs.size] }
theorem meets_zn_new (l1 l2 : Addr) (xs ys : Array Value) :
    Meets (Builtin.«zip.__new__» ⟨[.type "zip", .ref l1, .ref l2], []⟩) (fun _ R s => s.heap.IsList l1 xs ∧ s.heap.IsTuple l2 ys ∧
      R (.ok (.ret (.ref (znH4 s.heap l1 l2).objs.size))) { s with heap := znH5 s.heap l1 l2 }) :=
  .of_wp fun prog w A R s h => by
    obtain ⟨hp, g, d, tk, os⟩ := s
    obtain ⟨hl1, hl2, h⟩ := h
    have hsub := sub_zip
    have hL1 : Heap.IsList (Shared.heap ⟨hp, g, d, tk, os⟩) l1 xs := hl1
    have hL2 : Heap.IsTuple (Shared.heap ⟨hp.push { cls := .type "list_iterator", data := .fields #[.ref l1, .int 0 0] }, g, d, tk, os⟩) l2 ys := Heap.IsTuple.push hl2 _
    wp_walk using wpAny_pyIter_list hL1, wpAny_pyIter_tuple hL2
    exact ⟨_, rfl, h⟩
section
variable {prog : Program} {w : World} {A : Around} {E : Value → Shared → Prop} {s : Shared}
theorem call_zn {l1 l2 : Addr} {xs ys : Array Value} {Q : Value → Shared → Prop} (hl1 : s.heap.IsList l1 xs) (hl2 : s.heap.IsTuple l2 ys)
    (h : ∀ h', IsZip h' (s.heap.objs.size + 4) (s.heap.objs.size + 2) (s.heap.objs.size + 3) .none → IsPair h' (s.heap.objs.size + 2) (.ref s.heap.objs.size) (.ref (s.heap.objs.size + 1)) →
      IsPair h' (s.heap.objs.size + 3) .none .none → h'.IsListIter s.heap.objs.size l1 0 → h'.IsTupleIter (s.heap.objs.size + 1) l2 0 → h'.objs.size = s.heap.objs.size + 5 →
      (∀ c o, s.heap.get? c = some o → h'.get? c = some o) → Q (.ref (s.heap.objs.size + 4)) { s with heap := h' }) :
    wpAny (model prog w) A (call (.type "zip") [.ref l1, .ref l2]) Q E s := by
  refine callType_new F.called_zip (by decide) (F.typeCall_zip_2 _ _) (F.newCall_zip_2 _ _) (fun obj => F.args_object_init_3 obj _ _) F.entry_zip_new
    (meets_zn_new l1 l2 xs ys) ⟨hl1, hl2, ?_⟩
  have z1 : (znH1 s.heap l1).objs.size = s.heap.objs.size + 1 := Heap.size_push ..
  have z2 : (znH2 s.heap l1 l2).objs.size = s.heap.objs.size + 2 := by rw [Heap.size_push, z1]
  have z3 : (znH3 s.heap l1 l2).objs.size = s.heap.objs.size + 3 := by rw [Heap.size_push, z2]
  have z4 : (znH4 s.heap l1 l2).objs.size = s.heap.objs.size + 4 := by rw [Heap.size_push, z3]
  have z5 : (znH5 s.heap l1 l2).objs.size = s.heap.objs.size + 5 := by rw [Heap.size_push, z4]
  have g5 : (znH5 s.heap l1 l2).get? (znH4 s.heap l1 l2).objs.size = some _ := Heap.get?_push_size _ rfl
  have g4 : (znH5 s.heap l1 l2).get? (znH3 s.heap l1 l2).objs.size = some _ := Heap.get?_push_of_some _ (Heap.get?_push_size _ rfl)
  have g3 : (znH5 s.heap l1 l2).get? (znH2 s.heap l1 l2).objs.size = some _ := Heap.get?_push_of_some _ (Heap.get?_push_of_some _ (Heap.get?_push_size _ rfl))
  have g2 : (znH5 s.heap l1 l2).get? (znH1 s.heap l1).objs.size = some _ := Heap.get?_push_of_some _ (Heap.get?_push_of_some _ (Heap.get?_push_of_some _ (Heap.get?_push_size _ rfl)))
  have g1 : (znH5 s.heap l1 l2).get? s.heap.objs.size = some _ := Heap.get?_push_of_some _ (Heap.get?_push_of_some _ (Heap.get?_push_of_some _ (Heap.get?_push_of_some _ (Heap.get?_push_size _ rfl))))
  show _ ∧ _
  rw [z2, z3, z4] at g5
  rw [z1, z2] at g3
  rw [z3] at g4
  rw [z1] at g2
  rw [z4]
  exact ⟨⟨_, g5, rfl⟩, h _ g5 g3 g4 ⟨_, g1, rfl, rfl⟩ ⟨_, g2, rfl, rfl⟩ z5 fun c o x =>
    Heap.get?_push_of_some _ (Heap.get?_push_of_some _ (Heap.get?_push_of_some _ (Heap.get?_push_of_some _ (Heap.get?_push_of_some _ x))))⟩
end
def ItzN (K : PySem.W.Frag) (a b : Addr) : It :=
  ⟨fun i H => ∃ (xs ys : List V) (x y : V), SqL K H a xs ∧ SqT K H b ys ∧ xs[i]? = some x ∧ ys[i]? = some y,
    fun i H v H' => ∃ T x y, v = .ref T ∧ H T = none ∧ H' = upd H T (.tup [x, y]) ∧ (∀ xs, SqL K H a xs → xs[i]? = some x) ∧ ∀ ys, SqT K H b ys → ys[i]? = some y,
    fun i H => ∃ xs ys : List V, SqL K H a xs ∧ SqT K H b ys ∧ (xs.length = i ∧ i ≤ ys.length)⟩
theorem turn_zn {P : Program} {w : World} {K : PySem.W.Frag} {elts : List Expr} {kk : Nat} {tpos : Pos} {a b z TI TO i1 i2 : Addr} (D : ZipApart z TI TO i1 i2 a b) :
    Turn P w K (.Tuple elts kk tpos) (ItzN K a b) [z, TI, TO, i1, i2] z (fun i h => IsZip h z TI TO .none ∧ IsPair h TI (.ref i1) (.ref i2) ∧ (∃ x y, IsPair h TO x y) ∧ h.IsListIter i1 a i ∧ h.IsTupleIter i2 b i) where
  mem := by simp
  obj := fun i h st c hc => by
    obtain ⟨hz, hTI, ⟨x, y, hTO⟩, ⟨o1, e1, _, d1⟩, ⟨o2, e2, _, d2⟩⟩ := st
    have e' : c = z ∨ c = TI ∨ c = TO ∨ c = i1 ∨ c = i2 := by simpa using hc
    rcases e' with q | q | q | q | q
    · rw [q]; exact ⟨_, hz, fun v q => nomatch q⟩
    · rw [q]; exact ⟨_, hTI, fun v q => nomatch q⟩
    · rw [q]; exact ⟨_, hTO, fun v q => nomatch q⟩
    · rw [q]; exact ⟨o1, e1, fun v q => by rw [d1] at q; cases q⟩
    · rw [q]; exact ⟨o2, e2, fun v q => by rw [d2] at q; cases q⟩
  keep := fun i h h' st k => by
    obtain ⟨hz, hTI, ⟨x, y, hTO⟩, h1, h2⟩ := st
    exact ⟨k z (by simp) _ hz, k TI (by simp) _ hTI, ⟨x, y, k TO (by simp) _ hTO⟩, h1.at fun o q => k i1 (by simp) o q, h2.at fun o q => k i2 (by simp) o q⟩
  item := by
    intro X hP hw hK hc i pins s σ H E I hf st hg
    subst hP hw hK
    obtain ⟨hz, hTI, ⟨x0, y0, hTO⟩, h1, h2⟩ := st
    obtain ⟨xs, ys, x, y, hqx, hqy, hx, hy⟩ := hg
    obtain ⟨its, rv, p, _⟩ := I.list hqx
    obtain ⟨its2, rv2, p2, _⟩ := I.tuple hqy
    obtain ⟨u, hu, ru⟩ := rv.get hx
    obtain ⟨u2, hu2, ru2⟩ := rv2.get hy
    have hzl : z < s.heap.objs.size := Heap.lt_size hz
    have hh : X.A.in1.handled = none := I.ok.hd hc
    have D1 := Draws.list (prog := X.prog) (w := X.w) (A := X.A.in1) hh i1 a D.l1i1 its.toArray
    have D2 := tupDraws (prog := X.prog) (w := X.w) (A := X.A.in1) (its := its2.toArray) hh D.l2i2
    have n1 : i < its.toArray.size := by
      have := (List.getElem?_eq_some_iff.mp hu).1
      simpa using this
    have n2 : i < its2.toArray.size := by
      have := (List.getElem?_eq_some_iff.mp hu2).1
      simpa using this
    refine wpAny_pyNext_zipD2_item (zip_sep D) D1 D2 hz hTI hTO ⟨h1, p.isList⟩ ⟨h2, p2⟩ n1 n2 fun v1 v2 h' tk e1 e2 z' TO' h1' h2' hT hsz hk => ?_
    obtain rfl : u = v1 := by
      have e3 : its.toArray[i]? = some u := by simpa using hu
      exact Option.some.inj (e3.symm.trans e1)
    obtain rfl : u2 = v2 := by
      have e3 : its2.toArray[i]? = some u2 := by simpa using hu2
      exact Option.some.inj (e3.symm.trans e2)
    refine ⟨_, rfl, wpAny_letOwnedTupleGo_zip (s := { s with heap := h', toks := tk }) z' fun h'' z'' sb => ?_⟩
    have hT2 : h''.get? s.heap.objs.size = some { cls := .type "tuple", data := .seq #[u, u2] } := (sb.2 _ (Nat.ne_of_gt hzl)).trans hT
    have new : ObjOk X.prog X.w (upd H s.heap.objs.size (.tup [x, y])) h'' s.heap.objs.size (.tup [x, y]) :=
      ⟨by show 2 ≤ sizeLine; decide, [u, u2], .cons ru (.cons ru2 .nil), ⟨_, hT2, rfl, _, rfl⟩⟩
    have I1 : Inv X pins σ (upd H s.heap.objs.size (.tup [x, y])) { s with heap := h'', toks := tk } :=
      I.turnedNew (t' := tk) (ch := [z, TI, TO, i1, i2]) (fun c o hb q => (sb.2 c (fun q' => hb (by simp [q']))).trans (hk c o (fun q' => hb (by simp [q'])) (fun q' => hb (by simp [q'])) (fun q' => hb (by simp [q'])) (fun q' => hb (by simp [q'])) q)) hf (Nat.le_refl _) new
    refine ⟨.ref s.heap.objs.size, _, I1, rfl, ⟨_, x, y, rfl, I.hok.fresh (Nat.le_refl _), rfl, fun l hl => by rw [I.list_inj hl hqx]; exact hx, fun l hl => by rw [I.tuple_inj hl hqy]; exact hy⟩, ⟨z'', ?_, ⟨u, u2, ?_⟩, ?_, ?_⟩, fun c hcm => ?_⟩
    · exact (sb.2 _ D.TIz).trans (hk _ _ D.TIz D.TITO D.TIi1 D.TIi2 hTI)
    · exact (sb.2 _ D.TOz).trans TO'
    · exact h1'.1.at fun o q => (sb.2 _ D.i1z).trans q
    · exact Heap.IsTupleIter.at (show h'.IsTupleIter i2 b (i + 1) from h2'.1) fun o q => (sb.2 _ D.i2z).trans q
    · have hlt : c < s.heap.objs.size := by
        have e' : c = z ∨ c = TI ∨ c = TO ∨ c = i1 ∨ c = i2 := by simpa using hcm
        rcases e' with q | q | q | q | q
        · rw [q]; exact hzl
        · rw [q]; exact Heap.lt_size hTI
        · rw [q]; exact Heap.lt_size hTO
        · rw [q]; obtain ⟨_, e1, _⟩ := h1; exact Heap.lt_size e1
        · rw [q]; obtain ⟨_, e2, _⟩ := h2; exact Heap.lt_size e2
      rw [upd_ne (Nat.ne_of_lt hlt)]
      exact (hf c hcm).1
  done := by
    intro X hP hw hK hc i pins s σ H E I hf st hg
    subst hP hw hK
    obtain ⟨hz, hTI, ⟨x0, y0, hTO⟩, h1, h2⟩ := st
    obtain ⟨xs, ys, hqx, hqy, hend⟩ := hg
    obtain ⟨its, rv, p, _⟩ := I.list hqx
    obtain ⟨its2, rv2, p2, _⟩ := I.tuple hqy
    have l1 := rv.length
    have l2 := rv2.length
    have hh : X.A.in1.handled = none := I.ok.hd hc
    have D1 := Draws.list (prog := X.prog) (w := X.w) (A := X.A.in1) hh i1 a D.l1i1 its.toArray
    have D2 := tupDraws (prog := X.prog) (w := X.w) (A := X.A.in1) (its := its2.toArray) hh D.l2i2
    exact wpAny_pyNext_zipD2_end (zip_sep D) D1 D2 hz hTI hTO ⟨h1, p.isList⟩ ⟨h2, p2⟩ (by simp; omega) (by simp; omega) (.inl (by simp; omega)) fun h' tk hk => ⟨rfl, I.turnedL (t' := tk) (ch := [z, TI, TO, i1, i2]) (fun c o hb q =>
      hk c o (fun q' => hb (by simp [q'])) (fun q' => hb (by simp [q'])) (fun q' => hb (by simp [q'])) (fun q' => hb (by simp [q'])) q) hf⟩
  self := fun A i s Q E st h => wpAny_pyIter_zip st.1 h
def iZipN (K : PySem.W.Frag) (ta : TA) : TI := fun σ H R => ta σ H fun vs H1 => ∃ a b xs ys, vs = [.ref a, .ref b] ∧ SqT K H1 b ys ∧ ((SqL K H1 a xs ∧ R (ItzN K a b) H1) ∨ (SqT K H1 a xs ∧ R (RZ.ItzT K a b) H1))
theorem pi_zipN {X : Cx} {e e2 : Expr} {ta : TA} {p pos tpos : Pos} {elts : List Expr} {kk : Nat} (hg : Gl X "zip") (hm : X.mg "zip" = none) (ha : PA X [e, e2] ta)
    (hs : starEach [e, e2] X.env = (false, eval e X.env) :: starEach [e2] X.env := by rfl) (hpl : (backTo pos (starEach [e2] X.env)).any (·.1) = false := by rfl) :
    PI X (.Tuple elts kk tpos) (.Call (.Name "zip" p) [e, e2] [] pos) (iZipN X.K ta) := by
  refine ⟨fun pins s σ H R I h => ?_⟩
  refine Call_ (ld_blt I hg hm PyProof.Rows.boot_zip (PyProof.Rows.callWith_type1 (thn (ha.run pos pins s σ H _ I h) fun us s1 ⟨vs, H1, I1, r1, q1⟩ => ?_) hs hpl))
  obtain ⟨a, b, xs, ys, ex, hqy, q1⟩ := q1
  subst ex
  cases r1 with
  | cons r rr =>
    cases rr with
    | cons r' rr =>
      cases rr
      cases r
      cases r'
      have fresh5 : ∀ c, c ∈ [s1.heap.objs.size + 4, s1.heap.objs.size + 2, s1.heap.objs.size + 3, s1.heap.objs.size, s1.heap.objs.size + 1] → FpOk X pins H1 c := fun c hcm => by
        have e' : c = s1.heap.objs.size + 4 ∨ c = s1.heap.objs.size + 2 ∨ c = s1.heap.objs.size + 3 ∨ c = s1.heap.objs.size ∨ c = s1.heap.objs.size + 1 := by simpa using hcm
        have hle : s1.heap.objs.size ≤ c := by
          rcases e' with z | z | z | z | z
          · rw [z]; exact Nat.le_add_right _ _
          · rw [z]; exact Nat.le_add_right _ _
          · rw [z]; exact Nat.le_add_right _ _
          · rw [z]; exact Nat.le_refl _
          · rw [z]; exact Nat.le_add_right _ _
        exact I1.fpOk hle (I1.hok.fresh hle)
      obtain ⟨its2, rv2, p2, _⟩ := I1.tuple hqy
      obtain ⟨o2, ho2, _⟩ := id p2
      rcases q1 with ⟨hqx, q⟩ | ⟨hqx, q⟩
      · obtain ⟨its, rv, p1, _⟩ := I1.list hqx
        refine call_zn p1.isList (show s1.heap.IsTuple b its2.toArray from p2) fun h' hz hTI hTO h1 h2 hsz hk => wpAny_pyIter_zip hz ?_
        have I2 : Inv X pins σ H1 { s1 with heap := h' } := I1.kept (t' := s1.toks) hk
        exact ⟨s1.heap.objs.size + 4, [s1.heap.objs.size + 4, s1.heap.objs.size + 2, s1.heap.objs.size + 3, s1.heap.objs.size, s1.heap.objs.size + 1], _, _, H1, rfl, I2, turn_zn (PySem.W.ktu_apart s1.heap.objs.size a b p1.lt (Heap.lt_size ho2)), ⟨hz, hTI, ⟨_, _, hTO⟩, h1, h2⟩, fresh5, q⟩
      · obtain ⟨its, rv, p1, _⟩ := I1.tuple hqx
        obtain ⟨o1, ho1, _⟩ := id p1
        refine RZ.call_zipT (show s1.heap.IsTuple a its.toArray from p1) (show s1.heap.IsTuple b its2.toArray from p2) fun h' hz hTI hTO h1 h2 hsz hk => wpAny_pyIter_zip hz ?_
        have I2 : Inv X pins σ H1 { s1 with heap := h' } := I1.kept (t' := s1.toks) hk
        exact ⟨s1.heap.objs.size + 4, [s1.heap.objs.size + 4, s1.heap.objs.size + 2, s1.heap.objs.size + 3, s1.heap.objs.size, s1.heap.objs.size + 1], _, _, H1, rfl, I2, RZ.turn_zipT (PySem.W.ktu_apart s1.heap.objs.size a b (Heap.lt_size ho1) (Heap.lt_size ho2)), ⟨hz, hTI, ⟨_, _, hTO⟩, h1, h2⟩, fresh5, q⟩
variable {K : PySem.W.Frag}
theorem rd_zipN {ta : TA} {σ : L2.St} {H : Hp} {R : It → Hp → Prop} (h : ta σ H fun vs H1 => ∃ a b xs ys, vs = [.ref a, .ref b] ∧ SqT K H1 b ys ∧ ((SqL K H1 a xs ∧ R (ItzN K a b) H1) ∨ (SqT K H1 a xs ∧ R (RZ.ItzT K a b) H1))) : iZipN K ta σ H R := h
section
variable {α : Type} {R : Hp → V → α → Prop} {g : TG} {tt : TT} {te : TE} {vs : List Nat} {σ : L2.St} {H1 : Hp} {Qd : Addr → Hp → Prop} {f : Nat → Option α}
/-- a comprehension over zip of a list and a tuple or a tuple of the same length -/
theorem lc_zipN (hR : Mn R) {a b : Addr} {xs ys : List V} (hn : xs.length ≤ 1000) (hlen : xs.length = ys.length) (ha : Sq K H1 a xs) (hb : SqT K H1 b ys)
    (hs : ∀ i x y, xs[i]? = some x → ys[i]? = some y → Turn1 R H1 f i fun H' Q N => ∀ T, H' T = none → g (.ref T) (wipe σ vs) (upd H' T (.tup [x, y])) fun σ2 H2 => wipe σ2 vs = wipe σ vs ∧ tt σ2 H2 fun b H3 => if b = true then te σ2 H3 Q else N H3)
    (hd : ∀ D H', Lst R H1 D (upTo f xs.length) H' → Qd D H') {RR : It → Hp → Prop}
    (hRR : RR = fun J H1 => ∀ D, H1 D = none → ∃ W : Nat → Nat → Hp → Prop, (∃ m, W 0 m (upd H1 D (.lst []))) ∧ ∀ i m H, W i m H →
      (J.stop i H ∧ Qd D H) ∨ (J.go i H ∧ ∃ Nx : Hp → Prop, (∀ H', Nx H' → ∃ m', m' < m ∧ W (i + 1) m' H') ∧ ∀ x H', J.yld i H x H' → g x (wipe σ vs) H' fun σ2 H2 => wipe σ2 vs = wipe σ vs ∧ tt σ2 H2 fun b H3 =>
        if b = true then te σ2 H3 fun y H4 => ∃ acc, H4 D = some (.lst acc) ∧ acc.length < sizeLine ∧ Nx (upd H4 D (.lst (acc ++ [y]))) else Nx H3)) :
    (SqL K H1 a xs ∧ RR (ItzN K a b) H1) ∨ (SqT K H1 a xs ∧ RR (RZ.ItzT K a b) H1) := by
  subst hRR
  rcases ha with ha | ha
  · refine .inl ⟨ha, fun D nD => ?_⟩
    refine ⟨fun i m H => m = xs.length - i ∧ i ≤ xs.length ∧ Lst R H1 D (upTo f i) H, ⟨xs.length, by simp, Nat.zero_le _, lst_new nD⟩, ?_⟩
    rintro i m H ⟨rfl, hi, l⟩
    have qa := l.1.seq ha
    have qb := sqT_same l.1 hb
    by_cases hlt : i < xs.length
    · refine .inr ⟨⟨xs, ys, xs[i], ys[i], qa, qb, by simp [hlt], by simp⟩, Lst R H1 D (upTo f (i + 1)), fun H' p' => ⟨xs.length - (i + 1), by omega, rfl, hlt, p'⟩, fun x H' y => ?_⟩
      obtain ⟨T, x, y, rfl, nT, rfl, hx, hy⟩ := y
      exact Turn1.step (i := i) hR nD (by omega) (hs i x y (hx xs qa) (hy ys qb)) l T nT
    · have e : i = xs.length := by omega
      subst e
      exact .inl ⟨⟨xs, ys, qa, qb, rfl, by omega⟩, hd D H l⟩
  · refine .inr ⟨ha, fun D nD => ?_⟩
    refine ⟨fun i m H => m = xs.length - i ∧ i ≤ xs.length ∧ Lst R H1 D (upTo f i) H, ⟨xs.length, by simp, Nat.zero_le _, lst_new nD⟩, ?_⟩
    rintro i m H ⟨rfl, hi, l⟩
    have qa := sqT_same l.1 ha
    have qb := sqT_same l.1 hb
    by_cases hlt : i < xs.length
    · refine .inr ⟨⟨xs, ys, xs[i], ys[i], qa, qb, by simp [hlt], by simp⟩, Lst R H1 D (upTo f (i + 1)), fun H' p' => ⟨xs.length - (i + 1), by omega, rfl, hlt, p'⟩, fun x H' y => ?_⟩
      obtain ⟨T, x, y, rfl, nT, rfl, hx, hy⟩ := y
      exact Turn1.step (i := i) hR nD (by omega) (hs i x y (hx xs qa) (hy ys qb)) l T nT
    · have e : i = xs.length := by omega
      subst e
      exact .inl ⟨⟨xs, ys, qa, qb, .inl (Nat.le_refl _)⟩, hd D H l⟩
end
end My

namespace My
open PySem PySem.Spec PyProof.Rows L2
def topS (i : Nat) : Stmt := PySem.Challenge.pw_rootstalls_k07_whole_held_roots_neighbou.main.body.getD i (.Pass ⟨0, 0, 0, 0⟩)
abbrev s_is_integer : Stmt := topS 8
abbrev N_is_integer : List Str := ["thing"]
theorem sc_is_integer : FnScope N_is_integer ["thing"] (defScope s_is_integer) := ⟨rfl, rfl, rfl, by decide +kernel, rfl, by decide +kernel, by decide +kernel⟩
abbrev s_is_row : Stmt := topS 9
abbrev N_is_row : List Str := ["thing"]
theorem sc_is_row : FnScope N_is_row ["thing"] (defScope s_is_row) := ⟨rfl, rfl, rfl, by decide +kernel, rfl, by decide +kernel, by decide +kernel⟩
abbrev s_is_fraction : Stmt := topS 10
abbrev N_is_fraction : List Str := ["thing", "top", "bottom"]
theorem sc_is_fraction : FnScope N_is_fraction ["thing"] (defScope s_is_fraction) := ⟨rfl, rfl, rfl, by decide +kernel, rfl, by decide +kernel, by decide +kernel⟩
abbrev s_is_some : Stmt := topS 11
abbrev N_is_some : List Str := ["thing"]
theorem sc_is_some : FnScope N_is_some ["thing"] (defScope s_is_some) := ⟨rfl, rfl, rfl, by decide +kernel, rfl, by decide +kernel, by decide +kernel⟩
abbrev s_added : Stmt := topS 12
abbrev N_added : List Str := ["one", "other", "common", "part", "top", "shared"]
theorem sc_added : FnScope N_added ["one", "other"] (defScope s_added) := ⟨rfl, rfl, rfl, by decide +kernel, rfl, by decide +kernel, by decide +kernel⟩
abbrev s_multiplied : Stmt := topS 13
abbrev N_multiplied : List Str := ["one", "other", "left", "right"]
theorem sc_multiplied : FnScope N_multiplied ["one", "other"] (defScope s_multiplied) := ⟨rfl, rfl, rfl, by decide +kernel, rfl, by decide +kernel, by decide +kernel⟩
abbrev s_squared : Stmt := topS 14
abbrev N_squared : List Str := ["one"]
theorem sc_squared : FnScope N_squared ["one"] (defScope s_squared) := ⟨rfl, rfl, rfl, by decide +kernel, rfl, by decide +kernel, by decide +kernel⟩
abbrev s_summed : Stmt := topS 15
abbrev N_summed : List Str := ["fractions", "total", "one"]
theorem sc_summed : FnScope N_summed ["fractions"] (defScope s_summed) := ⟨rfl, rfl, rfl, by decide +kernel, rfl, by decide +kernel, by decide +kernel⟩
abbrev s_is_stall : Stmt := topS 19
abbrev N_is_stall : List Str := ["wares", "thing", "one", "other", "kept", "other_kept", "root", "ware"]
theorem sc_is_stall : FnScope N_is_stall ["wares", "thing"] (defScope s_is_stall) := ⟨rfl, rfl, rfl, by decide +kernel, rfl, by decide +kernel, by decide +kernel⟩
abbrev s_is_ware : Stmt := topS 21
abbrev N_is_ware : List Str := ["web", "thing"]
theorem sc_is_ware : FnScope N_is_ware ["web", "thing"] (defScope s_is_ware) := ⟨rfl, rfl, rfl, by decide +kernel, rfl, by decide +kernel, by decide +kernel⟩
abbrev s_check_ware : Stmt := topS 22
abbrev N_check_ware : List Str := ["web", "ware"]
theorem sc_check_ware : FnScope N_check_ware ["web", "ware"] (defScope s_check_ware) := ⟨rfl, rfl, rfl, by decide +kernel, rfl, by decide +kernel, by decide +kernel⟩
abbrev s_across : Stmt := topS 23
abbrev N_across : List Str := ["stall", "ware"]
theorem sc_across : FnScope N_across ["stall", "ware"] (defScope s_across) := ⟨rfl, rfl, rfl, by decide +kernel, rfl, by decide +kernel, by decide +kernel⟩
abbrev s_hold_of : Stmt := topS 24
abbrev N_hold_of : List Str := ["stall", "ware"]
theorem sc_hold_of : FnScope N_hold_of ["stall", "ware"] (defScope s_hold_of) := ⟨rfl, rfl, rfl, by decide +kernel, rfl, by decide +kernel, by decide +kernel⟩
abbrev s_stalls_of : Stmt := topS 25
abbrev N_stalls_of : List Str := ["ware", "stalls", "stall"]
theorem sc_stalls_of : FnScope N_stalls_of ["ware", "stalls"] (defScope s_stalls_of) := ⟨rfl, rfl, rfl, by decide +kernel, rfl, by decide +kernel, by decide +kernel⟩
abbrev s_kept_of : Stmt := topS 26
abbrev N_kept_of : List Str := ["ware", "stalls", "stall"]
theorem sc_kept_of : FnScope N_kept_of ["ware", "stalls"] (defScope s_kept_of) := ⟨rfl, rfl, rfl, by decide +kernel, rfl, by decide +kernel, by decide +kernel⟩
abbrev s_held : Stmt := topS 27
abbrev N_held : List Str := ["web", "ware"]
theorem sc_held : FnScope N_held ["web"] (defScope s_held) := ⟨rfl, rfl, rfl, by decide +kernel, rfl, by decide +kernel, by decide +kernel⟩
abbrev s_roots : Stmt := topS 28
abbrev N_roots : List Str := ["web", "rows", "_", "stall", "one", "other", "row"]
theorem sc_roots : FnScope N_roots ["web"] (defScope s_roots) := ⟨rfl, rfl, rfl, by decide +kernel, rfl, by decide +kernel, by decide +kernel⟩
abbrev s_neighbours : Stmt := topS 29
abbrev N_neighbours : List Str := ["web", "ware", "stall"]
theorem sc_neighbours : FnScope N_neighbours ["web", "ware"] (defScope s_neighbours) := ⟨rfl, rfl, rfl, by decide +kernel, rfl, by decide +kernel, by decide +kernel⟩
abbrev s_l_deck : Stmt := topS 31
abbrev N_l_deck : List Str := ["_law_script", "_law_cell"]
theorem sc_l_deck : FnScope N_l_deck ["_law_script"] (defScope s_l_deck) := ⟨rfl, rfl, rfl, by decide +kernel, rfl, by decide +kernel, by decide +kernel⟩
abbrev s_l_pick : Stmt := topS 32
abbrev N_l_pick : List Str := ["_law_deck_here", "_law_many", "_law_found", "_law_cells", "_law_cell", "_law_number"]
theorem sc_l_pick : FnScope N_l_pick ["_law_deck_here", "_law_many"] (defScope s_l_pick) := ⟨rfl, rfl, rfl, by decide +kernel, rfl, by decide +kernel, by decide +kernel⟩
abbrev s_l_divisor : Stmt := topS 33
abbrev N_l_divisor : List Str := ["_law_one", "_law_other", "_law_turn", "_law_rest"]
theorem sc_l_divisor : FnScope N_l_divisor ["_law_one", "_law_other"] (defScope s_l_divisor) := ⟨rfl, rfl, rfl, by decide +kernel, rfl, by decide +kernel, by decide +kernel⟩
abbrev s_l_made : Stmt := topS 34
abbrev N_l_made : List Str := ["_law_top", "_law_bottom", "_law_divisor_here"]
theorem sc_l_made : FnScope N_l_made ["_law_top", "_law_bottom"] (defScope s_l_made) := ⟨rfl, rfl, rfl, by decide +kernel, rfl, by decide +kernel, by decide +kernel⟩
abbrev s_l_amount : Stmt := topS 35
abbrev N_l_amount : List Str := ["_law_deck_here", "_law_size"]
theorem sc_l_amount : FnScope N_l_amount ["_law_deck_here"] (defScope s_l_amount) := ⟨rfl, rfl, rfl, by decide +kernel, rfl, by decide +kernel, by decide +kernel⟩
abbrev s_l_great : Stmt := topS 36
abbrev N_l_great : List Str := ["_law_deck_here", "_law_found", "_law_part"]
theorem sc_l_great : FnScope N_l_great ["_law_deck_here"] (defScope s_l_great) := ⟨rfl, rfl, rfl, by decide +kernel, rfl, by decide +kernel, by decide +kernel⟩
abbrev s_l_great_stall : Stmt := topS 37
abbrev N_l_great_stall : List Str := ["_law_deck_here", "_law_root", "_law_factor", "_law_first"]
theorem sc_l_great_stall : FnScope N_l_great_stall ["_law_deck_here"] (defScope s_l_great_stall) := ⟨rfl, rfl, rfl, by decide +kernel, rfl, by decide +kernel, by decide +kernel⟩
abbrev s_l_stall : Stmt := topS 38
abbrev N_l_stall : List Str := ["_law_deck_here", "_law_wares", "_law_one", "_law_other", "_law_root", "_law_factor", "_law_first"]
theorem sc_l_stall : FnScope N_l_stall ["_law_deck_here", "_law_wares"] (defScope s_l_stall) := ⟨rfl, rfl, rfl, by decide +kernel, rfl, by decide +kernel, by decide +kernel⟩
abbrev s_l_stalls : Stmt := topS 39
abbrev N_l_stalls : List Str := ["_law_deck_here", "_law_wares", "_law_found", "_law_turn"]
theorem sc_l_stalls : FnScope N_l_stalls ["_law_deck_here", "_law_wares"] (defScope s_l_stalls) := ⟨rfl, rfl, rfl, by decide +kernel, rfl, by decide +kernel, by decide +kernel⟩
abbrev s_l_added : Stmt := topS 40
abbrev N_l_added : List Str := ["_law_amounts", "_law_top", "_law_bottom", "_law_amount_here", "_law_divisor_here"]
theorem sc_l_added : FnScope N_l_added ["_law_amounts"] (defScope s_l_added) := ⟨rfl, rfl, rfl, by decide +kernel, rfl, by decide +kernel, by decide +kernel⟩
abbrev s_l_held : Stmt := topS 41
abbrev N_l_held : List Str := ["_law_wares", "_law_stalls_here", "_law_found", "_law_ware", "_law_mine", "_law_stall_here"]
theorem sc_l_held : FnScope N_l_held ["_law_wares", "_law_stalls_here"] (defScope s_l_held) := ⟨rfl, rfl, rfl, by decide +kernel, rfl, by decide +kernel, by decide +kernel⟩
abbrev s_l_roots : Stmt := topS 42
abbrev N_l_roots : List Str := ["_law_wares", "_law_stalls_here", "_law_found", "_law_one", "_law_row", "_law_other", "_law_stall_here"]
theorem sc_l_roots : FnScope N_l_roots ["_law_wares", "_law_stalls_here"] (defScope s_l_roots) := ⟨rfl, rfl, rfl, by decide +kernel, rfl, by decide +kernel, by decide +kernel⟩
abbrev s_l_are_fractions : Stmt := topS 43
abbrev N_l_are_fractions : List Str := ["_law_things", "_law_thing"]
theorem sc_l_are_fractions : FnScope N_l_are_fractions ["_law_things"] (defScope s_l_are_fractions) := ⟨rfl, rfl, rfl, by decide +kernel, rfl, by decide +kernel, by decide +kernel⟩
abbrev s_l_is_refused : Stmt := topS 44
abbrev N_l_is_refused : List Str := ["_law_web", "_law_ware", "_law_is_met"]
theorem sc_l_is_refused : FnScope N_l_is_refused ["_law_web", "_law_ware"] (defScope s_l_is_refused) := ⟨rfl, rfl, rfl, by decide +kernel, rfl, by decide +kernel, by decide +kernel⟩
abbrev s_l_is_well : Stmt := topS 45
abbrev N_l_is_well : List Str := ["_law_web", "_law_wares", "_law_stalls_here", "_law_table", "_law_amounts", "_law_rows", "_law_row", "_law_ware", "_law_found", "_law_other"]
theorem sc_l_is_well : FnScope N_l_is_well ["_law_web", "_law_wares", "_law_stalls_here"] (defScope s_l_is_well) := ⟨rfl, rfl, rfl, by decide +kernel, rfl, by decide +kernel, by decide +kernel⟩
abbrev s_law : Stmt := topS 46
abbrev N_law : List Str := ["_law_script", "_law_deck_here", "_law_wares", "_law_stalls_here", "_law_web", "_law_other", "_law_thing", "_law_great_here", "_law_turn", "_law_stall_here", "_law_more", "_law_before", "_law_after", "_law_ware", "_law_due"]
theorem sc_law : FnScope N_law ["_law_script"] (defScope s_law) := ⟨rfl, rfl, rfl, by decide +kernel, rfl, by decide +kernel, by decide +kernel⟩
abbrev s_Web_init : Stmt := inClass (topS 20) 0
abbrev N_Web_init : List Str := ["self", "wares", "stalls", "index", "stall"]
theorem sc_Web_init : FnScope N_Web_init ["self", "wares", "stalls"] (defScope s_Web_init) := ⟨rfl, rfl, rfl, by decide +kernel, rfl, by decide +kernel, by decide +kernel⟩
abbrev s_Web_eq : Stmt := inClass (topS 20) 1
abbrev N_Web_eq : List Str := ["self", "other"]
theorem sc_Web_eq : FnScope N_Web_eq ["self", "other"] (defScope s_Web_eq) := ⟨rfl, rfl, rfl, by decide +kernel, rfl, by decide +kernel, by decide +kernel⟩
structure Txt (K : PySem.W.Frag) (mg : Str → Option Value) (f_is_integer f_is_row f_is_fraction f_is_some f_added f_multiplied f_squared f_summed f_is_stall f_is_ware f_check_ware f_across f_hold_of f_stalls_of f_kept_of f_held f_roots f_neighbours f_l_deck f_l_pick f_l_divisor f_l_made f_l_amount f_l_great f_l_great_stall f_l_stall f_l_stalls f_l_added f_l_held f_l_roots f_l_are_fractions f_l_is_refused f_l_is_well f_law f_Web_init f_Web_eq c_BadWare c_Web c_ZERO : Addr) (d_is_integer d_is_row d_is_fraction d_is_some d_added d_multiplied d_squared d_summed d_is_stall d_is_ware d_check_ware d_across d_hold_of d_stalls_of d_kept_of d_held d_roots d_neighbours d_l_deck d_l_pick d_l_divisor d_l_made d_l_amount d_l_great d_l_great_stall d_l_stall d_l_stalls d_l_added d_l_held d_l_roots d_l_are_fractions d_l_is_refused d_l_is_well d_law d_Web_init d_Web_eq : FuncData) : Prop where
  z_abs : mg "abs" = none
  z_all : mg "all" = none
  z_any : mg "any" = none
  z_bool : mg "bool" = none
  z_enumerate : mg "enumerate" = none
  z_int : mg "int" = none
  z_isinstance : mg "isinstance" = none
  z_len : mg "len" = none
  z_list : mg "list" = none
  z_range : mg "range" = none
  z_set : mg "set" = none
  z_sorted : mg "sorted" = none
  z_tuple : mg "tuple" = none
  m_gcd : mg "gcd" = some (.builtin "math.gcd")
  c_BadWare : ExC K mg "BadWare" c_BadWare
  w_Web : WebC K mg "Web" c_Web f_Web_init
  n_Web_wares : NoAttr K c_Web "wares"
  n_Web_stalls : NoAttr K c_Web "stalls"
  v_ZERO : mg "ZERO" = some (.ref c_ZERO)
  t_ZERO : SqT K (fun _ => none) c_ZERO [.int 0, .int 1]
  v_MOST_STALLS : ∃ u, mg "MOST_STALLS" = some u ∧ RelV (.int 16) u
  v_MOST_WARES : ∃ u, mg "MOST_WARES" = some u ∧ RelV (.int 8) u
  g_is_integer : mg "is_integer" = some (.ref f_is_integer)
  F_is_integer : Fun K "is_integer" "is_integer" s_is_integer f_is_integer d_is_integer
  k_is_integer : PySem.W.keepIn K (.ref f_is_integer) = true
  b_is_integer : Binds K d_is_integer ["thing"] []
  g_is_row : mg "is_row" = some (.ref f_is_row)
  F_is_row : Fun K "is_row" "is_row" s_is_row f_is_row d_is_row
  k_is_row : PySem.W.keepIn K (.ref f_is_row) = true
  b_is_row : Binds K d_is_row ["thing"] []
  g_is_fraction : mg "is_fraction" = some (.ref f_is_fraction)
  F_is_fraction : Fun K "is_fraction" "is_fraction" s_is_fraction f_is_fraction d_is_fraction
  k_is_fraction : PySem.W.keepIn K (.ref f_is_fraction) = true
  b_is_fraction : Binds K d_is_fraction ["thing"] []
  g_is_some : mg "is_some" = some (.ref f_is_some)
  F_is_some : Fun K "is_some" "is_some" s_is_some f_is_some d_is_some
  k_is_some : PySem.W.keepIn K (.ref f_is_some) = true
  b_is_some : Binds K d_is_some ["thing"] []
  g_added : mg "added" = some (.ref f_added)
  F_added : Fun K "added" "added" s_added f_added d_added
  k_added : PySem.W.keepIn K (.ref f_added) = true
  b_added : Binds K d_added ["one", "other"] []
  g_multiplied : mg "multiplied" = some (.ref f_multiplied)
  F_multiplied : Fun K "multiplied" "multiplied" s_multiplied f_multiplied d_multiplied
  k_multiplied : PySem.W.keepIn K (.ref f_multiplied) = true
  b_multiplied : Binds K d_multiplied ["one", "other"] []
  g_squared : mg "squared" = some (.ref f_squared)
  F_squared : Fun K "squared" "squared" s_squared f_squared d_squared
  k_squared : PySem.W.keepIn K (.ref f_squared) = true
  b_squared : Binds K d_squared ["one"] []
  g_summed : mg "summed" = some (.ref f_summed)
  F_summed : Fun K "summed" "summed" s_summed f_summed d_summed
  k_summed : PySem.W.keepIn K (.ref f_summed) = true
  b_summed : Binds K d_summed ["fractions"] []
  g_is_stall : mg "is_stall" = some (.ref f_is_stall)
  F_is_stall : Fun K "is_stall" "is_stall" s_is_stall f_is_stall d_is_stall
  k_is_stall : PySem.W.keepIn K (.ref f_is_stall) = true
  b_is_stall : Binds K d_is_stall ["wares", "thing"] []
  g_is_ware : mg "is_ware" = some (.ref f_is_ware)
  F_is_ware : Fun K "is_ware" "is_ware" s_is_ware f_is_ware d_is_ware
  k_is_ware : PySem.W.keepIn K (.ref f_is_ware) = true
  b_is_ware : Binds K d_is_ware ["web", "thing"] []
  g_check_ware : mg "check_ware" = some (.ref f_check_ware)
  F_check_ware : Fun K "check_ware" "check_ware" s_check_ware f_check_ware d_check_ware
  k_check_ware : PySem.W.keepIn K (.ref f_check_ware) = true
  b_check_ware : Binds K d_check_ware ["web", "ware"] []
  g_across : mg "across" = some (.ref f_across)
  F_across : Fun K "across" "across" s_across f_across d_across
  k_across : PySem.W.keepIn K (.ref f_across) = true
  b_across : Binds K d_across ["stall", "ware"] []
  g_hold_of : mg "hold_of" = some (.ref f_hold_of)
  F_hold_of : Fun K "hold_of" "hold_of" s_hold_of f_hold_of d_hold_of
  k_hold_of : PySem.W.keepIn K (.ref f_hold_of) = true
  b_hold_of : Binds K d_hold_of ["stall", "ware"] []
  g_stalls_of : mg "stalls_of" = some (.ref f_stalls_of)
  F_stalls_of : Fun K "stalls_of" "stalls_of" s_stalls_of f_stalls_of d_stalls_of
  k_stalls_of : PySem.W.keepIn K (.ref f_stalls_of) = true
  b_stalls_of : Binds K d_stalls_of ["ware", "stalls"] []
  g_kept_of : mg "kept_of" = some (.ref f_kept_of)
  F_kept_of : Fun K "kept_of" "kept_of" s_kept_of f_kept_of d_kept_of
  k_kept_of : PySem.W.keepIn K (.ref f_kept_of) = true
  b_kept_of : Binds K d_kept_of ["ware", "stalls"] []
  g_held : mg "held" = some (.ref f_held)
  F_held : Fun K "held" "held" s_held f_held d_held
  k_held : PySem.W.keepIn K (.ref f_held) = true
  b_held : Binds K d_held ["web"] []
  g_roots : mg "roots" = some (.ref f_roots)
  F_roots : Fun K "roots" "roots" s_roots f_roots d_roots
  k_roots : PySem.W.keepIn K (.ref f_roots) = true
  b_roots : Binds K d_roots ["web"] []
  g_neighbours : mg "neighbours" = some (.ref f_neighbours)
  F_neighbours : Fun K "neighbours" "neighbours" s_neighbours f_neighbours d_neighbours
  k_neighbours : PySem.W.keepIn K (.ref f_neighbours) = true
  b_neighbours : Binds K d_neighbours ["web", "ware"] []
  g_l_deck : mg "_law_deck" = some (.ref f_l_deck)
  F_l_deck : Fun K "_law_deck" "_law_deck" s_l_deck f_l_deck d_l_deck
  k_l_deck : PySem.W.keepIn K (.ref f_l_deck) = true
  b_l_deck : Binds K d_l_deck ["_law_script"] []
  g_l_pick : mg "_law_pick" = some (.ref f_l_pick)
  F_l_pick : Fun K "_law_pick" "_law_pick" s_l_pick f_l_pick d_l_pick
  k_l_pick : PySem.W.keepIn K (.ref f_l_pick) = true
  b_l_pick : Binds K d_l_pick ["_law_deck_here", "_law_many"] []
  g_l_divisor : mg "_law_divisor" = some (.ref f_l_divisor)
  F_l_divisor : Fun K "_law_divisor" "_law_divisor" s_l_divisor f_l_divisor d_l_divisor
  k_l_divisor : PySem.W.keepIn K (.ref f_l_divisor) = true
  b_l_divisor : Binds K d_l_divisor ["_law_one", "_law_other"] []
  g_l_made : mg "_law_made" = some (.ref f_l_made)
  F_l_made : Fun K "_law_made" "_law_made" s_l_made f_l_made d_l_made
  k_l_made : PySem.W.keepIn K (.ref f_l_made) = true
  b_l_made : Binds K d_l_made ["_law_top", "_law_bottom"] []
  g_l_amount : mg "_law_amount" = some (.ref f_l_amount)
  F_l_amount : Fun K "_law_amount" "_law_amount" s_l_amount f_l_amount d_l_amount
  k_l_amount : PySem.W.keepIn K (.ref f_l_amount) = true
  b_l_amount : Binds K d_l_amount ["_law_deck_here"] []
  g_l_great : mg "_law_great" = some (.ref f_l_great)
  F_l_great : Fun K "_law_great" "_law_great" s_l_great f_l_great d_l_great
  k_l_great : PySem.W.keepIn K (.ref f_l_great) = true
  b_l_great : Binds K d_l_great ["_law_deck_here"] []
  g_l_great_stall : mg "_law_great_stall" = some (.ref f_l_great_stall)
  F_l_great_stall : Fun K "_law_great_stall" "_law_great_stall" s_l_great_stall f_l_great_stall d_l_great_stall
  k_l_great_stall : PySem.W.keepIn K (.ref f_l_great_stall) = true
  b_l_great_stall : Binds K d_l_great_stall ["_law_deck_here"] []
  g_l_stall : mg "_law_stall" = some (.ref f_l_stall)
  F_l_stall : Fun K "_law_stall" "_law_stall" s_l_stall f_l_stall d_l_stall
  k_l_stall : PySem.W.keepIn K (.ref f_l_stall) = true
  b_l_stall : Binds K d_l_stall ["_law_deck_here", "_law_wares"] []
  g_l_stalls : mg "_law_stalls" = some (.ref f_l_stalls)
  F_l_stalls : Fun K "_law_stalls" "_law_stalls" s_l_stalls f_l_stalls d_l_stalls
  k_l_stalls : PySem.W.keepIn K (.ref f_l_stalls) = true
  b_l_stalls : Binds K d_l_stalls ["_law_deck_here", "_law_wares"] []
  g_l_added : mg "_law_added" = some (.ref f_l_added)
  F_l_added : Fun K "_law_added" "_law_added" s_l_added f_l_added d_l_added
  k_l_added : PySem.W.keepIn K (.ref f_l_added) = true
  b_l_added : Binds K d_l_added ["_law_amounts"] []
  g_l_held : mg "_law_held" = some (.ref f_l_held)
  F_l_held : Fun K "_law_held" "_law_held" s_l_held f_l_held d_l_held
  k_l_held : PySem.W.keepIn K (.ref f_l_held) = true
  b_l_held : Binds K d_l_held ["_law_wares", "_law_stalls_here"] []
  g_l_roots : mg "_law_roots" = some (.ref f_l_roots)
  F_l_roots : Fun K "_law_roots" "_law_roots" s_l_roots f_l_roots d_l_roots
  k_l_roots : PySem.W.keepIn K (.ref f_l_roots) = true
  b_l_roots : Binds K d_l_roots ["_law_wares", "_law_stalls_here"] []
  g_l_are_fractions : mg "_law_are_fractions" = some (.ref f_l_are_fractions)
  F_l_are_fractions : Fun K "_law_are_fractions" "_law_are_fractions" s_l_are_fractions f_l_are_fractions d_l_are_fractions
  k_l_are_fractions : PySem.W.keepIn K (.ref f_l_are_fractions) = true
  b_l_are_fractions : Binds K d_l_are_fractions ["_law_things"] []
  g_l_is_refused : mg "_law_is_refused" = some (.ref f_l_is_refused)
  F_l_is_refused : Fun K "_law_is_refused" "_law_is_refused" s_l_is_refused f_l_is_refused d_l_is_refused
  k_l_is_refused : PySem.W.keepIn K (.ref f_l_is_refused) = true
  b_l_is_refused : Binds K d_l_is_refused ["_law_web", "_law_ware"] []
  g_l_is_well : mg "_law_is_well" = some (.ref f_l_is_well)
  F_l_is_well : Fun K "_law_is_well" "_law_is_well" s_l_is_well f_l_is_well d_l_is_well
  k_l_is_well : PySem.W.keepIn K (.ref f_l_is_well) = true
  b_l_is_well : Binds K d_l_is_well ["_law_web", "_law_wares", "_law_stalls_here"] []
  g_law : mg "law" = some (.ref f_law)
  F_law : Fun K "law" "law" s_law f_law d_law
  k_law : PySem.W.keepIn K (.ref f_law) = true
  b_law : Binds K d_law ["_law_script"] []
  F_Web_init : Fun K "__init__" "Web.__init__" s_Web_init f_Web_init d_Web_init
  b_Web_init : Binds K d_Web_init ["self", "wares", "stalls"] []
  F_Web_eq : Fun K "__eq__" "Web.__eq__" s_Web_eq f_Web_eq d_Web_eq
  b_Web_eq : Binds K d_Web_eq ["self", "other"] []
  i_Web_eq : PySem.W.findIn K (.ref c_Web) "__eq__" = some (some (.ref f_Web_eq))
  fn_Web_eq : PySem.W.isFn K (.ref f_Web_eq) = true
  ne_Web : PySem.W.findIn K (.ref c_Web) "__ne__" = some (some (.builtin "object.__ne__"))
end My
/-! the steps of a reading, one after another; side conditions come last -/
local macro_rules | `(tactic| walk_at "hp") => `(tactic| (repeat (first | (with_reducible assumption) | (with_reducible exact L2.upd_same) | (refine (L2.upd_ne (by first | assumption | (apply Ne.symm; assumption))).trans ?_))))
local macro_rules | `(tactic| walk_at "sd") => `(tactic| first | assumption | decide | omega | (exact My.cpow_of (by decide)) | (exact My.cdivx (b := 64) (by decide) (by decide) (by decide)) | (exact My.cdivx (by omega) (by assumption) (by decide)))
local macro_rules | `(tactic| walk_at "rX") => `(tactic| fail)
local macro_rules | `(tactic| walk_at "rV") => `(tactic| first
  | (with_reducible refine My.rd_C ?_)
  | ((with_reducible refine' My.rd_var ?k1 ?_); (case k1 => rfl))
  | (with_reducible refine My.rd_op ?_) | (with_reducible refine My.rd_cons ?_) | (with_reducible refine My.rd_nil ?_) | (with_reducible refine My.rd_CB ?_) | (with_reducible refine My.rd_call ?_)
  | (with_reducible refine My.rd_rI0 ?_)
  | (with_reducible refine My.rd_rI ?_ (by walk_at "sd"))
  | (with_reducible refine My.rd_rI ?_ ?_)
  | ((with_reducible refine' My.rd_ixL ?k1 ?k2 ?_); (case k1 => walk_at "hp"); (case k2 => rfl))
  | ((with_reducible refine' My.rd_ixT ?k1 ?k2 ?_); (case k1 => walk_at "hp"); (case k2 => rfl))
  | ((with_reducible refine' My.rd_ixTp ?k1 ?k3 ?k2 ?_); (case k1 => walk_at "tp"); (case k2 => rfl); (case k3 => rfl))
  | (with_reducible refine My.rd_un ?_) | (with_reducible refine My.rd_rU ?_)
  | (with_reducible refine My.rd_eqI ?_) | (with_reducible refine My.rd_neI ?_) | (with_reducible refine My.rd_eqB ?_) | (with_reducible refine My.rd_neB ?_) | (with_reducible refine My.rd_eqS ?_) | (with_reducible refine My.rd_neS ?_)
  | (with_reducible refine My.rd_gcd ?_) | (with_reducible refine My.rd_bits ?_)
  | ((with_reducible refine' My.rd_lenL ?_ ?k1); (case k1 => walk_at "hp"))
  | ((with_reducible refine' My.rd_lenT ?_ ?k1); (case k1 => walk_at "hp"))
  | ((with_reducible refine' My.rd_lenTp ?_ ?k1 ?k3); (case k1 => walk_at "tp"); (case k3 => rfl))
  | (with_reducible refine My.rd_int ?_) | (with_reducible refine My.rd_abs ?_) | (with_reducible refine My.rd_min ?_) | (with_reducible refine My.rd_intB ?_)
  | (with_reducible refine ⟨_, rfl, ?_⟩)
  | (with_reducible refine My.rd_len ?_ rfl)
  | (with_reducible refine My.rd_tup ?_) | (with_reducible refine My.rd_lst ?_)
  | (with_reducible refine My.isi_int_int ?_) | (with_reducible refine My.isi_int_bool ?_) | (with_reducible refine My.isi_bl_bool ?_)
  | ((with_reducible refine' My.isi_tup_tup ?k1 ?_); (case k1 => walk_at "hp"))
  | ((with_reducible refine' My.isi_tp ?k1 ?k3 ?_); (case k1 => walk_at "tp"); (case k3 => rfl))
  | (with_reducible refine My.rd_isBl ?_))
local macro_rules | `(tactic| walk_at "rS") => `(tactic| first
  | (with_reducible refine My.rd_seq ?_) | (with_reducible refine My.rd_next ?_) | (with_reducible refine My.rd_asg ?_) | (with_reducible refine My.rd_gName ?_) | (with_reducible refine My.rd_ret ?_)
  | (with_reducible refine My.rd_ifS ?_) | (with_reducible refine My.rd_test ?_) | (with_reducible refine My.rd_B ?_) | (with_reducible refine My.rd_not ?_) | (with_reducible refine My.rd_and ?_) | (with_reducible refine My.rd_or ?_)
  | (with_reducible refine My.rd_andV ?_) | (with_reducible refine My.rd_orV ?_) | (with_reducible refine My.rd_notV ?_) | (with_reducible refine My.rd_ifE ?_) | (with_reducible refine My.rd_chain ?_)
  | (with_reducible refine My.rd_gSub ?_) | ((with_reducible refine' My.rd_setL ?k1 ?k2 ?_); (case k1 => walk_at "hp"); (case k2 => rfl))
  | ((with_reducible refine' My.rd_gTup ?k1 ?k2 ?_); (case k1 => walk_at "hp"); (case k2 => rfl)) | ((with_reducible refine' My.rd_gTp ?k1 ?k3 ?k2 ?_); (case k1 => walk_at "tp"); (case k2 => rfl); (case k3 => rfl)) | (with_reducible refine My.rd_gCons ?_) | (with_reducible refine My.rd_gNil ?_)
  | (with_reducible refine My.rd_drop ?_) | (with_reducible refine My.rd_for ?_) | (with_reducible refine My.rd_rng1 ?_) | (with_reducible refine My.rd_itL ?_) | (with_reducible refine My.rd_itT ?_)
  | (with_reducible refine My.rd_sl ?_) | (with_reducible refine My.rd_part ?_) | (with_reducible refine My.rd_nopart ?_) | (with_reducible refine My.rd_bm ?_) | (with_reducible refine My.rd_yes ?_) | (with_reducible refine My.rd_lc ?_)
  | (with_reducible refine My.ite_nt ?_) | (with_reducible refine My.ite_nf ?_)
  | (with_reducible refine L2.iteF ?_) | (with_reducible refine L2.iteT ?_))
local macro_rules | `(tactic| walk_at "dc") => `(tactic| first | (with_reducible assumption) | ((with_reducible show _ = _); rfl) | omega | decide)
local macro_rules | `(tactic| walk_at "rI") => `(tactic| first
  | ((with_reducible refine' My.if_T ?k1 ?_); (case k1 => walk_at "dc"))
  | ((with_reducible refine' My.if_F ?k1 ?_); (case k1 => walk_at "dc"))
  | ((with_reducible refine' My.if_nF ?k1 ?_); (case k1 => walk_at "dc"))
  | ((with_reducible refine' My.if_nT ?k1 ?_); (case k1 => walk_at "dc")))
local macro_rules | `(tactic| walk_at "r") => `(tactic| (repeat (first | (walk_at "rV") | (walk_at "rS") | (walk_at "rI") | (walk_at "rX"))))
local macro_rules | `(tactic| walk_at "if") => `(tactic| first | (with_reducible refine My.if_dec (fun h => ?_) (fun h => ?_)) | (with_reducible refine My.if_ndec (fun h => ?_) (fun h => ?_)))
local macro_rules | `(tactic| walk_at "st") => `(tactic| (set_option pp.maxSteps 150 in trace_state))
local macro_rules | `(tactic| walk_at "rX") => `(tactic| first | (with_reducible refine My.rd_callS ?_) | (with_reducible refine My.rd_newK ?_) | (with_reducible refine My.rd_raise1 ?_) | (with_reducible refine My.rd_x1 ?_) | (with_reducible refine My.rd_fldS ?_) | (with_reducible refine My.rd_fld ?_) | (with_reducible refine My.rd_make ?_) | (with_reducible refine My.rd_enum ?_) | (with_reducible refine My.rd_enumX ?_) | (with_reducible refine My.rd_ost ?_) | (with_reducible refine My.rd_xf ?_) | (with_reducible refine My.isi_int_tup ?_))
local macro_rules | `(tactic| walk_at "sm") => `(tactic| first | (with_reducible assumption) | (with_reducible exact L2.Same.refl _) | ((with_reducible refine L2.Same.trans ?_ (by with_reducible assumption)); walk_at "sm"))
local macro_rules | `(tactic| walk_at "tp") => `(tactic| first | (with_reducible assumption) | ((with_reducible refine My.Tp.same ?_ (by with_reducible assumption)); walk_at "sm"))
local macro_rules | `(tactic| walk_at "hp") => `(tactic| ((with_reducible refine My.at_same ?_ (by with_reducible assumption)); walk_at "sm"))
local macro_rules | `(tactic| walk_at "kp") => `(tactic| first | (with_reducible assumption) | ((with_reducible refine My.IsF.same ?_ (by with_reducible assumption)); walk_at "sm") | ((with_reducible refine My.IsSt.same ?_ (by with_reducible assumption)); walk_at "sm") | ((with_reducible refine My.IsWeb.same ?_ (by with_reducible assumption)); walk_at "sm") | ((with_reducible refine My.IsMv.same ?_ (by with_reducible assumption)); walk_at "sm") | ((with_reducible refine My.Sts.same ?_ (by with_reducible assumption)); walk_at "sm") | ((with_reducible refine My.Tp.same ?_ (by with_reducible assumption)); walk_at "sm") | ((with_reducible refine My.at_same ?_ (by with_reducible assumption)); walk_at "sm"))
namespace My
open PySem PySem.Spec PyProof.Rows L2
section
variable {P : Program} {w : World} {K : PySem.W.Frag} {mg : Str → Option Value} {base : Heap} {f_is_integer f_is_row f_is_fraction f_is_some f_added f_multiplied f_squared f_summed f_is_stall f_is_ware f_check_ware f_across f_hold_of f_stalls_of f_kept_of f_held f_roots f_neighbours f_l_deck f_l_pick f_l_divisor f_l_made f_l_amount f_l_great f_l_great_stall f_l_stall f_l_stalls f_l_added f_l_held f_l_roots f_l_are_fractions f_l_is_refused f_l_is_well f_law f_Web_init f_Web_eq c_BadWare c_Web c_ZERO : Addr} {d_is_integer d_is_row d_is_fraction d_is_some d_added d_multiplied d_squared d_summed d_is_stall d_is_ware d_check_ware d_across d_hold_of d_stalls_of d_kept_of d_held d_roots d_neighbours d_l_deck d_l_pick d_l_divisor d_l_made d_l_amount d_l_great d_l_great_stall d_l_stall d_l_stalls d_l_added d_l_held d_l_roots d_l_are_fractions d_l_is_refused d_l_is_well d_law d_Web_init d_Web_eq : FuncData}
def sp_pick (M : Nat) : Sp := fun vs H Q _ => ∃ (D C : Addr) (many : Int) (c : Nat), vs = [.ref D, .int many] ∧ (0 < many ∧ many.natAbs < 2 ^ 64) ∧ Deck M D C H c ∧ c ≤ 2 ^ 40 ∧
  ∀ H' r, Fw D H H' → Deck M D C H' (c + 1) → 0 ≤ r → r < many → Q (.int r) H'
theorem ok_pick {M : Nat} (hM : 64 ≤ M) (hM2 : M ≤ 1048576) (T : Txt K mg f_is_integer f_is_row f_is_fraction f_is_some f_added f_multiplied f_squared f_summed f_is_stall f_is_ware f_check_ware f_across f_hold_of f_stalls_of f_kept_of f_held f_roots f_neighbours f_l_deck f_l_pick f_l_divisor f_l_made f_l_amount f_l_great f_l_great_stall f_l_stall f_l_stalls f_l_added f_l_held f_l_roots f_l_are_fractions f_l_is_refused f_l_is_well f_law f_Web_init f_Web_eq c_BadWare c_Web c_ZERO d_is_integer d_is_row d_is_fraction d_is_some d_added d_multiplied d_squared d_summed d_is_stall d_is_ware d_check_ware d_across d_hold_of d_stalls_of d_kept_of d_held d_roots d_neighbours d_l_deck d_l_pick d_l_divisor d_l_made d_l_amount d_l_great d_l_great_stall d_l_stall d_l_stalls d_l_added d_l_held d_l_roots d_l_are_fractions d_l_is_refused d_l_is_well d_law d_Web_init d_Web_eq) : FnOk P w K mg base CX0 1 f_l_pick d_l_pick ["_law_deck_here", "_law_many"] (sp_pick M) := by
  refine T.F_l_pick.ok sc_l_pick (fun vs H Q E h => ?_) (fun cdv A outer s H vs Q E hr h => ?_)
  · obtain ⟨D, C, many, c, rfl, _⟩ := h
    rfl
  · obtain ⟨D, C, many, c, rfl, ⟨hm0, hm1⟩, ⟨cells, pl, rest, cnt, hCD, hD, hC, hlen, hb, ⟨hr0, hr1⟩, hc0, hc1⟩, hc, q⟩ := h
    have cd : ∀ i : Int, CDivX i many := fun i => cdivx (by omega) hm1 (by decide)
    refine ⟨_, (pss_cons (ps_asg (pe_op op_add (pe_ix ix_list (pv 0) pe_int (fun _ _ => rfl)) pe_int) (pg_sub (pv 0) pe_int set_list))
      (pss_cons (ps_if (pt_cmpR op_gt (pe_ix ix_list (pv 0) pe_int (fun _ _ => rfl)) pe_int (nomark _))
        (pss_cons (ps_set (i := 2) sc_l_pick.nd rfl (by first | exact Or.inl rfl | exact Or.inr rfl) (pe_op op_mod (pe_callTy call_intN (by rfl) T.z_int (by decide +kernel) (pa_cons (pe_ix ix_list (pv 0) pe_int (fun _ _ => rfl)) pa_nil)) (pv 1)))
          (pss_cons (ps_asg (pe_op op_fdivX (pe_callTy call_intN (by rfl) T.z_int (by decide +kernel) (pa_cons (pe_ix ix_list (pv 0) pe_int (fun _ _ => rfl)) pa_nil)) (pv 1)) (pg_sub (pv 0) pe_int set_list))
          (pss_one (ps_ret (pv 2)))))
        pss_nil)
      (pss_cons (ps_set (i := 3) sc_l_pick.nd rfl (by first | exact Or.inl rfl | exact Or.inr rfl) (pe_ix ix_list (pv 0) pe_int (fun _ _ => rfl)))
      (pss_cons (ps_set (i := 4) sc_l_pick.nd rfl (by first | exact Or.inl rfl | exact Or.inr rfl) pe_int)
      (pss_cons (ps_if (pt_cmpR op_gt (pe_callB call_lenN (by rfl) T.z_len (by decide +kernel) (pa_cons (pv 3) pa_nil)) pe_int (nomark _))
        (pss_one (ps_set (i := 4) sc_l_pick.nd rfl (by first | exact Or.inl rfl | exact Or.inr rfl) (pe_ix ix_list (pv 3) (pe_op op_mod (pe_callTy call_intN (by rfl) T.z_int (by decide +kernel) (pa_cons (pe_ix ix_list (pv 0) pe_int (fun _ _ => rfl)) pa_nil)) (pe_callB call_lenN (by rfl) T.z_len (by decide +kernel) (pa_cons (pv 3) pa_nil))) (fun _ _ => rfl))))
        pss_nil)
      (pss_cons (ps_asg (pe_op op_add (pe_ix ix_list (pv 0) pe_int (fun _ _ => rfl)) pe_int) (pg_sub (pv 0) pe_int set_list))
      (pss_cons (ps_if (PW.pt (pw_and (pt_cmpR op_ge (pv 4) (pe_op op_pow pe_int pe_int) (nomark _)) (pw_and1 (pt_cmpR op_le (pe_ix ix_list (pv 0) pe_int (fun _ _ => rfl)) (pe_callB call_lenN (by rfl) T.z_len (by decide +kernel) (pa_cons (pv 3) pa_nil)) (nomark _)))))
        (pss_cons (ps_asg (pe_op op_fdivX (pe_callTy call_intN (by rfl) T.z_int (by decide +kernel) (pa_cons (pv 4) pa_nil)) (pv 1)) (pg_sub (pv 0) pe_int set_list))
          (pss_one (ps_ret (pe_op op_mod (pe_callTy call_intN (by rfl) T.z_int (by decide +kernel) (pa_cons (pv 4) pa_nil)) (pv 1)))))
        pss_nil)
      (pss_cons (ps_set (i := 5) sc_l_pick.nd rfl (by first | exact Or.inl rfl | exact Or.inr rfl) (pe_op op_mod (pe_op op_mulX (pe_callTy call_intN (by rfl) T.z_int (by decide +kernel) (pa_cons (pe_op op_add (pe_op op_add (pv 4) (pe_op op_mulX pe_int (pe_ix ix_list (pv 0) pe_int (fun _ _ => rfl)))) pe_int) pa_nil)) pe_int) pe_int))
      (pss_cons (ps_set (i := 5) sc_l_pick.nd rfl (by first | exact Or.inl rfl | exact Or.inr rfl) (pe_op op_mod (pe_op op_mulX (pv 5) (pe_op op_add (pe_op op_fdivX (pv 5) pe_int) pe_int)) pe_int))
      (pss_cons (ps_set (i := 5) sc_l_pick.nd rfl (by first | exact Or.inl rfl | exact Or.inr rfl) (pe_op op_mod (pe_op op_mulX (pv 5) (pe_op op_add (pe_op op_fdivX (pv 5) pe_int) pe_int)) pe_int))
      (pss_one (ps_ret (pe_op op_mod (pv 5) (pv 1)))))))))))))), ?_⟩
    walk_at "r"
    walk_at "if"
    · walk_at "r"
      refine q _ _ (fw_upd.trans fw_upd) ?_ (mod_rng _ hm0).1 (mod_rng _ hm0).2
      exact ⟨cells, pl, rest.fdiv many, cnt + 1, hCD, upd_same, by walk_at "hp", hlen, hb, div_small hr0 hr1 hm0, by omega, by omega⟩
    · walk_at "r"
      have hcl : 0 < (cells.map V.int).length → ∃ z, z ∈ cells ∧ atI (cells.map V.int) (pl % ((cells.map V.int).length : Nat)) = some (.int z) := fun h => at_ints (mod_rng _ (by omega)).1 (mod_rng _ (by omega)).2
      have hz0 : (0 : Int).natAbs < 2 ^ M := Nat.two_pow_pos M
      walk_at "if"
      · obtain ⟨z, hz, ez⟩ := hcl (by omega)
        have hz0 := hb z hz
        walk_at "r"
        refine ⟨_, _, _, .int z, rfl, rfl, SqL.of ?_, ez, ?_⟩
        · walk_at "hp"
        walk_at "r"
        walk_at "if"
        · walk_at "r"
          walk_at "if"
          · walk_at "r"
            have t18 := ten18
            refine q _ _ ((fw_upd.trans fw_upd).trans fw_upd) ?_ (mod_rng _ hm0).1 (mod_rng _ hm0).2
            exact ⟨cells, pl + 1, z.fdiv many, cnt + 1, hCD, upd_same, by walk_at "hp", hlen, hb, div_small (by omega) hz0 hm0, by omega, by omega⟩
          · walk_at "r"
            · refine q _ _ (fw_upd.trans fw_upd) ?_ (mod_rng _ hm0).1 (mod_rng _ hm0).2
              exact ⟨cells, pl + 1, rest, cnt + 1, hCD, upd_same, by walk_at "hp", hlen, hb, ⟨hr0, hr1⟩, by omega, by omega⟩
            · exact pick_mul2 _ (by decide) (by decide) (by decide) (by decide)
            · exact pick_mul2 _ (by decide) (by decide) (by decide) (by decide)
            · exact cmul_big (pw_big hz0 hM hc0 hc1 hc) (by decide) (by omega)
            · exact cmul_small (by decide) (by omega)
        · walk_at "r"
          · refine q _ _ (fw_upd.trans fw_upd) ?_ (mod_rng _ hm0).1 (mod_rng _ hm0).2
            exact ⟨cells, pl + 1, rest, cnt + 1, hCD, upd_same, by walk_at "hp", hlen, hb, ⟨hr0, hr1⟩, by omega, by omega⟩
          · exact pick_mul2 _ (by decide) (by decide) (by decide) (by decide)
          · exact pick_mul2 _ (by decide) (by decide) (by decide) (by decide)
          · exact cmul_big (pw_big hz0 hM hc0 hc1 hc) (by decide) (by omega)
          · exact cmul_small (by decide) (by omega)
      · walk_at "r"
        · refine q _ _ (fw_upd.trans fw_upd) ?_ (mod_rng _ hm0).1 (mod_rng _ hm0).2
          exact ⟨cells, pl + 1, rest, cnt + 1, hCD, upd_same, by walk_at "hp", hlen, hb, ⟨hr0, hr1⟩, by omega, by omega⟩
        · exact pick_mul2 _ (by decide) (by decide) (by decide) (by decide)
        · exact pick_mul2 _ (by decide) (by decide) (by decide) (by decide)
        · exact cmul_big (pw_big hz0 hM hc0 hc1 hc) (by decide) (by omega)
        · exact cmul_small (by decide) (by omega)
end
end My
namespace My
open PySem PySem.Spec PyProof.Rows L2
section
variable {P : Program} {w : World} {K : PySem.W.Frag} {mg : Str → Option Value} {base : Heap} {f_is_integer f_is_row f_is_fraction f_is_some f_added f_multiplied f_squared f_summed f_is_stall f_is_ware f_check_ware f_across f_hold_of f_stalls_of f_kept_of f_held f_roots f_neighbours f_l_deck f_l_pick f_l_divisor f_l_made f_l_amount f_l_great f_l_great_stall f_l_stall f_l_stalls f_l_added f_l_held f_l_roots f_l_are_fractions f_l_is_refused f_l_is_well f_law f_Web_init f_Web_eq c_BadWare c_Web c_ZERO : Addr} {d_is_integer d_is_row d_is_fraction d_is_some d_added d_multiplied d_squared d_summed d_is_stall d_is_ware d_check_ware d_across d_hold_of d_stalls_of d_kept_of d_held d_roots d_neighbours d_l_deck d_l_pick d_l_divisor d_l_made d_l_amount d_l_great d_l_great_stall d_l_stall d_l_stalls d_l_added d_l_held d_l_roots d_l_are_fractions d_l_is_refused d_l_is_well d_law d_Web_init d_Web_eq : FuncData}
def sp_deck (K : PySem.W.Frag) : Sp := fun vs H Q _ => ∃ (a : Addr) (ns : List Int), vs = [.ref a] ∧ SqL K H a (ns.map V.int) ∧ ns.length ≤ 63 ∧ (∀ z ∈ ns, Builtin.Int.intBits z ≤ 1048576) ∧
  ∀ H' D C, Same H H' → Deck 1048576 D C H' 0 → Q (.ref D) H'
theorem ok_l_deck (T : Txt K mg f_is_integer f_is_row f_is_fraction f_is_some f_added f_multiplied f_squared f_summed f_is_stall f_is_ware f_check_ware f_across f_hold_of f_stalls_of f_kept_of f_held f_roots f_neighbours f_l_deck f_l_pick f_l_divisor f_l_made f_l_amount f_l_great f_l_great_stall f_l_stall f_l_stalls f_l_added f_l_held f_l_roots f_l_are_fractions f_l_is_refused f_l_is_well f_law f_Web_init f_Web_eq c_BadWare c_Web c_ZERO d_is_integer d_is_row d_is_fraction d_is_some d_added d_multiplied d_squared d_summed d_is_stall d_is_ware d_check_ware d_across d_hold_of d_stalls_of d_kept_of d_held d_roots d_neighbours d_l_deck d_l_pick d_l_divisor d_l_made d_l_amount d_l_great d_l_great_stall d_l_stall d_l_stalls d_l_added d_l_held d_l_roots d_l_are_fractions d_l_is_refused d_l_is_well d_law d_Web_init d_Web_eq) : FnOk P w K mg base CX0 1 f_l_deck d_l_deck ["_law_script"] (sp_deck K) := by
  refine T.F_l_deck.ok sc_l_deck (fun vs H Q E h => ?_) (fun cdv A outer s H vs Q E hr h => ?_)
  · obtain ⟨a, ns, rfl, _⟩ := h
    rfl
  · obtain ⟨a, ns, rfl, hS, hl, hb, q⟩ := h
    refine ⟨_, (pss_one (ps_ret (pe_lst (pa_cons (pe_lc (own := [("_law_cell", 1)]) (g := gName 1) rfl sc_l_deck.nd (pi_list (pe_slice sl_list (pv 0) po_none (po_some pe_int))) (blkOk_by (own := [("_law_cell", 1)]) (N := N_l_deck) (sc := defScope s_l_deck) (by decide +kernel)) (fun _ _ _ _ _ => (pg_name (i := 1) sc_l_deck.nd rfl (by first | exact Or.inl rfl | exact Or.inr rfl))) (fun _ _ _ _ _ => pts_nil) (fun _ _ _ _ _ => (pe_callTy call_intN (by rfl) T.z_int (by decide +kernel) (pa_cons (pv 1) pa_nil)))) (pa_cons pe_int (pa_cons pe_int (pa_cons pe_int pa_nil))))))), ?_⟩
    walk_at "r"
    refine rd_slL hS (fun p np => ?_)
    refine ⟨_, rfl, ⟨_, .of upd_same⟩, fun D nD => ?_⟩
    have hDp : D ≠ p := fun e => by
      rw [e, upd_same] at nD
      cases nD
    have hcut : cutV (ns.map V.int) none (some 63) = ns.map V.int := cut_all (n := 63) (by rw [List.length_map]; exact hl)
    refine lc_list (K := K) (a := p) (xs := ns.map V.int) (fun i H' => Same H H' ∧ H' p = some (.lst (ns.map V.int)) ∧ H' D = some (.lst ((ns.take i).map V.int))) ?_ ?_ ?_ ?_
    · refine ⟨(same_upd np).trans (same_upd nD), ?_, upd_same⟩
      rw [upd_ne hDp.symm, upd_same, hcut]
    · intro i H' _ h
      exact .of h.2.1
    · rintro i x H' hx ⟨s1, s2, s3⟩
      obtain ⟨z, rfl, hz, et⟩ := take_succ_map hx
      walk_at "r"
      refine ⟨rfl, ?_⟩
      walk_at "r"
      refine ⟨_, s3, ?_, fun b o e => ?_, ?_, ?_⟩
      · rw [List.length_map, List.length_take]
        exact Nat.lt_of_le_of_lt (Nat.min_le_right _ _) (small1000 (by omega))
      · have nb : b ≠ D := fun e' => by
          rw [e', (same_upd np).free nD] at e
          cases e
        rw [upd_ne nb]
        exact s1 b o e
      · rw [upd_ne hDp.symm]
        exact s2
      · rw [upd_same, et]
    · rintro H' ⟨s1, s2, s3⟩
      have hlen : (ns.map V.int).length = ns.length := List.length_map ..
      rw [hlen, List.take_of_length_le (Nat.le_refl _)] at s3
      walk_at "r"
      intro D' nD'
      have hDD : D ≠ D' := ne_of_none s3 nD'
      refine q _ _ _ (s1.trans (same_upd nD')) ⟨ns, 0, 0, 0, hDD, upd_same, ?_, hl, fun z hz => bits_lt (hb z hz), ⟨by decide, Nat.two_pow_pos _⟩, by decide, by decide⟩
      rw [upd_ne hDD]
      exact s3
def sp_divisor : Sp := fun vs H Q _ => ∃ a b : Int, vs = [.int a, .int b] ∧ b.natAbs < 2 ^ 20000 ∧ Q (.int (a.natAbs.gcd b.natAbs : Nat)) H
theorem ok_l_divisor (T : Txt K mg f_is_integer f_is_row f_is_fraction f_is_some f_added f_multiplied f_squared f_summed f_is_stall f_is_ware f_check_ware f_across f_hold_of f_stalls_of f_kept_of f_held f_roots f_neighbours f_l_deck f_l_pick f_l_divisor f_l_made f_l_amount f_l_great f_l_great_stall f_l_stall f_l_stalls f_l_added f_l_held f_l_roots f_l_are_fractions f_l_is_refused f_l_is_well f_law f_Web_init f_Web_eq c_BadWare c_Web c_ZERO d_is_integer d_is_row d_is_fraction d_is_some d_added d_multiplied d_squared d_summed d_is_stall d_is_ware d_check_ware d_across d_hold_of d_stalls_of d_kept_of d_held d_roots d_neighbours d_l_deck d_l_pick d_l_divisor d_l_made d_l_amount d_l_great d_l_great_stall d_l_stall d_l_stalls d_l_added d_l_held d_l_roots d_l_are_fractions d_l_is_refused d_l_is_well d_law d_Web_init d_Web_eq) : FnOk P w K mg base CX0 1 f_l_divisor d_l_divisor ["_law_one", "_law_other"] sp_divisor := by
  refine T.F_l_divisor.ok sc_l_divisor (fun vs H Q E h => ?_) (fun cdv A outer s H vs Q E hr h => ?_)
  · obtain ⟨a, b, rfl, _⟩ := h
    rfl
  · obtain ⟨a, b, rfl, hb, q⟩ := h
    have hbits : Builtin.Int.intBits (b.natAbs : Nat) ≤ 20000 := by
      have h := PyProof.Rows.intBits_le (a := (b.natAbs : Int)) (by rw [Int.natAbs_natCast]; exact hb)
      exact h
    have hlt := bits_lt (z := (b.natAbs : Int)) (Nat.le_refl _)
    rw [Int.natAbs_natCast] at hlt
    refine ⟨_, (pss_cons (ps_set (i := 0) sc_l_divisor.nd rfl (by first | exact Or.inl rfl | exact Or.inr rfl) (pe_callB call_absN (by rfl) T.z_abs (by decide +kernel) (pa_cons (pv 0) pa_nil)))
      (pss_cons (ps_set (i := 1) sc_l_divisor.nd rfl (by first | exact Or.inl rfl | exact Or.inr rfl) (pe_callB call_absN (by rfl) T.z_abs (by decide +kernel) (pa_cons (pv 1) pa_nil)))
      (pss_cons (ps_for PassesOwn.never rfl (pi_range1 (by rfl) T.z_range (pa_cons (pe_op op_add (pe_op op_mulX pe_int (pe_bits (pv 1))) pe_int) pa_nil)) (pg_name (i := 2) sc_l_divisor.nd rfl (by first | exact Or.inl rfl | exact Or.inr rfl))
        (pss_cons (ps_if (pt_cmpR op_eq (pv 1) pe_int (nomark _))
            (pss_one (ps_ret (pv 0)))
            pss_nil)
          (pss_cons (ps_set (i := 3) sc_l_divisor.nd rfl (by first | exact Or.inl rfl | exact Or.inr rfl) (pe_op op_mod (pe_callTy call_intN (by rfl) T.z_int (by decide +kernel) (pa_cons (pv 0) pa_nil)) (pv 1)))
          (pss_cons (ps_set (i := 0) sc_l_divisor.nd rfl (by first | exact Or.inl rfl | exact Or.inr rfl) (pv 1))
          (pss_one (ps_set (i := 1) sc_l_divisor.nd rfl (by first | exact Or.inl rfl | exact Or.inr rfl) (pv 3)))))))
      (pss_one (ps_ret (pv 0)))))), ?_⟩
    walk_at "r"
    · refine ⟨by omega, by omega, ?_⟩
      generalize Builtin.Int.intBits (b.natAbs : Int) = k at *
      have hN : (2 * (k : Int) + 2).toNat = 2 * k + 2 := by omega
      rw [hN]
      refine for_range (lo := 0) (n := 2 * k + 2) (fun i σ H' => ∃ (x y : Nat) (t r : Option V), σ = [some (.int x), some (.int y), t, r] ∧ H' = H ∧ Euc (a.natAbs.gcd b.natAbs) b.natAbs i x y) ?_ ?_ ?_
      · exact ⟨a.natAbs, b.natAbs, none, none, rfl, rfl, ⟨rfl, by simp, fun h => absurd rfl h⟩⟩
      · rintro i σ H' hi ⟨x, y, t, r, rfl, rfl, e⟩
        walk_at "r"
        walk_at "if"
        · rename_i hy
          have hy0 : y = 0 := by omega
          have g := e.g
          rw [hy0, Nat.gcd_zero_right] at g
          walk_at "r"
          rw [g]
          exact q
        · rename_i hy
          walk_at "r"
          exact ⟨y, x % y, _, _, rfl, rfl, e.step (by omega)⟩
      · rintro σ H' ⟨x, y, t, r, rfl, rfl, e⟩
        obtain ⟨_, hx⟩ := e.done hlt
        walk_at "r"
        rw [hx]
        exact q
    · exact cmul_small (by decide) (by omega)
end
end My
namespace My
open PySem PySem.Spec PyProof.Rows L2
variable {K : PySem.W.Frag}
section
variable {P : Program} {w : World} {K : PySem.W.Frag} {mg : Str → Option Value} {base : Heap} {f_is_integer f_is_row f_is_fraction f_is_some f_added f_multiplied f_squared f_summed f_is_stall f_is_ware f_check_ware f_across f_hold_of f_stalls_of f_kept_of f_held f_roots f_neighbours f_l_deck f_l_pick f_l_divisor f_l_made f_l_amount f_l_great f_l_great_stall f_l_stall f_l_stalls f_l_added f_l_held f_l_roots f_l_are_fractions f_l_is_refused f_l_is_well f_law f_Web_init f_Web_eq c_BadWare c_Web c_ZERO : Addr} {d_is_integer d_is_row d_is_fraction d_is_some d_added d_multiplied d_squared d_summed d_is_stall d_is_ware d_check_ware d_across d_hold_of d_stalls_of d_kept_of d_held d_roots d_neighbours d_l_deck d_l_pick d_l_divisor d_l_made d_l_amount d_l_great d_l_great_stall d_l_stall d_l_stalls d_l_added d_l_held d_l_roots d_l_are_fractions d_l_is_refused d_l_is_well d_law d_Web_init d_Web_eq : FuncData}
/-- two fractions in, one out -/
def sp_two (K : PySem.W.Frag) (f : Rat → Rat → Rat) (C : Rat → Rat → Prop) : Sp := fun vs H Q _ => ∃ x y r s, vs = [x, y] ∧ IsF K H x r ∧ IsF K H y s ∧ Bd 4000 r ∧ Bd 4000 s ∧ C r s ∧ ∀ H' v, Same H H' → IsF K H' v (f r s) → Q v H'
def sp_added (K : PySem.W.Frag) : Sp := sp_two K (· + ·) fun _ _ => True
theorem ok_added (T : Txt K mg f_is_integer f_is_row f_is_fraction f_is_some f_added f_multiplied f_squared f_summed f_is_stall f_is_ware f_check_ware f_across f_hold_of f_stalls_of f_kept_of f_held f_roots f_neighbours f_l_deck f_l_pick f_l_divisor f_l_made f_l_amount f_l_great f_l_great_stall f_l_stall f_l_stalls f_l_added f_l_held f_l_roots f_l_are_fractions f_l_is_refused f_l_is_well f_law f_Web_init f_Web_eq c_BadWare c_Web c_ZERO d_is_integer d_is_row d_is_fraction d_is_some d_added d_multiplied d_squared d_summed d_is_stall d_is_ware d_check_ware d_across d_hold_of d_stalls_of d_kept_of d_held d_roots d_neighbours d_l_deck d_l_pick d_l_divisor d_l_made d_l_amount d_l_great d_l_great_stall d_l_stall d_l_stalls d_l_added d_l_held d_l_roots d_l_are_fractions d_l_is_refused d_l_is_well d_law d_Web_init d_Web_eq) : FnOk P w K mg base CX0 1 f_added d_added ["one", "other"] (sp_added K) := by
  refine T.F_added.ok sc_added (fun vs H Q E h => ?_) (fun cdv A outer s H vs Q E hr h => ?_)
  · obtain ⟨x, y, r, s, rfl, _⟩ := h
    rfl
  · obtain ⟨x, y, r, s, rfl, ⟨p1, rfl, h1⟩, ⟨p2, rfl, h2⟩, b1, b2, -, q⟩ := h
    obtain ⟨m1, m2, m3, m4, m5, m6, m7⟩ := added_math b1 b2 _ _ _ rfl rfl rfl
    refine ⟨_, (pss_cons (ps_set (i := 2) sc_added.nd rfl (by first | exact Or.inl rfl | exact Or.inr rfl) (pe_callBfun cr_gcd (by rfl) T.m_gcd (pa_cons (pe_ix ix_tup (pv 0) pe_int (fun _ _ => rfl)) (pa_cons (pe_ix ix_tup (pv 1) pe_int (fun _ _ => rfl)) pa_nil))))
      (pss_cons (ps_set (i := 3) sc_added.nd rfl (by first | exact Or.inl rfl | exact Or.inr rfl) (pe_op op_fdivX (pe_ix ix_tup (pv 0) pe_int (fun _ _ => rfl)) (pv 2)))
      (pss_cons (ps_set (i := 4) sc_added.nd rfl (by first | exact Or.inl rfl | exact Or.inr rfl) (pe_op op_add (pe_op op_mulX (pe_ix ix_tup (pv 0) pe_int (fun _ _ => rfl)) (pe_op op_fdivX (pe_ix ix_tup (pv 1) pe_int (fun _ _ => rfl)) (pv 2))) (pe_op op_mulX (pe_ix ix_tup (pv 1) pe_int (fun _ _ => rfl)) (pv 3))))
      (pss_cons (ps_set (i := 5) sc_added.nd rfl (by first | exact Or.inl rfl | exact Or.inr rfl) (pe_callBfun cr_gcd (by rfl) T.m_gcd (pa_cons (pv 4) (pa_cons (pv 2) pa_nil))))
      (pss_one (ps_ret (pe_tup (pa_cons (pe_op op_fdivX (pv 4) (pv 5)) (pa_cons (pe_op op_mulX (pv 3) (pe_op op_fdivX (pe_ix ix_tup (pv 1) pe_int (fun _ _ => rfl)) (pv 5))) pa_nil))))))))), ?_⟩
    walk_at "r"
    · intro p np
      exact q _ _ (same_upd np) (isF_new m6 m7)
    all_goals first | assumption | exact m1 _ | exact m4 _
def sp_multiplied (K : PySem.W.Frag) : Sp := sp_two K (· * ·) fun _ _ => True
theorem ok_multiplied (T : Txt K mg f_is_integer f_is_row f_is_fraction f_is_some f_added f_multiplied f_squared f_summed f_is_stall f_is_ware f_check_ware f_across f_hold_of f_stalls_of f_kept_of f_held f_roots f_neighbours f_l_deck f_l_pick f_l_divisor f_l_made f_l_amount f_l_great f_l_great_stall f_l_stall f_l_stalls f_l_added f_l_held f_l_roots f_l_are_fractions f_l_is_refused f_l_is_well f_law f_Web_init f_Web_eq c_BadWare c_Web c_ZERO d_is_integer d_is_row d_is_fraction d_is_some d_added d_multiplied d_squared d_summed d_is_stall d_is_ware d_check_ware d_across d_hold_of d_stalls_of d_kept_of d_held d_roots d_neighbours d_l_deck d_l_pick d_l_divisor d_l_made d_l_amount d_l_great d_l_great_stall d_l_stall d_l_stalls d_l_added d_l_held d_l_roots d_l_are_fractions d_l_is_refused d_l_is_well d_law d_Web_init d_Web_eq) : FnOk P w K mg base CX0 1 f_multiplied d_multiplied ["one", "other"] (sp_multiplied K) := by
  refine T.F_multiplied.ok sc_multiplied (fun vs H Q E h => ?_) (fun cdv A outer s H vs Q E hr h => ?_)
  · obtain ⟨x, y, r, s, rfl, _⟩ := h
    rfl
  · obtain ⟨x, y, r, s, rfl, ⟨p1, rfl, h1⟩, ⟨p2, rfl, h2⟩, b1, b2, -, q⟩ := h
    obtain ⟨m1, m2, m3, m4, m5, m6⟩ := mul_math b1 b2 _ _ rfl rfl
    refine ⟨_, (pss_cons (ps_set (i := 2) sc_multiplied.nd rfl (by first | exact Or.inl rfl | exact Or.inr rfl) (pe_callBfun cr_gcd (by rfl) T.m_gcd (pa_cons (pe_ix ix_tup (pv 0) pe_int (fun _ _ => rfl)) (pa_cons (pe_ix ix_tup (pv 1) pe_int (fun _ _ => rfl)) pa_nil))))
      (pss_cons (ps_set (i := 3) sc_multiplied.nd rfl (by first | exact Or.inl rfl | exact Or.inr rfl) (pe_callBfun cr_gcd (by rfl) T.m_gcd (pa_cons (pe_ix ix_tup (pv 1) pe_int (fun _ _ => rfl)) (pa_cons (pe_ix ix_tup (pv 0) pe_int (fun _ _ => rfl)) pa_nil))))
      (pss_one (ps_ret (pe_tup (pa_cons (pe_op op_mulX (pe_op op_fdivX (pe_ix ix_tup (pv 0) pe_int (fun _ _ => rfl)) (pv 2)) (pe_op op_fdivX (pe_ix ix_tup (pv 1) pe_int (fun _ _ => rfl)) (pv 3))) (pa_cons (pe_op op_mulX (pe_op op_fdivX (pe_ix ix_tup (pv 0) pe_int (fun _ _ => rfl)) (pv 3)) (pe_op op_fdivX (pe_ix ix_tup (pv 1) pe_int (fun _ _ => rfl)) (pv 2))) pa_nil))))))), ?_⟩
    walk_at "r"
    · intro p np
      exact q _ _ (same_upd np) (isF_new m5 m6)
    all_goals first | assumption | exact m1 _ | exact m2 _
def sp_negated (K : PySem.W.Frag) : Sp := fun vs H Q _ => ∃ x r, vs = [x] ∧ IsF K H x r ∧ ∀ H' v, Same H H' → IsF K H' v (-r) → Q v H'
def sp_lessened (K : PySem.W.Frag) : Sp := sp_two K (· - ·) fun _ _ => True
def sp_divided (K : PySem.W.Frag) : Sp := sp_two K (· / ·) fun _ s => s ≠ 0
end
end My
namespace My
open PySem PySem.Spec PyProof.Rows L2
variable {K : PySem.W.Frag}
section
variable {P : Program} {w : World} {K : PySem.W.Frag} {mg : Str → Option Value} {base : Heap} {f_is_integer f_is_row f_is_fraction f_is_some f_added f_multiplied f_squared f_summed f_is_stall f_is_ware f_check_ware f_across f_hold_of f_stalls_of f_kept_of f_held f_roots f_neighbours f_l_deck f_l_pick f_l_divisor f_l_made f_l_amount f_l_great f_l_great_stall f_l_stall f_l_stalls f_l_added f_l_held f_l_roots f_l_are_fractions f_l_is_refused f_l_is_well f_law f_Web_init f_Web_eq c_BadWare c_Web c_ZERO : Addr} {d_is_integer d_is_row d_is_fraction d_is_some d_added d_multiplied d_squared d_summed d_is_stall d_is_ware d_check_ware d_across d_hold_of d_stalls_of d_kept_of d_held d_roots d_neighbours d_l_deck d_l_pick d_l_divisor d_l_made d_l_amount d_l_great d_l_great_stall d_l_stall d_l_stalls d_l_added d_l_held d_l_roots d_l_are_fractions d_l_is_refused d_l_is_well d_law d_Web_init d_Web_eq : FuncData}
def sp_is_integer : Sp := fun vs H Q _ => ∃ i : Int, vs = [.int i] ∧ Q (.bl true) H
theorem ok_is_integer (T : Txt K mg f_is_integer f_is_row f_is_fraction f_is_some f_added f_multiplied f_squared f_summed f_is_stall f_is_ware f_check_ware f_across f_hold_of f_stalls_of f_kept_of f_held f_roots f_neighbours f_l_deck f_l_pick f_l_divisor f_l_made f_l_amount f_l_great f_l_great_stall f_l_stall f_l_stalls f_l_added f_l_held f_l_roots f_l_are_fractions f_l_is_refused f_l_is_well f_law f_Web_init f_Web_eq c_BadWare c_Web c_ZERO d_is_integer d_is_row d_is_fraction d_is_some d_added d_multiplied d_squared d_summed d_is_stall d_is_ware d_check_ware d_across d_hold_of d_stalls_of d_kept_of d_held d_roots d_neighbours d_l_deck d_l_pick d_l_divisor d_l_made d_l_amount d_l_great d_l_great_stall d_l_stall d_l_stalls d_l_added d_l_held d_l_roots d_l_are_fractions d_l_is_refused d_l_is_well d_law d_Web_init d_Web_eq) : FnOk P w K mg base CX0 1 f_is_integer d_is_integer ["thing"] sp_is_integer := by
  refine T.F_is_integer.ok sc_is_integer (fun vs H Q E h => ?_) (fun cdv A outer s H vs Q E hr h => ?_)
  · obtain ⟨i, rfl, _⟩ := h
    rfl
  · obtain ⟨i, rfl, q⟩ := h
    refine ⟨_, (pss_one (ps_ret (pe_and (pe_callB call_isi (by rfl) T.z_isinstance (by decide +kernel) (pa_cons (pv 0) (pa_cons (pe_bltn (v := .ty "int") (u := .type "int") (by rfl) T.z_int (by decide +kernel) rfl) pa_nil))) (pe_one (pe_not (pe_callB call_isi (by rfl) T.z_isinstance (by decide +kernel) (pa_cons (pv 0) (pa_cons (pe_bltn (v := .ty "bool") (u := .type "bool") (by rfl) T.z_bool (by decide +kernel) rfl) pa_nil)))))))), ?_⟩
    walk_at "r"
    exact q
def sp_is_fraction (K : PySem.W.Frag) : Sp := fun vs H Q _ => ∃ v r, vs = [v] ∧ IsF K H v r ∧ Q (.bl true) H
theorem ok_is_fraction (T : Txt K mg f_is_integer f_is_row f_is_fraction f_is_some f_added f_multiplied f_squared f_summed f_is_stall f_is_ware f_check_ware f_across f_hold_of f_stalls_of f_kept_of f_held f_roots f_neighbours f_l_deck f_l_pick f_l_divisor f_l_made f_l_amount f_l_great f_l_great_stall f_l_stall f_l_stalls f_l_added f_l_held f_l_roots f_l_are_fractions f_l_is_refused f_l_is_well f_law f_Web_init f_Web_eq c_BadWare c_Web c_ZERO d_is_integer d_is_row d_is_fraction d_is_some d_added d_multiplied d_squared d_summed d_is_stall d_is_ware d_check_ware d_across d_hold_of d_stalls_of d_kept_of d_held d_roots d_neighbours d_l_deck d_l_pick d_l_divisor d_l_made d_l_amount d_l_great d_l_great_stall d_l_stall d_l_stalls d_l_added d_l_held d_l_roots d_l_are_fractions d_l_is_refused d_l_is_well d_law d_Web_init d_Web_eq) : FnOk P w K mg base CX0 2 f_is_fraction d_is_fraction ["thing"] (sp_is_fraction K) := by
  have G_is_integer : FnOk P w K mg base CX0 1 f_is_integer d_is_integer ["thing"] sp_is_integer := ok_is_integer T
  refine T.F_is_fraction.ok sc_is_fraction (fun vs H Q E h => ?_) (fun cdv A outer s H vs Q E hr h => ?_)
  · obtain ⟨v, r, rfl, _⟩ := h
    rfl
  · obtain ⟨v, r, rfl, ⟨p, rfl, hp⟩, q⟩ := h
    refine ⟨_, (pss_cons (ps_if (PW.pt (pw_or (pt_not (pt_val (pe_callB call_isi (by rfl) T.z_isinstance (by decide +kernel) (pa_cons (pv 0) (pa_cons (pe_bltn (v := .ty "tuple") (u := .type "tuple") (by rfl) T.z_tuple (by decide +kernel) rfl) pa_nil))))) (pw_or1 (pt_cmpR op_ne (pe_callB call_lenN (by rfl) T.z_len (by decide +kernel) (pa_cons (pv 0) pa_nil)) pe_int (nomark _)))))
        (pss_one (ps_ret pe_bl))
        pss_nil)
      (pss_cons (ps_asg (pv 0) (pg_tup rfl (pgs_cons (pg_name (i := 1) sc_is_fraction.nd rfl (by first | exact Or.inl rfl | exact Or.inr rfl)) (pgs_cons (pg_name (i := 2) sc_is_fraction.nd rfl (by first | exact Or.inl rfl | exact Or.inr rfl)) pgs_nil))))
      (pss_cons (ps_if (PW.pt (pw_or (pt_not (pt_val (pe_call G_is_integer (hr.mono (by decide)) (by rfl) T.g_is_integer T.k_is_integer T.b_is_integer .nil pass0 (pa_cons (pv 1) pa_nil)))) (pw_or1 (pt_not (pt_val (pe_call G_is_integer (hr.mono (by decide)) (by rfl) T.g_is_integer T.k_is_integer T.b_is_integer .nil pass0 (pa_cons (pv 2) pa_nil)))))))
        (pss_one (ps_ret pe_bl))
        pss_nil)
      (pss_one (ps_ret (pe_and (pe_cmpR op_ge (pv 2) pe_int (nomark _)) (pe_one (pe_cmpR op_eq (pe_callBfun cr_gcd (by rfl) T.m_gcd (pa_cons (pv 1) (pa_cons (pv 2) pa_nil))) pe_int (nomark _))))))))), ?_⟩
    walk_at "r"
    refine ⟨_, rfl, ?_⟩
    walk_at "r"
    refine ⟨_, rfl, ?_⟩
    walk_at "r"
    have h1 := den_pos r
    have h2 := gcd_den r
    walk_at "r"
    rw [Int.natAbs_natCast, h2]
    exact q
end
end My
namespace My
open PySem PySem.Spec PyProof.Rows L2
variable {K : PySem.W.Frag}
theorem num_pos' {r : Rat} (h : 0 < r) : 0 < r.num := by
  rw [Rat.lt_iff] at h
  simpa using h
theorem sq_num (s : Rat) : (s * s).num = s.num * s.num ∧ (s * s).den = s.den * s.den := by
  obtain ⟨h1, h2⟩ := mul_form s s 1 1 (gcd_den s).symm (gcd_den s).symm
  rw [h1, h2]
  simp
section
variable {P : Program} {w : World} {K : PySem.W.Frag} {mg : Str → Option Value} {base : Heap} {f_is_integer f_is_row f_is_fraction f_is_some f_added f_multiplied f_squared f_summed f_is_stall f_is_ware f_check_ware f_across f_hold_of f_stalls_of f_kept_of f_held f_roots f_neighbours f_l_deck f_l_pick f_l_divisor f_l_made f_l_amount f_l_great f_l_great_stall f_l_stall f_l_stalls f_l_added f_l_held f_l_roots f_l_are_fractions f_l_is_refused f_l_is_well f_law f_Web_init f_Web_eq c_BadWare c_Web c_ZERO : Addr} {d_is_integer d_is_row d_is_fraction d_is_some d_added d_multiplied d_squared d_summed d_is_stall d_is_ware d_check_ware d_across d_hold_of d_stalls_of d_kept_of d_held d_roots d_neighbours d_l_deck d_l_pick d_l_divisor d_l_made d_l_amount d_l_great d_l_great_stall d_l_stall d_l_stalls d_l_added d_l_held d_l_roots d_l_are_fractions d_l_is_refused d_l_is_well d_law d_Web_init d_Web_eq : FuncData}
def sp_is_some (K : PySem.W.Frag) : Sp := fun vs H Q _ => ∃ v r, vs = [v] ∧ IsF K H v r ∧ 0 < r ∧ Q (.bl true) H
theorem ok_is_some (T : Txt K mg f_is_integer f_is_row f_is_fraction f_is_some f_added f_multiplied f_squared f_summed f_is_stall f_is_ware f_check_ware f_across f_hold_of f_stalls_of f_kept_of f_held f_roots f_neighbours f_l_deck f_l_pick f_l_divisor f_l_made f_l_amount f_l_great f_l_great_stall f_l_stall f_l_stalls f_l_added f_l_held f_l_roots f_l_are_fractions f_l_is_refused f_l_is_well f_law f_Web_init f_Web_eq c_BadWare c_Web c_ZERO d_is_integer d_is_row d_is_fraction d_is_some d_added d_multiplied d_squared d_summed d_is_stall d_is_ware d_check_ware d_across d_hold_of d_stalls_of d_kept_of d_held d_roots d_neighbours d_l_deck d_l_pick d_l_divisor d_l_made d_l_amount d_l_great d_l_great_stall d_l_stall d_l_stalls d_l_added d_l_held d_l_roots d_l_are_fractions d_l_is_refused d_l_is_well d_law d_Web_init d_Web_eq) : FnOk P w K mg base CX0 3 f_is_some d_is_some ["thing"] (sp_is_some K) := by
  have G_is_fraction : FnOk P w K mg base CX0 2 f_is_fraction d_is_fraction ["thing"] (sp_is_fraction K) := ok_is_fraction T
  refine T.F_is_some.ok sc_is_some (fun vs H Q E h => ?_) (fun cdv A outer s H vs Q E hr h => ?_)
  · obtain ⟨v, r, rfl, _⟩ := h
    rfl
  · obtain ⟨v, r, rfl, h, r0, q⟩ := h
    obtain ⟨p, rfl, hp⟩ := id h
    have hn := num_pos' r0
    refine ⟨_, (pss_one (ps_ret (pe_and (pe_call G_is_fraction (hr.mono (by decide)) (by rfl) T.g_is_fraction T.k_is_fraction T.b_is_fraction .nil pass0 (pa_cons (pv 0) pa_nil)) (pe_one (pe_cmpR op_gt (pe_ix ix_tup (pv 0) pe_int (fun _ _ => rfl)) pe_int (nomark _)))))), ?_⟩
    walk_at "r"
    refine ⟨_, _, rfl, h, ?_⟩
    walk_at "r"
    rw [decide_eq_true hn]
    exact q
def sp_squared (K : PySem.W.Frag) : Sp := fun vs H Q _ => ∃ v r, vs = [v] ∧ IsF K H v r ∧ Bd 4000 r ∧ ∀ H' u, Same H H' → IsF K H' u (r * r) → Q u H'
theorem ok_squared (T : Txt K mg f_is_integer f_is_row f_is_fraction f_is_some f_added f_multiplied f_squared f_summed f_is_stall f_is_ware f_check_ware f_across f_hold_of f_stalls_of f_kept_of f_held f_roots f_neighbours f_l_deck f_l_pick f_l_divisor f_l_made f_l_amount f_l_great f_l_great_stall f_l_stall f_l_stalls f_l_added f_l_held f_l_roots f_l_are_fractions f_l_is_refused f_l_is_well f_law f_Web_init f_Web_eq c_BadWare c_Web c_ZERO d_is_integer d_is_row d_is_fraction d_is_some d_added d_multiplied d_squared d_summed d_is_stall d_is_ware d_check_ware d_across d_hold_of d_stalls_of d_kept_of d_held d_roots d_neighbours d_l_deck d_l_pick d_l_divisor d_l_made d_l_amount d_l_great d_l_great_stall d_l_stall d_l_stalls d_l_added d_l_held d_l_roots d_l_are_fractions d_l_is_refused d_l_is_well d_law d_Web_init d_Web_eq) : FnOk P w K mg base CX0 1 f_squared d_squared ["one"] (sp_squared K) := by
  refine T.F_squared.ok sc_squared (fun vs H Q E h => ?_) (fun cdv A outer s H vs Q E hr h => ?_)
  · obtain ⟨v, r, rfl, _⟩ := h
    rfl
  · obtain ⟨v, r, rfl, ⟨p, rfl, hp⟩, b, q⟩ := h
    obtain ⟨e1, e2⟩ := sq_num r
    refine ⟨_, (pss_one (ps_ret (pe_tup (pa_cons (pe_op op_mulX (pe_ix ix_tup (pv 0) pe_int (fun _ _ => rfl)) (pe_ix ix_tup (pv 0) pe_int (fun _ _ => rfl))) (pa_cons (pe_op op_mulX (pe_ix ix_tup (pv 0) pe_int (fun _ _ => rfl)) (pe_ix ix_tup (pv 0) pe_int (fun _ _ => rfl))) pa_nil))))), ?_⟩
    walk_at "r"
    · intro p2 n2
      exact q _ _ (same_upd n2) (isF_new e1 (by rw [e2, Int.natCast_mul]))
    · exact cmx (by rw [Int.natAbs_natCast]; exact p46 b.2) (by rw [Int.natAbs_natCast]; exact p46 b.2)
    · exact cmx (p46 b.1) (p46 b.1)
def sp_is_stall (K : PySem.W.Frag) : Sp := fun vs H Q _ => ∃ (n : Nat) (x : V) (s : Stl), vs = [.int (n : Nat), x] ∧ IsSt K H x s ∧ OkSt n s ∧ BdSt 4000 s ∧ ∀ H', Same H H' → Q (.bl true) H'
theorem ok_is_stall (T : Txt K mg f_is_integer f_is_row f_is_fraction f_is_some f_added f_multiplied f_squared f_summed f_is_stall f_is_ware f_check_ware f_across f_hold_of f_stalls_of f_kept_of f_held f_roots f_neighbours f_l_deck f_l_pick f_l_divisor f_l_made f_l_amount f_l_great f_l_great_stall f_l_stall f_l_stalls f_l_added f_l_held f_l_roots f_l_are_fractions f_l_is_refused f_l_is_well f_law f_Web_init f_Web_eq c_BadWare c_Web c_ZERO d_is_integer d_is_row d_is_fraction d_is_some d_added d_multiplied d_squared d_summed d_is_stall d_is_ware d_check_ware d_across d_hold_of d_stalls_of d_kept_of d_held d_roots d_neighbours d_l_deck d_l_pick d_l_divisor d_l_made d_l_amount d_l_great d_l_great_stall d_l_stall d_l_stalls d_l_added d_l_held d_l_roots d_l_are_fractions d_l_is_refused d_l_is_well d_law d_Web_init d_Web_eq) : FnOk P w K mg base CX0 4 f_is_stall d_is_stall ["wares", "thing"] (sp_is_stall K) := by
  have G_is_integer : FnOk P w K mg base CX0 1 f_is_integer d_is_integer ["thing"] sp_is_integer := ok_is_integer T
  have G_is_some : FnOk P w K mg base CX0 3 f_is_some d_is_some ["thing"] (sp_is_some K) := ok_is_some T
  have G_multiplied : FnOk P w K mg base CX0 1 f_multiplied d_multiplied ["one", "other"] (sp_multiplied K) := ok_multiplied T
  have G_squared : FnOk P w K mg base CX0 1 f_squared d_squared ["one"] (sp_squared K) := ok_squared T
  refine T.F_is_stall.ok sc_is_stall (fun vs H Q E h => ?_) (fun cdv A outer s H vs Q E hr h => ?_)
  · obtain ⟨n, x, s, rfl, _⟩ := h
    rfl
  · obtain ⟨n, x, s, rfl, ⟨p, va, vb, vr, rfl, hp, ha, hb, hr'⟩, ok, bd, q⟩ := h
    have hu := ok.u
    have hv := ok.v
    have hne := ok.ne
    refine ⟨_, (pss_cons (ps_if (PW.pt (pw_or (pt_not (pt_val (pe_callB call_isi (by rfl) T.z_isinstance (by decide +kernel) (pa_cons (pv 1) (pa_cons (pe_bltn (v := .ty "tuple") (u := .type "tuple") (by rfl) T.z_tuple (by decide +kernel) rfl) pa_nil))))) (pw_or1 (pt_cmpR op_ne (pe_callB call_lenN (by rfl) T.z_len (by decide +kernel) (pa_cons (pv 1) pa_nil)) pe_int (nomark _)))))
        (pss_one (ps_ret pe_bl))
        pss_nil)
      (pss_cons (ps_asg (pv 1) (pg_tup rfl (pgs_cons (pg_name (i := 2) sc_is_stall.nd rfl (by first | exact Or.inl rfl | exact Or.inr rfl)) (pgs_cons (pg_name (i := 3) sc_is_stall.nd rfl (by first | exact Or.inl rfl | exact Or.inr rfl)) (pgs_cons (pg_name (i := 4) sc_is_stall.nd rfl (by first | exact Or.inl rfl | exact Or.inr rfl)) (pgs_cons (pg_name (i := 5) sc_is_stall.nd rfl (by first | exact Or.inl rfl | exact Or.inr rfl)) (pgs_cons (pg_name (i := 6) sc_is_stall.nd rfl (by first | exact Or.inl rfl | exact Or.inr rfl)) pgs_nil)))))))
      (pss_cons (ps_for PassesOwn.never rfl (pi_tup (pe_tup (pa_cons (pv 2) (pa_cons (pv 3) pa_nil)))) (pg_name (i := 7) sc_is_stall.nd rfl (by first | exact Or.inl rfl | exact Or.inr rfl))
        (pss_one (ps_if (PW.pt (pw_or (pt_not (pt_val (pe_call G_is_integer (hr.mono (by decide)) (by rfl) T.g_is_integer T.k_is_integer T.b_is_integer .nil pass0 (pa_cons (pv 7) pa_nil)))) (pw_or1 (pt_not (pt_chain op_le op_lt pe_int (pv 7) (pv 0))))))
            (pss_one (ps_ret pe_bl))
            pss_nil)))
      (pss_cons (ps_if (PW.pt (pw_or (pt_cmpR op_eq (pv 2) (pv 3) (nomark _)) (pw_or1 (pt_not (PW.pt (pw_and (pt_val (pe_call G_is_some (hr.mono (by decide)) (by rfl) T.g_is_some T.k_is_some T.b_is_some .nil pass0 (pa_cons (pv 4) pa_nil))) (pw_and (pt_val (pe_call G_is_some (hr.mono (by decide)) (by rfl) T.g_is_some T.k_is_some T.b_is_some .nil pass0 (pa_cons (pv 5) pa_nil))) (pw_and1 (pt_val (pe_call G_is_some (hr.mono (by decide)) (by rfl) T.g_is_some T.k_is_some T.b_is_some .nil pass0 (pa_cons (pv 6) pa_nil)))))))))))
        (pss_one (ps_ret pe_bl))
        pss_nil)
      (pss_one (ps_ret (pe_cmpR (op_eqD hr.units) (pe_call G_multiplied (hr.mono (by decide)) (by rfl) T.g_multiplied T.k_multiplied T.b_multiplied .nil pass0 (pa_cons (pv 4) (pa_cons (pv 5) pa_nil))) (pe_call G_squared (hr.mono (by decide)) (by rfl) T.g_squared T.k_squared T.b_squared .nil pass0 (pa_cons (pv 6) pa_nil)) (nomark _)))))))), ?_⟩
    walk_at "r"
    intro t nt
    have sm := same_upd (o := .tup [V.int (s.u : Nat), .int (s.v : Nat)]) nt
    have ht : upd H t (.tup [V.int (s.u : Nat), .int (s.v : Nat)]) t = some (.tup [V.int (s.u : Nat), .int (s.v : Nat)]) := upd_same
    generalize upd H t (.tup [V.int (s.u : Nat), .int (s.v : Nat)]) = H1 at *
    have ha := ha.same sm
    have hb := hb.same sm
    have hr' := hr'.same sm
    refine ⟨_, rfl, ⟨_, .of ht⟩, ?_⟩
    refine for_tup (K := K) (a := t) (xs := [V.int (s.u : Nat), .int (s.v : Nat)]) (fun i σ H' => ∃ t7, σ = [some (.int (n : Nat)), some (.ref p), some (.int (s.u : Nat)), some (.int (s.v : Nat)), some va, some vb, some vr, t7] ∧ H' = H1) ⟨_, rfl, rfl⟩ ?_ ?_ ?_
    · rintro i σ H' _ ⟨t7, rfl, rfl⟩
      exact .of ht
    · rintro i z σ H' hz ⟨t7, rfl, rfl⟩
      obtain ⟨k, rfl, hk⟩ : ∃ k : Nat, z = .int (k : Nat) ∧ k < n := by
        match i, hz with
        | 0, hz => exact ⟨_, (Option.some.inj hz).symm, hu⟩
        | 1, hz => exact ⟨_, (Option.some.inj hz).symm, hv⟩
      walk_at "r"
      refine ⟨_, rfl, ?_⟩
      walk_at "r"
      exact rfl
    · rintro σ H' ⟨t7, rfl, rfl⟩
      walk_at "r"
      refine ⟨_, _, rfl, ha, ok.a, ?_⟩
      walk_at "r"
      refine ⟨_, _, rfl, hb, ok.b, ?_⟩
      walk_at "r"
      refine ⟨_, _, rfl, hr', ok.r, ?_⟩
      walk_at "r"
      refine ⟨_, _, _, _, rfl, ha, hb, bd.a, bd.b, trivial, fun H2 x1 s1 h1 => ?_⟩
      walk_at "r"
      refine ⟨_, _, rfl, hr'.same s1, bd.r, fun H3 x2 s2 h2 => ?_⟩
      walk_at "r"
      refine eqF (h1.same s2) h2 ?_
      rw [decide_eq_true ok.e]
      exact q _ ((sm.trans s1).trans s2)
def sp_is_row : Sp := fun vs H Q _ => ∃ L xs, vs = [.ref L] ∧ (H L = some (.lst xs) ∨ H L = some (.tup xs)) ∧ ∀ H', Same H H' → Q (.bl true) H'
theorem ok_is_row (T : Txt K mg f_is_integer f_is_row f_is_fraction f_is_some f_added f_multiplied f_squared f_summed f_is_stall f_is_ware f_check_ware f_across f_hold_of f_stalls_of f_kept_of f_held f_roots f_neighbours f_l_deck f_l_pick f_l_divisor f_l_made f_l_amount f_l_great f_l_great_stall f_l_stall f_l_stalls f_l_added f_l_held f_l_roots f_l_are_fractions f_l_is_refused f_l_is_well f_law f_Web_init f_Web_eq c_BadWare c_Web c_ZERO d_is_integer d_is_row d_is_fraction d_is_some d_added d_multiplied d_squared d_summed d_is_stall d_is_ware d_check_ware d_across d_hold_of d_stalls_of d_kept_of d_held d_roots d_neighbours d_l_deck d_l_pick d_l_divisor d_l_made d_l_amount d_l_great d_l_great_stall d_l_stall d_l_stalls d_l_added d_l_held d_l_roots d_l_are_fractions d_l_is_refused d_l_is_well d_law d_Web_init d_Web_eq) : FnOk P w K mg base CX0 1 f_is_row d_is_row ["thing"] sp_is_row := by
  refine T.F_is_row.ok sc_is_row (fun vs H Q E h => ?_) (fun cdv A outer s H vs Q E hr h => ?_)
  · obtain ⟨L, xs, rfl, _⟩ := h
    rfl
  · obtain ⟨L, xs, rfl, h, q⟩ := h
    refine ⟨_, (pss_one (ps_ret (pe_callB call_isiT (by rfl) T.z_isinstance (by decide +kernel) (pa_cons (pv 0) (pa_cons (pe_tup (pa_cons (pe_bltn (v := .ty "list") (u := .type "list") (by rfl) T.z_list (by decide +kernel) rfl) (pa_cons (pe_bltn (v := .ty "tuple") (u := .type "tuple") (by rfl) T.z_tuple (by decide +kernel) rfl) pa_nil))) pa_nil))))), ?_⟩
    walk_at "r"
    intro p np
    walk_at "r"
    rcases h with h | h
    · refine ⟨_, _, _, _, _, true, rfl, upd_same, .cons (.ty _) (.cons (.ty _) .nil), .base (.lst (same_upd np _ _ h)), kitAny_cons (b := true) (kit_ty (by decide +kernel)) (fun z => Bool.noConfusion z) (fun _ => rfl), ?_⟩
      exact q _ (same_upd np)
    · refine ⟨_, _, _, _, _, true, rfl, upd_same, .cons (.ty _) (.cons (.ty _) .nil), .base (.tup (same_upd np _ _ h)), kitAny_cons (b := false) (kit_ty (by decide +kernel)) (fun _ => kitAny_cons (b := true) (kit_ty (by decide +kernel)) (fun z => Bool.noConfusion z) (fun _ => rfl)) (fun z => Bool.noConfusion z), ?_⟩
      exact q _ (same_upd np)
end
end My
namespace My
open PySem PySem.Spec PyProof.Rows L2
variable {K : PySem.W.Frag}
section
variable {P : Program} {w : World} {K : PySem.W.Frag} {mg : Str → Option Value} {base : Heap} {f_is_integer f_is_row f_is_fraction f_is_some f_added f_multiplied f_squared f_summed f_is_stall f_is_ware f_check_ware f_across f_hold_of f_stalls_of f_kept_of f_held f_roots f_neighbours f_l_deck f_l_pick f_l_divisor f_l_made f_l_amount f_l_great f_l_great_stall f_l_stall f_l_stalls f_l_added f_l_held f_l_roots f_l_are_fractions f_l_is_refused f_l_is_well f_law f_Web_init f_Web_eq c_BadWare c_Web c_ZERO : Addr} {d_is_integer d_is_row d_is_fraction d_is_some d_added d_multiplied d_squared d_summed d_is_stall d_is_ware d_check_ware d_across d_hold_of d_stalls_of d_kept_of d_held d_roots d_neighbours d_l_deck d_l_pick d_l_divisor d_l_made d_l_amount d_l_great d_l_great_stall d_l_stall d_l_stalls d_l_added d_l_held d_l_roots d_l_are_fractions d_l_is_refused d_l_is_well d_law d_Web_init d_Web_eq : FuncData}
/-- what Web(n, stalls) makes of right stalls -/
def sp_web (K : PySem.W.Frag) (C : Addr) : Sp := fun vs H Q _ => ∃ (p dx L : Addr) (n : Nat) (xs : List V) (ss : List Stl), vs = [.ref p, .int (n : Nat), .ref L] ∧ H p = some (.ins C dx []) ∧ (H L = some (.lst xs) ∨ H L = some (.tup xs)) ∧ 1 ≤ n ∧ n ≤ 8 ∧ xs.length ≤ 16 ∧
  Sts K H xs ss ∧ (∀ s ∈ ss, OkSt n s ∧ BdSt 4000 s) ∧ ∀ H', IsWeb K C H' (.ref p) n ss → (∀ b o, H b = some o → b ≠ p → H' b = some o) → Q .non H'
theorem ok_Web_init (T : Txt K mg f_is_integer f_is_row f_is_fraction f_is_some f_added f_multiplied f_squared f_summed f_is_stall f_is_ware f_check_ware f_across f_hold_of f_stalls_of f_kept_of f_held f_roots f_neighbours f_l_deck f_l_pick f_l_divisor f_l_made f_l_amount f_l_great f_l_great_stall f_l_stall f_l_stalls f_l_added f_l_held f_l_roots f_l_are_fractions f_l_is_refused f_l_is_well f_law f_Web_init f_Web_eq c_BadWare c_Web c_ZERO d_is_integer d_is_row d_is_fraction d_is_some d_added d_multiplied d_squared d_summed d_is_stall d_is_ware d_check_ware d_across d_hold_of d_stalls_of d_kept_of d_held d_roots d_neighbours d_l_deck d_l_pick d_l_divisor d_l_made d_l_amount d_l_great d_l_great_stall d_l_stall d_l_stalls d_l_added d_l_held d_l_roots d_l_are_fractions d_l_is_refused d_l_is_well d_law d_Web_init d_Web_eq) : FnOk P w K mg base CX0 5 f_Web_init d_Web_init ["self", "wares", "stalls"] (sp_web K c_Web) := by
  have G_is_integer : FnOk P w K mg base CX0 1 f_is_integer d_is_integer ["thing"] sp_is_integer := ok_is_integer T
  have G_is_row : FnOk P w K mg base CX0 1 f_is_row d_is_row ["thing"] sp_is_row := ok_is_row T
  have G_is_stall : FnOk P w K mg base CX0 4 f_is_stall d_is_stall ["wares", "thing"] (sp_is_stall K) := ok_is_stall T
  refine T.F_Web_init.ok sc_Web_init (fun vs H Q E h => ?_) (fun cdv A outer s H vs Q E hr h => ?_)
  · obtain ⟨p, dx, L, n, xs, ss, rfl, _⟩ := h
    rfl
  · obtain ⟨p, dx, L, n, xs, ss, rfl, hp, hL, hn1, hn8, hlen, hss, hok, q⟩ := h
    refine ⟨_, (pss_cons (ps_if (PW.pt (pw_or (pt_not (pt_val (pe_call G_is_integer (hr.mono (by decide)) (by rfl) T.g_is_integer T.k_is_integer T.b_is_integer .nil pass0 (pa_cons (pv 1) pa_nil)))) (pw_or1 (pt_not (pt_chain op_le op_le pe_int (pv 1) (C8.pe_gc (by rfl) T.v_MOST_WARES))))))
        (pss_one ps_never)
        pss_nil)
      (pss_cons (ps_if (PW.pt (pw_or (pt_not (pt_val (pe_call G_is_row (hr.mono (by decide)) (by rfl) T.g_is_row T.k_is_row T.b_is_row .nil pass0 (pa_cons (pv 2) pa_nil)))) (pw_or1 (pt_cmpR op_gt (pe_callB call_lenN (by rfl) T.z_len (by decide +kernel) (pa_cons (pv 2) pa_nil)) (C8.pe_gc (by rfl) T.v_MOST_STALLS) (nomark _)))))
        (pss_one ps_never)
        pss_nil)
      (pss_cons (ps_for PassesOwn.never rfl (pi_enumX (by rfl) T.z_enumerate (pa_cons (pv 2) pa_nil)) (pg_tup rfl (pgs_cons (pg_name (i := 3) sc_Web_init.nd rfl (by first | exact Or.inl rfl | exact Or.inr rfl)) (pgs_cons (pg_name (i := 4) sc_Web_init.nd rfl (by first | exact Or.inl rfl | exact Or.inr rfl)) pgs_nil)))
        (pss_one (ps_if (pt_not (pt_val (pe_call G_is_stall (hr.mono (by decide)) (by rfl) T.g_is_stall T.k_is_stall T.b_is_stall .nil pass0 (pa_cons (pv 1) (pa_cons (pv 4) pa_nil)))))
            (pss_one ps_never)
            pss_nil)))
      (pss_cons (ps_fld (pv 0) (pv 1) rfl)
      (pss_one (ps_fld (pv 0) (pe_callTy call_tuple_of (by rfl) T.z_tuple (by decide +kernel) (pa_cons (pv 2) pa_nil)) rfl)))))), ?_⟩
    walk_at "r"
    refine ⟨_, rfl, ?_⟩
    walk_at "r"
    refine ⟨_, _, rfl, hL, fun H1 s1 => ?_⟩
    have hL1 : H1 L = some (.lst xs) ∨ H1 L = some (.tup xs) := hL.imp (fun h => s1 _ _ h) fun h => s1 _ _ h
    have hSq : ∀ {H2 : Hp}, Same H1 H2 → SqL K H2 L xs ∨ SqT K H2 L xs := fun f => hL1.imp (fun h => .of (f _ _ h)) fun h => .of (f _ _ h)
    walk_at "r"
    refine ⟨L, xs, rfl, hSq (Same.refl _), ?_⟩
    walk_at "r"
    refine ⟨L, xs, rfl, ?_⟩
    have nL : L ≠ p := fun z => by
      rw [z, hp] at hL
      rcases hL with z | z <;> cases z
    rcases hL1 with h | h
    · refine .inl ⟨.of h, ?_⟩
      refine for_enum (K := K) (a := L) (xs := xs) (fun i σ H' => ∃ t3 t4, σ = [some (.ref p), some (.int (n : Nat)), some (.ref L), t3, t4] ∧ Same H1 H') ⟨_, _, rfl, Same.refl _⟩ ?_ ?_ ?_
      · rintro i σ H' _ ⟨t3, t4, rfl, s'⟩
        exact .of (s' _ _ h)
      · rintro i x T2 σ H' hx ⟨t3, t4, rfl, s'⟩ nT
        obtain ⟨s0, hs0, hst⟩ := hss.at hx
        have sm := same_upd (o := .tup [.int (i : Nat), x]) nT
        obtain ⟨ok0, bd0⟩ := hok _ (List.mem_of_getElem? hs0)
        walk_at "r"
        refine ⟨n, x, s0, rfl, hst.same ((s1.trans s').trans sm), ok0, bd0, fun H3 s3 => ?_⟩
        walk_at "r"
        exact ⟨_, _, rfl, (s'.trans sm).trans s3⟩
      · rintro σ H2 ⟨t3, t4, rfl, s'⟩
        have hp2 := s' _ _ (s1 _ _ hp)
        have hL2 := s' _ _ h
        have k2 := s1.trans s'
        walk_at "r"
        refine ⟨_, _, _, _, rfl, hp2, T.w_Web.it.cl, T.n_Web_wares, (by decide), ?_⟩
        walk_at "r"
        refine ⟨_, _, rfl, .inl ⟨.of ((upd_ne nL).trans hL2), fun l nl => ?_⟩⟩
        have hlp : l ≠ p := fun z => by
          rw [z, upd_same] at nl
          cases nl
        have nl2 : H2 l = none := by
          rw [upd_ne hlp] at nl
          exact nl
        walk_at "r"
        refine ⟨_, _, _, _, rfl, (upd_ne (Ne.symm hlp)).trans upd_same, T.w_Web.it.cl, T.n_Web_stalls, (by show 1 < 1000; decide), ?_⟩
        have keep : ∀ b o, H b = some o → b ≠ p → upd (upd (upd H2 p (.ins c_Web dx (putF "wares" (.int (n : Nat)) []))) l (.tup xs)) p (.ins c_Web dx (putF "stalls" (.ref l) (putF "wares" (.int (n : Nat)) []))) b = some o := fun b o hb hbp => by
          have hbl : b ≠ l := fun z => by
            rw [← z, k2 _ _ hb] at nl2
            cases nl2
          rw [upd_ne hbp, upd_ne hbl, upd_ne hbp]
          exact k2 _ _ hb
        refine q _ ⟨p, dx, l, xs, rfl, by rw [upd_same, wF_new], (upd_ne hlp).trans upd_same, hss.ts fun b ys hb => keep b _ hb ?_⟩ keep
        intro z
        rw [z, hp] at hb
        cases hb
    · refine .inr ⟨.of h, ?_⟩
      refine for_enumT (K := K) (a := L) (xs := xs) (fun i σ H' => ∃ t3 t4, σ = [some (.ref p), some (.int (n : Nat)), some (.ref L), t3, t4] ∧ Same H1 H') ⟨_, _, rfl, Same.refl _⟩ ?_ ?_ ?_
      · rintro i σ H' _ ⟨t3, t4, rfl, s'⟩
        exact .of (s' _ _ h)
      · rintro i x T2 σ H' hx ⟨t3, t4, rfl, s'⟩ nT
        obtain ⟨s0, hs0, hst⟩ := hss.at hx
        have sm := same_upd (o := .tup [.int (i : Nat), x]) nT
        obtain ⟨ok0, bd0⟩ := hok _ (List.mem_of_getElem? hs0)
        walk_at "r"
        refine ⟨n, x, s0, rfl, hst.same ((s1.trans s').trans sm), ok0, bd0, fun H3 s3 => ?_⟩
        walk_at "r"
        exact ⟨_, _, rfl, (s'.trans sm).trans s3⟩
      · rintro σ H2 ⟨t3, t4, rfl, s'⟩
        have hp2 := s' _ _ (s1 _ _ hp)
        have hL2 := s' _ _ h
        have k2 := s1.trans s'
        walk_at "r"
        refine ⟨_, _, _, _, rfl, hp2, T.w_Web.it.cl, T.n_Web_wares, (by decide), ?_⟩
        walk_at "r"
        refine ⟨_, _, rfl, .inr ⟨.of ((upd_ne nL).trans hL2), ?_⟩⟩
        walk_at "r"
        refine ⟨_, _, _, _, rfl, upd_same, T.w_Web.it.cl, T.n_Web_stalls, (by show 1 < 1000; decide), ?_⟩
        have keep : ∀ b o, H b = some o → b ≠ p → upd (upd H2 p (.ins c_Web dx (putF "wares" (.int (n : Nat)) []))) p (.ins c_Web dx (putF "stalls" (.ref L) (putF "wares" (.int (n : Nat)) []))) b = some o := fun b o hb hbp => by
          rw [upd_ne hbp, upd_ne hbp]
          exact k2 _ _ hb
        refine q _ ⟨p, dx, L, xs, rfl, by rw [upd_same, wF_new], (upd_ne nL).trans ((upd_ne nL).trans hL2), hss.ts fun b ys hb => keep b _ hb ?_⟩ keep
        intro z
        rw [z, hp] at hb
        cases hb
end
end My
namespace My
open PySem PySem.Spec PyProof.Rows L2
variable {K : PySem.W.Frag}
theorem sq_pos {r : Rat} (h : 0 < r) : 0 < r * r := Rat.mul_pos h h
theorem ne_of_pos {r : Rat} (h : 0 < r) : r ≠ 0 := fun z => by
  rw [z] at h
  exact absurd h (by decide)
section
variable {P : Program} {w : World} {K : PySem.W.Frag} {mg : Str → Option Value} {base : Heap} {f_is_integer f_is_row f_is_fraction f_is_some f_added f_multiplied f_squared f_summed f_is_stall f_is_ware f_check_ware f_across f_hold_of f_stalls_of f_kept_of f_held f_roots f_neighbours f_l_deck f_l_pick f_l_divisor f_l_made f_l_amount f_l_great f_l_great_stall f_l_stall f_l_stalls f_l_added f_l_held f_l_roots f_l_are_fractions f_l_is_refused f_l_is_well f_law f_Web_init f_Web_eq c_BadWare c_Web c_ZERO : Addr} {d_is_integer d_is_row d_is_fraction d_is_some d_added d_multiplied d_squared d_summed d_is_stall d_is_ware d_check_ware d_across d_hold_of d_stalls_of d_kept_of d_held d_roots d_neighbours d_l_deck d_l_pick d_l_divisor d_l_made d_l_amount d_l_great d_l_great_stall d_l_stall d_l_stalls d_l_added d_l_held d_l_roots d_l_are_fractions d_l_is_refused d_l_is_well d_law d_Web_init d_Web_eq : FuncData}
def sp_stall_led (K : PySem.W.Frag) : Sp := fun vs H Q _ => ∃ v s vx x, vs = [v, vx] ∧ IsSt K H v s ∧ IsF K H vx x ∧ Bd 1900 s.r ∧ Bd 3900 x ∧ 0 < x ∧ ∀ H' u, Same H H' → IsSt K H' u (s.first x) → Q u H'
def sp_behind (K : PySem.W.Frag) : Sp := fun vs H Q _ => ∃ (v : V) (s : Stl) (wn : Nat) (vx : V) (x : Rat), vs = [v, .int (wn : Nat), vx] ∧ IsSt K H v s ∧ IsF K H vx x ∧ BdSt 1900 s ∧ Bd 1900 x ∧ 0 < s.a ∧ 0 < s.b ∧ 0 < x ∧ ∀ H' u, Same H H' → IsSt K H' u (s.behind wn x) → Q u H'
end
end My
namespace My
open PySem PySem.Spec PyProof.Rows L2
variable {K : PySem.W.Frag}
theorem at_some {xs : List V} {i : Nat} {x : V} (h : xs[i]? = some x) : atI xs (i : Int) = some x := atI_nat h
theorem in_pair {u v w : Nat} (h : w = u ∨ w = v) : inV (.int (w : Nat)) [V.int (u : Nat), .int (v : Nat)] = true := by
  rcases h with rfl | rfl <;> simp [inV, eqV]
section
variable {P : Program} {w : World} {K : PySem.W.Frag} {mg : Str → Option Value} {base : Heap} {f_is_integer f_is_row f_is_fraction f_is_some f_added f_multiplied f_squared f_summed f_is_stall f_is_ware f_check_ware f_across f_hold_of f_stalls_of f_kept_of f_held f_roots f_neighbours f_l_deck f_l_pick f_l_divisor f_l_made f_l_amount f_l_great f_l_great_stall f_l_stall f_l_stalls f_l_added f_l_held f_l_roots f_l_are_fractions f_l_is_refused f_l_is_well f_law f_Web_init f_Web_eq c_BadWare c_Web c_ZERO : Addr} {d_is_integer d_is_row d_is_fraction d_is_some d_added d_multiplied d_squared d_summed d_is_stall d_is_ware d_check_ware d_across d_hold_of d_stalls_of d_kept_of d_held d_roots d_neighbours d_l_deck d_l_pick d_l_divisor d_l_made d_l_amount d_l_great d_l_great_stall d_l_stall d_l_stalls d_l_added d_l_held d_l_roots d_l_are_fractions d_l_is_refused d_l_is_well d_law d_Web_init d_Web_eq : FuncData}
def sp_is_index (K : PySem.W.Frag) (C : Addr) : Sp := fun vs H Q _ => ∃ (x : V) (n : Nat) (ss : List Stl) (i : Nat), vs = [x, .int (i : Nat)] ∧ IsWeb K C H x n ss ∧ i < ss.length ∧ Q (.bl true) H
def sp_is_move (K : PySem.W.Frag) (C : Addr) : Sp := fun vs H Q _ => ∃ (x mv : V) (n : Nat) (ss : List Stl) (i wn : Nat) (s : Stl) (y : Rat), vs = [x, mv] ∧ IsWeb K C H x n ss ∧ IsMv K H mv i wn y ∧ ss[i]? = some s ∧ (wn = s.u ∨ wn = s.v) ∧ 0 < y ∧ ∀ H', Same H H' → Q (.bl true) H'
end
end My
namespace My
open PySem PySem.Spec PyProof.Rows L2
variable {K : PySem.W.Frag}
theorem mul_div_self {k x : Rat} (h : x ≠ 0) : x * (k / x) = k := by
  rw [Rat.div_def, ← Rat.mul_assoc, Rat.mul_comm x k, Rat.mul_assoc, Rat.mul_inv_cancel x h, Rat.mul_one]
theorem div_pos' {k x : Rat} (h : 0 < k) (hx : 0 < x) : 0 < k / x := by
  rw [Rat.div_def]
  exact Rat.mul_pos h (Rat.inv_pos.mpr hx)
theorem behind_ok {n : Nat} {s : Stl} (h : OkSt n s) (wn : Nat) {y : Rat} (y0 : 0 < y) : OkSt n (s.behind wn y) := by
  have a0 := h.a
  have b0 := h.b
  have rr := sq_pos h.r
  unfold Stl.behind
  split
  · have p : 0 < s.a + y := by grind
    exact ⟨h.u, h.v, h.ne, p, div_pos' rr p, h.r, mul_div_self (ne_of_pos p)⟩
  · have p : 0 < s.b + y := by grind
    exact ⟨h.u, h.v, h.ne, div_pos' rr p, p, h.r, (Rat.mul_comm _ _).trans (mul_div_self (ne_of_pos p))⟩
theorem behind_bd {k l : Nat} {n : Nat} {s : Stl} (hs : OkSt n s) (h : BdSt k s) (wn : Nat) {y : Rat} (y0 : 0 < y) (b : Bd l y) : BdSt (3 * k + l + 1) (s.behind wn y) := by
  have a0 := hs.a
  have b0 := hs.b
  unfold Stl.behind
  split
  · have p : 0 < s.a + y := by grind
    exact ⟨(h.a.add b).mono (by omega), ((h.r.mul h.r).div (ne_of_pos p) (h.a.add b)).mono (by omega), h.r.mono (by omega)⟩
  · have p : 0 < s.b + y := by grind
    exact ⟨((h.r.mul h.r).div (ne_of_pos p) (h.b.add b)).mono (by omega), (h.b.add b).mono (by omega), h.r.mono (by omega)⟩
theorem Sts.set {H : Hp} {xs : List V} {ss : List Stl} {v : V} {s : Stl} (h : Sts K H xs ss) (hv : IsSt K H v s) (i : Nat) : Sts K H (xs.set i v) (ss.set i s) := by
  unfold Sts at *
  induction h generalizing i with
  | nil => exact .nil
  | cons h t ih =>
    cases i with
    | zero => exact .cons hv t
    | succ i => exact .cons h (ih i)
theorem set_parts {xs : List V} {i : Nat} {v : V} (h : i < xs.length) : cutV xs none (some (i : Int)) ++ [v] ++ cutV xs (some ((i : Int) + 1)) none = xs.set i v := by
  have e : ((i : Int) + 1) = ((i + 1 : Nat) : Int) := by omega
  rw [e]
  unfold cutV
  rw [HT.sIx_none, HT.sIx_none, HT.sIx_nat, HT.sIx_nat, List.set_eq_take_append_cons_drop, if_pos h]
  have m1 : min i xs.length = i := by omega
  have m2 : min (i + 1) xs.length = i + 1 := by omega
  rw [m1, m2]
  simp
  exact List.take_of_length_le (by simp)
theorem rd_catA {K : PySem.W.Frag} {H : Hp} {a b : Addr} {xs ys : List V} {Q : VK} (ha : H a = some (.tup xs)) (hb : H b = some (.tup ys)) (hl : xs.length + ys.length ≤ sizeLine)
    (q : ∀ p H', Same H H' → H' p = some (.tup (xs ++ ys)) → Q (.ref p) H') : rCatA K (.ref a) (.ref b) H Q := by
  refine ⟨a, b, xs, ys, rfl, rfl, .of ha, .of hb, hl, fun e => ?_, fun _ e => ?_, fun _ _ p np => q p _ (same_upd np) upd_same⟩
  · subst e
    exact q b H (Same.refl _) hb
  · subst e
    exact q a H (Same.refl _) (by rw [List.append_nil]; exact ha)
theorem rd_slT {K : PySem.W.Frag} {H : Hp} {a : Addr} {xs : List V} {lo hi : Option Int} {Q : VK} (ha : H a = some (.tup xs)) (hw : ¬ (HT.sIx xs.length 0 lo = 0 ∧ HT.sIx xs.length xs.length hi = xs.length))
    (q : ∀ p H', Same H H' → H' p = some (.tup (cutV xs lo hi)) → Q (.ref p) H') : rSlT K (.ref a) lo hi H Q := ⟨a, xs, rfl, .of ha, hw, fun p np => q p _ (same_upd np) upd_same⟩
/-- a web within its bounds -/
structure OkW (n k : Nat) (ss : List Stl) : Prop where
  n1 : 1 ≤ n
  n8 : n ≤ 8
  len : ss.length ≤ 16
  ok : ∀ s ∈ ss, OkSt n s ∧ BdSt k s
theorem OkW.set {n k : Nat} {ss : List Stl} (h : OkW n k ss) {s : Stl} (h1 : OkSt n s) (h2 : BdSt k s) (i : Nat) : OkW n k (ss.set i s) :=
  ⟨h.n1, h.n8, by rw [List.length_set]; exact h.len, fun t ht => by
    rcases List.mem_or_eq_of_mem_set ht with z | z
    · exact h.ok t z
    · subst z
      exact ⟨h1, h2⟩⟩
theorem BdSt.mono {k l : Nat} {s : Stl} (h : BdSt k s) (hl : k ≤ l) : BdSt l s := ⟨h.a.mono hl, h.b.mono hl, h.r.mono hl⟩
theorem OkW.mono {n k l : Nat} {ss : List Stl} (h : OkW n k ss) (hl : k ≤ l) : OkW n l ss := ⟨h.n1, h.n8, h.len, fun s hs => ⟨(h.ok s hs).1, (h.ok s hs).2.mono hl⟩⟩
end My
namespace My
open PySem PySem.Spec PyProof.Rows L2
variable {K : PySem.W.Frag}
def Stl.hold (s : Stl) (w : Nat) : Rat := if w = s.u then s.a else s.b
def Stl.at (s : Stl) (w : Nat) : Bool := decide (w = s.u) || decide (w = s.v)
def at_ (ss : List Stl) (w : Nat) : List Stl := ss.filter (·.at w)
def sumR (l : List Rat) : Rat := l.foldl (· + ·) 0
def heldAt (ss : List Stl) (w : Nat) : Rat := sumR ((at_ ss w).map (·.hold w))
def heldAll (n : Nat) (ss : List Stl) : List Rat := (List.range n).map (heldAt ss)
def Fs (K : PySem.W.Frag) (H : Hp) (ys : List V) (rs : List Rat) : Prop := Paired (IsF K H) ys rs
def IsFs (K : PySem.W.Frag) (H : Hp) (x : V) (rs : List Rat) : Prop := ∃ t ys, x = .ref t ∧ H t = some (.tup ys) ∧ Fs K H ys rs
theorem Fs.same {H H' : Hp} {ys : List V} {rs : List Rat} (s : Same H H') (h : Fs K H ys rs) : Fs K H' ys rs := Paired.mapP h fun _ _ h => h.same s
theorem IsFs.same {H H' : Hp} {x : V} {rs : List Rat} (s : Same H H') (h : IsFs K H x rs) : IsFs K H' x rs := by
  obtain ⟨t, ys, e, h1, h2⟩ := h
  exact ⟨t, ys, e, s _ _ h1, h2.same s⟩
theorem Fs.len {H : Hp} {ys : List V} {rs : List Rat} (h : Fs K H ys rs) : ys.length = rs.length := Paired.length h
theorem Paired.at {α : Type} {F : V → α → Prop} {xs : List V} {as : List α} (h : Paired F xs as) : ∀ {i : Nat} {x : V}, xs[i]? = some x → ∃ a, as[i]? = some a ∧ F x a := by
  induction h with
  | nil =>
    intro i x e
    simp at e
  | cons h t ih =>
    intro i x e
    match i with
    | 0 =>
      simp at e
      subst e
      exact ⟨_, rfl, h⟩
    | i + 1 => exact ih (by simpa using e)
theorem Paired.get' {α : Type} {F : V → α → Prop} {xs : List V} {as : List α} (h : Paired F xs as) : ∀ {i : Nat} {a : α}, as[i]? = some a → ∃ x, xs[i]? = some x ∧ F x a := by
  induction h with
  | nil =>
    intro i x e
    simp at e
  | cons h t ih =>
    intro i x e
    match i with
    | 0 =>
      simp at e
      subst e
      exact ⟨_, rfl, h⟩
    | i + 1 => exact ih (by simpa using e)
theorem stl_at_in (s : Stl) (w : Nat) : inV (.int (w : Nat)) [V.int (s.u : Nat), .int (s.v : Nat)] = s.at w := by
  have e : ∀ k : Nat, eqV (.int (k : Nat)) (.int (w : Nat)) = decide (w = k) := fun k => by
    rw [Bool.eq_iff_iff]
    simp [eqV]
    omega
  show (eqV _ _ || (eqV _ _ || false)) = _
  rw [e, e, Bool.or_false]
  rfl
/-- bounds of sums -/
theorem sumR_snoc (l : List Rat) (r : Rat) : sumR (l ++ [r]) = sumR l + r := by
  unfold sumR
  rw [List.foldl_append]
  rfl
theorem bd_zero {k : Nat} (h : 0 < k) : Bd k 0 := ⟨Nat.two_pow_pos k, Nat.one_lt_two_pow (by omega)⟩
/-- sizes of sums, each item with its own bits -/
def BR (rs : List Rat) (M : Nat) : Prop := ∃ ks : List Nat, Paired (fun r k => Bd k r) rs ks ∧ 1 + (ks.map (· + 1)).sum ≤ M
theorem fold_bd {rs : List Rat} {ks : List Nat} (h : Paired (fun r k => Bd k r) rs ks) : ∀ (a : Rat) (A : Nat), Bd A a → Bd (A + (ks.map (· + 1)).sum) (rs.foldl (· + ·) a) := by
  induction h with
  | nil =>
    intro a A ha
    exact ha
  | cons h t ih =>
    intro a A ha
    refine (ih _ _ (ha.add h)).mono ?_
    rw [List.map_cons, List.sum_cons]
    omega
theorem BR.sum {rs : List Rat} {M : Nat} (h : BR rs M) : Bd M (sumR rs) := by
  obtain ⟨ks, h, hm⟩ := h
  exact (fold_bd h 0 1 (bd_zero (by decide))).mono hm
theorem BR.take {rs : List Rat} {M : Nat} (h : BR rs M) (i : Nat) : BR (rs.take i) M := by
  obtain ⟨ks, h, hm⟩ := h
  refine ⟨ks.take i, ?_, Nat.le_trans (Nat.add_le_add_left ?_ 1) hm⟩
  · clear hm
    induction h generalizing i with
    | nil => cases i <;> exact .nil
    | cons h t ih =>
      cases i with
      | zero => exact .nil
      | succ i => exact .cons h (ih i)
  · clear hm h
    induction ks generalizing i with
    | nil => simp
    | cons k ks ih =>
      cases i with
      | zero => simp
      | succ i =>
        rw [List.take_succ_cons, List.map_cons, List.map_cons, List.sum_cons, List.sum_cons]
        have := ih i
        omega
theorem BR.mem {rs : List Rat} {M : Nat} (h : BR rs M) {r : Rat} (hr : r ∈ rs) : Bd M r := by
  obtain ⟨ks, h, hm⟩ := h
  induction h generalizing M with
  | nil => simp at hr
  | cons h t ih =>
    rw [List.map_cons, List.sum_cons] at hm
    rcases List.mem_cons.mp hr with rfl | hr
    · exact h.mono (by omega)
    · exact ih hr (by omega)
theorem take_at {α : Type} {l : List α} {i : Nat} {a : α} (h : l[i]? = some a) : l.take (i + 1) = l.take i ++ [a] := by
  rw [List.take_add_one, h]
  rfl
theorem IsF.c0 {p : Addr} {H : Hp} (h : SqT K (fun _ => none) p [.int 0, .int 1]) : IsF K H (.ref p) 0 := ⟨p, rfl, .inr h⟩
theorem hold_bd {k : Nat} {s : Stl} (h : BdSt k s) (w : Nat) : Bd k (s.hold w) := by
  unfold Stl.hold
  split
  · exact h.a
  · exact h.b
/-- sizes of stalls, each with its own bits -/
def BL (ss : List Stl) (M : Nat) : Prop := ∃ ks : List Nat, Paired (fun s k => BdSt k s) ss ks ∧ 1 + (ks.map (· + 1)).sum ≤ M
theorem BL.mono {ss : List Stl} {M N : Nat} (h : BL ss M) (l : M ≤ N) : BL ss N := h.imp fun _ h => ⟨h.1, Nat.le_trans h.2 l⟩
theorem bl_of {k : Nat} {ss : List Stl} (h16 : ss.length ≤ 16) (h : ∀ s ∈ ss, BdSt k s) : BL ss (16 * (k + 1) + 1) := by
  refine ⟨ss.map fun _ => k, ?_, ?_⟩
  · clear h16
    induction ss with
    | nil => exact .nil
    | cons s ss ih => exact .cons (h s (by simp)) (ih fun t ht => h t (by simp [ht]))
  · have e : ((ss.map fun _ => k).map (· + 1)).sum = ss.length * (k + 1) := by
      clear h h16
      induction ss with
      | nil => simp
      | cons s ss ih =>
        rw [List.map_cons, List.map_cons, List.sum_cons, ih, List.length_cons, Nat.add_mul]
        omega
    rw [e]
    have := Nat.mul_le_mul_right (k + 1) h16
    omega
theorem BL.at {ss : List Stl} {M : Nat} (h : BL ss M) (w : Nat) : BR ((at_ ss w).map (·.hold w)) M := by
  obtain ⟨ks, h, hm⟩ := h
  have key : ∃ js : List Nat, Paired (fun r k => Bd k r) ((at_ ss w).map (·.hold w)) js ∧ (js.map (· + 1)).sum ≤ (ks.map (· + 1)).sum := by
    clear hm
    induction h with
    | nil => exact ⟨[], .nil, Nat.le_refl _⟩
    | @cons s k ss ks h t ih =>
      obtain ⟨js, h1, h2⟩ := ih
      unfold at_ at *
      rw [List.filter_cons]
      split
      · refine ⟨k :: js, .cons (hold_bd h w) h1, ?_⟩
        rw [List.map_cons, List.map_cons, List.sum_cons, List.sum_cons]
        omega
      · refine ⟨js, h1, ?_⟩
        rw [List.map_cons, List.sum_cons]
        omega
  obtain ⟨js, h1, h2⟩ := key
  exact ⟨js, h1, by omega⟩
theorem BL.held {ss : List Stl} {M : Nat} (h : BL ss M) (w : Nat) : Bd M (heldAt ss w) := (h.at w).sum
theorem upTo_bind {α β : Type} (g : α → Option β) : ∀ l : List α, upTo (fun i => (l[i]?).bind g) l.length = l.filterMap g
  | [] => rfl
  | a :: l => by
    have ih := upTo_bind g l
    unfold upTo at *
    rw [List.length_cons, List.range_succ_eq_map, List.filterMap_cons, List.filterMap_map]
    have e : ((fun i => ((a :: l)[i]?).bind g) ∘ Nat.succ) = fun i => (l[i]?).bind g := rfl
    rw [e, ih, List.filterMap_cons]
    rfl
theorem upTo_filter (p : Stl → Bool) (ss : List Stl) : upTo (fun i => (ss[i]?).filter p) ss.length = ss.filter p := by
  have e : (fun i : Nat => (ss[i]?).filter p) = fun i : Nat => (ss[i]?).bind (Option.guard p) := by
    funext i
    cases ss[i]? <;> simp [Option.filter, Option.guard]
  rw [e, upTo_bind, List.filterMap_eq_filter]
theorem upTo_map {α : Type} {n : Nat} (g : Nat → α) : upTo (fun i => some (g i)) n = (List.range n).map g := by
  unfold upTo
  induction List.range n with
  | nil => rfl
  | cons x l ih => simp [ih]
theorem upTo_list {α β : Type} (l : List α) (g : α → β) : upTo (fun i => (l[i]?).map g) l.length = l.map g := by
  have e : (fun i : Nat => (l[i]?).map g) = fun i : Nat => (l[i]?).bind (fun a => some (g a)) := by
    funext i
    cases l[i]? <;> rfl
  rw [e, upTo_bind]
  exact congrFun (List.filterMap_eq_map (f := g)) l
section
variable {P : Program} {w : World} {K : PySem.W.Frag} {mg : Str → Option Value} {base : Heap} {f_is_integer f_is_row f_is_fraction f_is_some f_added f_multiplied f_squared f_summed f_is_stall f_is_ware f_check_ware f_across f_hold_of f_stalls_of f_kept_of f_held f_roots f_neighbours f_l_deck f_l_pick f_l_divisor f_l_made f_l_amount f_l_great f_l_great_stall f_l_stall f_l_stalls f_l_added f_l_held f_l_roots f_l_are_fractions f_l_is_refused f_l_is_well f_law f_Web_init f_Web_eq c_BadWare c_Web c_ZERO : Addr} {d_is_integer d_is_row d_is_fraction d_is_some d_added d_multiplied d_squared d_summed d_is_stall d_is_ware d_check_ware d_across d_hold_of d_stalls_of d_kept_of d_held d_roots d_neighbours d_l_deck d_l_pick d_l_divisor d_l_made d_l_amount d_l_great d_l_great_stall d_l_stall d_l_stalls d_l_added d_l_held d_l_roots d_l_are_fractions d_l_is_refused d_l_is_well d_law d_Web_init d_Web_eq : FuncData}
def sp_summed (K : PySem.W.Frag) : Sp := fun vs H Q _ => ∃ (L : Addr) (ys : List V) (rs : List Rat) (M : Nat), vs = [.ref L] ∧ H L = some (.lst ys) ∧ Fs K H ys rs ∧ BR rs M ∧ M ≤ 4000 ∧ ∀ H' v, Same H H' → IsF K H' v (sumR rs) → Q v H'
theorem ok_summed (T : Txt K mg f_is_integer f_is_row f_is_fraction f_is_some f_added f_multiplied f_squared f_summed f_is_stall f_is_ware f_check_ware f_across f_hold_of f_stalls_of f_kept_of f_held f_roots f_neighbours f_l_deck f_l_pick f_l_divisor f_l_made f_l_amount f_l_great f_l_great_stall f_l_stall f_l_stalls f_l_added f_l_held f_l_roots f_l_are_fractions f_l_is_refused f_l_is_well f_law f_Web_init f_Web_eq c_BadWare c_Web c_ZERO d_is_integer d_is_row d_is_fraction d_is_some d_added d_multiplied d_squared d_summed d_is_stall d_is_ware d_check_ware d_across d_hold_of d_stalls_of d_kept_of d_held d_roots d_neighbours d_l_deck d_l_pick d_l_divisor d_l_made d_l_amount d_l_great d_l_great_stall d_l_stall d_l_stalls d_l_added d_l_held d_l_roots d_l_are_fractions d_l_is_refused d_l_is_well d_law d_Web_init d_Web_eq) : FnOk P w K mg base CX0 2 f_summed d_summed ["fractions"] (sp_summed K) := by
  have G_added : FnOk P w K mg base CX0 1 f_added d_added ["one", "other"] (sp_added K) := ok_added T
  refine T.F_summed.ok sc_summed (fun vs H Q E h => ?_) (fun cdv A outer s H vs Q E hr h => ?_)
  · obtain ⟨L, ys, rs, k, rfl, _⟩ := h
    rfl
  · obtain ⟨L, ys, rs, k, rfl, hL, hf, hb, hk, q⟩ := h
    have hl := hf.len
    refine ⟨_, (pss_cons (ps_set (i := 1) sc_summed.nd rfl (by first | exact Or.inl rfl | exact Or.inr rfl) (pe_glob (v := .ref c_ZERO) (by rfl) T.v_ZERO rfl))
      (pss_cons (ps_for PassesOwn.never rfl (pi_list (pv 0)) (pg_name (i := 2) sc_summed.nd rfl (by first | exact Or.inl rfl | exact Or.inr rfl))
        (pss_one (ps_set (i := 1) sc_summed.nd rfl (by first | exact Or.inl rfl | exact Or.inr rfl) (pe_call G_added (hr.mono (by decide)) (by rfl) T.g_added T.k_added T.b_added .nil pass0 (pa_cons (pv 1) (pa_cons (pv 2) pa_nil))))))
      (pss_one (ps_ret (pv 1))))), ?_⟩
    walk_at "r"
    refine ⟨⟨_, .of hL⟩, ?_⟩
    refine for_list (K := K) (a := L) (xs := ys) (fun i σ H' => ∃ (tot : V) (t2 : Option V), σ = [some (.ref L), some tot, t2] ∧ Same H H' ∧ IsF K H' tot (sumR (rs.take i))) ⟨_, _, rfl, Same.refl _, .c0 T.t_ZERO⟩ ?_ ?_ ?_
    · rintro i σ H' _ ⟨tot, t2, rfl, s1, _⟩
      exact .of (s1 _ _ hL)
    · rintro i x σ H' hx ⟨tot, t2, rfl, s1, ht⟩
      obtain ⟨r, hr', hxr⟩ := Paired.at hf hx
      have b1 : Bd 4000 (sumR (rs.take i)) := (hb.take i).sum.mono hk
      have b2 : Bd 4000 r := (hb.mem (List.mem_of_getElem? hr')).mono hk
      walk_at "r"
      refine ⟨_, _, _, _, rfl, ht, hxr.same s1, b1, b2, trivial, fun H2 v s2 hv => ?_⟩
      walk_at "r"
      refine ⟨_, _, rfl, s1.trans s2, ?_⟩
      rw [take_at hr', sumR_snoc]
      exact hv
    · rintro σ H' ⟨tot, t2, rfl, s1, ht⟩
      rw [hl, List.take_length] at ht
      walk_at "r"
      exact q _ _ s1 ht
def sp_hold_of (K : PySem.W.Frag) : Sp := fun vs H Q _ => ∃ (v : V) (s : Stl) (wn : Nat), vs = [v, .int (wn : Nat)] ∧ IsSt K H v s ∧ ∀ x, IsF K H x (s.hold wn) → Q x H
theorem ok_hold_of (T : Txt K mg f_is_integer f_is_row f_is_fraction f_is_some f_added f_multiplied f_squared f_summed f_is_stall f_is_ware f_check_ware f_across f_hold_of f_stalls_of f_kept_of f_held f_roots f_neighbours f_l_deck f_l_pick f_l_divisor f_l_made f_l_amount f_l_great f_l_great_stall f_l_stall f_l_stalls f_l_added f_l_held f_l_roots f_l_are_fractions f_l_is_refused f_l_is_well f_law f_Web_init f_Web_eq c_BadWare c_Web c_ZERO d_is_integer d_is_row d_is_fraction d_is_some d_added d_multiplied d_squared d_summed d_is_stall d_is_ware d_check_ware d_across d_hold_of d_stalls_of d_kept_of d_held d_roots d_neighbours d_l_deck d_l_pick d_l_divisor d_l_made d_l_amount d_l_great d_l_great_stall d_l_stall d_l_stalls d_l_added d_l_held d_l_roots d_l_are_fractions d_l_is_refused d_l_is_well d_law d_Web_init d_Web_eq) : FnOk P w K mg base CX0 1 f_hold_of d_hold_of ["stall", "ware"] (sp_hold_of K) := by
  refine T.F_hold_of.ok sc_hold_of (fun vs H Q E h => ?_) (fun cdv A outer s H vs Q E hr h => ?_)
  · obtain ⟨v, s, wn, rfl, _⟩ := h
    rfl
  · obtain ⟨v, s, wn, rfl, ⟨p, va, vb, vr, rfl, hp, ha, hb, hr'⟩, q⟩ := h
    refine ⟨_, (pss_cons (ps_if (pt_cmpR op_eq (pv 1) (pe_ix ix_tup (pv 0) pe_int (fun _ _ => rfl)) (nomark _))
        (pss_one (ps_ret (pe_ix ix_tup (pv 0) pe_int (fun _ _ => rfl))))
        pss_nil)
      (pss_one (ps_ret (pe_ix ix_tup (pv 0) pe_int (fun _ _ => rfl))))), ?_⟩
    walk_at "r"
    walk_at "if"
    · rename_i e
      rw [show s.hold wn = s.a from if_pos (by omega)] at q
      walk_at "r"
      exact q _ ha
    · rename_i e
      rw [show s.hold wn = s.b from if_neg (by omega)] at q
      walk_at "r"
      exact q _ hb
def sp_stalls_of (K : PySem.W.Frag) : Sp := fun vs H Q _ => ∃ (t : Addr) (xs : List V) (ss : List Stl) (wn : Nat), vs = [.int (wn : Nat), .ref t] ∧ H t = some (.tup xs) ∧ Sts K H xs ss ∧ ss.length ≤ 16 ∧
  ∀ H' L ys, Same H H' → H' L = some (.lst ys) → Sts K H' ys (at_ ss wn) → Q (.ref L) H'
theorem ok_stalls_of (T : Txt K mg f_is_integer f_is_row f_is_fraction f_is_some f_added f_multiplied f_squared f_summed f_is_stall f_is_ware f_check_ware f_across f_hold_of f_stalls_of f_kept_of f_held f_roots f_neighbours f_l_deck f_l_pick f_l_divisor f_l_made f_l_amount f_l_great f_l_great_stall f_l_stall f_l_stalls f_l_added f_l_held f_l_roots f_l_are_fractions f_l_is_refused f_l_is_well f_law f_Web_init f_Web_eq c_BadWare c_Web c_ZERO d_is_integer d_is_row d_is_fraction d_is_some d_added d_multiplied d_squared d_summed d_is_stall d_is_ware d_check_ware d_across d_hold_of d_stalls_of d_kept_of d_held d_roots d_neighbours d_l_deck d_l_pick d_l_divisor d_l_made d_l_amount d_l_great d_l_great_stall d_l_stall d_l_stalls d_l_added d_l_held d_l_roots d_l_are_fractions d_l_is_refused d_l_is_well d_law d_Web_init d_Web_eq) : FnOk P w K mg base CX0 1 f_stalls_of d_stalls_of ["ware", "stalls"] (sp_stalls_of K) := by
  refine T.F_stalls_of.ok sc_stalls_of (fun vs H Q E h => ?_) (fun cdv A outer s H vs Q E hr h => ?_)
  · obtain ⟨t, xs, ss, wn, rfl, _⟩ := h
    rfl
  · obtain ⟨t, xs, ss, wn, rfl, ht, hss, h16, q⟩ := h
    have hl := hss.len
    refine ⟨_, (pss_one (ps_ret (pe_lc (own := [("stall", 2)]) (g := gName 2) rfl sc_stalls_of.nd (pi_tup (pv 1)) (blkOk_by (own := [("stall", 2)]) (N := N_stalls_of) (sc := defScope s_stalls_of) (by decide +kernel)) (fun _ _ _ _ _ => (pg_name (i := 2) sc_stalls_of.nd rfl (by first | exact Or.inl rfl | exact Or.inr rfl))) (fun _ _ _ _ _ => (pts_one (pt_cmpR (My.op_inK (K := K) (by rfl)) (pv 0) (pe_slice (My.sl_tupK (K := K) (by rfl)) (pv 2) po_none (po_some pe_int)) (by rfl)))) (fun _ _ _ _ _ => (pv 2))))), ?_⟩
    walk_at "r"
    refine ⟨⟨_, .of ht⟩, fun L nL => ?_⟩
    refine lc_tupP (R := IsSt K) (fun _ _ _ _ f h => h.ts f) (f := fun i => (ss[i]?).filter (·.at wn)) nL (by omega) (.of ht) (fun i x hx H' Q' N s1 hy hn => ?_) fun H' hlst => ?_
    · obtain ⟨s, hs, hst⟩ := hss.at hx
      have hst := hst.same s1
      obtain ⟨p, va, vb, vr, rfl, hp, _⟩ := id hst
      walk_at "r"
      refine ⟨rfl, ?_⟩
      walk_at "r"
      refine rd_slT hp (show ¬ (HT.sIx 5 0 none = 0 ∧ HT.sIx 5 5 (some 2) = 5) by decide) fun p1 H2 s2 h2 => ?_
      have h2 : H2 p1 = some (.tup [V.int (s.u : Nat), .int (s.v : Nat)]) := h2
      refine ⟨_, _, rfl, .inr (.of h2), rfl, rfl, ?_⟩
      refine ⟨_, rfl, ?_⟩
      rw [if_neg Bool.false_ne_true, stl_at_in]
      cases e : s.at wn
      · exact hn _ (by simp [hs, Option.filter, e]) s2
      · walk_at "r"
        exact hy s _ _ (by simp [hs, Option.filter, e]) s2 (hst.same s2)
    · obtain ⟨s1, ys, hL, hys⟩ := hlst
      rw [hl, upTo_filter] at hys
      exact q _ _ _ s1 hL hys
def sp_kept_of (K : PySem.W.Frag) : Sp := fun vs H Q _ => ∃ (t : Addr) (xs : List V) (ss : List Stl) (wn M : Nat), vs = [.int (wn : Nat), .ref t] ∧ H t = some (.tup xs) ∧ Sts K H xs ss ∧ ss.length ≤ 16 ∧ BL ss M ∧ M ≤ 4000 ∧
  ∀ H' v, Same H H' → IsF K H' v (heldAt ss wn) → Q v H'
theorem ok_kept_of (T : Txt K mg f_is_integer f_is_row f_is_fraction f_is_some f_added f_multiplied f_squared f_summed f_is_stall f_is_ware f_check_ware f_across f_hold_of f_stalls_of f_kept_of f_held f_roots f_neighbours f_l_deck f_l_pick f_l_divisor f_l_made f_l_amount f_l_great f_l_great_stall f_l_stall f_l_stalls f_l_added f_l_held f_l_roots f_l_are_fractions f_l_is_refused f_l_is_well f_law f_Web_init f_Web_eq c_BadWare c_Web c_ZERO d_is_integer d_is_row d_is_fraction d_is_some d_added d_multiplied d_squared d_summed d_is_stall d_is_ware d_check_ware d_across d_hold_of d_stalls_of d_kept_of d_held d_roots d_neighbours d_l_deck d_l_pick d_l_divisor d_l_made d_l_amount d_l_great d_l_great_stall d_l_stall d_l_stalls d_l_added d_l_held d_l_roots d_l_are_fractions d_l_is_refused d_l_is_well d_law d_Web_init d_Web_eq) : FnOk P w K mg base CX0 3 f_kept_of d_kept_of ["ware", "stalls"] (sp_kept_of K) := by
  have G_summed : FnOk P w K mg base CX0 2 f_summed d_summed ["fractions"] (sp_summed K) := ok_summed T
  have G_hold_of : FnOk P w K mg base CX0 1 f_hold_of d_hold_of ["stall", "ware"] (sp_hold_of K) := ok_hold_of T
  have G_stalls_of : FnOk P w K mg base CX0 1 f_stalls_of d_stalls_of ["ware", "stalls"] (sp_stalls_of K) := ok_stalls_of T
  refine T.F_kept_of.ok sc_kept_of (fun vs H Q E h => ?_) (fun cdv A outer s H vs Q E hr h => ?_)
  · obtain ⟨t, xs, ss, wn, k, rfl, _⟩ := h
    rfl
  · obtain ⟨t, xs, ss, wn, k, rfl, ht, hss, h16, hb, hk, q⟩ := h
    refine ⟨_, (pss_one (ps_ret (pe_call G_summed (hr.mono (by decide)) (by rfl) T.g_summed T.k_summed T.b_summed .nil pass0 (pa_cons (pe_lc (own := [("stall", 2)]) (g := gName 2) rfl sc_kept_of.nd (pi_list (pe_call G_stalls_of (hr.mono (by decide)) (by rfl) T.g_stalls_of T.k_stalls_of T.b_stalls_of .nil pass0 (pa_cons (pv 0) (pa_cons (pv 1) pa_nil)))) (blkOk_by (own := [("stall", 2)]) (N := N_kept_of) (sc := defScope s_kept_of) (by decide +kernel)) (fun _ _ _ _ _ => (pg_name (i := 2) sc_kept_of.nd rfl (by first | exact Or.inl rfl | exact Or.inr rfl))) (fun _ _ _ _ _ => pts_nil) (fun _ _ _ _ _ => (pe_call G_hold_of (hr.mono (by decide)) (by rfl) T.g_hold_of T.k_hold_of T.b_hold_of .nil pass0 (pa_cons (pv 2) (pa_cons (pv 0) pa_nil))))) pa_nil)))), ?_⟩
    walk_at "r"
    refine ⟨_, _, ss, wn, rfl, ht, hss, h16, fun H1 L ys s1 hL hys => ?_⟩
    have hl := hys.len
    have hle : (at_ ss wn).length ≤ ss.length := List.length_filter_le _ _
    walk_at "r"
    refine ⟨⟨_, .of hL⟩, fun D nD => ?_⟩
    refine lc_listP (R := IsF K) (fun _ _ _ _ f h => h.ts f) (f := fun i => ((at_ ss wn)[i]?).map (·.hold wn)) nD (by omega) (.of hL) (fun i x hx H' Q' N s2 hy hn => ?_) fun H' hlst => ?_
    · obtain ⟨st, hs, hst⟩ := hys.at hx
      have hst := hst.same s2
      walk_at "r"
      refine ⟨rfl, ?_⟩
      walk_at "r"
      exact ⟨_, st, wn, rfl, hst, fun x hxx => hy (st.hold wn) _ _ (by simp [hs]) (Same.refl _) hxx⟩
    · obtain ⟨s2, zs, hD, hzs⟩ := hlst
      rw [hl, upTo_list] at hzs
      walk_at "r"
      exact ⟨D, zs, _, k, rfl, hD, hzs, hb.at wn, hk, fun H3 v s3 hv => q _ _ ((s1.trans s2).trans s3) hv⟩
def sp_held (K : PySem.W.Frag) (C : Addr) : Sp := fun vs H Q _ => ∃ (x : V) (n : Nat) (ss : List Stl) (M : Nat), vs = [x] ∧ IsWeb K C H x n ss ∧ n ≤ 8 ∧ ss.length ≤ 16 ∧ BL ss M ∧ M ≤ 4000 ∧ ∀ H' v, Same H H' → IsFs K H' v (heldAll n ss) → Q v H'
theorem ok_held (T : Txt K mg f_is_integer f_is_row f_is_fraction f_is_some f_added f_multiplied f_squared f_summed f_is_stall f_is_ware f_check_ware f_across f_hold_of f_stalls_of f_kept_of f_held f_roots f_neighbours f_l_deck f_l_pick f_l_divisor f_l_made f_l_amount f_l_great f_l_great_stall f_l_stall f_l_stalls f_l_added f_l_held f_l_roots f_l_are_fractions f_l_is_refused f_l_is_well f_law f_Web_init f_Web_eq c_BadWare c_Web c_ZERO d_is_integer d_is_row d_is_fraction d_is_some d_added d_multiplied d_squared d_summed d_is_stall d_is_ware d_check_ware d_across d_hold_of d_stalls_of d_kept_of d_held d_roots d_neighbours d_l_deck d_l_pick d_l_divisor d_l_made d_l_amount d_l_great d_l_great_stall d_l_stall d_l_stalls d_l_added d_l_held d_l_roots d_l_are_fractions d_l_is_refused d_l_is_well d_law d_Web_init d_Web_eq) : FnOk P w K mg base CX0 4 f_held d_held ["web"] (sp_held K c_Web) := by
  have G_kept_of : FnOk P w K mg base CX0 3 f_kept_of d_kept_of ["ware", "stalls"] (sp_kept_of K) := ok_kept_of T
  refine T.F_held.ok sc_held (fun vs H Q E h => ?_) (fun cdv A outer s H vs Q E hr h => ?_)
  · obtain ⟨x, n, ss, k, rfl, _⟩ := h
    rfl
  · obtain ⟨x, n, ss, k, rfl, ⟨p, dx, t, xs, rfl, hp, ht, hss⟩, n8, l16, hb, hk, q⟩ := h
    refine ⟨_, (pss_one (ps_ret (pe_callTy call_tuple_of (by rfl) T.z_tuple (by decide +kernel) (pa_cons (pe_lc (own := [("ware", 1)]) (g := gName 1) rfl sc_held.nd (pi_range1 (by rfl) T.z_range (pa_cons (pe_fld (pv 0) rfl) pa_nil)) (blkOk_by (own := [("ware", 1)]) (N := N_held) (sc := defScope s_held) (by decide +kernel)) (fun _ _ _ _ _ => (pg_name (i := 1) sc_held.nd rfl (by first | exact Or.inl rfl | exact Or.inr rfl))) (fun _ _ _ _ _ => pts_nil) (fun _ _ _ _ _ => (pe_call G_kept_of (hr.mono (by decide)) (by rfl) T.g_kept_of T.k_kept_of T.b_kept_of .nil pass0 (pa_cons (pv 1) (pa_cons (My.pe_fldK (K := K) (by rfl) (pv 0) rfl) pa_nil))))) pa_nil)))), ?_⟩
    walk_at "r"
    refine ⟨_, _, _, _, _, rfl, hp, T.w_Web.it.cl, T.n_Web_wares, wF_wares _ _, ?_⟩
    walk_at "r"
    refine ⟨by omega, by omega, fun D nD => ?_⟩
    refine lc_rangeP (R := IsF K) (fun _ _ _ _ f h => h.ts f) (f := fun i => some (heldAt ss i)) nD (by omega) (fun i hi H' Q' N s1 hy hn => ?_) fun H' hlst => ?_
    · walk_at "r"
      refine ⟨rfl, ?_⟩
      walk_at "r"
      refine ⟨_, _, _, _, _, rfl, s1 _ _ hp, T.w_Web.it.cl, T.n_Web_stalls, wF_stalls _ _, ?_⟩
      walk_at "r"
      exact ⟨t, xs, ss, i, k, by simp, s1 _ _ ht, hss.same s1, l16, hb, hk, fun H2 v s2 hv => hy _ _ _ rfl s2 hv⟩
    · obtain ⟨s1, ys, hD, hys⟩ := hlst
      rw [show ((n : Nat) : Int).toNat = n from rfl, upTo_map] at hys
      walk_at "r"
      refine ⟨_, _, rfl, .inl ⟨.of hD, fun l nl => ?_⟩⟩
      have sl := same_upd (o := .tup ys) nl
      exact q _ _ (s1.trans sl) ⟨l, ys, rfl, upd_same, Fs.same sl hys⟩
end
end My
namespace My
open PySem PySem.Spec PyProof.Rows L2
variable {K : PySem.W.Frag}
/-! ### webs compared -/
instance decStl : DecidableEq Stl := fun s t => decidable_of_decidable_of_iff (p := s.u = t.u ∧ s.v = t.v ∧ s.a = t.a ∧ s.b = t.b ∧ s.r = t.r) (by
  obtain ⟨u, v, a, b, r⟩ := s
  obtain ⟨u', v', a', b', r'⟩ := t
  simp only [Stl.mk.injEq])
def stD (s : Stl) : PyData := .tuple [.int (s.u : Nat), .int (s.v : Nat), frD s.a, frD s.b, frD s.r]
theorem stD_eqv (s t : Stl) : PyData.eqv (stD s) (stD t) = decide (s = t) := by
  have e : PyData.eqv (stD s) (stD t) = (decide ((s.u : Int) = t.u) && (decide ((s.v : Int) = t.v) && (decide (s.a = t.a) && (decide (s.b = t.b) && decide (s.r = t.r))))) := by
    unfold stD
    rw [PyData.eqv, PyData.eqvAll, PyData.eqvAll, PyData.eqvAll, PyData.eqvAll, PyData.eqvAll, PyData.eqvAll, frD_eqv, frD_eqv, frD_eqv]
    simp only [PyData.eqv, Bool.and_true, Bool.beq_eq_decide_eq]
  rw [e, Bool.eq_iff_iff]
  simp only [Bool.and_eq_true, decide_eq_true_eq]
  obtain ⟨u, v, a, b, r⟩ := s
  obtain ⟨u', v', a', b', r'⟩ := t
  simp only [Stl.mk.injEq]
  constructor <;> rintro ⟨h1, h2, h3, h4, h5⟩ <;> exact ⟨by omega, by omega, h3, h4, h5⟩
theorem sts_eqv : ∀ ss tt : List Stl, PyData.eqvAll (ss.map stD) (tt.map stD) = decide (ss = tt)
  | [], [] => rfl
  | [], _ :: _ => rfl
  | _ :: _, [] => rfl
  | s :: ss, t :: tt => by
    show (PyData.eqv (stD s) (stD t) && PyData.eqvAll (ss.map stD) (tt.map stD)) = _
    rw [stD_eqv, sts_eqv ss tt, Bool.eq_iff_iff]
    simp
theorem sts_lay : ∀ ss : List Stl, PyData.canLayAll0 (ss.map stD) = true ∧ PyData.depthAll (ss.map stD) ≤ 2
  | [] => ⟨rfl, by decide⟩
  | s :: ss => by
    obtain ⟨h1, h2⟩ := sts_lay ss
    refine ⟨?_, ?_⟩
    · show (PyData.canLay0 (stD s) && PyData.canLayAll0 (ss.map stD)) = true
      rw [h1]
      rfl
    · show max (PyData.depth (stD s)) (PyData.depthAll (ss.map stD)) ≤ 2
      have : PyData.depth (stD s) = 2 := rfl
      omega
theorem sts_shaped (ss : List Stl) : SeqAt.shaped (.tuple (ss.map stD)) = true := by
  obtain ⟨h1, h2⟩ := sts_lay ss
  unfold SeqAt.shaped
  rw [Bool.and_eq_true]
  refine ⟨h1, decide_eq_true ?_⟩
  show PyData.depthAll (ss.map stD) + 1 ≤ 64
  omega
theorem IsSt.dp {K : PySem.W.Frag} {H : Hp} {x : V} {s : Stl} (h : IsSt K H x s) : Dp K H x (stD s) := by
  obtain ⟨p, va, vb, vr, rfl, h, a, b, r⟩ := h
  exact .tup (.of h) (.cons (.int _) (.cons (.int _) (.cons a.dp (.cons b.dp (.cons r.dp .nil)))))
theorem Sts.dp {K : PySem.W.Frag} {H : Hp} {t : Addr} {xs : List V} {ss : List Stl} (h : Sts K H xs ss) (ht : H t = some (.tup xs)) : Dp K H (.ref t) (.tuple (ss.map stD)) := by
  refine .tup (.of ht) ?_
  clear ht
  unfold Sts at h
  induction h with
  | nil => exact .nil
  | cons h t ih => exact .cons h.dp ih
end My
namespace My
open PySem PySem.Spec PyProof.Rows L2
/-! ### x != y of instances with an own == and no own != -/
section
variable {prog : Program} {w : World} {A : Around} {E : Value → Shared → Prop} {s : Shared} {K : PySem.W.Frag} {x y C f : Addr} {ox : Obj} {od : Option Obj}
theorem boundB {name : Str} {id B : String} {args : List Value} {Q : Option Value → Shared → Prop} (X : K.In s.heap) (I : PySem.W.InstAt s.heap x ox C od) (hs : PySem.W.findIn K (.ref C) name = some (some (.builtin id))) (S : Slot B name id)
    (h : wpAny (model prog w) A (call (.builtin id) (.ref x :: args)) (fun v => Q (some v)) E s) : wpAny (model prog w) A (callSpecialIfBound? (.ref x) name args) Q E s := by
  have fin : wpAny (model prog w) A (do let v ← call (.builtin id) ([.ref x] ++ args); pure (some v)) Q E s := wpAny_bind (wpAny_mono h (fun v s' q => wpAny_pure q) fun _ _ q => q)
  simp only [callSpecialIfBound?, bindSpecialIfBound?]
  refine wpAny_holding (wpAny_bind (wpAny_bind (wpAny_bind (I.type.here ((PySem.W.looks_findIn X hs).here ?_)))))
  simp only [S.bind]
  refine wpAny_bind (wpAny_askSetting (wpAny_ite ?_))
  split
  · exact wpAny_bind (wpAny_pure (wpAny_pure fin))
  · exact wpAny_tryCatch (wpAny_bind (wpAny_pure (wpAny_pure fin)))
theorem neBody {Q : Fin → Shared → Prop} (hu : A.units < cLine) (X : K.In s.heap) (I : PySem.W.InstAt s.heap x ox C od) (hs : PySem.W.findIn K (.ref C) "__eq__" = some (some (.ref f))) (hf : PySem.W.isFn K (.ref f) = true)
    (h : wpAny (model prog w) A (call (.ref f) [.ref x, .ref y]) (fun v s' => ∃ b, v = .bool b ∧ Q (.done (.ret (.bool (!b)))) s') E s) : wpAny (model prog w) A (Builtin.«object.__ne__» ⟨[.ref x, .ref y], []⟩) Q E s := by
  unfold Builtin.«object.__ne__»
  have step : wpAny (model prog w) A (callSpecialIfBound? (.ref x) (Str.ofString "__eq__") [.ref y]) (fun r s' => ∃ b, r = some (.bool b) ∧ Q (.done (.ret (.bool (!b)))) s') E s :=
    PySem.W.ifBound_K X I hs hf (wpAny_mono h (fun v s' q => by obtain ⟨b, rfl, q⟩ := q; exact ⟨b, rfl, q⟩) fun _ _ q => q)
  repeat (first
    | with_reducible refine wpAny_cRoomFor hu ?_
    | (refine wpAny_bind (m := callSpecialIfBound? (.ref x) (Str.ofString "__eq__") [.ref y]) (wpAny_mono step (fun r s' q => ?_) fun _ _ q => q); obtain ⟨b, rfl, q⟩ := q)
    | exact q
    | (refine wpAny_bind (m := truthy (.bool _)) (wpAny_truthy_bool ?_))
    | wp_step)
theorem tryNe {Q : Option Value → Shared → Prop} (hu : A.units + 1 < cLine) (X : K.In s.heap) (I : PySem.W.InstAt s.heap x ox C od) (hne : PySem.W.findIn K (.ref C) "__ne__" = some (some (.builtin "object.__ne__"))) (hm : PySem.W.mroIn K C (.type "object") = some true)
    (hs : PySem.W.findIn K (.ref C) "__eq__" = some (some (.ref f))) (hf : PySem.W.isFn K (.ref f) = true)
    (h : wpAny (model prog w) A.in1 (call (.ref f) [.ref x, .ref y]) (fun v s' => ∃ b, v = .bool b ∧ Q (some (.bool (!b))) s') E s) : wpAny (model prog w) A (tryCompare (.ref x) "__ne__" (.ref y)) Q E s := by
  simp only [tryCompare]
  refine wpAny_bind (boundB X I hne F.cmp_object.ne (wpAny_call (codeAny_call_builtin F.cmp_object.ne.plain F.cmpEntry_ne (PySem.W.check_slot F.cmpKind_ne F.cmpSplit_ne (I.type.andThen (PySem.W.looks_mroIn X hm)) (F.cmpArgs_ne _ _) (neBody (A := A.in1) (by
    show A.units + 1 < cLine
    exact hu) X I hs hf (wpAny_mono h (fun v s' q => ?_) fun _ _ q => q))))))
  obtain ⟨b, rfl, q⟩ := q
  first
    | exact ⟨b, rfl, ⟨_, rfl, wpAny_pure q⟩⟩
    | exact ⟨b, rfl, wpAny_pure q⟩
    | exact ⟨b, rfl, wpAny_pure (wpAny_pure q)⟩
theorem richNe {oy : Obj} {ody : Option Obj} {Q : Value → Shared → Prop} (hu : A.units + 1 < cLine) (X : K.In s.heap) (I : PySem.W.InstAt s.heap x ox C od) (J : PySem.W.InstAt s.heap y oy C ody) (hne : PySem.W.findIn K (.ref C) "__ne__" = some (some (.builtin "object.__ne__"))) (hm : PySem.W.mroIn K C (.type "object") = some true)
    (hs : PySem.W.findIn K (.ref C) "__eq__" = some (some (.ref f))) (hf : PySem.W.isFn K (.ref f) = true)
    (h : wpAny (model prog w) A.in1 (call (.ref f) [.ref x, .ref y]) (fun v s' => ∃ b, v = .bool b ∧ Q (.bool (!b)) s') E s) : wpAny (model prog w) A (richCompare .NotEq (.ref x) (.ref y)) Q E s := by
  unfold richCompare
  simp only [oneThing_ref]
  refine wpAny_holding (wpAny_bind (wpAny_cRoomFor (Nat.lt_of_succ_lt hu) ?_))
  rw [cmpInfo_NotEq]
  refine wpAny_bind (I.type.here (wpAny_bind (J.type.here ?_)))
  rw [show (Value.ref C != Value.ref C) = false by simp]
  simp only [Bool.false_eq_true, if_false]
  refine wpAny_bind (wpAny_pure ?_)
  refine wpAny_bind (tryNe hu X I hne hm hs hf (wpAny_mono h (fun v s' q => ?_) fun _ _ q => q))
  obtain ⟨b, rfl, q⟩ := q
  exact ⟨b, rfl, wpAny_pure q⟩
end
/-- x != y, both instances of C; R what the two must be, for any answer of the own == -/
def spEqB (R : Addr → Addr → Hp → Bool → Prop) : Sp := fun vs H Q _ => ∃ a b r, vs = [.ref a, .ref b] ∧ R a b H r ∧ Q (.bl r) H
def rNeI (C : Addr) (R : Addr → Addr → Hp → Bool → Prop) : R2 := fun x y H Q => ∃ a b dx dy fs gs r, x = .ref a ∧ y = .ref b ∧ H a = some (.ins C dx fs) ∧ H b = some (.ins C dy gs) ∧ R a b H r ∧ Q (.bl (!r)) H
theorem op_neI {X : Cx} {n : Nat} {C f : Addr} {fd : FuncData} {ps : List Str} {R : Addr → Addr → Hp → Bool → Prop} (F : FnOk X.prog X.w X.K X.mg X.base CX0 n f fd ps (spEqB R)) (hr : Room (n + 1) X.A)
    (hne : PySem.W.findIn X.K (.ref C) "__ne__" = some (some (.builtin "object.__ne__"))) (hm : PySem.W.mroIn X.K C (.type "object") = some true) (hs : PySem.W.findIn X.K (.ref C) "__eq__" = some (some (.ref f))) (hf : PySem.W.isFn X.K (.ref f) = true) (hb : Binds X.K fd ps []) :
    OpR X (compareOp .NotEq) (rNeI C R) := by
  intro pins s σ H x y v u Q I rx ry hq
  obtain ⟨a, b, dx, dy, fs, gs, r, rfl, rfl, ha, hb', hR, q⟩ := hq
  cases rx
  cases ry
  obtain ⟨mA, J, _⟩ := ins_get I.hok ha
  obtain ⟨mB, J', _⟩ := ins_get I.hok hb'
  obtain ⟨od, J, _⟩ := J.look
  obtain ⟨od', J', _⟩ := J'.look
  show wpAny (model X.prog X.w) X.A (richCompare .NotEq (.ref a) (.ref b)) (EP X pins σ Q) X.xe s
  refine richNe ?_ I.kIn J J' hne hm hs hf ?_
  · have := hr.un
    omega
  have hsp : spEqB R [.ref a, .ref b] H (fun v H' => v = .bl r ∧ H' = H) E0 := ⟨a, b, r, rfl, hR, rfl, rfl⟩
  have e0 : Env0 X.prog X.w X.K X.mg X.base X.A.in1 X.stack s H := I.env0.in1
  have hl := F.len _ _ _ _ hsp
  have r2 : Vals [V.ref a, V.ref b] [Value.ref a, Value.ref b] := .cons rfl (.cons rfl .nil)
  refine wpAny_call (codeAny_mono (F.run X.A.in1 X.stack s H ⟨[.ref a, .ref b], []⟩ [.ref a, .ref b] [.ref a, .ref b] _ E0 hr.in1 e0 (by
    have := hb s [.ref a, .ref b] I.kIn (by simpa using hl)
    simpa using this) r2 hsp) fun z s' hz => ?_)
  cases z with
  | error e => exact False.elim hz
  | ok fl =>
    cases fl with
    | ret w' =>
      obtain ⟨z, H', I', rz, ez, ex⟩ := I.after hz
      subst ez
      subst ex
      cases rz
      exact ⟨r, rfl, .bl (!r), H', I', rfl, q⟩
    | next => exact False.elim hz
    | brk => exact False.elim hz
    | cont => exact False.elim hz
/-- x == y of such instances, for any answer of the own == -/
def rEqI (C : Addr) (R : Addr → Addr → Hp → Bool → Prop) : R2 := fun x y H Q => ∃ a b dx dy fs gs r, x = .ref a ∧ y = .ref b ∧ H a = some (.ins C dx fs) ∧ H b = some (.ins C dy gs) ∧ R a b H r ∧ Q (.bl r) H
theorem op_eqI {X : Cx} {n : Nat} {C f : Addr} {fd : FuncData} {ps : List Str} {R : Addr → Addr → Hp → Bool → Prop} (F : FnOk X.prog X.w X.K X.mg X.base CX0 n f fd ps (spEqB R)) (hr : Room (n + 1) X.A)
    (hs : PySem.W.findIn X.K (.ref C) "__eq__" = some (some (.ref f))) (hf : PySem.W.isFn X.K (.ref f) = true) (hb : Binds X.K fd ps []) : OpR X (compareOp .Eq) (rEqI C R) := by
  intro pins s σ H x y v u Q I rx ry hq
  obtain ⟨a, b, dx, dy, fs, gs, r, rfl, rfl, ha, hb', hR, q⟩ := hq
  cases rx
  cases ry
  obtain ⟨mA, J, _⟩ := ins_get I.hok ha
  obtain ⟨mB, J', _⟩ := ins_get I.hok hb'
  obtain ⟨od, J, _⟩ := J.look
  obtain ⟨od', J', _⟩ := J'.look
  obtain ⟨m, hF⟩ := I.fr
  show wpAny (model X.prog X.w) X.A (richCompare .Eq (.ref a) (.ref b)) (EP X pins σ Q) X.xe s
  refine PySem.W.cmp_K (op := .Eq) (tb := .ref C) hr.units0 hF I.ok.mod.kin J J'.type (by simp [PySem.W.notFirst]) hs hf ?_
  have hsp : spEqB R [.ref a, .ref b] H (fun v H' => v = .bl r ∧ H' = H) E0 := ⟨a, b, r, rfl, hR, rfl, rfl⟩
  have hl := F.len _ _ _ _ hsp
  have r2 : Vals [V.ref a, V.ref b] [Value.ref a, Value.ref b] := .cons rfl (.cons rfl .nil)
  refine wpAny_call (codeAny_mono (F.run X.A X.stack s H ⟨[.ref a, .ref b], []⟩ [.ref a, .ref b] [.ref a, .ref b] _ E0 (hr.mono (Nat.le_succ n)) I.env0 (by
    have := hb s [.ref a, .ref b] I.kIn (by simpa using hl)
    simpa using this) r2 hsp) fun z s' hz => ?_)
  cases z with
  | error e => exact False.elim hz
  | ok fl =>
    cases fl with
    | ret w' =>
      obtain ⟨z, H', I', rz, ez, ex⟩ := I.after hz
      subst ez
      subst ex
      cases rz
      exact ⟨.bl r, H', I', rfl, q⟩
    | next => exact False.elim hz
    | brk => exact False.elim hz
    | cont => exact False.elim hz
end My
namespace My
open PySem PySem.Spec PyProof.Rows L2
variable {K : PySem.W.Frag}
theorem kit_self {K : PySem.W.Frag} {t : Value} : PySem.W.kitOne K t t = some true := by
  unfold PySem.W.kitOne
  simp
section
variable {P : Program} {w : World} {K : PySem.W.Frag} {mg : Str → Option Value} {base : Heap} {f_is_integer f_is_row f_is_fraction f_is_some f_added f_multiplied f_squared f_summed f_is_stall f_is_ware f_check_ware f_across f_hold_of f_stalls_of f_kept_of f_held f_roots f_neighbours f_l_deck f_l_pick f_l_divisor f_l_made f_l_amount f_l_great f_l_great_stall f_l_stall f_l_stalls f_l_added f_l_held f_l_roots f_l_are_fractions f_l_is_refused f_l_is_well f_law f_Web_init f_Web_eq c_BadWare c_Web c_ZERO : Addr} {d_is_integer d_is_row d_is_fraction d_is_some d_added d_multiplied d_squared d_summed d_is_stall d_is_ware d_check_ware d_across d_hold_of d_stalls_of d_kept_of d_held d_roots d_neighbours d_l_deck d_l_pick d_l_divisor d_l_made d_l_amount d_l_great d_l_great_stall d_l_stall d_l_stalls d_l_added d_l_held d_l_roots d_l_are_fractions d_l_is_refused d_l_is_well d_law d_Web_init d_Web_eq : FuncData}
def sp_weq (K : PySem.W.Frag) (C : Addr) : Sp := fun vs H Q _ => ∃ (x y : V) (n m : Nat) (ss tt : List Stl), vs = [x, y] ∧ IsWeb K C H x n ss ∧ IsWeb K C H y m tt ∧ Q (.bl (decide (n = m) && decide (ss = tt))) H
theorem ok_Web_eq (T : Txt K mg f_is_integer f_is_row f_is_fraction f_is_some f_added f_multiplied f_squared f_summed f_is_stall f_is_ware f_check_ware f_across f_hold_of f_stalls_of f_kept_of f_held f_roots f_neighbours f_l_deck f_l_pick f_l_divisor f_l_made f_l_amount f_l_great f_l_great_stall f_l_stall f_l_stalls f_l_added f_l_held f_l_roots f_l_are_fractions f_l_is_refused f_l_is_well f_law f_Web_init f_Web_eq c_BadWare c_Web c_ZERO d_is_integer d_is_row d_is_fraction d_is_some d_added d_multiplied d_squared d_summed d_is_stall d_is_ware d_check_ware d_across d_hold_of d_stalls_of d_kept_of d_held d_roots d_neighbours d_l_deck d_l_pick d_l_divisor d_l_made d_l_amount d_l_great d_l_great_stall d_l_stall d_l_stalls d_l_added d_l_held d_l_roots d_l_are_fractions d_l_is_refused d_l_is_well d_law d_Web_init d_Web_eq) : FnOk P w K mg base CX0 1 f_Web_eq d_Web_eq ["self", "other"] (sp_weq K c_Web) := by
  refine T.F_Web_eq.ok sc_Web_eq (fun vs H Q E h => ?_) (fun cdv A outer s H vs Q E hr h => ?_)
  · obtain ⟨x, y, n, m, ss, tt, rfl, _⟩ := h
    rfl
  · obtain ⟨x, y, n, m, ss, tt, rfl, ⟨p, dx, t, xs, rfl, hp, ht, hss⟩, ⟨p2, dx2, t2, xs2, rfl, hp2, ht2, hss2⟩, q⟩ := h
    refine ⟨_, (pss_one (ps_ret (pe_and (pe_callB call_isi (by rfl) T.z_isinstance (by decide +kernel) (pa_cons (pv 1) (pa_cons (pe_glob (v := .ref c_Web) (by rfl) T.w_Web.g rfl) pa_nil))) (pe_and (pe_cmpR op_eq (pe_fld (pv 0) rfl) (pe_fld (pv 1) rfl) (nomark _)) (pe_one (pe_cmpR (op_eqD hr.units) (pe_fld (pv 0) rfl) (pe_fld (pv 1) rfl) (nomark _))))))), ?_⟩
    walk_at "r"
    refine ⟨_, _, _, _, _, rfl, .own _, .base (.ins hp2 T.w_Web.it.cl T.w_Web.it.ha T.w_Web.it.hn T.w_Web.it.ht T.w_Web.it.mo), kit_self, ?_⟩
    walk_at "r"
    refine ⟨_, _, _, _, _, rfl, hp, T.w_Web.it.cl, T.n_Web_wares, wF_wares _ _, ?_⟩
    walk_at "r"
    refine ⟨_, _, _, _, _, rfl, hp2, T.w_Web.it.cl, T.n_Web_wares, wF_wares _ _, ?_⟩
    walk_at "r"
    have e1 : decide (((n : Nat) : Int) = (m : Nat)) = decide (n = m) := by
      rw [Bool.eq_iff_iff, decide_eq_true_eq, decide_eq_true_eq]
      omega
    by_cases e : n = m
    · have e2 : ((n : Nat) : Int) = (m : Nat) := by omega
      rw [decide_eq_true e, Bool.true_and] at q
      rw [decide_eq_true e2]
      walk_at "r"
      refine ⟨_, _, _, _, _, rfl, hp, T.w_Web.it.cl, T.n_Web_stalls, wF_stalls _ _, ?_⟩
      walk_at "r"
      refine ⟨_, _, _, _, _, rfl, hp2, T.w_Web.it.cl, T.n_Web_stalls, wF_stalls _ _, ?_⟩
      refine ⟨_, _, hss.dp ht, hss2.dp ht2, sts_shaped _, sts_shaped _, ?_⟩
      rw [show PyData.eqv (.tuple (ss.map stD)) (.tuple (tt.map stD)) = decide (ss = tt) from sts_eqv ss tt]
      exact q
    · have e2 : ¬ ((n : Nat) : Int) = (m : Nat) := by omega
      rw [decide_eq_false e, Bool.false_and] at q
      rw [decide_eq_false e2]
      walk_at "r"
      exact q
/-- two webs that are equal -/
def RWeb (K : PySem.W.Frag) (C : Addr) : Addr → Addr → Hp → Prop := fun a b H => ∃ n ss, IsWeb K C H (.ref a) n ss ∧ IsWeb K C H (.ref b) n ss
theorem ok_Web_eqR (T : Txt K mg f_is_integer f_is_row f_is_fraction f_is_some f_added f_multiplied f_squared f_summed f_is_stall f_is_ware f_check_ware f_across f_hold_of f_stalls_of f_kept_of f_held f_roots f_neighbours f_l_deck f_l_pick f_l_divisor f_l_made f_l_amount f_l_great f_l_great_stall f_l_stall f_l_stalls f_l_added f_l_held f_l_roots f_l_are_fractions f_l_is_refused f_l_is_well f_law f_Web_init f_Web_eq c_BadWare c_Web c_ZERO d_is_integer d_is_row d_is_fraction d_is_some d_added d_multiplied d_squared d_summed d_is_stall d_is_ware d_check_ware d_across d_hold_of d_stalls_of d_kept_of d_held d_roots d_neighbours d_l_deck d_l_pick d_l_divisor d_l_made d_l_amount d_l_great d_l_great_stall d_l_stall d_l_stalls d_l_added d_l_held d_l_roots d_l_are_fractions d_l_is_refused d_l_is_well d_law d_Web_init d_Web_eq) : FnOk P w K mg base CX0 1 f_Web_eq d_Web_eq ["self", "other"] (spEq (RWeb K c_Web)) :=
  (ok_Web_eq T).imp fun vs H Q E h => by
    obtain ⟨a, b, rfl, ⟨n, ss, h1, h2⟩, q⟩ := h
    refine ⟨_, _, n, n, ss, ss, rfl, h1, h2, ?_⟩
    rw [decide_eq_true rfl, decide_eq_true rfl]
    exact q H Ext.rfl'
theorem rc_web {X : Cx} (T : Txt X.K X.mg f_is_integer f_is_row f_is_fraction f_is_some f_added f_multiplied f_squared f_summed f_is_stall f_is_ware f_check_ware f_across f_hold_of f_stalls_of f_kept_of f_held f_roots f_neighbours f_l_deck f_l_pick f_l_divisor f_l_made f_l_amount f_l_great f_l_great_stall f_l_stall f_l_stalls f_l_added f_l_held f_l_roots f_l_are_fractions f_l_is_refused f_l_is_well f_law f_Web_init f_Web_eq c_BadWare c_Web c_ZERO d_is_integer d_is_row d_is_fraction d_is_some d_added d_multiplied d_squared d_summed d_is_stall d_is_ware d_check_ware d_across d_hold_of d_stalls_of d_kept_of d_held d_roots d_neighbours d_l_deck d_l_pick d_l_divisor d_l_made d_l_amount d_l_great d_l_great_stall d_l_stall d_l_stalls d_l_added d_l_held d_l_roots d_l_are_fractions d_l_is_refused d_l_is_well d_law d_Web_init d_Web_eq) : RcG X 1 (DIns c_Web (RWeb X.K c_Web)) :=
  rcG_ins (E := E0) (ok_Web_eqR T) T.i_Web_eq T.fn_Web_eq T.b_Web_eq pass0
/-- what the own == answers of two webs -/
def BWeb (K : PySem.W.Frag) (C : Addr) : Addr → Addr → Hp → Bool → Prop := fun a b H r => ∃ n m ss tt, IsWeb K C H (.ref a) n ss ∧ IsWeb K C H (.ref b) m tt ∧ r = (decide (n = m) && decide (ss = tt))
theorem ok_Web_eq_B (T : Txt K mg f_is_integer f_is_row f_is_fraction f_is_some f_added f_multiplied f_squared f_summed f_is_stall f_is_ware f_check_ware f_across f_hold_of f_stalls_of f_kept_of f_held f_roots f_neighbours f_l_deck f_l_pick f_l_divisor f_l_made f_l_amount f_l_great f_l_great_stall f_l_stall f_l_stalls f_l_added f_l_held f_l_roots f_l_are_fractions f_l_is_refused f_l_is_well f_law f_Web_init f_Web_eq c_BadWare c_Web c_ZERO d_is_integer d_is_row d_is_fraction d_is_some d_added d_multiplied d_squared d_summed d_is_stall d_is_ware d_check_ware d_across d_hold_of d_stalls_of d_kept_of d_held d_roots d_neighbours d_l_deck d_l_pick d_l_divisor d_l_made d_l_amount d_l_great d_l_great_stall d_l_stall d_l_stalls d_l_added d_l_held d_l_roots d_l_are_fractions d_l_is_refused d_l_is_well d_law d_Web_init d_Web_eq) : FnOk P w K mg base CX0 1 f_Web_eq d_Web_eq ["self", "other"] (spEqB (BWeb K c_Web)) :=
  (ok_Web_eq T).imp fun vs H Q E h => by
    obtain ⟨a, b, r, rfl, ⟨n, m, ss, tt, h1, h2, rfl⟩, q⟩ := h
    exact ⟨_, _, n, m, ss, tt, rfl, h1, h2, q⟩
end
end My
namespace My
open PySem PySem.Spec PyProof.Rows L2
variable {K : PySem.W.Frag}
theorem call_tuple_ofK {X : Cx} (h : X.K = K) : CallR X (.type "tuple") (fun xs H Q => ∃ p ys, xs = [.ref p] ∧ ((SqL K H p ys ∧ ∀ l, H l = none → Q (.ref l) (upd H l (.tup ys))) ∨ (SqT K H p ys ∧ Q (.ref p) H))) := h ▸ call_tuple_of
theorem frD_refl (r : Rat) : PyData.eqv (frD r) (frD r) = true := by rw [frD_eqv]; exact decide_eq_true rfl
theorem all_refl {α : Type} (f : α → PyData) (h : ∀ a, PyData.eqv (f a) (f a) = true) : ∀ l : List α, PyData.eqvAll (l.map f) (l.map f) = true
  | [] => rfl
  | a :: l => by
    show (PyData.eqv (f a) (f a) && PyData.eqvAll (l.map f) (l.map f)) = true
    rw [h, all_refl f h l]
    rfl
theorem all_lay {α : Type} (f : α → PyData) (h : ∀ a, PyData.canLay0 (f a) = true ∧ PyData.depth (f a) ≤ 2) : ∀ l : List α, PyData.canLayAll0 (l.map f) = true ∧ PyData.depthAll (l.map f) ≤ 2
  | [] => ⟨rfl, by show PyData.depthAll [] ≤ 2; decide⟩
  | a :: l => by
    obtain ⟨h1, h2⟩ := all_lay f h l
    obtain ⟨g1, g2⟩ := h a
    refine ⟨?_, ?_⟩
    · show (PyData.canLay0 (f a) && PyData.canLayAll0 (l.map f)) = true
      rw [h1, g1]
      rfl
    · show max (PyData.depth (f a)) (PyData.depthAll (l.map f)) ≤ 2
      omega
theorem shaped_list {α : Type} (f : α → PyData) (h : ∀ a, PyData.canLay0 (f a) = true ∧ PyData.depth (f a) ≤ 2) (l : List α) : SeqAt.shaped (.list (l.map f)) = true := by
  obtain ⟨h1, h2⟩ := all_lay f h l
  unfold SeqAt.shaped
  rw [Bool.and_eq_true]
  refine ⟨h1, decide_eq_true ?_⟩
  show PyData.depthAll (l.map f) + 1 ≤ 64
  omega
theorem shaped_tup {α : Type} (f : α → PyData) (h : ∀ a, PyData.canLay0 (f a) = true ∧ PyData.depth (f a) ≤ 2) (l : List α) : SeqAt.shaped (.tuple (l.map f)) = true := by
  obtain ⟨h1, h2⟩ := all_lay f h l
  unfold SeqAt.shaped
  rw [Bool.and_eq_true]
  refine ⟨h1, decide_eq_true ?_⟩
  show PyData.depthAll (l.map f) + 1 ≤ 64
  omega
theorem dps {α : Type} {R : Hp → V → α → Prop} {f : α → PyData} (hf : ∀ {H : Hp} {v : V} {a : α}, R H v a → Dp K H v (f a)) {H : Hp} {ys : List V} {as : List α} (h : Paired (R H) ys as) : DpAll K H ys (as.map f) := by
  induction h with
  | nil => exact .nil
  | cons h t ih => exact .cons (hf h) ih
theorem IsFs.dp {H : Hp} {v : V} {rs : List Rat} (h : IsFs K H v rs) : Dp K H v (.tuple (rs.map frD)) := by
  obtain ⟨L, ys, rfl, h1, h2⟩ := h
  exact .tup (.of h1) (dps (R := IsF K) (fun h => h.dp) h2)
theorem neFs {H : Hp} {v u : V} {rs : List Rat} {Q : VK} (h1 : IsFs K H v rs) (h2 : IsFs K H u rs) (q : Q (.bl false) H) : rNeD K v u H Q := by
  have sh := shaped_tup frD (fun m => ⟨rfl, Nat.le_succ 1⟩) rs
  refine ⟨_, _, h1.dp, h2.dp, sh, sh, ?_⟩
  rw [show PyData.eqv (.tuple (rs.map frD)) (.tuple (rs.map frD)) = true from all_refl frD frD_refl rs]
  exact q
theorem eqFs {H : Hp} {v u : V} {rs : List Rat} {Q : VK} (h1 : IsFs K H v rs) (h2 : IsFs K H u rs) (q : Q (.bl true) H) : rEqD K v u H Q := by
  have sh := shaped_tup frD (fun m => ⟨rfl, Nat.le_succ 1⟩) rs
  refine ⟨_, _, h1.dp, h2.dp, sh, sh, ?_⟩
  rw [show PyData.eqv (.tuple (rs.map frD)) (.tuple (rs.map frD)) = true from all_refl frD frD_refl rs]
  exact q
/-- own == and != of webs that are equal -/
theorem neWeb {C : Addr} {H : Hp} {v u : V} {n : Nat} {ss : List Stl} {Q : VK} (h1 : IsWeb K C H v n ss) (h2 : IsWeb K C H u n ss) (q : Q (.bl false) H) : rNeI C (BWeb K C) v u H Q := by
  obtain ⟨p, dx, t, xs, rfl, hp, _⟩ := id h1
  obtain ⟨p2, dx2, t2, xs2, rfl, hp2, _⟩ := id h2
  exact ⟨_, _, _, _, _, _, true, rfl, rfl, hp, hp2, ⟨n, n, _, _, h1, h2, by simp⟩, q⟩
theorem eqWeb {C : Addr} {H : Hp} {v u : V} {n : Nat} {ss : List Stl} {Q : VK} (h1 : IsWeb K C H v n ss) (h2 : IsWeb K C H u n ss) (q : Q (.bl true) H) : rEqI C (BWeb K C) v u H Q := by
  obtain ⟨p, dx, t, xs, rfl, hp, _⟩ := id h1
  obtain ⟨p2, dx2, t2, xs2, rfl, hp2, _⟩ := id h2
  exact ⟨_, _, _, _, _, _, true, rfl, rfl, hp, hp2, ⟨n, n, _, _, h1, h2, by simp⟩, q⟩
end My
namespace My
open PySem PySem.Spec PyProof.Rows L2
variable {K : PySem.W.Frag}
theorem Fs.ts {H H' : Hp} {ys : List V} {rs : List Rat} (f : Tps H H') (h : Fs K H ys rs) : Fs K H' ys rs := Paired.mapP h fun _ _ h => h.ts f
end My
namespace My
open PySem PySem.Spec PyProof.Rows L2
variable {K : PySem.W.Frag}
theorem Fs.set {H : Hp} {ys : List V} {rs : List Rat} {v : V} {r : Rat} (h : Fs K H ys rs) (hv : IsF K H v r) (i : Nat) : Fs K H (ys.set i v) (rs.set i r) := by
  unfold Fs at *
  induction h generalizing i with
  | nil => exact .nil
  | cons h t ih =>
    cases i with
    | zero => exact .cons hv t
    | succ i => exact .cons h (ih i)
theorem ixN_at {n i : Nat} (h : i < n) : ixN n (i : Int) = some i := by
  unfold ixN
  split <;> first | omega | (simp; omega) | simp_all
end My
namespace My
open PySem PySem.Spec PyProof.Rows L2
variable {K : PySem.W.Frag}
def put1 (M : Nat → Nat → Rat) (u v : Nat) (x : Rat) : Nat → Nat → Rat := fun a b => if a = u ∧ b = v then x else M a b
def rootS (M : Nat → Nat → Rat) (k : Nat × Nat × Rat) : Nat → Nat → Rat := put1 (put1 M k.1 k.2.1 (M k.1 k.2.1 + k.2.2)) k.2.1 k.1 (M k.1 k.2.1 + k.2.2)
def keyS (s : Stl) : Nat × Nat × Rat := (s.u, s.v, s.r)
/-- the sums of roots between wares -/
def rootM (ss : List Stl) : Nat → Nat → Rat := (ss.map keyS).foldl rootS fun _ _ => 0
def rootsAt (n : Nat) (ss : List Stl) : List (List Rat) := (List.range n).map fun a => (List.range n).map (rootM ss a)
theorem rootM_take {ss : List Stl} {i : Nat} {s : Stl} (h : ss[i]? = some s) : rootM (ss.take (i + 1)) = rootS (rootM (ss.take i)) (keyS s) := by
  unfold rootM
  rw [take_at h, List.map_append, List.foldl_append]
  rfl
theorem rootM_bd {R : Nat} {ss : List Stl} (h : ∀ s ∈ ss, Bd R s.r) : ∀ i, i ≤ ss.length → ∀ a b, Bd (1 + (R + 1) * i) (rootM (ss.take i) a b) := by
  intro i
  induction i with
  | zero =>
    intro _ a b
    exact bd_zero (by omega)
  | succ i ih =>
    intro hi a b
    obtain ⟨s, hs⟩ : ∃ s, ss[i]? = some s := ⟨_, List.getElem?_eq_getElem hi⟩
    have ih := ih (by omega)
    have e : (R + 1) * (i + 1) = (R + 1) * i + (R + 1) := by rw [Nat.mul_add, Nat.mul_one]
    have bx : Bd (1 + (R + 1) * (i + 1)) (rootM (ss.take i) s.u s.v + s.r) := ((ih s.u s.v).add (h s (List.mem_of_getElem? hs))).mono (by omega)
    rw [rootM_take hs]
    show Bd _ (rootS _ (s.u, s.v, s.r) a b)
    unfold rootS put1
    simp only []
    split
    · exact bx
    · split
      · exact bx
      · exact (ih a b).mono (by omega)
/-- rows of fractions under way -/
structure Mat (K : PySem.W.Frag) (n : Nat) (D : Addr) (as : List Addr) (M : Nat → Nat → Rat) (H : Hp) : Prop where
  lst : H D = some (.lst (as.map V.ref))
  len : as.length = n
  nd : as.Nodup
  row : ∀ i a, as[i]? = some a → a ≠ D ∧ ∃ ys, H a = some (.lst ys) ∧ Fs K H ys ((List.range n).map (M i))
theorem Mat.same {n : Nat} {D : Addr} {as : List Addr} {M : Nat → Nat → Rat} {H H' : Hp} (h : Mat K n D as M H) (s : Same H H') : Mat K n D as M H' :=
  ⟨s _ _ h.lst, h.len, h.nd, fun i a e => by
    obtain ⟨h1, ys, h2, h3⟩ := h.row i a e
    exact ⟨h1, ys, s _ _ h2, h3.same s⟩⟩
theorem row_set {n : Nat} (g : Nat → Rat) {j : Nat} (x : Rat) : ((List.range n).map g).set j x = (List.range n).map fun q => if q = j then x else g q := by
  refine List.ext_getElem? fun q => ?_
  rw [List.getElem?_set, List.length_map, List.length_range]
  by_cases hq : q < n
  · rw [List.getElem?_map, List.getElem?_map, List.getElem?_range hq]
    by_cases e : j = q
    · subst e
      simp [hq]
    · simp [e, Ne.symm e]
  · rw [List.getElem?_eq_none (l := List.map g _) (by simp; omega), List.getElem?_eq_none (l := List.map _ _) (by simp; omega)]
    split
    · split
      · omega
      · rfl
    · rfl
theorem nodup_at {as : List Addr} (h : as.Nodup) {i j : Nat} {a : Addr} (h1 : as[i]? = some a) (h2 : as[j]? = some a) : i = j := by
  obtain ⟨l1, e1⟩ := List.getElem?_eq_some_iff.mp h1
  obtain ⟨l2, e2⟩ := List.getElem?_eq_some_iff.mp h2
  have p := List.pairwise_iff_getElem.mp h
  rcases Nat.lt_trichotomy i j with c | c | c
  · exact absurd (e1.trans e2.symm) (p i j l1 l2 c)
  · exact c
  · exact absurd (e2.trans e1.symm) (p j i l2 l1 c)
theorem Mat.put {n : Nat} {D : Addr} {as : List Addr} {M : Nat → Nat → Rat} {H : Hp} (h : Mat K n D as M H) {i j : Nat} {a : Addr} {ys : List V} {v : V} {x : Rat} (ha : as[i]? = some a) (hy : H a = some (.lst ys)) (hv : IsF K H v x) :
    Mat K n D as (put1 M i j x) (upd H a (.lst (ys.set j v))) := by
  obtain ⟨g1, ys', g2, g3⟩ := h.row i a ha
  rw [hy] at g2
  cases g2
  have tp := tps_put (H1 := H) (o := .lst (ys.set j v)) hy
  refine ⟨(upd_ne (Ne.symm g1)).trans h.lst, h.len, h.nd, fun i' a' e => ?_⟩
  obtain ⟨f1, zs, f2, f3⟩ := h.row i' a' e
  by_cases c : i' = i
  · subst c
    rw [ha] at e
    cases e
    refine ⟨f1, _, upd_same, ?_⟩
    have : (List.range n).map (put1 M i' j x i') = ((List.range n).map (M i')).set j x := by
      rw [row_set]
      refine List.map_congr_left fun q _ => ?_
      unfold put1
      simp
    rw [this]
    exact (g3.ts tp).set (hv.ts tp) j
  · have na : a' ≠ a := fun z => c (nodup_at h.nd (z ▸ e) ha)
    refine ⟨f1, zs, (upd_ne na).trans f2, ?_⟩
    have : (List.range n).map (put1 M i j x i') = (List.range n).map (M i') := by
      refine List.map_congr_left fun q _ => ?_
      unfold put1
      simp [c]
    rw [this]
    exact f3.ts tp
theorem IsFs.ts {H H' : Hp} {x : V} {rs : List Rat} (t : Tps H H') (h : IsFs K H x rs) : IsFs K H' x rs := by
  obtain ⟨p, ys, e, h1, h2⟩ := h
  exact ⟨p, ys, e, t _ _ h1, Fs.ts t h2⟩
def IsRt (K : PySem.W.Frag) (H : Hp) (v : V) (rss : List (List Rat)) : Prop := ∃ t ys, v = .ref t ∧ H t = some (.tup ys) ∧ Paired (IsFs K H) ys rss
theorem IsRt.same {H H' : Hp} {v : V} {rss : List (List Rat)} (s : Same H H') (h : IsRt K H v rss) : IsRt K H' v rss := by
  obtain ⟨t, ys, e, h1, h2⟩ := h
  exact ⟨t, ys, e, s _ _ h1, Paired.mapP h2 fun _ _ h => h.same s⟩
theorem IsRt.dp {H : Hp} {v : V} {rss : List (List Rat)} (h : IsRt K H v rss) : Dp K H v (.tuple (rss.map fun rs => .tuple (rs.map frD))) := by
  obtain ⟨t, ys, rfl, h1, h2⟩ := h
  exact .tup (.of h1) (dps (R := IsFs K) (fun h => h.dp) h2)
theorem all_lay3 {α : Type} (f : α → PyData) (h : ∀ a, PyData.canLay0 (f a) = true ∧ PyData.depth (f a) ≤ 3) : ∀ l : List α, PyData.canLayAll0 (l.map f) = true ∧ PyData.depthAll (l.map f) ≤ 3
  | [] => ⟨rfl, by show PyData.depthAll [] ≤ 3; decide⟩
  | a :: l => by
    obtain ⟨h1, h2⟩ := all_lay3 f h l
    obtain ⟨g1, g2⟩ := h a
    refine ⟨?_, ?_⟩
    · show (PyData.canLay0 (f a) && PyData.canLayAll0 (l.map f)) = true
      rw [g1, h1]
      rfl
    · show max (PyData.depth (f a)) (PyData.depthAll (l.map f)) ≤ 3
      omega
theorem tup_refl (rs : List Rat) : PyData.eqv (.tuple (rs.map frD)) (.tuple (rs.map frD)) = true := all_refl frD frD_refl rs
theorem rt_refl (rss : List (List Rat)) : PyData.eqv (.tuple (rss.map fun rs => PyData.tuple (rs.map frD))) (.tuple (rss.map fun rs => PyData.tuple (rs.map frD))) = true := all_refl (fun rs : List Rat => PyData.tuple (rs.map frD)) tup_refl rss
theorem eqRt {H : Hp} {v u : V} {rss : List (List Rat)} {Q : VK} (h1 : IsRt K H v rss) (h2 : IsRt K H u rss) (q : Q (.bl true) H) : rEqD K v u H Q := by
  have sh : SeqAt.shaped (.tuple (rss.map fun rs => PyData.tuple (rs.map frD))) = true := by
    obtain ⟨g1, g2⟩ := all_lay3 (fun rs => PyData.tuple (rs.map frD)) (fun rs => by
      obtain ⟨f1, f2⟩ := all_lay frD (fun m => ⟨rfl, Nat.le_succ 1⟩) rs
      refine ⟨f1, ?_⟩
      show PyData.depthAll (rs.map frD) + 1 ≤ 3
      omega) rss
    unfold SeqAt.shaped
    rw [Bool.and_eq_true]
    refine ⟨g1, decide_eq_true ?_⟩
    show PyData.depthAll _ + 1 ≤ 64
    omega
  refine ⟨_, _, h1.dp, h2.dp, sh, sh, ?_⟩
  rw [rt_refl]
  exact q
theorem flat_one' {α : Type} (x : α) : ∀ n : Nat, (List.replicate n [x]).flatten = List.replicate n x
  | 0 => rfl
  | n + 1 => by rw [List.replicate_succ, List.flatten_cons, flat_one' x n, List.replicate_succ]; rfl
theorem fs_rep' {H : Hp} {x : V} {r : Rat} (h : IsF K H x r) : ∀ n : Nat, Fs K H (List.replicate n x) (List.replicate n r)
  | 0 => .nil
  | n + 1 => .cons h (fs_rep' h n)
section
variable {P : Program} {w : World} {K : PySem.W.Frag} {mg : Str → Option Value} {base : Heap} {f_is_integer f_is_row f_is_fraction f_is_some f_added f_multiplied f_squared f_summed f_is_stall f_is_ware f_check_ware f_across f_hold_of f_stalls_of f_kept_of f_held f_roots f_neighbours f_l_deck f_l_pick f_l_divisor f_l_made f_l_amount f_l_great f_l_great_stall f_l_stall f_l_stalls f_l_added f_l_held f_l_roots f_l_are_fractions f_l_is_refused f_l_is_well f_law f_Web_init f_Web_eq c_BadWare c_Web c_ZERO : Addr} {d_is_integer d_is_row d_is_fraction d_is_some d_added d_multiplied d_squared d_summed d_is_stall d_is_ware d_check_ware d_across d_hold_of d_stalls_of d_kept_of d_held d_roots d_neighbours d_l_deck d_l_pick d_l_divisor d_l_made d_l_amount d_l_great d_l_great_stall d_l_stall d_l_stalls d_l_added d_l_held d_l_roots d_l_are_fractions d_l_is_refused d_l_is_well d_law d_Web_init d_Web_eq : FuncData}
def sp_roots (K : PySem.W.Frag) (C : Addr) : Sp := fun vs H Q _ => ∃ (x : V) (n R : Nat) (ss : List Stl), vs = [x] ∧ IsWeb K C H x n ss ∧ n ≤ 8 ∧ ss.length ≤ 16 ∧ (∀ s ∈ ss, OkSt n s ∧ Bd R s.r) ∧ (R + 1) * ss.length + 1 ≤ 3900 ∧ ∀ H' v, Same H H' → IsRt K H' v (rootsAt n ss) → Q v H'
theorem ok_roots (T : Txt K mg f_is_integer f_is_row f_is_fraction f_is_some f_added f_multiplied f_squared f_summed f_is_stall f_is_ware f_check_ware f_across f_hold_of f_stalls_of f_kept_of f_held f_roots f_neighbours f_l_deck f_l_pick f_l_divisor f_l_made f_l_amount f_l_great f_l_great_stall f_l_stall f_l_stalls f_l_added f_l_held f_l_roots f_l_are_fractions f_l_is_refused f_l_is_well f_law f_Web_init f_Web_eq c_BadWare c_Web c_ZERO d_is_integer d_is_row d_is_fraction d_is_some d_added d_multiplied d_squared d_summed d_is_stall d_is_ware d_check_ware d_across d_hold_of d_stalls_of d_kept_of d_held d_roots d_neighbours d_l_deck d_l_pick d_l_divisor d_l_made d_l_amount d_l_great d_l_great_stall d_l_stall d_l_stalls d_l_added d_l_held d_l_roots d_l_are_fractions d_l_is_refused d_l_is_well d_law d_Web_init d_Web_eq) : FnOk P w K mg base CX0 2 f_roots d_roots ["web"] (sp_roots K c_Web) := by
  have G_added : FnOk P w K mg base CX0 1 f_added d_added ["one", "other"] (sp_added K) := ok_added T
  refine T.F_roots.ok sc_roots (fun vs H Q E h => ?_) (fun cdv A outer sh H vs Q E hr h => ?_)
  · obtain ⟨x, n, R, ss, rfl, _⟩ := h
    rfl
  · obtain ⟨x, n, R, ss, rfl, ⟨p, dx, t, xs, rfl, hp, ht, hss⟩, n8, l16, hok, hR, q⟩ := h
    have hlx := hss.len
    refine ⟨_, (pss_cons (ps_setLc (i := 1) (own := [("_", 2)]) (g := gName 2) rfl sc_roots.nd rfl rfl (sw_true rfl rfl rfl (by decide +kernel)) (pi_range1 (by rfl) T.z_range (pa_cons (pe_fld (pv 0) rfl) pa_nil)) (blkOk_by (own := [("_", 2)]) (N := N_roots) (sc := defScope s_roots) (by decide +kernel)) (fun _ _ _ _ _ => (pg_name (i := 2) sc_roots.nd rfl (by first | exact Or.inl rfl | exact Or.inr rfl))) (fun _ _ _ _ _ => pts_nil) (fun _ _ _ _ _ => (pe_op op_rep (pe_lst (pa_cons (pe_glob (v := .ref c_ZERO) (by rfl) T.v_ZERO rfl) pa_nil)) (My.pe_fldK (K := K) (by rfl) (pv 0) rfl))))
      (pss_cons (ps_for PassesOwn.never rfl (pi_tup (pe_fld (pv 0) rfl)) (pg_name (i := 3) sc_roots.nd rfl (by first | exact Or.inl rfl | exact Or.inr rfl))
        (pss_cons (ps_asg (pe_slice sl_tup (pv 3) po_none (po_some pe_int)) (pg_tup rfl (pgs_cons (pg_name (i := 4) sc_roots.nd rfl (by first | exact Or.inl rfl | exact Or.inr rfl)) (pgs_cons (pg_name (i := 5) sc_roots.nd rfl (by first | exact Or.inl rfl | exact Or.inr rfl)) pgs_nil))))
          (pss_cons (ps_asg (pe_call G_added (hr.mono (by decide)) (by rfl) T.g_added T.k_added T.b_added .nil pass0 (pa_cons (pe_ix ix_list (pe_ix ix_list (pv 1) (pv 4) (fun _ _ => rfl)) (pv 5) (fun _ _ => rfl)) (pa_cons (pe_ix ix_tup (pv 3) pe_int (fun _ _ => rfl)) pa_nil))) (pg_sub (pe_ix ix_list (pv 1) (pv 4) (fun _ _ => rfl)) (pv 5) set_list))
          (pss_one (ps_asg (pe_ix ix_list (pe_ix ix_list (pv 1) (pv 4) (fun _ _ => rfl)) (pv 5) (fun _ _ => rfl)) (pg_sub (pe_ix ix_list (pv 1) (pv 5) (fun _ _ => rfl)) (pv 4) set_list))))))
      (pss_one (ps_ret (pe_callTy call_tuple_of (by rfl) T.z_tuple (by decide +kernel) (pa_cons (pe_lc (own := [("row", 6)]) (g := gName 6) rfl sc_roots.nd (pi_list (pv 1)) (blkOk_by (own := [("row", 6)]) (N := N_roots) (sc := defScope s_roots) (by decide +kernel)) (fun _ _ _ _ _ => (pg_name (i := 6) sc_roots.nd rfl (by first | exact Or.inl rfl | exact Or.inr rfl))) (fun _ _ _ _ _ => pts_nil) (fun _ _ _ _ _ => (pe_callTy (My.call_tuple_ofK (K := K) (by rfl)) (by rfl) T.z_tuple (by decide +kernel) (pa_cons (pv 6) pa_nil)))) pa_nil)))))), ?_⟩
    walk_at "r"
    refine ⟨_, _, _, _, _, rfl, hp, T.w_Web.it.cl, T.n_Web_wares, wF_wares _ _, ?_⟩
    walk_at "r"
    refine ⟨by omega, by omega, fun D nD => ?_⟩
    refine lc_range (lo := 0) (n := n) (fun i H' => Same H H' ∧ ∃ as : List Addr, H' D = some (.lst (as.map V.ref)) ∧ as.length = i ∧ as.Nodup ∧ (∀ a ∈ as, a ≠ D ∧ H' a = some (.lst (List.replicate n (V.ref c_ZERO)))) ∧ ∀ a ∈ as, H a = none) ?_ ?_ ?_
    · exact ⟨same_upd nD, [], upd_same, rfl, .nil, by simp, by simp⟩
    · rintro i H' hi ⟨s1, as, hD, hla, hnd, has, hnw⟩
      have hp1 := s1 _ _ hp
      walk_at "r"
      refine ⟨rfl, ?_⟩
      walk_at "r"
      intro l nl
      have s2 := same_upd (o := .lst [V.ref c_ZERO]) nl
      have hl : upd H' l (.lst [V.ref c_ZERO]) l = some (.lst [V.ref c_ZERO]) := upd_same
      generalize upd H' l (.lst [V.ref c_ZERO]) = H2 at *
      walk_at "r"
      refine ⟨_, _, _, _, _, rfl, s2 _ _ hp1, T.w_Web.it.cl, T.n_Web_wares, wF_wares _ _, ?_⟩
      refine ⟨l, _, _, rfl, rfl, hl, by omega, by omega, ?_, fun pr nr => ?_⟩
      · rw [sizeLine_eq]
        show 1 * n ≤ _
        omega
      rw [show ((n : Nat) : Int).toNat = n from rfl, flat_one']
      have s3 := same_upd (o := .lst (List.replicate n (V.ref c_ZERO))) nr
      have hpr : upd H2 pr (.lst (List.replicate n (V.ref c_ZERO))) pr = some (.lst (List.replicate n (V.ref c_ZERO))) := upd_same
      have prD : pr ≠ D := Ne.symm (ne_of_none (s2 _ _ hD) nr)
      have pras : pr ∉ as := fun z => by
        have := s2 _ _ (has pr z).2
        rw [nr] at this
        cases this
      have prH : H pr = none := (s1.trans s2).free nr
      generalize upd H2 pr (.lst (List.replicate n (V.ref c_ZERO))) = H3 at *
      have k3 := s2.trans s3
      refine ⟨_, k3 _ _ hD, small1000 (by rw [List.length_map]; omega), same_put nD (s1.trans k3), as ++ [pr], ?_, by simp [hla], ?_, fun a ha => ?_, fun a ha => ?_⟩
      · rw [upd_same, List.map_append]
        rfl
      · exact List.nodup_append.mpr ⟨hnd, by simp, fun a ha b hb => by
          rw [List.mem_singleton.mp hb]
          exact fun z => pras (z ▸ ha)⟩
      · rcases List.mem_append.mp ha with h | h
        · exact ⟨(has a h).1, (upd_ne (has a h).1).trans (k3 _ _ (has a h).2)⟩
        · rw [List.mem_singleton.mp h]
          exact ⟨prD, (upd_ne prD).trans hpr⟩
      · rcases List.mem_append.mp ha with h | h
        · exact hnw a h
        · rw [List.mem_singleton.mp h]
          exact prH
    rintro H1 ⟨s1, as, hD, hla, hnd, has, hnw⟩
    have m0 : Mat K n D as (fun _ _ => 0) H1 := ⟨hD, hla, hnd, fun i a e => ⟨(has a (List.mem_of_getElem? e)).1, _, (has a (List.mem_of_getElem? e)).2, by
      rw [show (List.range n).map (fun _ => (0 : Rat)) = List.replicate n 0 by rw [List.map_const', List.length_range]]
      exact fs_rep' (.c0 T.t_ZERO) n⟩⟩
    have hp1 := s1 _ _ hp
    walk_at "r"
    refine ⟨_, _, _, _, _, rfl, hp1, T.w_Web.it.cl, T.n_Web_stalls, wF_stalls _ _, ?_⟩
    walk_at "r"
    refine ⟨⟨_, .of (s1 _ _ ht)⟩, ?_⟩
    refine for_tup (K := K) (a := t) (xs := xs) (fun i σ H' => ∃ (t2 t3 t4 t5 t6 : Option V), σ = [some (.ref p), some (.ref D), t2, t3, t4, t5, t6] ∧ Same H H' ∧ Mat K n D as (rootM (ss.take i)) H') ⟨_, _, _, _, _, rfl, s1, m0⟩ ?_ ?_ ?_
    · rintro i σ H' _ ⟨t2, t3, t4, t5, t6, rfl, s2, m⟩
      exact .of (s2 _ _ ht)
    · rintro i v σ H' hx ⟨t2, t3, t4, t5, t6, rfl, s2, m⟩
      obtain ⟨s, hs, hst⟩ := hss.at hx
      have hst := hst.same s2
      obtain ⟨ps, va, vb, vr, rfl, hps, _, _, ir⟩ := id hst
      obtain ⟨oks, brs⟩ := hok s (List.mem_of_getElem? hs)
      have hu := oks.u
      have hv := oks.v
      have hil := (List.getElem?_eq_some_iff.mp hs).1
      obtain ⟨au, hau⟩ : ∃ a, as[s.u]? = some a := ⟨_, List.getElem?_eq_getElem (by omega)⟩
      obtain ⟨av, hav⟩ : ∃ a, as[s.v]? = some a := ⟨_, List.getElem?_eq_getElem (by omega)⟩
      have mau : (as.map V.ref)[s.u]? = some (V.ref au) := by rw [List.getElem?_map, hau]; rfl
      have mav : (as.map V.ref)[s.v]? = some (V.ref av) := by rw [List.getElem?_map, hav]; rfl
      walk_at "r"
      refine rd_slT hps (show ¬ (HT.sIx 5 0 none = 0 ∧ HT.sIx 5 5 (some 2) = 5) by decide) fun p1 H2 sa h2 => ?_
      have h2 : H2 p1 = some (.tup [V.int (s.u : Nat), .int (s.v : Nat)]) := h2
      have m2 := m.same sa
      obtain ⟨nu, yu, fu, ru⟩ := m2.row s.u au hau
      obtain ⟨x1, hx1, ix1⟩ := Paired.get' ru (i := s.v) (a := rootM (ss.take i) s.u s.v) (by simp [hv])
      have hps2 := sa _ _ hps
      have mb := rootM_bd (fun s hs => (hok s hs).2) i (by omega) s.u s.v
      have mbb : (R + 1) * i ≤ (R + 1) * ss.length := Nat.mul_le_mul (Nat.le_refl _) (by omega)
      have mbr : R + 1 ≤ (R + 1) * ss.length := Nat.le_mul_of_pos_right _ (by omega)
      walk_at "r"
      refine rd_ixL m2.lst (at_some mau) ?_
      walk_at "r"
      refine rd_ixL fu (at_some hx1) ?_
      walk_at "r"
      refine ⟨_, _, _, _, rfl, ix1, ir.same sa, mb.mono (by omega), brs.mono (by omega), trivial, fun H3 v3 sb hv3 => ?_⟩
      have m3 := m2.same sb
      have fu3 := sb _ _ fu
      have hly := (ru.length).trans (by simp : _ = n)
      walk_at "r"
      refine rd_ixL m3.lst (at_some mau) ?_
      walk_at "r"
      refine rd_setL fu3 (ixN_at (by omega)) ?_
      have m4 := m3.put (j := s.v) hau fu3 hv3
      have s4 : Same H (upd H3 au (.lst (yu.set s.v v3))) := same_put (hnw au (List.mem_of_getElem? hau)) ((s2.trans sa).trans sb)
      generalize upd H3 au (.lst (yu.set s.v v3)) = H4 at *
      obtain ⟨_, yu4, fu4, ru4⟩ := m4.row s.u au hau
      obtain ⟨_, yv4, fv4, rv4⟩ := m4.row s.v av hav
      obtain ⟨x4, hx4, ix4⟩ := Paired.get' ru4 (i := s.v) (a := rootM (ss.take i) s.u s.v + s.r) (by simp [hv, put1])
      have hlyv := (rv4.length).trans (by simp : _ = n)
      walk_at "r"
      refine rd_ixL m4.lst (at_some mau) ?_
      walk_at "r"
      refine rd_ixL fu4 (at_some hx4) ?_
      walk_at "r"
      refine rd_ixL m4.lst (at_some mav) ?_
      walk_at "r"
      refine rd_setL fv4 (ixN_at (by omega)) ?_
      have m5 := m4.put (j := s.u) hav fv4 ix4
      have s5 : Same H (upd H4 av (.lst (yv4.set s.u x4))) := same_put (hnw av (List.mem_of_getElem? hav)) s4
      refine ⟨_, _, _, _, _, rfl, s5, ?_⟩
      rw [rootM_take hs]
      exact m5
    · rintro σ H2 ⟨t2, t3, t4, t5, t6, rfl, s2, m⟩
      rw [hlx, List.take_length] at m
      have hlD : (as.map V.ref).length = n := by rw [List.length_map]; exact m.len
      walk_at "r"
      refine ⟨⟨_, .of m.lst⟩, fun B nB => ?_⟩
      refine lc_listP (R := IsFs K) (fun _ _ _ _ f h => h.ts f) (f := fun i => some ((List.range n).map (rootM ss i))) nB (by omega) (.of m.lst) (fun i v hx H' Q' N' s3 hy _ => ?_) fun H3 hl3 => ?_
      · rw [List.getElem?_map] at hx
        cases hai : as[i]? with
        | none =>
          rw [hai] at hx
          cases hx
        | some a =>
          rw [hai] at hx
          cases hx
          obtain ⟨_, ys, f1, f2⟩ := m.row i a hai
          walk_at "r"
          refine ⟨rfl, ?_⟩
          walk_at "r"
          refine ⟨_, _, rfl, .inl ⟨.of (s3 _ _ f1), fun l nl => ?_⟩⟩
          have sl := same_upd (o := .tup ys) nl
          exact hy _ _ _ rfl sl ⟨l, ys, rfl, upd_same, Fs.same sl (Fs.same s3 f2)⟩
      · obtain ⟨s3, ys, hB, hys⟩ := hl3
        rw [hlD, upTo_map] at hys
        walk_at "r"
        refine ⟨_, _, rfl, .inl ⟨.of hB, fun l nl => ?_⟩⟩
        have sl := same_upd (o := .tup ys) nl
        exact q _ _ ((s2.trans s3).trans sl) ⟨l, ys, rfl, upd_same, Paired.mapP hys fun _ _ h => h.same sl⟩
end
end My
namespace My
open PySem PySem.Spec PyProof.Rows L2
variable {K : PySem.W.Frag}
def Stl.other (s : Stl) (w : Nat) : Nat := if w = s.u then s.v else s.u
theorem ints_of {ys : List V} {bs : List Nat} (h : Paired (fun (v : V) (b : Nat) => v = .int (b : Nat)) ys bs) : ys = (bs.map fun b : Nat => (b : Int)).map V.int := by
  induction h with
  | nil => rfl
  | cons h t ih => rw [h, ih]; rfl
section
variable {P : Program} {w : World} {K : PySem.W.Frag} {mg : Str → Option Value} {base : Heap} {f_is_integer f_is_row f_is_fraction f_is_some f_added f_multiplied f_squared f_summed f_is_stall f_is_ware f_check_ware f_across f_hold_of f_stalls_of f_kept_of f_held f_roots f_neighbours f_l_deck f_l_pick f_l_divisor f_l_made f_l_amount f_l_great f_l_great_stall f_l_stall f_l_stalls f_l_added f_l_held f_l_roots f_l_are_fractions f_l_is_refused f_l_is_well f_law f_Web_init f_Web_eq c_BadWare c_Web c_ZERO : Addr} {d_is_integer d_is_row d_is_fraction d_is_some d_added d_multiplied d_squared d_summed d_is_stall d_is_ware d_check_ware d_across d_hold_of d_stalls_of d_kept_of d_held d_roots d_neighbours d_l_deck d_l_pick d_l_divisor d_l_made d_l_amount d_l_great d_l_great_stall d_l_stall d_l_stalls d_l_added d_l_held d_l_roots d_l_are_fractions d_l_is_refused d_l_is_well d_law d_Web_init d_Web_eq : FuncData}
def sp_isiJ7 (K : PySem.W.Frag) : Sp := fun vs H Q _ => ∃ v b, vs = [v] ∧ ((∃ i : Int, v = .int i) ∧ b = true ∨ (∃ D, Od K D H v) ∧ b = false) ∧ Q (.bl b) H
theorem ok_is_integer7 (T : Txt K mg f_is_integer f_is_row f_is_fraction f_is_some f_added f_multiplied f_squared f_summed f_is_stall f_is_ware f_check_ware f_across f_hold_of f_stalls_of f_kept_of f_held f_roots f_neighbours f_l_deck f_l_pick f_l_divisor f_l_made f_l_amount f_l_great f_l_great_stall f_l_stall f_l_stalls f_l_added f_l_held f_l_roots f_l_are_fractions f_l_is_refused f_l_is_well f_law f_Web_init f_Web_eq c_BadWare c_Web c_ZERO d_is_integer d_is_row d_is_fraction d_is_some d_added d_multiplied d_squared d_summed d_is_stall d_is_ware d_check_ware d_across d_hold_of d_stalls_of d_kept_of d_held d_roots d_neighbours d_l_deck d_l_pick d_l_divisor d_l_made d_l_amount d_l_great d_l_great_stall d_l_stall d_l_stalls d_l_added d_l_held d_l_roots d_l_are_fractions d_l_is_refused d_l_is_well d_law d_Web_init d_Web_eq) : FnOk P w K mg base CX0 1 f_is_integer d_is_integer ["thing"] (sp_isiJ7 K) := by
  refine T.F_is_integer.ok sc_is_integer (fun vs H Q E h => ?_) (fun cdv A outer s H vs Q E hr h => ?_)
  · obtain ⟨v, b, rfl, _⟩ := h
    rfl
  · obtain ⟨v, b, rfl, h, q⟩ := h
    refine ⟨_, (pss_one (ps_ret (pe_and (pe_callB call_isi (by rfl) T.z_isinstance (by decide +kernel) (pa_cons (pv 0) (pa_cons (pe_bltn (v := .ty "int") (u := .type "int") (by rfl) T.z_int (by decide +kernel) rfl) pa_nil))) (pe_one (pe_not (pe_callB call_isi (by rfl) T.z_isinstance (by decide +kernel) (pa_cons (pv 0) (pa_cons (pe_bltn (v := .ty "bool") (u := .type "bool") (by rfl) T.z_bool (by decide +kernel) rfl) pa_nil)))))))), ?_⟩
    rcases h with ⟨⟨i, rfl⟩, rfl⟩ | ⟨⟨D, o⟩, rfl⟩
    · walk_at "r"
      exact q
    · obtain ⟨b1, b2, b3, hb, h1, h2, -⟩ := o.isi
      walk_at "r"
      refine h1 _ ?_
      cases b1 with
      | false =>
        walk_at "r"
        exact q
      | true =>
        have e : b2 = true := by
          cases b2
          · cases hb
          · rfl
        subst e
        walk_at "r"
        refine h2 _ ?_
        walk_at "r"
        exact q
def sp_across (K : PySem.W.Frag) : Sp := fun vs H Q _ => ∃ (v : V) (s : Stl) (wn : Nat), vs = [v, .int (wn : Nat)] ∧ IsSt K H v s ∧ Q (.int (s.other wn : Nat)) H
theorem ok_across (T : Txt K mg f_is_integer f_is_row f_is_fraction f_is_some f_added f_multiplied f_squared f_summed f_is_stall f_is_ware f_check_ware f_across f_hold_of f_stalls_of f_kept_of f_held f_roots f_neighbours f_l_deck f_l_pick f_l_divisor f_l_made f_l_amount f_l_great f_l_great_stall f_l_stall f_l_stalls f_l_added f_l_held f_l_roots f_l_are_fractions f_l_is_refused f_l_is_well f_law f_Web_init f_Web_eq c_BadWare c_Web c_ZERO d_is_integer d_is_row d_is_fraction d_is_some d_added d_multiplied d_squared d_summed d_is_stall d_is_ware d_check_ware d_across d_hold_of d_stalls_of d_kept_of d_held d_roots d_neighbours d_l_deck d_l_pick d_l_divisor d_l_made d_l_amount d_l_great d_l_great_stall d_l_stall d_l_stalls d_l_added d_l_held d_l_roots d_l_are_fractions d_l_is_refused d_l_is_well d_law d_Web_init d_Web_eq) : FnOk P w K mg base CX0 1 f_across d_across ["stall", "ware"] (sp_across K) := by
  refine T.F_across.ok sc_across (fun vs H Q E h => ?_) (fun cdv A outer s H vs Q E hr h => ?_)
  · obtain ⟨v, s, wn, rfl, _⟩ := h
    rfl
  · obtain ⟨v, s, wn, rfl, ⟨p, va, vb, vr, rfl, hp, ha, hb, hr'⟩, q⟩ := h
    refine ⟨_, (pss_cons (ps_if (pt_cmpR op_eq (pv 1) (pe_ix ix_tup (pv 0) pe_int (fun _ _ => rfl)) (nomark _))
        (pss_one (ps_ret (pe_ix ix_tup (pv 0) pe_int (fun _ _ => rfl))))
        pss_nil)
      (pss_one (ps_ret (pe_ix ix_tup (pv 0) pe_int (fun _ _ => rfl))))), ?_⟩
    walk_at "r"
    walk_at "if"
    · rename_i e
      rw [show s.other wn = s.v from if_pos (by omega)] at q
      walk_at "r"
      exact q
    · rename_i e
      rw [show s.other wn = s.u from if_neg (by omega)] at q
      walk_at "r"
      exact q
/-- whether a thing is a ware of so many -/
def Wr (K : PySem.W.Frag) (H : Hp) (n : Nat) (v : V) (b : Bool) : Prop := (∃ i : Int, v = .int i ∧ b = decide (0 ≤ i ∧ i < n)) ∨ ((∃ D, Od K D H v) ∧ b = false)
def sp_is_ware (K : PySem.W.Frag) (C : Addr) : Sp := fun vs H Q _ => ∃ (x v : V) (n : Nat) (ss : List Stl) (b : Bool), vs = [x, v] ∧ IsWeb K C H x n ss ∧ Wr K H n v b ∧ Q (.bl b) H
theorem ok_is_ware (T : Txt K mg f_is_integer f_is_row f_is_fraction f_is_some f_added f_multiplied f_squared f_summed f_is_stall f_is_ware f_check_ware f_across f_hold_of f_stalls_of f_kept_of f_held f_roots f_neighbours f_l_deck f_l_pick f_l_divisor f_l_made f_l_amount f_l_great f_l_great_stall f_l_stall f_l_stalls f_l_added f_l_held f_l_roots f_l_are_fractions f_l_is_refused f_l_is_well f_law f_Web_init f_Web_eq c_BadWare c_Web c_ZERO d_is_integer d_is_row d_is_fraction d_is_some d_added d_multiplied d_squared d_summed d_is_stall d_is_ware d_check_ware d_across d_hold_of d_stalls_of d_kept_of d_held d_roots d_neighbours d_l_deck d_l_pick d_l_divisor d_l_made d_l_amount d_l_great d_l_great_stall d_l_stall d_l_stalls d_l_added d_l_held d_l_roots d_l_are_fractions d_l_is_refused d_l_is_well d_law d_Web_init d_Web_eq) : FnOk P w K mg base CX0 2 f_is_ware d_is_ware ["web", "thing"] (sp_is_ware K c_Web) := by
  have G_is_integer : FnOk P w K mg base CX0 1 f_is_integer d_is_integer ["thing"] (sp_isiJ7 K) := ok_is_integer7 T
  refine T.F_is_ware.ok sc_is_ware (fun vs H Q E h => ?_) (fun cdv A outer s H vs Q E hr h => ?_)
  · obtain ⟨x, v, n, ss, b, rfl, _⟩ := h
    rfl
  · obtain ⟨x, v, n, ss, b, rfl, ⟨px, dx, t, xs, rfl, hp, ht, hss⟩, hv, q⟩ := h
    refine ⟨_, (pss_one (ps_ret (pe_and (pe_call G_is_integer (hr.mono (by decide)) (by rfl) T.g_is_integer T.k_is_integer T.b_is_integer .nil pass0 (pa_cons (pv 1) pa_nil)) (pe_one (pe_chain op_le op_lt pe_int (pv 1) (pe_fld (pv 0) rfl)))))), ?_⟩
    rcases hv with ⟨i, rfl, rfl⟩ | ⟨o, rfl⟩
    · walk_at "r"
      refine ⟨_, _, rfl, .inl ⟨⟨_, rfl⟩, rfl⟩, ?_⟩
      walk_at "r"
      by_cases c : 0 ≤ i
      · walk_at "r"
        refine ⟨_, _, _, _, _, rfl, hp, T.w_Web.it.cl, T.n_Web_wares, wF_wares _ _, ?_⟩
        walk_at "r"
        rw [show decide (i < (n : Int)) = decide (0 ≤ i ∧ i < (n : Int)) by simp [c]]
        exact q
      · walk_at "r"
        rw [show decide (0 ≤ i ∧ i < (n : Int)) = false by simp [c]] at q
        exact q
    · walk_at "r"
      refine ⟨_, _, rfl, .inr ⟨o, rfl⟩, ?_⟩
      walk_at "r"
      exact q
def sp_check_ware (K : PySem.W.Frag) (C : Addr) : Sp := fun vs H Q _ => ∃ (x : V) (n : Nat) (ss : List Stl) (wn : Nat), vs = [x, .int (wn : Nat)] ∧ IsWeb K C H x n ss ∧ wn < n ∧ Q .non H
theorem ok_check_ware (T : Txt K mg f_is_integer f_is_row f_is_fraction f_is_some f_added f_multiplied f_squared f_summed f_is_stall f_is_ware f_check_ware f_across f_hold_of f_stalls_of f_kept_of f_held f_roots f_neighbours f_l_deck f_l_pick f_l_divisor f_l_made f_l_amount f_l_great f_l_great_stall f_l_stall f_l_stalls f_l_added f_l_held f_l_roots f_l_are_fractions f_l_is_refused f_l_is_well f_law f_Web_init f_Web_eq c_BadWare c_Web c_ZERO d_is_integer d_is_row d_is_fraction d_is_some d_added d_multiplied d_squared d_summed d_is_stall d_is_ware d_check_ware d_across d_hold_of d_stalls_of d_kept_of d_held d_roots d_neighbours d_l_deck d_l_pick d_l_divisor d_l_made d_l_amount d_l_great d_l_great_stall d_l_stall d_l_stalls d_l_added d_l_held d_l_roots d_l_are_fractions d_l_is_refused d_l_is_well d_law d_Web_init d_Web_eq) : FnOk P w K mg base CX0 3 f_check_ware d_check_ware ["web", "ware"] (sp_check_ware K c_Web) := by
  have G_is_ware : FnOk P w K mg base CX0 2 f_is_ware d_is_ware ["web", "thing"] (sp_is_ware K c_Web) := ok_is_ware T
  refine T.F_check_ware.ok sc_check_ware (fun vs H Q E h => ?_) (fun cdv A outer s H vs Q E hr h => ?_)
  · obtain ⟨x, n, ss, wn, rfl, _⟩ := h
    rfl
  · obtain ⟨x, n, ss, wn, rfl, hw, hn, q⟩ := h
    refine ⟨_, (pss_one (ps_if (pt_not (pt_val (pe_call G_is_ware (hr.mono (by decide)) (by rfl) T.g_is_ware T.k_is_ware T.b_is_ware .nil pass0 (pa_cons (pv 0) (pa_cons (pv 1) pa_nil)))))
        (pss_one ps_never)
        pss_nil)), ?_⟩
    walk_at "r"
    refine ⟨x, _, n, ss, true, rfl, hw, .inl ⟨_, rfl, by simp [hn]⟩, ?_⟩
    walk_at "r"
    exact q
def sp_check_wareB (K : PySem.W.Frag) (C CB : Addr) : Sp := fun vs H _ E => ∃ (x v : V) (n : Nat) (ss : List Stl), vs = [x, v] ∧ IsWeb K C H x n ss ∧ Wr K H n v false ∧ E (.ref CB) none H
theorem ok_check_wareB (T : Txt K mg f_is_integer f_is_row f_is_fraction f_is_some f_added f_multiplied f_squared f_summed f_is_stall f_is_ware f_check_ware f_across f_hold_of f_stalls_of f_kept_of f_held f_roots f_neighbours f_l_deck f_l_pick f_l_divisor f_l_made f_l_amount f_l_great f_l_great_stall f_l_stall f_l_stalls f_l_added f_l_held f_l_roots f_l_are_fractions f_l_is_refused f_l_is_well f_law f_Web_init f_Web_eq c_BadWare c_Web c_ZERO d_is_integer d_is_row d_is_fraction d_is_some d_added d_multiplied d_squared d_summed d_is_stall d_is_ware d_check_ware d_across d_hold_of d_stalls_of d_kept_of d_held d_roots d_neighbours d_l_deck d_l_pick d_l_divisor d_l_made d_l_amount d_l_great d_l_great_stall d_l_stall d_l_stalls d_l_added d_l_held d_l_roots d_l_are_fractions d_l_is_refused d_l_is_well d_law d_Web_init d_Web_eq) : FnOk P w K mg base (L2.CX P w) 3 f_check_ware d_check_ware ["web", "ware"] (sp_check_wareB K c_Web c_BadWare) := by
  have G_is_ware : FnOk P w K mg base CX0 2 f_is_ware d_is_ware ["web", "thing"] (sp_is_ware K c_Web) := ok_is_ware T
  refine T.F_check_ware.okX sc_check_ware (fun vs H Q E h => ?_) (fun cdv A outer s H vs Q E hr h => ?_)
  · obtain ⟨x, v, n, ss, rfl, _⟩ := h
    rfl
  · obtain ⟨x, v, n, ss, rfl, hw, hv, e⟩ := h
    refine ⟨_, (pss_one (ps_if (pt_not (pt_val (pe_call G_is_ware (hr.mono (by decide)) (by rfl) T.g_is_ware T.k_is_ware T.b_is_ware .nil pass0 (pa_cons (pv 0) (pa_cons (pv 1) pa_nil)))))
        (pss_one (ps_raise0 rfl T.c_BadWare (takes_of rfl rfl rfl rfl)))
        pss_nil)), ?_⟩
    walk_at "r"
    refine ⟨x, v, n, ss, false, rfl, hw, hv, ?_⟩
    walk_at "r"
    exact e
/-- the wares to which a stall leads from a ware -/
def Nbr (ss : List Stl) (wn : Nat) (ns : List Int) : Prop := ns.Pairwise (· < ·) ∧ ∀ k : Int, k ∈ ns ↔ ∃ s ∈ ss, s.at wn = true ∧ k = (s.other wn : Nat)
def sp_neighbours (K : PySem.W.Frag) (C : Addr) : Sp := fun vs H Q _ => ∃ (x : V) (n : Nat) (ss : List Stl) (wn : Nat), vs = [x, .int (wn : Nat)] ∧ IsWeb K C H x n ss ∧ wn < n ∧ ss.length ≤ 16 ∧
  ∀ H' t ns, Same H H' → H' t = some (.tup (ns.map V.int)) → Nbr ss wn ns → Q (.ref t) H'
theorem ok_neighbours (T : Txt K mg f_is_integer f_is_row f_is_fraction f_is_some f_added f_multiplied f_squared f_summed f_is_stall f_is_ware f_check_ware f_across f_hold_of f_stalls_of f_kept_of f_held f_roots f_neighbours f_l_deck f_l_pick f_l_divisor f_l_made f_l_amount f_l_great f_l_great_stall f_l_stall f_l_stalls f_l_added f_l_held f_l_roots f_l_are_fractions f_l_is_refused f_l_is_well f_law f_Web_init f_Web_eq c_BadWare c_Web c_ZERO d_is_integer d_is_row d_is_fraction d_is_some d_added d_multiplied d_squared d_summed d_is_stall d_is_ware d_check_ware d_across d_hold_of d_stalls_of d_kept_of d_held d_roots d_neighbours d_l_deck d_l_pick d_l_divisor d_l_made d_l_amount d_l_great d_l_great_stall d_l_stall d_l_stalls d_l_added d_l_held d_l_roots d_l_are_fractions d_l_is_refused d_l_is_well d_law d_Web_init d_Web_eq) : FnOk P w K mg base CX0 4 f_neighbours d_neighbours ["web", "ware"] (sp_neighbours K c_Web) := by
  have G_check_ware : FnOk P w K mg base CX0 3 f_check_ware d_check_ware ["web", "ware"] (sp_check_ware K c_Web) := ok_check_ware T
  have G_across : FnOk P w K mg base CX0 1 f_across d_across ["stall", "ware"] (sp_across K) := ok_across T
  have G_stalls_of : FnOk P w K mg base CX0 1 f_stalls_of d_stalls_of ["ware", "stalls"] (sp_stalls_of K) := ok_stalls_of T
  refine T.F_neighbours.ok sc_neighbours (fun vs H Q E h => ?_) (fun cdv A outer s H vs Q E hr h => ?_)
  · obtain ⟨x, n, ss, wn, rfl, _⟩ := h
    rfl
  · obtain ⟨x, n, ss, wn, rfl, hw, hn, l16, q⟩ := h
    obtain ⟨px, dx, t, xs, rfl, hp, ht, hss⟩ := id hw
    refine ⟨_, (pss_cons (ps_expr (pe_call G_check_ware (hr.mono (by decide)) (by rfl) T.g_check_ware T.k_check_ware T.b_check_ware .nil pass0 (pa_cons (pv 0) (pa_cons (pv 1) pa_nil))))
      (pss_one (ps_ret (pe_callTy call_tuple_of (by rfl) T.z_tuple (by decide +kernel) (pa_cons (pe_callB (cr_sortedSet rfl) (by rfl) T.z_sorted (by decide +kernel) (pa_cons (pe_callTy (My.cr_setOfI rfl) (by rfl) T.z_set (by decide +kernel) (pa_cons (pe_lc (own := [("stall", 2)]) (g := gName 2) rfl sc_neighbours.nd (pi_list (pe_call G_stalls_of (hr.mono (by decide)) (by rfl) T.g_stalls_of T.k_stalls_of T.b_stalls_of .nil pass0 (pa_cons (pv 1) (pa_cons (pe_fld (pv 0) rfl) pa_nil)))) (blkOk_by (own := [("stall", 2)]) (N := N_neighbours) (sc := defScope s_neighbours) (by decide +kernel)) (fun _ _ _ _ _ => (pg_name (i := 2) sc_neighbours.nd rfl (by first | exact Or.inl rfl | exact Or.inr rfl))) (fun _ _ _ _ _ => pts_nil) (fun _ _ _ _ _ => (pe_call G_across (hr.mono (by decide)) (by rfl) T.g_across T.k_across T.b_across .nil pass0 (pa_cons (pv 2) (pa_cons (pv 1) pa_nil))))) pa_nil)) pa_nil)) pa_nil))))), ?_⟩
    walk_at "r"
    refine ⟨_, n, ss, wn, rfl, hw, hn, ?_⟩
    walk_at "r"
    refine ⟨_, _, _, _, _, rfl, hp, T.w_Web.it.cl, T.n_Web_stalls, wF_stalls _ _, ?_⟩
    walk_at "r"
    refine ⟨t, xs, ss, wn, rfl, ht, hss, l16, fun H1 L ys s1 hL hys => ?_⟩
    have hly := hys.len
    have hla : (at_ ss wn).length ≤ 16 := Nat.le_trans (List.length_filter_le _ _) l16
    walk_at "r"
    refine ⟨⟨_, .of hL⟩, fun B nB => ?_⟩
    refine lc_listP (R := fun H v (b : Nat) => v = .int (b : Nat)) (fun _ _ _ _ _ h => h) (f := fun i => ((at_ ss wn)[i]?).map (·.other wn)) nB (by omega) (.of hL) (fun i x hx H' Q' N' s2 hy _ => ?_) fun H2 hl2 => ?_
    · obtain ⟨st, hs, hst⟩ := hys.at hx
      walk_at "r"
      refine ⟨rfl, ?_⟩
      walk_at "r"
      exact ⟨_, st, wn, rfl, hst.same s2, hy (st.other wn) _ _ (by simp [hs]) (Same.refl _) rfl⟩
    · obtain ⟨s2, zs, hB, hzs⟩ := hl2
      rw [hly, upTo_list] at hzs
      have e := ints_of hzs
      subst e
      walk_at "r"
      refine ⟨B, _, rfl, .of hB, by simp; omega, fun p3 c3 n3 l3 => ?_⟩
      have s3 := same_upd (o := SetO w p3 (fun j => decide (j ∈ ((at_ ss wn).map (·.other wn)).map fun b : Nat => (b : Int))) c3) n3
      simp at l3
      walk_at "r"
      refine ⟨p3, _, c3, rfl, upd_same, by omega, fun ns p4 pw mem len n4 => ?_⟩
      have s4 := same_upd (o := .lst (ns.map V.int)) n4
      walk_at "r"
      refine ⟨p4, _, rfl, .inl ⟨.of upd_same, fun l nl => ?_⟩⟩
      have s5 := same_upd (o := .tup (ns.map V.int)) nl
      refine q _ l ns ((((s1.trans s2).trans s3).trans s4).trans s5) upd_same ⟨pw, fun k => ?_⟩
      rw [mem k, decide_eq_true_eq, List.mem_map]
      constructor
      · rintro ⟨b, hb, rfl⟩
        obtain ⟨st, hst, rfl⟩ := List.mem_map.mp hb
        unfold at_ at hst
        rw [List.mem_filter] at hst
        exact ⟨st, hst.1, hst.2, rfl⟩
      · rintro ⟨st, h1, h2, rfl⟩
        exact ⟨_, List.mem_map.mpr ⟨st, List.mem_filter.mpr ⟨h1, h2⟩, rfl⟩, rfl⟩
theorem ok_neighboursB (T : Txt K mg f_is_integer f_is_row f_is_fraction f_is_some f_added f_multiplied f_squared f_summed f_is_stall f_is_ware f_check_ware f_across f_hold_of f_stalls_of f_kept_of f_held f_roots f_neighbours f_l_deck f_l_pick f_l_divisor f_l_made f_l_amount f_l_great f_l_great_stall f_l_stall f_l_stalls f_l_added f_l_held f_l_roots f_l_are_fractions f_l_is_refused f_l_is_well f_law f_Web_init f_Web_eq c_BadWare c_Web c_ZERO d_is_integer d_is_row d_is_fraction d_is_some d_added d_multiplied d_squared d_summed d_is_stall d_is_ware d_check_ware d_across d_hold_of d_stalls_of d_kept_of d_held d_roots d_neighbours d_l_deck d_l_pick d_l_divisor d_l_made d_l_amount d_l_great d_l_great_stall d_l_stall d_l_stalls d_l_added d_l_held d_l_roots d_l_are_fractions d_l_is_refused d_l_is_well d_law d_Web_init d_Web_eq) : FnOk P w K mg base (L2.CX P w) 4 f_neighbours d_neighbours ["web", "ware"] (sp_check_wareB K c_Web c_BadWare) := by
  have G_check_ware : FnOk P w K mg base (L2.CX P w) 3 f_check_ware d_check_ware ["web", "ware"] (sp_check_wareB K c_Web c_BadWare) := ok_check_wareB T
  have G_across : FnOk P w K mg base CX0 1 f_across d_across ["stall", "ware"] (sp_across K) := ok_across T
  have G_stalls_of : FnOk P w K mg base CX0 1 f_stalls_of d_stalls_of ["ware", "stalls"] (sp_stalls_of K) := ok_stalls_of T
  refine T.F_neighbours.okX sc_neighbours (fun vs H Q E h => ?_) (fun cdv A outer s H vs Q E hr h => ?_)
  · obtain ⟨x, v, n, ss, rfl, _⟩ := h
    rfl
  · obtain ⟨x, v, n, ss, rfl, hw, hv, e⟩ := h
    refine ⟨_, (pss_cons (ps_expr (pe_callS G_check_ware (hr.mono (by decide)) (by rfl) T.g_check_ware T.k_check_ware T.b_check_ware (fun σ => passAt (takes_of rfl rfl rfl rfl) σ) (pa_cons (pv 0) (pa_cons (pv 1) pa_nil))))
      (pss_one (ps_ret (pe_callTy call_tuple_of (by rfl) T.z_tuple (by decide +kernel) (pa_cons (pe_callB (cr_sortedSet rfl) (by rfl) T.z_sorted (by decide +kernel) (pa_cons (pe_callTy (My.cr_setOfI rfl) (by rfl) T.z_set (by decide +kernel) (pa_cons (pe_lc (own := [("stall", 2)]) (g := gName 2) rfl sc_neighbours.nd (pi_list (pe_call G_stalls_of (hr.mono (by decide)) (by rfl) T.g_stalls_of T.k_stalls_of T.b_stalls_of .nil pass0 (pa_cons (pv 1) (pa_cons (pe_fld (pv 0) rfl) pa_nil)))) (blkOk_by (own := [("stall", 2)]) (N := N_neighbours) (sc := defScope s_neighbours) (by decide +kernel)) (fun _ _ _ _ _ => (pg_name (i := 2) sc_neighbours.nd rfl (by first | exact Or.inl rfl | exact Or.inr rfl))) (fun _ _ _ _ _ => pts_nil) (fun _ _ _ _ _ => (pe_call G_across (hr.mono (by decide)) (by rfl) T.g_across T.k_across T.b_across .nil pass0 (pa_cons (pv 2) (pa_cons (pv 1) pa_nil))))) pa_nil)) pa_nil)) pa_nil))))), ?_⟩
    walk_at "r"
    exact ⟨x, v, n, ss, rfl, hw, hv, e⟩
end
end My
namespace My
open PySem PySem.Spec PyProof.Rows L2
variable {K : PySem.W.Frag}
theorem ten6e : (10 : Int) ^ (6 : Int).toNat = 1000000 := by decide
theorem rat_pos {r : Rat} (h : 0 < r.num) : 0 < r := by
  rw [Rat.lt_iff]
  simpa using h
theorem divInt_pos {t b : Int} (ht : 0 < t) (hb : 0 < b) : 0 < Rat.divInt t b := by
  have h := (rat_cross (n := t) (d := b) (r := Rat.divInt t b) (by omega)).mp rfl
  have hd := den_pos (Rat.divInt t b)
  have h2 : 0 < t * ((Rat.divInt t b).den : Int) := Int.mul_pos ht hd
  rw [h] at h2
  refine rat_pos ?_
  exact Int.pos_of_mul_pos_left h2 hb
theorem divInt_mul' (r t : Rat) : Rat.divInt (r.num * t.num) ((r.den : Int) * t.den) = r * t := by
  rw [← Rat.divInt_mul_divInt, Rat.num_divInt_den, Rat.num_divInt_den]
theorem mul_lt' {a b : Int} {k l : Nat} (h1 : a.natAbs < 2 ^ k) (h2 : b.natAbs < 2 ^ l) : (a * b).natAbs < 2 ^ (k + l) := by
  rw [Int.natAbs_mul]
  exact nat_mul_lt h1 h2
theorem back_root (r f : Rat) (hf : 0 < f) : r * f * Rat.divInt (r.num * f.den) (r.den * f.num) = r * r := by
  have h0 : f.num * f.den ≠ 0 := Int.ne_of_gt (Int.mul_pos (num_pos' hf) (den_pos f))
  rw [← divInt_mul' r f, ← divInt_mul' r r, Rat.divInt_mul_divInt]
  rw [show r.num * f.num * (r.num * f.den) = r.num * r.num * (f.num * f.den) by grind, show (r.den : Int) * f.den * (r.den * f.num) = (r.den : Int) * r.den * (f.num * f.den) by grind]
  exact Rat.divInt_mul_right h0
theorem add_divInt (r t : Rat) : Rat.divInt (r.num * t.den + t.num * r.den) ((r.den : Int) * t.den) = r + t := by
  have h1 := den_pos r
  have h2 := den_pos t
  rw [← Rat.divInt_add_divInt r.num t.num (by omega) (by omega), Rat.num_divInt_den, Rat.num_divInt_den]
theorem sub_divInt (r t : Rat) : Rat.divInt (r.num * t.den - t.num * r.den) ((r.den : Int) * t.den) = r - t := by
  have h1 := den_pos r
  have h2 := den_pos t
  rw [Rat.sub_eq_add_neg, ← add_divInt r (-t)]
  show _ = Rat.divInt (r.num * t.den + -t.num * r.den) _
  rw [Int.neg_mul, ← Int.sub_eq_add_neg]
  rfl
end My
namespace My
open PySem PySem.Spec PyProof.Rows L2
variable {K : PySem.W.Frag}
section
variable {P : Program} {w : World} {K : PySem.W.Frag} {mg : Str → Option Value} {base : Heap} {f_is_integer f_is_row f_is_fraction f_is_some f_added f_multiplied f_squared f_summed f_is_stall f_is_ware f_check_ware f_across f_hold_of f_stalls_of f_kept_of f_held f_roots f_neighbours f_l_deck f_l_pick f_l_divisor f_l_made f_l_amount f_l_great f_l_great_stall f_l_stall f_l_stalls f_l_added f_l_held f_l_roots f_l_are_fractions f_l_is_refused f_l_is_well f_law f_Web_init f_Web_eq c_BadWare c_Web c_ZERO : Addr} {d_is_integer d_is_row d_is_fraction d_is_some d_added d_multiplied d_squared d_summed d_is_stall d_is_ware d_check_ware d_across d_hold_of d_stalls_of d_kept_of d_held d_roots d_neighbours d_l_deck d_l_pick d_l_divisor d_l_made d_l_amount d_l_great d_l_great_stall d_l_stall d_l_stalls d_l_added d_l_held d_l_roots d_l_are_fractions d_l_is_refused d_l_is_well d_law d_Web_init d_Web_eq : FuncData}
def sp_made (K : PySem.W.Frag) : Sp := fun vs H Q _ => ∃ n d : Int, vs = [.int n, .int d] ∧ 0 < d ∧ d.natAbs < 2 ^ 8000 ∧ ∀ H' v, Same H H' → IsF K H' v (Rat.divInt n d) → Q v H'
theorem ok_l_made (T : Txt K mg f_is_integer f_is_row f_is_fraction f_is_some f_added f_multiplied f_squared f_summed f_is_stall f_is_ware f_check_ware f_across f_hold_of f_stalls_of f_kept_of f_held f_roots f_neighbours f_l_deck f_l_pick f_l_divisor f_l_made f_l_amount f_l_great f_l_great_stall f_l_stall f_l_stalls f_l_added f_l_held f_l_roots f_l_are_fractions f_l_is_refused f_l_is_well f_law f_Web_init f_Web_eq c_BadWare c_Web c_ZERO d_is_integer d_is_row d_is_fraction d_is_some d_added d_multiplied d_squared d_summed d_is_stall d_is_ware d_check_ware d_across d_hold_of d_stalls_of d_kept_of d_held d_roots d_neighbours d_l_deck d_l_pick d_l_divisor d_l_made d_l_amount d_l_great d_l_great_stall d_l_stall d_l_stalls d_l_added d_l_held d_l_roots d_l_are_fractions d_l_is_refused d_l_is_well d_law d_Web_init d_Web_eq) : FnOk P w K mg base CX0 2 f_l_made d_l_made ["_law_top", "_law_bottom"] (sp_made K) := by
  have G_l_divisor : FnOk P w K mg base CX0 1 f_l_divisor d_l_divisor ["_law_one", "_law_other"] sp_divisor := ok_l_divisor T
  refine T.F_l_made.ok sc_l_made (fun vs H Q E h => ?_) (fun cdv A outer s H vs Q E hr h => ?_)
  · obtain ⟨n, d, rfl, _⟩ := h
    rfl
  · obtain ⟨n, d, rfl, hd, hb, q⟩ := h
    refine ⟨_, (pss_cons (ps_set (i := 2) sc_l_made.nd rfl (by first | exact Or.inl rfl | exact Or.inr rfl) (pe_call G_l_divisor (hr.mono (by decide)) (by rfl) T.g_l_divisor T.k_l_divisor T.b_l_divisor .nil pass0 (pa_cons (pv 0) (pa_cons (pv 1) pa_nil))))
      (pss_one (ps_ret (pe_tup (pa_cons (pe_op op_fdivX (pv 0) (pv 2)) (pa_cons (pe_op op_fdivX (pv 1) (pv 2)) pa_nil)))))), ?_⟩
    walk_at "r"
    refine ⟨_, _, rfl, Nat.lt_of_lt_of_le hb (pow_le (by decide)), ?_⟩
    obtain ⟨m1, m2, m3⟩ := low_math (n := n) hd hb _ rfl
    walk_at "r"
    · intro p np
      exact q _ _ (same_upd np) (isF_new m2 m3)
    all_goals exact m1 _
theorem p20k {n : Nat} (h : n < 2 ^ 1900) : n < 2 ^ 20000 := Nat.lt_of_lt_of_le h (pow_le (by decide))
def sp_two9 (K : PySem.W.Frag) (f : Rat → Rat → Rat) : Sp := fun vs H Q _ => ∃ x y r s, vs = [x, y] ∧ IsF K H x r ∧ IsF K H y s ∧ Bd 1900 r ∧ Bd 1900 s ∧ ∀ H' v, Same H H' → IsF K H' v (f r s) → Q v H'
end
end My
namespace My
open PySem PySem.Spec PyProof.Rows L2
variable {K : PySem.W.Frag}
theorem eq_div_of {h x k : Rat} (hz : h ≠ 0) (e : h * x = k) : x = k / h := by
  rw [← e, Rat.div_def, Rat.mul_comm h x, Rat.mul_assoc, Rat.mul_inv_cancel h hz, Rat.mul_one]
theorem rest_is (r h : Rat) (h0 : 0 < h) : Rat.divInt (r.num * r.num * h.den) ((r.den : Int) * r.den * h.num) = r * r / h := by
  refine eq_div_of (ne_of_pos h0) ?_
  have hn : h.num * h.den ≠ 0 := Int.ne_of_gt (Int.mul_pos (num_pos' h0) (den_pos h))
  have e : h * Rat.divInt (r.num * r.num * h.den) ((r.den : Int) * r.den * h.num) = Rat.divInt h.num h.den * Rat.divInt (r.num * r.num * h.den) ((r.den : Int) * r.den * h.num) := by rw [Rat.num_divInt_den]
  rw [e, Rat.divInt_mul_divInt, ← divInt_mul' r r]
  rw [show h.num * (r.num * r.num * h.den) = r.num * r.num * (h.num * h.den) by grind, show (h.den : Int) * ((r.den : Int) * r.den * h.num) = (r.den : Int) * r.den * (h.num * h.den) by grind]
  exact Rat.divInt_mul_right hn
theorem isi_web {K : PySem.W.Frag} {H : Hp} {Q : VK} {p C dx : Addr} {fs : List (Str × V)} (h : H p = some (.ins C dx fs)) (it : InsT K C) (q : Q (.bl true) H) : rIsi K [.ref p, .ref C] H Q :=
  ⟨_, _, _, _, _, rfl, .own _, .base (.ins h it.cl it.ha it.hn it.ht it.mo), kit_self, q⟩
theorem many_at (b : Bool) : ∃ z : Int, (z = 8 ∨ z = 16) ∧ atI [V.int 8, V.int 16] (if b = true then 1 else 0) = some (.int z) := by
  cases b
  · exact ⟨8, .inl rfl, rfl⟩
  · exact ⟨16, .inr rfl, rfl⟩
theorem sq_fw {K : PySem.W.Frag} {M c : Nat} {D C a : Addr} {H H' : Hp} {ns : List Int} (h : SqL K H a (ns.map V.int)) (d : Deck M D C H c) (f : Fw D H H') : SqL K H' a (ns.map V.int) := by
  obtain ⟨cells, pl, rest, cnt, h0, h1, h2⟩ := d
  rcases h with (h | ⟨o, h⟩) | h
  · exact .inl (.inl (f _ _ (ne_of h h1 (by
      intro z
      cases ns with
      | nil => cases z
      | cons x l => cases z)) h))
  · exact .inl (.inr ⟨o, f _ _ (ne_of h h1 (by intro z; cases z)) h⟩)
  · exact .inr h
/-- the script's list, beside a new list at S -/
def Kept (K : PySem.W.Frag) (S a : Addr) (ns : List Int) (H : Hp) : Prop := (a ≠ S ∧ SqL K H a (ns.map V.int)) ∨ SqL K (fun _ => none) a (ns.map V.int)
theorem Kept.sq {K : PySem.W.Frag} {S a : Addr} {ns : List Int} {H : Hp} (h : Kept K S a ns H) : SqL K H a (ns.map V.int) := by
  rcases h with h | h
  · exact h.2
  · exact Same.seq (fun _ _ h => by cases h) h
theorem kept_new {K : PySem.W.Frag} {S a : Addr} {ns : List Int} {H : Hp} {o : HO} (h : SqL K H a (ns.map V.int)) (n : H S = none) : Kept K S a ns (upd H S o) := by
  have h0 := (same_upd (o := o) n).seq h
  rcases h with (h | ⟨_, h⟩) | h
  · exact .inl ⟨ne_of_none h n, h0⟩
  · exact .inl ⟨ne_of_none h n, h0⟩
  · exact .inr (.inr h)
theorem Kept.fw {K : PySem.W.Frag} {M c : Nat} {D C S a : Addr} {ns : List Int} {H H' : Hp} (h : Kept K S a ns H) (d : Deck M D C H c) (f : Fw D H H') : Kept K S a ns H' :=
  h.imp (fun h => ⟨h.1, sq_fw h.2 d f⟩) id
theorem Kept.put {K : PySem.W.Frag} {S a : Addr} {ns : List Int} {H : Hp} {o : HO} (h : Kept K S a ns H) : Kept K S a ns (upd H S o) := by
  refine h.imp (fun ⟨n, h⟩ => ⟨n, ?_⟩) id
  rcases h with (h | ⟨_, h⟩) | h
  · exact .inl (.inl ((upd_ne n).trans h))
  · exact .inl (.inr ⟨_, (upd_ne n).trans h⟩)
  · exact .inr h
theorem Sts.snoc {H : Hp} {xs : List V} {ss : List Stl} {v : V} {s : Stl} (h : Sts K H xs ss) (hv : IsSt K H v s) : Sts K H (xs ++ [v]) (ss ++ [s]) := by
  unfold Sts at *
  induction h with
  | nil => exact .cons hv .nil
  | cons h t ih => exact .cons h ih
/-- tuples stand when only the deck changes -/
theorem Fw.ts {M c : Nat} {D C : Addr} {H H' : Hp} (f : Fw D H H') (d : Deck M D C H c) : Tps H H' := fun b xs h => by
  obtain ⟨cells, pl, rest, cnt, h0, h1, h2⟩ := d
  exact f _ _ (ne_of h h1 (by intro z; cases z)) h
theorem IsMv.fw {M c : Nat} {D C : Addr} {H H' : Hp} {v : V} {i wn : Nat} {y : Rat} (f : Fw D H H') (d : Deck M D C H c) (h : IsMv K H v i wn y) : IsMv K H' v i wn y := by
  obtain ⟨p, vx, e, h, a⟩ := h
  exact ⟨p, vx, e, f.ts d _ _ h, a.ts (f.ts d)⟩
theorem IsWeb.fw {M c n : Nat} {D C B : Addr} {H H' : Hp} {x : V} {ss : List Stl} (f : Fw D H H') (d : Deck M D C H c) (h : IsWeb K B H x n ss) : IsWeb K B H' x n ss := by
  obtain ⟨p, dx, t, xs, e, h1, h2, h3⟩ := h
  have d' := d
  obtain ⟨cells, pl, rest, cnt, g0, g1, g2⟩ := d'
  exact ⟨p, dx, t, xs, e, f _ _ (ne_of h1 g1 (by intro z; cases z)) h1, f.ts d _ _ h2, h3.ts (f.ts d)⟩
end My
namespace My
open PySem PySem.Spec PyProof.Rows L2
variable {K : PySem.W.Frag}
theorem bools_of {bs : List V} {l : List Bool} (h : Paired (fun (v : V) (b : Bool) => v = .bl b) bs l) : bs = l.map V.bl := by
  induction h with
  | nil => rfl
  | cons h t ih => rw [h, ih]; rfl
theorem all_true (l : List Bool) (h : ∀ b ∈ l, b = true) : l.all id = true := by
  rw [List.all_eq_true]
  exact h
/-! ### sums told otherwise -/
theorem fold_add (l : List Rat) : ∀ a : Rat, l.foldl (· + ·) a = a + l.foldl (· + ·) 0 := by
  induction l with
  | nil => exact fun a => (Rat.add_zero a).symm
  | cons x l ih =>
    intro a
    rw [List.foldl_cons, List.foldl_cons, ih (a + x), ih (0 + x)]
    grind
theorem sumR_cons (a : Rat) (l : List Rat) : sumR (a :: l) = a + sumR l := by
  unfold sumR
  rw [List.foldl_cons, fold_add]
  grind
theorem sumR_nil : sumR [] = 0 := rfl
theorem sumR_app (l m : List Rat) : sumR (l ++ m) = sumR l + sumR m := by
  induction l with
  | nil => rw [List.nil_append, sumR_nil, Rat.zero_add]
  | cons a l ih => rw [List.cons_append, sumR_cons, sumR_cons, ih]; grind
/-- what a stall adds -/
def hold1 (s : Stl) (w : Nat) : Rat := if s.at w = true then s.hold w else 0
theorem heldAt_cons (s : Stl) (ss : List Stl) (w : Nat) : heldAt (s :: ss) w = hold1 s w + heldAt ss w := by
  unfold heldAt at_ hold1
  rw [List.filter_cons]
  split
  · rename_i h
    rw [List.map_cons, sumR_cons]
  · rename_i h
    rw [Rat.zero_add]
theorem heldAt_app (ss tt : List Stl) (w : Nat) : heldAt (ss ++ tt) w = heldAt ss w + heldAt tt w := by
  unfold heldAt at_
  rw [List.filter_append, List.map_append, sumR_app]
theorem heldAt_rev (ss : List Stl) (w : Nat) : heldAt ss.reverse w = heldAt ss w := by
  induction ss with
  | nil => rfl
  | cons s ss ih =>
    rw [List.reverse_cons, heldAt_app, ih, heldAt_cons, heldAt_cons]
    have : heldAt [] w = 0 := rfl
    rw [this]
    grind
def mineA (ss : List Stl) (w : Nat) : List Rat := ss.filterMap fun s => if s.u = w then some s.a else none
def mineB (ss : List Stl) (w : Nat) : List Rat := ss.filterMap fun s => if s.v = w then some s.b else none
theorem mine_held {n : Nat} {ss : List Stl} (ok : ∀ s ∈ ss, OkSt n s) (w : Nat) : sumR (mineA ss w ++ mineB ss w) = heldAt ss w := by
  rw [sumR_app]
  induction ss with
  | nil => exact Rat.zero_add 0
  | cons s ss ih =>
    have ih := ih fun t ht => ok t (by simp [ht])
    have ne := (ok s (by simp)).ne
    rw [heldAt_cons, ← ih]
    unfold mineA mineB hold1 Stl.at Stl.hold
    rw [List.filterMap_cons, List.filterMap_cons]
    by_cases c1 : s.u = w
    · have c2 : ¬ s.v = w := fun z => ne (c1.trans z.symm)
      rw [if_pos c1, if_neg c2, sumR_cons]
      simp only [c1, decide_true, Bool.true_or, if_true]
      grind
    · rw [if_neg c1]
      by_cases c2 : s.v = w
      · rw [if_pos c2, sumR_cons]
        have c3 : ¬ w = s.u := fun z => c1 z.symm
        simp only [c2, decide_true, Bool.or_true, if_true, if_neg c3]
        grind
      · rw [if_neg c2]
        have c3 : ¬ w = s.u := fun z => c1 z.symm
        have c4 : ¬ w = s.v := fun z => c2 z.symm
        simp only [c3, c4, decide_false, Bool.or_false, Bool.false_eq_true, if_false]
        grind
/-! ### roots between two wares -/
def btwn (s : Stl) (a b : Nat) : Bool := decide ((s.u = a ∧ s.v = b) ∨ (s.u = b ∧ s.v = a))
def rl (ss : List Stl) (a b : Nat) : List Rat := ss.filterMap fun s => if btwn s a b = true then some s.r else none
theorem rl_app (ss tt : List Stl) (a b : Nat) : rl (ss ++ tt) a b = rl ss a b ++ rl tt a b := List.filterMap_append
theorem rootM_sum {n : Nat} {ss : List Stl} (ok : ∀ s ∈ ss, OkSt n s) : ∀ i, i ≤ ss.length → ∀ a b, rootM (ss.take i) a b = sumR (rl (ss.take i) a b) := by
  intro i
  induction i with
  | zero =>
    intro _ a b
    rfl
  | succ i ih =>
    intro hi a b
    obtain ⟨s, hs⟩ : ∃ s, ss[i]? = some s := ⟨_, List.getElem?_eq_getElem hi⟩
    have ih := ih (by omega)
    have ne := (ok s (List.mem_of_getElem? hs)).ne
    rw [rootM_take hs, take_at hs, rl_app, sumR_app]
    have e1 : rl [s] a b = if btwn s a b = true then [s.r] else [] := by
      unfold rl
      rw [List.filterMap_cons]
      split
      · rename_i h
        split at h
        · cases h
        · rw [if_neg ‹_›]
          rfl
      · rename_i x h
        split at h
        · cases h
          rw [if_pos ‹_›]
          rfl
        · cases h
    rw [e1]
    have sym : ∀ x y, sumR (rl (ss.take i) x y) = sumR (rl (ss.take i) y x) := fun x y => by
      have : rl (ss.take i) x y = rl (ss.take i) y x := by
        unfold rl
        congr 1
        funext t
        have : btwn t x y = btwn t y x := by
          unfold btwn
          congr 1
          exact propext ⟨fun h => h.symm.imp id id, fun h => h.symm.imp id id⟩
        rw [this]
      rw [this]
    show rootS _ (s.u, s.v, s.r) a b = _
    unfold rootS put1
    simp only []
    have h1 : sumR [s.r] = s.r := by
      rw [sumR_cons, sumR_nil, Rat.add_zero]
    by_cases c1 : a = s.v ∧ b = s.u
    · have c : btwn s a b = true := decide_eq_true (.inr ⟨c1.2.symm, c1.1.symm⟩)
      rw [if_pos c1, if_pos c, h1, ih s.u s.v, c1.1, c1.2, sym]
    · rw [if_neg c1]
      by_cases c2 : a = s.u ∧ b = s.v
      · have c : btwn s a b = true := decide_eq_true (.inl ⟨c2.1.symm, c2.2.symm⟩)
        rw [if_pos c2, if_pos c, h1, ih s.u s.v, c2.1, c2.2]
      · have c : ¬ btwn s a b = true := fun z => by
          rcases of_decide_eq_true z with z | z
          · exact c2 ⟨z.1.symm, z.2.symm⟩
          · exact c1 ⟨z.2.symm, z.1.symm⟩
        rw [if_neg c2, if_neg c, ih a b, sumR_nil, Rat.add_zero]
theorem rootM_is {n : Nat} {ss : List Stl} (ok : ∀ s ∈ ss, OkSt n s) (a b : Nat) : rootM ss a b = sumR (rl ss a b) := by
  have h := rootM_sum ok ss.length (Nat.le_refl _) a b
  rw [List.take_length] at h
  exact h
theorem rl_sym (ss : List Stl) (x y : Nat) : rl ss x y = rl ss y x := by
  unfold rl
  congr 1
  funext t
  have : btwn t x y = btwn t y x := by
    unfold btwn
    congr 1
    exact propext ⟨fun h => h.symm.imp id id, fun h => h.symm.imp id id⟩
  rw [this]
theorem sum_rev (l : List Rat) : sumR l.reverse = sumR l := by
  induction l with
  | nil => rfl
  | cons a l ih =>
    rw [List.reverse_cons, sumR_app, ih, sumR_cons, sumR_cons, sumR_nil]
    grind
theorem rl_rev (ss : List Stl) (a b : Nat) : sumR (rl ss.reverse a b) = sumR (rl ss a b) := by
  unfold rl
  rw [List.filterMap_reverse, sum_rev]
def rootsBy (n : Nat) (ss : List Stl) : List (List Rat) := (List.range n).map fun a => (List.range n).map fun b => sumR (rl ss a b)
theorem rootsBy_is {n : Nat} {ss : List Stl} (ok : ∀ s ∈ ss, OkSt n s) : rootsBy n ss = rootsAt n ss := by
  unfold rootsBy rootsAt
  refine List.map_congr_left fun a _ => List.map_congr_left fun b _ => ?_
  exact (rootM_is ok a b).symm
theorem rootsAt_rev {n : Nat} {ss : List Stl} (ok : ∀ s ∈ ss, OkSt n s) : rootsAt n ss.reverse = rootsAt n ss := by
  rw [← rootsBy_is ok, ← rootsBy_is (n := n) (ss := ss.reverse) fun s hs => ok s (List.mem_reverse.mp hs)]
  unfold rootsBy
  refine List.map_congr_left fun a _ => List.map_congr_left fun b _ => rl_rev ss a b
theorem heldAll_rev (n : Nat) (ss : List Stl) : heldAll n ss.reverse = heldAll n ss := by
  unfold heldAll
  exact List.map_congr_left fun w _ => heldAt_rev ss w
theorem sum_pos {l : List Rat} (h : ∀ r ∈ l, 0 < r) : 0 ≤ sumR l ∧ (l ≠ [] → 0 < sumR l) := by
  induction l with
  | nil => exact ⟨Rat.le_refl, fun z => absurd rfl z⟩
  | cons a l ih =>
    obtain ⟨i1, _⟩ := ih fun r hr => h r (by simp [hr])
    have p := h a (by simp)
    rw [sumR_cons]
    exact ⟨by grind, fun _ => by grind⟩
theorem rl_pos {n : Nat} {ss : List Stl} (ok : ∀ s ∈ ss, OkSt n s) (a b : Nat) : 0 < sumR (rl ss a b) ↔ ∃ s ∈ ss, btwn s a b = true := by
  have hp : ∀ r ∈ rl ss a b, 0 < r := fun r hr => by
    obtain ⟨s, hs, e⟩ := List.mem_filterMap.mp hr
    split at e
    · cases e
      exact (ok s hs).r
    · cases e
  obtain ⟨_, h2⟩ := sum_pos hp
  constructor
  · intro h
    have ne : rl ss a b ≠ [] := fun z => by
      rw [z] at h
      exact Rat.lt_irrefl h
    obtain ⟨r, hr⟩ := List.exists_mem_of_ne_nil _ ne
    obtain ⟨s, hs, e⟩ := List.mem_filterMap.mp hr
    split at e
    · exact ⟨s, hs, ‹_›⟩
    · cases e
  · rintro ⟨s, hs, c⟩
    refine h2 fun z => ?_
    have : s.r ∈ rl ss a b := List.mem_filterMap.mpr ⟨s, hs, if_pos c⟩
    rw [z] at this
    cases this
/-- ascending lists with the same members are the same -/
theorem asc_eq : ∀ {l m : List Int}, l.Pairwise (· < ·) → m.Pairwise (· < ·) → (∀ k, k ∈ l ↔ k ∈ m) → l = m
  | [], [], _, _, _ => rfl
  | [], b :: m, _, _, h => by
    have := (h b).mpr (by simp)
    cases this
  | a :: l, [], _, _, h => by
    have := (h a).mp (by simp)
    cases this
  | a :: l, b :: m, h1, h2, h => by
    rw [List.pairwise_cons] at h1 h2
    have e : a = b := by
      have x := (h a).mp (by simp)
      have y := (h b).mpr (by simp)
      rcases List.mem_cons.mp x with x | x
      · exact x
      · rcases List.mem_cons.mp y with y | y
        · exact y.symm
        · have := h1.1 b y
          have := h2.1 a x
          omega
    subst e
    rw [asc_eq h1.2 h2.2 fun k => ?_]
    constructor
    · intro hk
      have x := (h k).mp (by simp [hk])
      rcases List.mem_cons.mp x with x | x
      · have := h1.1 k hk
        omega
      · exact x
    · intro hk
      have x := (h k).mpr (by simp [hk])
      rcases List.mem_cons.mp x with x | x
      · have := h2.1 k hk
        omega
      · exact x
/-- the ascending wares with a root above 0 -/
def tied (n : Nat) (ss : List Stl) (w : Nat) : List Nat := (List.range n).filter fun b => decide (0 < sumR (rl ss w b))
theorem tied_is {n : Nat} {ss : List Stl} (ok : ∀ s ∈ ss, OkSt n s) {w : Nat} {ns : List Int} (h : Nbr ss w ns) : ns = (tied n ss w).map fun b : Nat => (b : Int) := by
  refine asc_eq h.1 ?_ fun k => ?_
  · refine List.pairwise_map.mpr ((List.Pairwise.filter _ List.pairwise_lt_range).imp fun {a b} hab => ?_)
    omega
  · rw [h.2 k, List.mem_map]
    constructor
    · rintro ⟨s, hs, ha, rfl⟩
      have o := ok s hs
      refine ⟨s.other w, ?_, rfl⟩
      unfold tied
      rw [List.mem_filter, List.mem_range, decide_eq_true_eq, rl_pos ok]
      unfold Stl.at at ha
      unfold Stl.other
      by_cases c : w = s.u
      · rw [if_pos c]
        exact ⟨o.v, s, hs, decide_eq_true (.inl ⟨c.symm, rfl⟩)⟩
      · rw [if_neg c]
        have c2 : w = s.v := by simpa [c] using ha
        exact ⟨o.u, s, hs, decide_eq_true (.inr ⟨rfl, c2.symm⟩)⟩
    · rintro ⟨b, hb, rfl⟩
      unfold tied at hb
      rw [List.mem_filter, List.mem_range, decide_eq_true_eq, rl_pos ok] at hb
      obtain ⟨_, s, hs, c⟩ := hb
      have o := ok s hs
      rcases of_decide_eq_true c with c | c
      · exact ⟨s, hs, by simp [Stl.at, c.1], by simp [Stl.other, c.1, c.2]⟩
      · have ne : ¬ w = s.u := fun z => o.ne (z.symm.trans c.2.symm)
        exact ⟨s, hs, by simp [Stl.at, c.2], by rw [Stl.other, if_neg ne, c.1]⟩
/-! ### bits -/
theorem br_two {ss : List Stl} {ks : List Nat} (h : Paired (fun s k => BdSt k s) ss ks) {n : Nat} (ok : ∀ s ∈ ss, OkSt n s) (w : Nat) : ∃ j1 j2 : List Nat, Paired (fun r k => Bd k r) (mineA ss w) j1 ∧ Paired (fun r k => Bd k r) (mineB ss w) j2 ∧ (j1.map (· + 1)).sum + (j2.map (· + 1)).sum ≤ (ks.map (· + 1)).sum := by
  induction h with
  | nil => exact ⟨[], [], .nil, .nil, by simp⟩
  | @cons s k ss ks h t ih =>
    obtain ⟨j1, j2, p1, p2, e⟩ := ih fun t ht => ok t (by simp [ht])
    have ne := (ok s (by simp)).ne
    unfold mineA mineB at *
    rw [List.filterMap_cons, List.filterMap_cons]
    by_cases c1 : s.u = w
    · have c2 : ¬ s.v = w := fun z => ne (c1.trans z.symm)
      rw [if_pos c1, if_neg c2]
      refine ⟨k :: j1, j2, .cons h.a p1, p2, ?_⟩
      rw [List.map_cons, List.map_cons, List.sum_cons, List.sum_cons]
      omega
    · rw [if_neg c1]
      by_cases c2 : s.v = w
      · rw [if_pos c2]
        refine ⟨j1, k :: j2, p1, .cons h.b p2, ?_⟩
        rw [List.map_cons, List.map_cons, List.sum_cons, List.sum_cons]
        omega
      · rw [if_neg c2]
        refine ⟨j1, j2, p1, p2, ?_⟩
        rw [List.map_cons, List.sum_cons]
        omega
theorem paired_app {α β : Type} {R : α → β → Prop} {xs us : List α} {ys vs : List β} (h : Paired R xs ys) (g : Paired R us vs) : Paired R (xs ++ us) (ys ++ vs) := by
  induction h with
  | nil => exact g
  | cons h t ih => exact .cons h ih
theorem br_mine {ss : List Stl} {M n : Nat} (h : BL ss M) (ok : ∀ s ∈ ss, OkSt n s) (w : Nat) : BR (mineA ss w ++ mineB ss w) M := by
  obtain ⟨ks, h, hm⟩ := h
  obtain ⟨j1, j2, p1, p2, e⟩ := br_two h ok w
  refine ⟨j1 ++ j2, paired_app p1 p2, ?_⟩
  rw [List.map_append, List.sum_append]
  omega
theorem br_rl {ss : List Stl} {M : Nat} (h : BL ss M) (a b : Nat) : BR (rl ss a b) M := by
  obtain ⟨ks, h, hm⟩ := h
  have key : ∃ js : List Nat, Paired (fun r k => Bd k r) (rl ss a b) js ∧ (js.map (· + 1)).sum ≤ (ks.map (· + 1)).sum := by
    clear hm
    induction h with
    | nil => exact ⟨[], .nil, Nat.le_refl _⟩
    | @cons s k ss ks h t ih =>
      obtain ⟨js, h1, h2⟩ := ih
      unfold rl at *
      rw [List.filterMap_cons]
      by_cases c : btwn s a b = true
      · rw [if_pos c]
        refine ⟨k :: js, .cons h.r h1, ?_⟩
        rw [List.map_cons, List.map_cons, List.sum_cons, List.sum_cons]
        omega
      · rw [if_neg c]
        refine ⟨js, h1, ?_⟩
        rw [List.map_cons, List.sum_cons]
        omega
  obtain ⟨js, h1, h2⟩ := key
  exact ⟨js, h1, by omega⟩
end My
namespace My
open PySem PySem.Spec PyProof.Rows L2
variable {K : PySem.W.Frag}
theorem divInt_ge {t b : Int} (ht : 0 ≤ t) (hb : 0 < b) : 0 ≤ Rat.divInt t b := by
  rcases Int.lt_or_eq_of_le ht with h | h
  · exact Rat.le_of_lt (divInt_pos h hb)
  · rw [← h, Rat.zero_divInt]
    exact Rat.le_refl
theorem size37 {i : Int} (h0 : 0 ≤ i) (h1 : i < 3) : ∃ z : Int, (3 ≤ z ∧ z ≤ 1000000) ∧ atI [V.int 3, V.int 12, V.int (10 ^ (6 : Int).toNat)] i = some (.int z) := by
  rcases (show i = 0 ∨ i = 1 ∨ i = 2 by omega) with rfl | rfl | rfl
  · exact ⟨3, by decide, rfl⟩
  · exact ⟨12, by decide, rfl⟩
  · exact ⟨10 ^ (6 : Int).toNat, by rw [ten6e]; decide, rfl⟩
theorem ten18e : (10 : Int) ^ (18 : Int).toNat = 1000000000000000000 := by decide
theorem p20k' {k : Nat} (hk : k ≤ 20000) {n : Nat} (h : n < 2 ^ k) : n < 2 ^ 20000 := Nat.lt_of_lt_of_le h (pow_le hk)
section
variable {P : Program} {w : World} {K : PySem.W.Frag} {mg : Str → Option Value} {base : Heap} {f_is_integer f_is_row f_is_fraction f_is_some f_added f_multiplied f_squared f_summed f_is_stall f_is_ware f_check_ware f_across f_hold_of f_stalls_of f_kept_of f_held f_roots f_neighbours f_l_deck f_l_pick f_l_divisor f_l_made f_l_amount f_l_great f_l_great_stall f_l_stall f_l_stalls f_l_added f_l_held f_l_roots f_l_are_fractions f_l_is_refused f_l_is_well f_law f_Web_init f_Web_eq c_BadWare c_Web c_ZERO : Addr} {d_is_integer d_is_row d_is_fraction d_is_some d_added d_multiplied d_squared d_summed d_is_stall d_is_ware d_check_ware d_across d_hold_of d_stalls_of d_kept_of d_held d_roots d_neighbours d_l_deck d_l_pick d_l_divisor d_l_made d_l_amount d_l_great d_l_great_stall d_l_stall d_l_stalls d_l_added d_l_held d_l_roots d_l_are_fractions d_l_is_refused d_l_is_well d_law d_Web_init d_Web_eq : FuncData}
def sp_am (K : PySem.W.Frag) (M n k : Nat) : Sp := fun vs H Q _ => ∃ (D C : Addr) (c : Nat), vs = [.ref D] ∧ Deck M D C H c ∧ c ≤ 2 ^ 39 ∧ ∀ H' v r, Fw D H H' → Deck M D C H' (c + n) → IsF K H' v r → Bd k r → 0 < r → Q v H'
theorem ok_l_amount {M : Nat} (hM : 64 ≤ M) (hM2 : M ≤ 1048576) (T : Txt K mg f_is_integer f_is_row f_is_fraction f_is_some f_added f_multiplied f_squared f_summed f_is_stall f_is_ware f_check_ware f_across f_hold_of f_stalls_of f_kept_of f_held f_roots f_neighbours f_l_deck f_l_pick f_l_divisor f_l_made f_l_amount f_l_great f_l_great_stall f_l_stall f_l_stalls f_l_added f_l_held f_l_roots f_l_are_fractions f_l_is_refused f_l_is_well f_law f_Web_init f_Web_eq c_BadWare c_Web c_ZERO d_is_integer d_is_row d_is_fraction d_is_some d_added d_multiplied d_squared d_summed d_is_stall d_is_ware d_check_ware d_across d_hold_of d_stalls_of d_kept_of d_held d_roots d_neighbours d_l_deck d_l_pick d_l_divisor d_l_made d_l_amount d_l_great d_l_great_stall d_l_stall d_l_stalls d_l_added d_l_held d_l_roots d_l_are_fractions d_l_is_refused d_l_is_well d_law d_Web_init d_Web_eq) : FnOk P w K mg base CX0 3 f_l_amount d_l_amount ["_law_deck_here"] (sp_am K M 3 20) := by
  have G_l_pick : FnOk P w K mg base CX0 1 f_l_pick d_l_pick ["_law_deck_here", "_law_many"] (sp_pick M) := ok_pick hM hM2 T
  have G_l_made : FnOk P w K mg base CX0 2 f_l_made d_l_made ["_law_top", "_law_bottom"] (sp_made K) := ok_l_made T
  refine T.F_l_amount.ok sc_l_amount (fun vs H Q E h => ?_) (fun cdv A outer s H vs Q E hr h => ?_)
  · obtain ⟨D, C, c, rfl, _⟩ := h
    rfl
  · obtain ⟨D, C, c, rfl, dk, hc, q⟩ := h
    refine ⟨_, (pss_cons (ps_set (i := 1) sc_l_amount.nd rfl (by first | exact Or.inl rfl | exact Or.inr rfl) (pe_ix ix_list (pe_lst (pa_cons pe_int (pa_cons pe_int (pa_cons (pe_op op_pow pe_int pe_int) pa_nil)))) (pe_call G_l_pick (hr.mono (by decide)) (by rfl) T.g_l_pick T.k_l_pick T.b_l_pick .nil pass0 (pa_cons (pv 0) (pa_cons pe_int pa_nil))) (fun _ _ => rfl)))
      (pss_one (ps_ret (pe_call G_l_made (hr.mono (by decide)) (by rfl) T.g_l_made T.k_l_made T.b_l_made .nil pass0 (pa_cons (pe_op op_add pe_int (pe_call G_l_pick (hr.mono (by decide)) (by rfl) T.g_l_pick T.k_l_pick T.b_l_pick .nil pass0 (pa_cons (pv 0) (pa_cons (pe_op op_sub (pv 1) pe_int) pa_nil)))) (pa_cons (pe_op op_add pe_int (pe_call G_l_pick (hr.mono (by decide)) (by rfl) T.g_l_pick T.k_l_pick T.b_l_pick .nil pass0 (pa_cons (pv 0) (pa_cons (pe_op op_sub (pv 1) pe_int) pa_nil)))) pa_nil)))))), ?_⟩
    walk_at "r"
    intro l5 nl5
    have s7 := same_upd (o := .lst [V.int 3, V.int 12, V.int (10 ^ (6 : Int).toNat)]) nl5
    have hl5 : upd H l5 (.lst [V.int 3, V.int 12, V.int (10 ^ (6 : Int).toNat)]) l5 = some (.lst [V.int 3, V.int 12, V.int (10 ^ (6 : Int).toNat)]) := upd_same
    have hl5D := dk.ne nl5
    generalize upd H l5 (.lst [V.int 3, V.int 12, V.int (10 ^ (6 : Int).toNat)]) = H7 at *
    have k7 := dk.same s7
    walk_at "r"
    refine ⟨_, _, _, _, rfl, ⟨by decide, by decide⟩, k7, by omega, fun H8 r8 w8 k8 a8 b8 => ?_⟩
    obtain ⟨z, ⟨z1, z2⟩, ez⟩ := size37 a8 b8
    refine rd_ixL (w8 _ _ hl5D hl5) ez ?_
    have f8 := (Same.fw s7).trans w8
    walk_at "r"
    refine ⟨_, _, _, _, rfl, ⟨by omega, by omega⟩, k8, by omega, fun H1 r1 w1 k1 a1 b1 => ?_⟩
    walk_at "r"
    refine ⟨_, _, _, _, rfl, ⟨by omega, by omega⟩, k1, by omega, fun H2 r2 w2 k2 a2 b2 => ?_⟩
    walk_at "r"
    have hb : (1 + r2).natAbs < 2 ^ 20 := by omega
    refine ⟨_, _, rfl, by omega, Nat.lt_of_lt_of_le hb (pow_le (by decide)), fun H3 v s3 hv => ?_⟩
    exact q _ _ _ (((f8.trans w1).trans w2).trans (Same.fw s3)) ((k2.same s3).mono (by omega)) hv (Bd.divInt (by omega) (by omega) hb) (divInt_pos (by omega) (by omega))
def sp_lgreat (M n : Nat) : Sp := fun vs H Q _ => ∃ (D C : Addr) (c : Nat), vs = [.ref D] ∧ Deck M D C H c ∧ c ≤ 2 ^ 39 ∧ ∀ H' (r : Int), Fw D H H' → Deck M D C H' (c + n) → 0 < r → r.natAbs < 2 ^ 420 → Q (.int r) H'
theorem ok_l_great {M : Nat} (hM : 64 ≤ M) (hM2 : M ≤ 1048576) (T : Txt K mg f_is_integer f_is_row f_is_fraction f_is_some f_added f_multiplied f_squared f_summed f_is_stall f_is_ware f_check_ware f_across f_hold_of f_stalls_of f_kept_of f_held f_roots f_neighbours f_l_deck f_l_pick f_l_divisor f_l_made f_l_amount f_l_great f_l_great_stall f_l_stall f_l_stalls f_l_added f_l_held f_l_roots f_l_are_fractions f_l_is_refused f_l_is_well f_law f_Web_init f_Web_eq c_BadWare c_Web c_ZERO d_is_integer d_is_row d_is_fraction d_is_some d_added d_multiplied d_squared d_summed d_is_stall d_is_ware d_check_ware d_across d_hold_of d_stalls_of d_kept_of d_held d_roots d_neighbours d_l_deck d_l_pick d_l_divisor d_l_made d_l_amount d_l_great d_l_great_stall d_l_stall d_l_stalls d_l_added d_l_held d_l_roots d_l_are_fractions d_l_is_refused d_l_is_well d_law d_Web_init d_Web_eq) : FnOk P w K mg base CX0 2 f_l_great d_l_great ["_law_deck_here"] (sp_lgreat M 10) := by
  have G_l_pick : FnOk P w K mg base CX0 1 f_l_pick d_l_pick ["_law_deck_here", "_law_many"] (sp_pick M) := ok_pick hM hM2 T
  refine T.F_l_great.ok sc_l_great (fun vs H Q E h => ?_) (fun cdv A outer s H vs Q E hr h => ?_)
  · obtain ⟨D, C, c, rfl, _⟩ := h
    rfl
  · obtain ⟨D, C, c, rfl, dk, hc, q⟩ := h
    refine ⟨_, (pss_cons (ps_set (i := 1) sc_l_great.nd rfl (by first | exact Or.inl rfl | exact Or.inr rfl) (pe_op op_add pe_int (pe_call G_l_pick (hr.mono (by decide)) (by rfl) T.g_l_pick T.k_l_pick T.b_l_pick .nil pass0 (pa_cons (pv 0) (pa_cons (pe_op op_sub (pe_op op_pow pe_int pe_int) pe_int) pa_nil)))))
      (pss_cons (ps_for PassesOwn.never rfl (pi_range1 (by rfl) T.z_range (pa_cons (pe_op op_add pe_int (pe_call G_l_pick (hr.mono (by decide)) (by rfl) T.g_l_pick T.k_l_pick T.b_l_pick .nil pass0 (pa_cons (pv 0) (pa_cons pe_int pa_nil)))) pa_nil)) (pg_name (i := 2) sc_l_great.nd rfl (by first | exact Or.inl rfl | exact Or.inr rfl))
        (pss_one (ps_set (i := 1) sc_l_great.nd rfl (by first | exact Or.inl rfl | exact Or.inr rfl) (pe_op op_add (pe_op op_mulX (pv 1) (pe_op op_pow pe_int pe_int)) (pe_call G_l_pick (hr.mono (by decide)) (by rfl) T.g_l_pick T.k_l_pick T.b_l_pick .nil pass0 (pa_cons (pv 0) (pa_cons (pe_op op_pow pe_int pe_int) pa_nil)))))))
      (pss_one (ps_ret (pv 1))))), ?_⟩
    walk_at "r"
    refine ⟨_, _, _, _, rfl, ⟨by rw [ten18e]; decide, by rw [ten18e]; decide⟩, dk, by omega, fun H1 r1 w1 k1 a1 b1 => ?_⟩
    rw [ten18e] at b1
    walk_at "r"
    refine ⟨_, _, _, _, rfl, ⟨by decide, by decide⟩, k1, by omega, fun H2 r2 w2 k2 a2 b2 => ?_⟩
    walk_at "r"
    refine ⟨by omega, by omega, ?_⟩
    refine for_range (lo := 0) (n := (3 + r2).toNat) (fun i σ H' => ∃ (t2 : Option V) (f : Int), σ = [some (.ref D), some (.int f), t2] ∧ Fw D H H' ∧ Deck M D C H' (c + 2 + i) ∧ 0 < f ∧ f.natAbs < 2 ^ (60 * (i + 1))) ?_ ?_ ?_
    · exact ⟨_, _, rfl, w1.trans w2, k2, by omega, by show (1 + r1).natAbs < 2 ^ 60; omega⟩
    · rintro i σ H3 hi ⟨t2, f, rfl, w3, k3, f0, fb⟩
      have hi : i < 6 := by omega
      walk_at "r"
      rotate_left
      · exact cmul_big fb (by rw [ten18e]; decide) (by omega)
      refine ⟨_, _, _, _, rfl, ⟨by rw [ten18e]; decide, by rw [ten18e]; decide⟩, k3, by omega, fun H4 r4 w4 k4 a4 b4 => ?_⟩
      rw [ten18e] at b4
      walk_at "r"
      refine ⟨_, _, rfl, w3.trans w4, k4.mono (by omega), ?_, ?_⟩
      · rw [ten18e]
        omega
      · rw [ten18e]
        rw [show 60 * (i + 1 + 1) = 60 * (i + 1) + 60 by omega, Nat.pow_add]
        have e : (2 : Nat) ^ 60 = 1152921504606846976 := by decide
        rw [e]
        generalize (2 : Nat) ^ (60 * (i + 1)) = p at *
        omega
    · rintro σ H3 ⟨t2, f, rfl, w3, k3, f0, fb⟩
      walk_at "r"
      exact q _ _ w3 (k3.mono (by omega)) f0 (Nat.lt_of_lt_of_le fb (pow_le (by omega)))
def sp_lstall7 (K : PySem.W.Frag) (M m k l : Nat) : Sp := fun vs H Q _ => ∃ (D C : Addr) (c n : Nat), vs = [.ref D, .int (n : Nat)] ∧ 2 ≤ n ∧ n ≤ 8 ∧ Deck M D C H c ∧ c ≤ 2 ^ 38 ∧ ∀ H' v s, Fw D H H' → Deck M D C H' (c + m) → IsSt K H' v s → OkSt n s → BdSt k s → Bd l s.r → Q v H'
theorem ok_l_stall {M : Nat} (hM : 64 ≤ M) (hM2 : M ≤ 1048576) (T : Txt K mg f_is_integer f_is_row f_is_fraction f_is_some f_added f_multiplied f_squared f_summed f_is_stall f_is_ware f_check_ware f_across f_hold_of f_stalls_of f_kept_of f_held f_roots f_neighbours f_l_deck f_l_pick f_l_divisor f_l_made f_l_amount f_l_great f_l_great_stall f_l_stall f_l_stalls f_l_added f_l_held f_l_roots f_l_are_fractions f_l_is_refused f_l_is_well f_law f_Web_init f_Web_eq c_BadWare c_Web c_ZERO d_is_integer d_is_row d_is_fraction d_is_some d_added d_multiplied d_squared d_summed d_is_stall d_is_ware d_check_ware d_across d_hold_of d_stalls_of d_kept_of d_held d_roots d_neighbours d_l_deck d_l_pick d_l_divisor d_l_made d_l_amount d_l_great d_l_great_stall d_l_stall d_l_stalls d_l_added d_l_held d_l_roots d_l_are_fractions d_l_is_refused d_l_is_well d_law d_Web_init d_Web_eq) : FnOk P w K mg base CX0 4 f_l_stall d_l_stall ["_law_deck_here", "_law_wares"] (sp_lstall7 K M 8 40 20) := by
  have G_l_pick : FnOk P w K mg base CX0 1 f_l_pick d_l_pick ["_law_deck_here", "_law_many"] (sp_pick M) := ok_pick hM hM2 T
  have G_l_made : FnOk P w K mg base CX0 2 f_l_made d_l_made ["_law_top", "_law_bottom"] (sp_made K) := ok_l_made T
  have G_l_amount : FnOk P w K mg base CX0 3 f_l_amount d_l_amount ["_law_deck_here"] (sp_am K M 3 20) := ok_l_amount hM hM2 T
  refine T.F_l_stall.ok sc_l_stall (fun vs H Q E h => ?_) (fun cdv A outer s H vs Q E hr h => ?_)
  · obtain ⟨D, C, c, n, rfl, _⟩ := h
    rfl
  · obtain ⟨D, C, c, n, rfl, hn2, hn8, dk, hc, q⟩ := h
    refine ⟨_, (pss_cons (ps_set (i := 2) sc_l_stall.nd rfl (by first | exact Or.inl rfl | exact Or.inr rfl) (pe_call G_l_pick (hr.mono (by decide)) (by rfl) T.g_l_pick T.k_l_pick T.b_l_pick .nil pass0 (pa_cons (pv 0) (pa_cons (pv 1) pa_nil))))
      (pss_cons (ps_set (i := 3) sc_l_stall.nd rfl (by first | exact Or.inl rfl | exact Or.inr rfl) (pe_call G_l_pick (hr.mono (by decide)) (by rfl) T.g_l_pick T.k_l_pick T.b_l_pick .nil pass0 (pa_cons (pv 0) (pa_cons (pe_op op_sub (pv 1) pe_int) pa_nil))))
      (C8.pss_cut (ps_if (pt_cmpR op_ge (pv 3) (pv 2) (nomark _))
        (pss_one (ps_set (i := 3) sc_l_stall.nd rfl (by first | exact Or.inl rfl | exact Or.inr rfl) (pe_op op_add (pv 3) pe_int)))
        pss_nil)
      (pss_cons (ps_set (i := 4) sc_l_stall.nd rfl (by first | exact Or.inl rfl | exact Or.inr rfl) (pe_call G_l_amount (hr.mono (by decide)) (by rfl) T.g_l_amount T.k_l_amount T.b_l_amount .nil pass0 (pa_cons (pv 0) pa_nil)))
      (pss_cons (ps_set (i := 5) sc_l_stall.nd rfl (by first | exact Or.inl rfl | exact Or.inr rfl) (pe_call G_l_amount (hr.mono (by decide)) (by rfl) T.g_l_amount T.k_l_amount T.b_l_amount .nil pass0 (pa_cons (pv 0) pa_nil)))
      (pss_cons (ps_set (i := 6) sc_l_stall.nd rfl (by first | exact Or.inl rfl | exact Or.inr rfl) (pe_call G_l_made (hr.mono (by decide)) (by rfl) T.g_l_made T.k_l_made T.b_l_made .nil pass0 (pa_cons (pe_op op_mulX (pe_ix ix_tup (pv 4) pe_int (fun _ _ => rfl)) (pe_ix ix_tup (pv 5) pe_int (fun _ _ => rfl))) (pa_cons (pe_op op_mulX (pe_ix ix_tup (pv 4) pe_int (fun _ _ => rfl)) (pe_ix ix_tup (pv 5) pe_int (fun _ _ => rfl))) pa_nil))))
      (pss_one (ps_ret (pe_tup (pa_cons (pv 2) (pa_cons (pv 3) (pa_cons (pv 6) (pa_cons (pe_call G_l_made (hr.mono (by decide)) (by rfl) T.g_l_made T.k_l_made T.b_l_made .nil pass0 (pa_cons (pe_op op_mulX (pe_ix ix_tup (pv 4) pe_int (fun _ _ => rfl)) (pe_ix ix_tup (pv 5) pe_int (fun _ _ => rfl))) (pa_cons (pe_op op_mulX (pe_ix ix_tup (pv 4) pe_int (fun _ _ => rfl)) (pe_ix ix_tup (pv 5) pe_int (fun _ _ => rfl))) pa_nil))) (pa_cons (pv 4) pa_nil)))))))))))))), ?_⟩
    walk_at "r"
    refine ⟨_, _, _, _, rfl, ⟨by omega, by omega⟩, dk, by omega, fun H1 r1 w1 k1 a1 b1 => ?_⟩
    walk_at "r"
    refine ⟨_, _, _, _, rfl, ⟨by omega, by omega⟩, k1, by omega, fun H2 r2 w2 k2 a2 b2 => ?_⟩
    have w2 := w1.trans w2
    walk_at "r"
    refine ⟨fun σ H' => ∃ (u v : Nat) (t4 t5 t6 : Option V), σ = [some (.ref D), some (.int (n : Nat)), some (.int (u : Nat)), some (.int (v : Nat)), t4, t5, t6] ∧ H' = H2 ∧ u < n ∧ v < n ∧ u ≠ v, ?_, ?_⟩
    · walk_at "r"
      walk_at "if"
      · rename_i h
        walk_at "r"
        refine ⟨r1.toNat, (r2 + 1).toNat, none, none, none, ?_, rfl, by omega, by omega, by omega⟩
        rw [show ((r1.toNat : Nat) : Int) = r1 by omega, show (((r2 + 1).toNat : Nat) : Int) = r2 + 1 by omega]
        rfl
      · rename_i h
        walk_at "r"
        refine ⟨r1.toNat, r2.toNat, none, none, none, ?_, rfl, by omega, by omega, by omega⟩
        rw [show ((r1.toNat : Nat) : Int) = r1 by omega, show ((r2.toNat : Nat) : Int) = r2 by omega]
        rfl
    rintro σ H' ⟨u, v, t4, t5, t6, rfl, rfl, hu, hv, huv⟩
    walk_at "r"
    refine ⟨_, _, _, rfl, k2, by omega, fun H3 root r w3 k3 fr br r0 => ?_⟩
    walk_at "r"
    refine ⟨_, _, _, rfl, k3, by omega, fun H4 fac f w4 k4 ff bf f0 => ?_⟩
    have fr := fr.fw k3 w4
    have w4 := (w2.trans w3).trans w4
    have rd4 : ((r.den : Int)).natAbs < 2 ^ 20 := by rw [Int.natAbs_natCast]; exact br.2
    have fd4 : ((f.den : Int)).natAbs < 2 ^ 20 := by rw [Int.natAbs_natCast]; exact bf.2
    have rn0 := num_pos' r0
    have fn0 := num_pos' f0
    have rd0 := den_pos r
    have fd0 := den_pos f
    obtain ⟨pr1, rfl, hpr⟩ := id fr
    obtain ⟨pf1, rfl, hpf⟩ := id ff
    have p64 : ∀ {z : Int}, z.natAbs < 2 ^ 20 → z.natAbs < 2 ^ 64 := fun h => Nat.lt_of_lt_of_le h (pow_le (by decide))
    walk_at "r"
    rotate_left
    · exact cmul_small (p64 rd4) (p64 fd4)
    · exact cmul_small (p64 br.1) (p64 bf.1)
    refine ⟨_, _, rfl, Int.mul_pos rd0 fd0, Nat.lt_of_lt_of_le (mul_lt' rd4 fd4) (pow_le (by decide)), fun H5 one s5 h1 => ?_⟩
    rw [divInt_mul'] at h1
    have fr := fr.same s5
    have hpr := hpr.same s5
    have hpf := hpf.same s5
    walk_at "r"
    rotate_left
    · exact cmul_small (p64 rd4) (p64 bf.1)
    · exact cmul_small (p64 br.1) (p64 fd4)
    refine ⟨_, _, rfl, Int.mul_pos rd0 fn0, Nat.lt_of_lt_of_le (mul_lt' rd4 bf.1) (pow_le (by decide)), fun H6 other s6 h2 => ?_⟩
    walk_at "r"
    intro p7 n7
    have sm := same_upd (o := .tup [V.int (u : Nat), .int (v : Nat), one, other, .ref pr1]) n7
    refine q _ _ ⟨u, v, r * f, Rat.divInt (r.num * f.den) (r.den * f.num), r⟩ (w4.trans (Same.fw ((s5.trans s6).trans sm))) ((k4.same ((s5.trans s6).trans sm)).mono (by omega)) ⟨p7, one, other, .ref pr1, rfl, upd_same, (h1.same s6).same sm, h2.same sm, (fr.same s6).same sm⟩ ?_ ?_ ?_
    · exact ⟨hu, hv, huv, Rat.mul_pos r0 f0, divInt_pos (Int.mul_pos rn0 fd0) (Int.mul_pos rd0 fn0), r0, back_root r f f0⟩
    · exact ⟨br.mul bf, Bd.divInt (Int.ne_of_gt (Int.mul_pos rd0 fn0)) (mul_lt' br.1 fd4) (mul_lt' rd4 bf.1), br.mono (by decide)⟩
    · exact br
def sp_lgst (K : PySem.W.Frag) (M : Nat) : Sp := fun vs H Q _ => ∃ (D C : Addr) (c : Nat), vs = [.ref D] ∧ Deck M D C H c ∧ c ≤ 2 ^ 38 ∧ ∀ H' v s, Fw D H H' → Deck M D C H' (c + 40) → IsSt K H' v s → OkSt 2 s → BdSt 840 s → Bd 420 s.r → Q v H'
theorem ok_l_great_stall {M : Nat} (hM : 64 ≤ M) (hM2 : M ≤ 1048576) (T : Txt K mg f_is_integer f_is_row f_is_fraction f_is_some f_added f_multiplied f_squared f_summed f_is_stall f_is_ware f_check_ware f_across f_hold_of f_stalls_of f_kept_of f_held f_roots f_neighbours f_l_deck f_l_pick f_l_divisor f_l_made f_l_amount f_l_great f_l_great_stall f_l_stall f_l_stalls f_l_added f_l_held f_l_roots f_l_are_fractions f_l_is_refused f_l_is_well f_law f_Web_init f_Web_eq c_BadWare c_Web c_ZERO d_is_integer d_is_row d_is_fraction d_is_some d_added d_multiplied d_squared d_summed d_is_stall d_is_ware d_check_ware d_across d_hold_of d_stalls_of d_kept_of d_held d_roots d_neighbours d_l_deck d_l_pick d_l_divisor d_l_made d_l_amount d_l_great d_l_great_stall d_l_stall d_l_stalls d_l_added d_l_held d_l_roots d_l_are_fractions d_l_is_refused d_l_is_well d_law d_Web_init d_Web_eq) : FnOk P w K mg base CX0 3 f_l_great_stall d_l_great_stall ["_law_deck_here"] (sp_lgst K M) := by
  have G_l_pick : FnOk P w K mg base CX0 1 f_l_pick d_l_pick ["_law_deck_here", "_law_many"] (sp_pick M) := ok_pick hM hM2 T
  have G_l_made : FnOk P w K mg base CX0 2 f_l_made d_l_made ["_law_top", "_law_bottom"] (sp_made K) := ok_l_made T
  have G_l_great : FnOk P w K mg base CX0 2 f_l_great d_l_great ["_law_deck_here"] (sp_lgreat M 10) := ok_l_great hM hM2 T
  refine T.F_l_great_stall.ok sc_l_great_stall (fun vs H Q E h => ?_) (fun cdv A outer s H vs Q E hr h => ?_)
  · obtain ⟨D, C, c, rfl, _⟩ := h
    rfl
  · obtain ⟨D, C, c, rfl, dk, hc, q⟩ := h
    refine ⟨_, (pss_cons (ps_set (i := 1) sc_l_great_stall.nd rfl (by first | exact Or.inl rfl | exact Or.inr rfl) (pe_call G_l_made (hr.mono (by decide)) (by rfl) T.g_l_made T.k_l_made T.b_l_made .nil pass0 (pa_cons (pe_call G_l_great (hr.mono (by decide)) (by rfl) T.g_l_great T.k_l_great T.b_l_great .nil pass0 (pa_cons (pv 0) pa_nil)) (pa_cons (pe_call G_l_great (hr.mono (by decide)) (by rfl) T.g_l_great T.k_l_great T.b_l_great .nil pass0 (pa_cons (pv 0) pa_nil)) pa_nil))))
      (pss_cons (ps_set (i := 2) sc_l_great_stall.nd rfl (by first | exact Or.inl rfl | exact Or.inr rfl) (pe_call G_l_made (hr.mono (by decide)) (by rfl) T.g_l_made T.k_l_made T.b_l_made .nil pass0 (pa_cons (pe_op op_add pe_int (pe_call G_l_pick (hr.mono (by decide)) (by rfl) T.g_l_pick T.k_l_pick T.b_l_pick .nil pass0 (pa_cons (pv 0) (pa_cons pe_int pa_nil)))) (pa_cons (pe_call G_l_great (hr.mono (by decide)) (by rfl) T.g_l_great T.k_l_great T.b_l_great .nil pass0 (pa_cons (pv 0) pa_nil)) pa_nil))))
      (pss_cons (ps_set (i := 3) sc_l_great_stall.nd rfl (by first | exact Or.inl rfl | exact Or.inr rfl) (pe_call G_l_made (hr.mono (by decide)) (by rfl) T.g_l_made T.k_l_made T.b_l_made .nil pass0 (pa_cons (pe_op op_mulX (pe_ix ix_tup (pv 1) pe_int (fun _ _ => rfl)) (pe_ix ix_tup (pv 2) pe_int (fun _ _ => rfl))) (pa_cons (pe_op op_mulX (pe_ix ix_tup (pv 1) pe_int (fun _ _ => rfl)) (pe_ix ix_tup (pv 2) pe_int (fun _ _ => rfl))) pa_nil))))
      (pss_one (ps_ret (pe_tup (pa_cons (pe_call G_l_pick (hr.mono (by decide)) (by rfl) T.g_l_pick T.k_l_pick T.b_l_pick .nil pass0 (pa_cons (pv 0) (pa_cons pe_int pa_nil))) (pa_cons pe_int (pa_cons (pv 3) (pa_cons (pe_call G_l_made (hr.mono (by decide)) (by rfl) T.g_l_made T.k_l_made T.b_l_made .nil pass0 (pa_cons (pe_op op_mulX (pe_ix ix_tup (pv 1) pe_int (fun _ _ => rfl)) (pe_ix ix_tup (pv 2) pe_int (fun _ _ => rfl))) (pa_cons (pe_op op_mulX (pe_ix ix_tup (pv 1) pe_int (fun _ _ => rfl)) (pe_ix ix_tup (pv 2) pe_int (fun _ _ => rfl))) pa_nil))) (pa_cons (pv 1) pa_nil))))))))))), ?_⟩
    walk_at "r"
    refine ⟨_, _, _, rfl, dk, by omega, fun H1 g1 w1 k1 a1 b1 => ?_⟩
    walk_at "r"
    refine ⟨_, _, _, rfl, k1, by omega, fun H2 g2 w2 k2 a2 b2 => ?_⟩
    walk_at "r"
    refine ⟨_, _, rfl, a2, Nat.lt_of_lt_of_le b2 (pow_le (by decide)), fun H3 root s3 fr => ?_⟩
    have br : Bd 420 (Rat.divInt g1 g2) := Bd.divInt (by omega) b1 b2
    have r0 : 0 < Rat.divInt g1 g2 := divInt_pos a1 a2
    generalize Rat.divInt g1 g2 = r at *
    have w3 := (w1.trans w2).trans (Same.fw s3)
    have k3 := k2.same s3
    walk_at "r"
    refine ⟨_, _, _, _, rfl, ⟨by decide, by decide⟩, k3, by omega, fun H4 r4 w4 k4 a4 b4 => ?_⟩
    walk_at "r"
    refine ⟨_, _, _, rfl, k4, by omega, fun H5 g5 w5 k5 a5 b5 => ?_⟩
    have hb4 : (1 + r4).natAbs < 2 ^ 420 := Nat.lt_of_lt_of_le (show (1 + r4).natAbs < 2 ^ 4 by omega) (pow_le (by decide))
    walk_at "r"
    refine ⟨_, _, rfl, a5, Nat.lt_of_lt_of_le b5 (pow_le (by decide)), fun H6 fac s6 ff => ?_⟩
    have bf : Bd 420 (Rat.divInt (1 + r4) g5) := Bd.divInt (by omega) hb4 b5
    have f0 : 0 < Rat.divInt (1 + r4) g5 := divInt_pos (by omega) a5
    generalize Rat.divInt (1 + r4) g5 = f at *
    have fr := ((fr.fw k3 w4).fw k4 w5).same s6
    have w6 := ((w3.trans w4).trans w5).trans (Same.fw s6)
    have k6 := k5.same s6
    have rd4 : ((r.den : Int)).natAbs < 2 ^ 420 := by rw [Int.natAbs_natCast]; exact br.2
    have fd4 : ((f.den : Int)).natAbs < 2 ^ 420 := by rw [Int.natAbs_natCast]; exact bf.2
    have rn0 := num_pos' r0
    have fn0 := num_pos' f0
    have rd0 := den_pos r
    have fd0 := den_pos f
    obtain ⟨pr1, rfl, hpr⟩ := id fr
    obtain ⟨pf1, rfl, hpf⟩ := id ff
    have p64 : ∀ {z : Int}, z.natAbs < 2 ^ 420 → z.natAbs < 2 ^ 20000 := fun h => p20k' (by decide) h
    walk_at "r"
    rotate_left
    · exact cmx (p64 rd4) (p64 fd4)
    · exact cmx (p64 br.1) (p64 bf.1)
    refine ⟨_, _, rfl, Int.mul_pos rd0 fd0, Nat.lt_of_lt_of_le (mul_lt' rd4 fd4) (pow_le (by decide)), fun H7 one s7 h1 => ?_⟩
    rw [divInt_mul'] at h1
    have fr := fr.same s7
    have hpr := hpr.same s7
    have hpf := hpf.same s7
    have k7 := k6.same s7
    walk_at "r"
    refine ⟨_, _, _, _, rfl, ⟨by decide, by decide⟩, k7, by omega, fun H8 r8 w8 k8 a8 b8 => ?_⟩
    have e8 : r8 = 0 := by omega
    subst e8
    have fr := fr.fw k7 w8
    have h1 := h1.fw k7 w8
    have hpr := hpr.fw k7 w8
    have hpf := hpf.fw k7 w8
    walk_at "r"
    rotate_left
    · exact cmx (p64 rd4) (p64 bf.1)
    · exact cmx (p64 br.1) (p64 fd4)
    refine ⟨_, _, rfl, Int.mul_pos rd0 fn0, Nat.lt_of_lt_of_le (mul_lt' rd4 bf.1) (pow_le (by decide)), fun H9 other s9 h2 => ?_⟩
    walk_at "r"
    intro p7 n7
    have sm := same_upd (o := .tup [V.int 0, .int 1, one, other, .ref pr1]) n7
    refine q _ _ ⟨0, 1, r * f, Rat.divInt (r.num * f.den) (r.den * f.num), r⟩ (((w6.trans (Same.fw s7)).trans w8).trans (Same.fw (s9.trans sm))) ((k8.same (s9.trans sm)).mono (by omega)) ⟨p7, one, other, .ref pr1, rfl, upd_same, (h1.same s9).same sm, h2.same sm, (fr.same s9).same sm⟩ ?_ ?_ ?_
    · exact ⟨show 0 < 2 by decide, show 1 < 2 by decide, show 0 ≠ 1 by decide, Rat.mul_pos r0 f0, divInt_pos (Int.mul_pos rn0 fd0) (Int.mul_pos rd0 fn0), r0, back_root r f f0⟩
    · exact ⟨br.mul bf, Bd.divInt (Int.ne_of_gt (Int.mul_pos rd0 fn0)) (mul_lt' br.1 fd4) (mul_lt' rd4 bf.1), br.mono (by decide)⟩
    · exact br
theorem flag_at (b : Bool) : ∃ z : Int, (z = 5 ∨ z = 17) ∧ atI [V.int 5, V.int 17] (if b = true then 1 else 0) = some (.int z) := by
  cases b
  · exact ⟨5, .inl rfl, rfl⟩
  · exact ⟨17, .inr rfl, rfl⟩
def sp_lstalls7 (K : PySem.W.Frag) (M : Nat) : Sp := fun vs H Q _ => ∃ (D C : Addr) (c n : Nat), vs = [.ref D, .int (n : Nat)] ∧ 1 ≤ n ∧ n ≤ 8 ∧ Deck M D C H c ∧ c ≤ 2 ^ 37 ∧
  ∀ H' S xs ss, Fw D H H' → Deck M D C H' (c + 200) → S ≠ D → H' S = some (.lst xs) → Sts K H' xs ss → ss.length ≤ 16 → (∀ s ∈ ss, OkSt n s ∧ BdSt 40 s ∧ Bd 20 s.r) → Q (.ref S) H'
theorem ok_l_stalls {M : Nat} (hM : 64 ≤ M) (hM2 : M ≤ 1048576) (T : Txt K mg f_is_integer f_is_row f_is_fraction f_is_some f_added f_multiplied f_squared f_summed f_is_stall f_is_ware f_check_ware f_across f_hold_of f_stalls_of f_kept_of f_held f_roots f_neighbours f_l_deck f_l_pick f_l_divisor f_l_made f_l_amount f_l_great f_l_great_stall f_l_stall f_l_stalls f_l_added f_l_held f_l_roots f_l_are_fractions f_l_is_refused f_l_is_well f_law f_Web_init f_Web_eq c_BadWare c_Web c_ZERO d_is_integer d_is_row d_is_fraction d_is_some d_added d_multiplied d_squared d_summed d_is_stall d_is_ware d_check_ware d_across d_hold_of d_stalls_of d_kept_of d_held d_roots d_neighbours d_l_deck d_l_pick d_l_divisor d_l_made d_l_amount d_l_great d_l_great_stall d_l_stall d_l_stalls d_l_added d_l_held d_l_roots d_l_are_fractions d_l_is_refused d_l_is_well d_law d_Web_init d_Web_eq) : FnOk P w K mg base CX0 5 f_l_stalls d_l_stalls ["_law_deck_here", "_law_wares"] (sp_lstalls7 K M) := by
  have G_l_pick : FnOk P w K mg base CX0 1 f_l_pick d_l_pick ["_law_deck_here", "_law_many"] (sp_pick M) := ok_pick hM hM2 T
  have G_l_stall : FnOk P w K mg base CX0 4 f_l_stall d_l_stall ["_law_deck_here", "_law_wares"] (sp_lstall7 K M 8 40 20) := ok_l_stall hM hM2 T
  refine T.F_l_stalls.ok sc_l_stalls (fun vs H Q E h => ?_) (fun cdv A outer s H vs Q E hr h => ?_)
  · obtain ⟨D, C, c, n, rfl, _⟩ := h
    rfl
  · obtain ⟨D, C, c, n, rfl, n1, n8, dk, hc, q⟩ := h
    refine ⟨_, (pss_cons (ps_set (i := 2) sc_l_stalls.nd rfl (by first | exact Or.inl rfl | exact Or.inr rfl) (pe_lst pa_nil))
      (pss_cons (ps_if (pt_cmpR op_gt (pv 1) pe_int (nomark _))
        (pss_one (ps_for PassesOwn.never rfl (pi_range1 (by rfl) T.z_range (pa_cons (pe_call G_l_pick (hr.mono (by decide)) (by rfl) T.g_l_pick T.k_l_pick T.b_l_pick .nil pass0 (pa_cons (pv 0) (pa_cons (pe_ix ix_list (pe_lst (pa_cons pe_int (pa_cons pe_int pa_nil))) (pe_callTy call_intN (by rfl) T.z_int (by decide +kernel) (pa_cons (pe_cmpR op_eq (pe_call G_l_pick (hr.mono (by decide)) (by rfl) T.g_l_pick T.k_l_pick T.b_l_pick .nil pass0 (pa_cons (pv 0) (pa_cons pe_int pa_nil))) pe_int (nomark _)) pa_nil)) (fun _ _ => rfl)) pa_nil))) pa_nil)) (pg_name (i := 3) sc_l_stalls.nd rfl (by first | exact Or.inl rfl | exact Or.inr rfl))
            (pss_one (ps_if (PW.pt (pw_and (pt_cmpR op_gt (pe_callB call_lenN (by rfl) T.z_len (by decide +kernel) (pa_cons (pv 2) pa_nil)) pe_int (nomark _)) (pw_and1 (pt_cmpR op_eq (pe_call G_l_pick (hr.mono (by decide)) (by rfl) T.g_l_pick T.k_l_pick T.b_l_pick .nil pass0 (pa_cons (pv 0) (pa_cons pe_int pa_nil))) pe_int (nomark _)))))
                (pss_one (ps_expr (pe_bm PySem.F.plainAttrs_list PySem.F.slot_list_append PySem.F.type_list_append mt_append (pv 2) (pa_cons (pe_ix ix_list (pv 2) (pe_call G_l_pick (hr.mono (by decide)) (by rfl) T.g_l_pick T.k_l_pick T.b_l_pick .nil pass0 (pa_cons (pv 0) (pa_cons (pe_callB call_lenN (by rfl) T.z_len (by decide +kernel) (pa_cons (pv 2) pa_nil)) pa_nil))) (fun _ _ => rfl)) pa_nil))))
                (pss_one (ps_expr (pe_bm PySem.F.plainAttrs_list PySem.F.slot_list_append PySem.F.type_list_append mt_append (pv 2) (pa_cons (pe_call G_l_stall (hr.mono (by decide)) (by rfl) T.g_l_stall T.k_l_stall T.b_l_stall .nil pass0 (pa_cons (pv 0) (pa_cons (pv 1) pa_nil))) pa_nil))))))))
        pss_nil)
      (pss_one (ps_ret (pv 2))))), ?_⟩
    walk_at "r"
    intro S nS
    have hSD := dk.ne nS
    have hSC := dk.neC nS
    have s0 := same_upd (o := .lst ([] : List V)) nS
    have dk0 := dk.same s0
    have hS0 : upd H S (.lst []) S = some (.lst []) := upd_same
    generalize upd H S (.lst []) = H0 at *
    by_cases c1 : (n : Int) > 1
    · walk_at "r"
      intro l5 nl5
      have s7 := same_upd (o := .lst [V.int 5, V.int 17]) nl5
      have hl5 : upd H0 l5 (.lst [V.int 5, V.int 17]) l5 = some (.lst [V.int 5, V.int 17]) := upd_same
      have hl5D := dk0.ne nl5
      generalize upd H0 l5 (.lst [V.int 5, V.int 17]) = H7 at *
      have k7 := dk0.same s7
      have hS7 := s7 _ _ hS0
      walk_at "r"
      refine ⟨_, _, _, _, rfl, ⟨by decide, by decide⟩, k7, by omega, fun H8 r8 w8 k8 a8 b8 => ?_⟩
      walk_at "r"
      generalize decide (r8 = 3) = fl
      obtain ⟨z, hz, ez⟩ := flag_at fl
      refine rd_ixL (w8 _ _ hl5D hl5) ez ?_
      walk_at "r"
      refine ⟨_, _, z, _, rfl, ⟨by omega, by omega⟩, k8, by omega, fun H9 r9 w9 k9 a9 b9 => ?_⟩
      have f9 := (((Same.fw (D := D) s0).trans (Same.fw s7)).trans w8).trans w9
      have hS9 := w9 _ _ hSD (w8 _ _ hSD hS7)
      walk_at "r"
      refine ⟨by omega, by omega, ?_⟩
      refine for_range (lo := 0) (n := r9.toNat) (fun i σ H' => ∃ (t3 : Option V) (xs : List V) (ss : List Stl), σ = [some (.ref D), some (.int (n : Nat)), some (.ref S), t3] ∧ Fw D H H' ∧ Deck M D C H' (c + 2 + 10 * i) ∧ H' S = some (.lst xs) ∧ Sts K H' xs ss ∧ ss.length = i ∧ ∀ s ∈ ss, OkSt n s ∧ BdSt 40 s ∧ Bd 20 s.r) ?_ ?_ ?_
      · exact ⟨_, [], [], rfl, f9, k9, hS9, .nil, rfl, by simp⟩
      · rintro i σ H2 hi ⟨t3, xs, ss, rfl, f2, k2, hS2, hst, hli, hok⟩
        have hi : i < 16 := by omega
        have hlx := hst.len
        walk_at "r"
        have more : ∀ (H3 : Hp) (c3 : Nat), Fw D H H3 → Deck M D C H3 c3 → c3 ≤ c + 9 + 10 * i → H3 S = some (.lst xs) → Sts K H3 xs ss → ∀ (H4 : Hp) (v : V) (s : Stl), Fw D H3 H4 → Deck M D C H4 (c + 2 + 10 * (i + 1)) → IsSt K H4 v s → OkSt n s → BdSt 40 s → Bd 20 s.r →
            ∃ xs', H4 S = some (.lst xs') ∧ xs'.length = i ∧ Fw D H (upd H4 S (.lst (xs' ++ [v]))) ∧ Deck M D C (upd H4 S (.lst (xs' ++ [v]))) (c + 2 + 10 * (i + 1)) ∧ Sts K (upd H4 S (.lst (xs' ++ [v]))) (xs' ++ [v]) (ss ++ [s]) := by
          intro H3 c3 f3 k3 _ hS3 hst3 H4 v s w4 k4 iv _ _ _
          have hS4 := w4 _ _ hSD hS3
          have tp := tps_put (H1 := H4) (o := .lst (xs ++ [v])) hS4
          exact ⟨xs, hS4, by omega, fun b o hb h => (upd_ne (ne_of_none h nS)).trans (w4 _ _ hb (f3 _ _ hb h)), k4.put hSD hSC, ((hst3.ts (w4.ts k3)).snoc iv).ts tp⟩
        walk_at "if"
        · rename_i hp
          walk_at "r"
          refine ⟨_, _, _, _, rfl, ⟨by decide, by decide⟩, k2, by omega, fun H3 r3 w3 k3 a3 b3 => ?_⟩
          have f3 := f2.trans w3
          have hS3 := w3 _ _ hSD hS2
          have hst3 := hst.ts (w3.ts k2)
          walk_at "r"
          walk_at "if"
          · walk_at "r"
            refine ⟨Or.inl ⟨rfl, _, Or.inl (Or.inl hS3)⟩, ?_⟩
            walk_at "r"
            refine ⟨_, _, _, _, rfl, ⟨by omega, by omega⟩, k3, by omega, fun H4 r4 w4 k4 a4 b4 => ?_⟩
            have hS4 := w4 _ _ hSD hS3
            obtain ⟨j, rfl⟩ := Int.eq_ofNat_of_zero_le a4
            have hj : j < ss.length := by omega
            obtain ⟨s, hs⟩ : ∃ s, ss[j]? = some s := ⟨_, List.getElem?_eq_getElem hj⟩
            have hst4 := hst3.ts (w4.ts k3)
            obtain ⟨zz, hzz, izz⟩ := hst4.get hs
            obtain ⟨o1, o2, o3⟩ := hok s (List.mem_of_getElem? hs)
            refine rd_ixL hS4 (at_some hzz) ?_
            obtain ⟨xs', g1, g2, g3, g4, g5⟩ := more H4 _ (f3.trans w4) k4 (by omega) hS4 hst4 H4 zz s (Fw.refl _ _) (k4.mono (by omega)) izz o1 o2 o3
            walk_at "r"
            refine ⟨S, xs', _, rfl, rfl, g1, small1000 (by omega), ?_⟩
            refine ⟨_, _, ss ++ [s], rfl, g3, g4, upd_same, g5, by simp [hli], fun t ht => ?_⟩
            rcases List.mem_append.mp ht with h | h
            · exact hok t h
            · rw [List.mem_singleton.mp h]
              exact ⟨o1, o2, o3⟩
          · walk_at "r"
            refine ⟨Or.inl ⟨rfl, _, Or.inl (Or.inl hS3)⟩, ?_⟩
            walk_at "r"
            refine ⟨_, _, _, n, rfl, by omega, n8, k3, by omega, fun H4 v s w4 k4 iv o1 o2 o3 => ?_⟩
            obtain ⟨xs', g1, g2, g3, g4, g5⟩ := more H3 _ f3 k3 (by omega) hS3 hst3 H4 v s w4 (k4.mono (by omega)) iv o1 o2 o3
            refine ⟨S, xs', _, rfl, rfl, g1, small1000 (by omega), ?_⟩
            refine ⟨_, _, ss ++ [s], rfl, g3, g4, upd_same, g5, by simp [hli], fun t ht => ?_⟩
            rcases List.mem_append.mp ht with h | h
            · exact hok t h
            · rw [List.mem_singleton.mp h]
              exact ⟨o1, o2, o3⟩
        · walk_at "r"
          refine ⟨Or.inl ⟨rfl, _, Or.inl (Or.inl hS2)⟩, ?_⟩
          walk_at "r"
          refine ⟨_, _, _, n, rfl, by omega, n8, k2, by omega, fun H4 v s w4 k4 iv o1 o2 o3 => ?_⟩
          obtain ⟨xs', g1, g2, g3, g4, g5⟩ := more H2 _ f2 k2 (by omega) hS2 hst H4 v s w4 (k4.mono (by omega)) iv o1 o2 o3
          refine ⟨S, xs', _, rfl, rfl, g1, small1000 (by omega), ?_⟩
          refine ⟨_, _, ss ++ [s], rfl, g3, g4, upd_same, g5, by simp [hli], fun t ht => ?_⟩
          rcases List.mem_append.mp ht with h | h
          · exact hok t h
          · rw [List.mem_singleton.mp h]
            exact ⟨o1, o2, o3⟩
      · rintro σ H2 ⟨t3, xs, ss, rfl, f2, k2, hS2, hst, hli, hok⟩
        walk_at "r"
        exact q _ _ xs ss f2 (k2.mono (by omega)) hSD hS2 hst (by omega) hok
    · walk_at "r"
      exact q _ _ [] [] (Same.fw s0) (dk0.mono (by omega)) hSD hS0 .nil (by simp) (by simp)
end
end My
namespace My
open PySem PySem.Spec PyProof.Rows L2
variable {K : PySem.W.Frag}
theorem upTo_fm {α β : Type} (l : List α) (g : α → Option β) : upTo (fun i => (l[i]?).bind g) l.length = l.filterMap g := upTo_bind g l
theorem IsRt.row {H : Hp} {v : V} {rss : List (List Rat)} (h : IsRt K H v rss) : ∃ t ys, v = .ref t ∧ H t = some (.tup ys) ∧ Paired (IsFs K H) ys rss := h
theorem neRt {H : Hp} {v u : V} {rss : List (List Rat)} {Q : VK} (h1 : IsRt K H v rss) (h2 : IsRt K H u rss) (q : Q (.bl false) H) : rNeD K v u H Q := by
  have sh : SeqAt.shaped (.tuple (rss.map fun rs => PyData.tuple (rs.map frD))) = true := by
    obtain ⟨g1, g2⟩ := all_lay3 (fun rs => PyData.tuple (rs.map frD)) (fun rs => by
      obtain ⟨f1, f2⟩ := all_lay frD (fun m => ⟨rfl, Nat.le_succ 1⟩) rs
      refine ⟨f1, ?_⟩
      show PyData.depthAll (rs.map frD) + 1 ≤ 3
      omega) rss
    unfold SeqAt.shaped
    rw [Bool.and_eq_true]
    refine ⟨g1, decide_eq_true ?_⟩
    show PyData.depthAll _ + 1 ≤ 64
    omega
  refine ⟨_, _, h1.dp, h2.dp, sh, sh, ?_⟩
  rw [rt_refl]
  exact q
def ptD (p : Nat × Nat) : PyData := .tuple [.int (p.1 : Nat), .int (p.2 : Nat)]
theorem ptD_eqv (p q : Nat × Nat) : PyData.eqv (ptD p) (ptD q) = decide (p = q) := by
  have e : PyData.eqv (ptD p) (ptD q) = (decide ((p.1 : Int) = q.1) && decide ((p.2 : Int) = q.2)) := by
    simp only [ptD, PyData.eqv, PyData.eqvAll, Bool.and_true, Bool.beq_eq_decide_eq]
  rw [e, Bool.eq_iff_iff]
  simp only [Bool.and_eq_true, decide_eq_true_eq]
  obtain ⟨a, b⟩ := p
  obtain ⟨c, d⟩ := q
  simp only [Prod.mk.injEq]
  omega
theorem in_two (s : Stl) (a b : Nat) : ([ptD (a, b), ptD (b, a)].any fun z => PyData.eqv z (ptD (s.u, s.v))) = btwn s a b := by
  rw [List.any_cons, List.any_cons, List.any_nil, ptD_eqv, ptD_eqv, Bool.or_false]
  unfold btwn
  rw [Bool.eq_iff_iff]
  simp only [Bool.or_eq_true, decide_eq_true_eq, Prod.mk.injEq]
  constructor
  · rintro (h | h)
    · exact .inl ⟨h.1.symm, h.2.symm⟩
    · exact .inr ⟨h.1.symm, h.2.symm⟩
  · rintro (h | h)
    · exact .inl ⟨h.1.symm, h.2.symm⟩
    · exact .inr ⟨h.1.symm, h.2.symm⟩
theorem ptD_dp {H : Hp} {p : Addr} {a b : Nat} (h : H p = some (.tup [V.int (a : Nat), .int (b : Nat)])) : Dp K H (.ref p) (ptD (a, b)) := .tup (.of h) (.cons (.int _) (.cons (.int _) .nil))
def isD (ns : List Int) : PyData := .tuple (ns.map PyData.int)
theorem isD_dpA {H : Hp} : ∀ ns : List Int, DpAll K H (ns.map V.int) (ns.map PyData.int)
  | [] => .nil
  | n :: ns => .cons (.int n) (isD_dpA ns)
theorem isD_dp {H : Hp} {p : Addr} {ns : List Int} (h : H p = some (.tup (ns.map V.int))) : Dp K H (.ref p) (isD ns) := .tup (.of h) (isD_dpA ns)
theorem isD_refl (ns : List Int) : PyData.eqv (isD ns) (isD ns) = true := all_refl PyData.int (fun i => by simp [PyData.eqv]) ns
theorem isD_sh (ns : List Int) : SeqAt.shaped (isD ns) = true := shaped_tup PyData.int (fun i => ⟨rfl, Nat.zero_le 2⟩) ns
theorem neIs {H : Hp} {p q : Addr} {ns : List Int} {Q : VK} (h1 : H p = some (.tup (ns.map V.int))) (h2 : H q = some (.tup (ns.map V.int))) (k : Q (.bl false) H) : rNeD K (.ref p) (.ref q) H Q := by
  refine ⟨_, _, isD_dp h1, isD_dp h2, isD_sh ns, isD_sh ns, ?_⟩
  rw [isD_refl]
  exact k
section
variable {P : Program} {w : World} {K : PySem.W.Frag} {mg : Str → Option Value} {base : Heap} {f_is_integer f_is_row f_is_fraction f_is_some f_added f_multiplied f_squared f_summed f_is_stall f_is_ware f_check_ware f_across f_hold_of f_stalls_of f_kept_of f_held f_roots f_neighbours f_l_deck f_l_pick f_l_divisor f_l_made f_l_amount f_l_great f_l_great_stall f_l_stall f_l_stalls f_l_added f_l_held f_l_roots f_l_are_fractions f_l_is_refused f_l_is_well f_law f_Web_init f_Web_eq c_BadWare c_Web c_ZERO : Addr} {d_is_integer d_is_row d_is_fraction d_is_some d_added d_multiplied d_squared d_summed d_is_stall d_is_ware d_check_ware d_across d_hold_of d_stalls_of d_kept_of d_held d_roots d_neighbours d_l_deck d_l_pick d_l_divisor d_l_made d_l_amount d_l_great d_l_great_stall d_l_stall d_l_stalls d_l_added d_l_held d_l_roots d_l_are_fractions d_l_is_refused d_l_is_well d_law d_Web_init d_Web_eq : FuncData}
def sp_ladded (K : PySem.W.Frag) : Sp := fun vs H Q _ => ∃ (L : Addr) (ys : List V) (rs : List Rat) (M : Nat), vs = [.ref L] ∧ H L = some (.lst ys) ∧ Fs K H ys rs ∧ BR rs M ∧ M ≤ 1900 ∧ ∀ H' v, Same H H' → IsF K H' v (sumR rs) → Q v H'
theorem ok_l_addedL (T : Txt K mg f_is_integer f_is_row f_is_fraction f_is_some f_added f_multiplied f_squared f_summed f_is_stall f_is_ware f_check_ware f_across f_hold_of f_stalls_of f_kept_of f_held f_roots f_neighbours f_l_deck f_l_pick f_l_divisor f_l_made f_l_amount f_l_great f_l_great_stall f_l_stall f_l_stalls f_l_added f_l_held f_l_roots f_l_are_fractions f_l_is_refused f_l_is_well f_law f_Web_init f_Web_eq c_BadWare c_Web c_ZERO d_is_integer d_is_row d_is_fraction d_is_some d_added d_multiplied d_squared d_summed d_is_stall d_is_ware d_check_ware d_across d_hold_of d_stalls_of d_kept_of d_held d_roots d_neighbours d_l_deck d_l_pick d_l_divisor d_l_made d_l_amount d_l_great d_l_great_stall d_l_stall d_l_stalls d_l_added d_l_held d_l_roots d_l_are_fractions d_l_is_refused d_l_is_well d_law d_Web_init d_Web_eq) : FnOk P w K mg base CX0 2 f_l_added d_l_added ["_law_amounts"] (sp_ladded K) := by
  have G_l_divisor : FnOk P w K mg base CX0 1 f_l_divisor d_l_divisor ["_law_one", "_law_other"] sp_divisor := ok_l_divisor T
  refine T.F_l_added.ok sc_l_added (fun vs H Q E h => ?_) (fun cdv A outer s H vs Q E hr h => ?_)
  · obtain ⟨L, ys, rs, M, rfl, _⟩ := h
    rfl
  · obtain ⟨L, ys, rs, M, rfl, hL, hf, hb, hM, q⟩ := h
    have hl := hf.len
    refine ⟨_, (pss_cons (ps_set (i := 1) sc_l_added.nd rfl (by first | exact Or.inl rfl | exact Or.inr rfl) pe_int)
      (pss_cons (ps_set (i := 2) sc_l_added.nd rfl (by first | exact Or.inl rfl | exact Or.inr rfl) pe_int)
      (pss_cons (ps_for PassesOwn.never rfl (pi_list (pv 0)) (pg_name (i := 3) sc_l_added.nd rfl (by first | exact Or.inl rfl | exact Or.inr rfl))
        (pss_cons (ps_set (i := 1) sc_l_added.nd rfl (by first | exact Or.inl rfl | exact Or.inr rfl) (pe_op op_add (pe_op op_mulX (pv 1) (pe_ix ix_tup (pv 3) pe_int (fun _ _ => rfl))) (pe_op op_mulX (pe_ix ix_tup (pv 3) pe_int (fun _ _ => rfl)) (pv 2))))
          (pss_cons (ps_set (i := 2) sc_l_added.nd rfl (by first | exact Or.inl rfl | exact Or.inr rfl) (pe_op op_mulX (pv 2) (pe_ix ix_tup (pv 3) pe_int (fun _ _ => rfl))))
          (pss_cons (ps_set (i := 4) sc_l_added.nd rfl (by first | exact Or.inl rfl | exact Or.inr rfl) (pe_call G_l_divisor (hr.mono (by decide)) (by rfl) T.g_l_divisor T.k_l_divisor T.b_l_divisor .nil pass0 (pa_cons (pv 1) (pa_cons (pv 2) pa_nil))))
          (pss_cons (ps_set (i := 1) sc_l_added.nd rfl (by first | exact Or.inl rfl | exact Or.inr rfl) (pe_op op_fdivX (pv 1) (pv 4)))
          (pss_one (ps_set (i := 2) sc_l_added.nd rfl (by first | exact Or.inl rfl | exact Or.inr rfl) (pe_op op_fdivX (pv 2) (pv 4)))))))))
      (pss_one (ps_ret (pe_tup (pa_cons (pv 1) (pa_cons (pv 2) pa_nil)))))))), ?_⟩
    walk_at "r"
    refine ⟨⟨_, .of hL⟩, ?_⟩
    refine for_list (K := K) (a := L) (xs := ys) (fun i σ H' => ∃ (t3 t4 : Option V), σ = [some (.ref L), some (.int (sumR (rs.take i)).num), some (.int (sumR (rs.take i)).den), t3, t4] ∧ H' = H) ?_ ?_ ?_ ?_
    · exact ⟨_, _, rfl, rfl⟩
    · rintro i σ H' _ ⟨t3, t4, rfl, rfl⟩
      exact .of hL
    · rintro i x σ H' hx ⟨t3, t4, rfl, rfl⟩
      obtain ⟨r, hr', hxr⟩ := Paired.at hf hx
      have b1 : Bd 1900 (sumR (rs.take i)) := (hb.take i).sum.mono hM
      have b2 : Bd 1900 r := (hb.mem (List.mem_of_getElem? hr')).mono hM
      have es : sumR (rs.take (i + 1)) = sumR (rs.take i) + r := by rw [take_at hr', sumR_snoc]
      generalize sumR (rs.take i) = t at *
      obtain ⟨p, rfl, hp⟩ := id hxr
      have c1 : ((r.den : Int)).natAbs < 2 ^ 1900 := by rw [Int.natAbs_natCast]; exact b2.2
      have c2 : ((t.den : Int)).natAbs < 2 ^ 1900 := by rw [Int.natAbs_natCast]; exact b1.2
      have bd : ((t.den : Int) * r.den).natAbs < 2 ^ 8000 := Nat.lt_of_lt_of_le (mul_lt' c2 c1) (pow_le (by decide))
      have pd : (0 : Int) < (t.den : Int) * r.den := Int.mul_pos (den_pos t) (den_pos r)
      obtain ⟨m1, m2, m3⟩ := low_math (n := t.num * r.den + r.num * t.den) pd bd _ rfl
      rw [add_divInt] at m2 m3
      walk_at "r"
      · refine ⟨_, _, rfl, Nat.lt_of_lt_of_le bd (pow_le (by decide)), ?_⟩
        walk_at "r"
        · rw [es, ← m2, ← m3]
          exact ⟨_, _, rfl, rfl⟩
        all_goals exact m1 _
      · exact cmx (p20k c2) (p20k c1)
      · exact cmx (p20k b2.1) (p20k c2)
      · exact cmx (p20k b1.1) (p20k c1)
    · rintro σ H' ⟨t3, t4, rfl, rfl⟩
      rw [hl, List.take_length]
      walk_at "r"
      intro p np
      exact q _ _ (same_upd np) (isF_new rfl rfl)
def sp_lheld7 (K : PySem.W.Frag) : Sp := fun vs H Q _ => ∃ (S : Addr) (n M : Nat) (xs : List V) (ss : List Stl), vs = [.int (n : Nat), .ref S] ∧ H S = some (.lst xs) ∧ Sts K H xs ss ∧ n ≤ 8 ∧ ss.length ≤ 16 ∧ (∀ s ∈ ss, OkSt n s) ∧ BL ss M ∧ M ≤ 1900 ∧ ∀ H' v, Same H H' → IsFs K H' v (heldAll n ss) → Q v H'
theorem ok_l_held (T : Txt K mg f_is_integer f_is_row f_is_fraction f_is_some f_added f_multiplied f_squared f_summed f_is_stall f_is_ware f_check_ware f_across f_hold_of f_stalls_of f_kept_of f_held f_roots f_neighbours f_l_deck f_l_pick f_l_divisor f_l_made f_l_amount f_l_great f_l_great_stall f_l_stall f_l_stalls f_l_added f_l_held f_l_roots f_l_are_fractions f_l_is_refused f_l_is_well f_law f_Web_init f_Web_eq c_BadWare c_Web c_ZERO d_is_integer d_is_row d_is_fraction d_is_some d_added d_multiplied d_squared d_summed d_is_stall d_is_ware d_check_ware d_across d_hold_of d_stalls_of d_kept_of d_held d_roots d_neighbours d_l_deck d_l_pick d_l_divisor d_l_made d_l_amount d_l_great d_l_great_stall d_l_stall d_l_stalls d_l_added d_l_held d_l_roots d_l_are_fractions d_l_is_refused d_l_is_well d_law d_Web_init d_Web_eq) : FnOk P w K mg base CX0 3 f_l_held d_l_held ["_law_wares", "_law_stalls_here"] (sp_lheld7 K) := by
  have G_l_added : FnOk P w K mg base CX0 2 f_l_added d_l_added ["_law_amounts"] (sp_ladded K) := ok_l_addedL T
  refine T.F_l_held.ok sc_l_held (fun vs H Q E h => ?_) (fun cdv A outer s H vs Q E hr h => ?_)
  · obtain ⟨S, n, M, xs, ss, rfl, _⟩ := h
    rfl
  · obtain ⟨S, n, M, xs, ss, rfl, hS, hst, n8, l16, ok, hb, hM, q⟩ := h
    have hlx := hst.len
    refine ⟨_, (pss_cons (ps_set (i := 2) sc_l_held.nd rfl (by first | exact Or.inl rfl | exact Or.inr rfl) (pe_lst pa_nil))
      (pss_cons (ps_for PassesOwn.never rfl (pi_range1 (by rfl) T.z_range (pa_cons (pv 0) pa_nil)) (pg_name (i := 3) sc_l_held.nd rfl (by first | exact Or.inl rfl | exact Or.inr rfl))
        (pss_cons (ps_set (i := 4) sc_l_held.nd rfl (by first | exact Or.inl rfl | exact Or.inr rfl) (pe_op op_cat (pe_lc (own := [("_law_stall_here", 5)]) (g := gName 5) rfl sc_l_held.nd (pi_list (pv 1)) (blkOk_by (own := [("_law_stall_here", 5)]) (N := N_l_held) (sc := defScope s_l_held) (by decide +kernel)) (fun _ _ _ _ _ => (pg_name (i := 5) sc_l_held.nd rfl (by first | exact Or.inl rfl | exact Or.inr rfl))) (fun _ _ _ _ _ => (pts_one (pt_cmpR op_eq (pe_ix (My.ix_tupK (K := K) (by rfl)) (pv 5) pe_int (fun _ _ => rfl)) (pv 3) (nomark _)))) (fun _ _ _ _ _ => (pe_ix (My.ix_tupK (K := K) (by rfl)) (pv 5) pe_int (fun _ _ => rfl)))) (pe_lc (own := [("_law_stall_here", 5)]) (g := gName 5) rfl sc_l_held.nd (pi_list (pv 1)) (blkOk_by (own := [("_law_stall_here", 5)]) (N := N_l_held) (sc := defScope s_l_held) (by decide +kernel)) (fun _ _ _ _ _ => (pg_name (i := 5) sc_l_held.nd rfl (by first | exact Or.inl rfl | exact Or.inr rfl))) (fun _ _ _ _ _ => (pts_one (pt_cmpR op_eq (pe_ix (My.ix_tupK (K := K) (by rfl)) (pv 5) pe_int (fun _ _ => rfl)) (pv 3) (nomark _)))) (fun _ _ _ _ _ => (pe_ix (My.ix_tupK (K := K) (by rfl)) (pv 5) pe_int (fun _ _ => rfl))))))
          (pss_one (ps_expr (pe_bm PySem.F.plainAttrs_list PySem.F.slot_list_append PySem.F.type_list_append mt_append (pv 2) (pa_cons (pe_call G_l_added (hr.mono (by decide)) (by rfl) T.g_l_added T.k_l_added T.b_l_added .nil pass0 (pa_cons (pv 4) pa_nil)) pa_nil))))))
      (pss_one (ps_ret (pe_callTy call_tuple_of (by rfl) T.z_tuple (by decide +kernel) (pa_cons (pv 2) pa_nil)))))), ?_⟩
    walk_at "r"
    intro L nL
    have s0 := same_upd (o := .lst ([] : List V)) nL
    have hL0 : upd H L (.lst []) L = some (.lst []) := upd_same
    generalize upd H L (.lst []) = H0 at *
    walk_at "r"
    refine ⟨by omega, by omega, ?_⟩
    refine for_range (lo := 0) (n := n) (fun i σ H' => ∃ (t3 t4 t5 : Option V) (ys : List V), σ = [some (.int (n : Nat)), some (.ref S), some (.ref L), t3, t4, t5] ∧ Same H H' ∧ H' L = some (.lst ys) ∧ Fs K H' ys ((List.range i).map (heldAt ss))) ?_ ?_ ?_
    · exact ⟨_, _, _, [], rfl, s0, hL0, .nil⟩
    · rintro i σ H1 hi ⟨t3, t4, t5, ys, rfl, s1, hL1, hf1⟩
      rw [Int.zero_add]
      have hly := hf1.len
      walk_at "r"
      refine ⟨⟨_, .of (s1 _ _ hS)⟩, fun A1 nA => ?_⟩
      refine lc_listP (R := IsF K) (fun _ _ _ _ f h => h.ts f) (f := fun j => (ss[j]?).bind fun s => if s.u = i then some s.a else none) nA (by omega) (.of (s1 _ _ hS)) (fun j x hx H' Q' N' s2 hy hn => ?_) fun H2 hl2 => ?_
      · obtain ⟨st, hs, hst2⟩ := hst.at hx
        obtain ⟨p, va, vb, vr, rfl, hp, ia, ib, ir⟩ := (hst2.same s1).same s2
        walk_at "r"
        refine ⟨rfl, ?_⟩
        walk_at "r"
        by_cases c : st.u = i
        · have c' : ((st.u : Nat) : Int) = (i : Nat) := by omega
          walk_at "r"
          exact hy st.a _ _ (by simp [hs, c]) (Same.refl _) ia
        · have c' : ¬ ((st.u : Nat) : Int) = (i : Nat) := by omega
          walk_at "r"
          exact hn _ (by simp [hs, c]) (Same.refl _)
      obtain ⟨s2, y2, hA2, hy2⟩ := hl2
      rw [hlx, upTo_fm] at hy2
      have k2 := s1.trans s2
      have hly2 := Paired.length hy2
      walk_at "r"
      refine ⟨⟨_, .of (k2 _ _ hS)⟩, fun A2 nA2 => ?_⟩
      refine lc_listP (R := IsF K) (fun _ _ _ _ f h => h.ts f) (f := fun j => (ss[j]?).bind fun s => if s.v = i then some s.b else none) nA2 (by omega) (.of (k2 _ _ hS)) (fun j x hx H' Q' N' s3 hy hn => ?_) fun H3 hl3 => ?_
      · obtain ⟨st, hs, hst2⟩ := hst.at hx
        obtain ⟨p, va, vb, vr, rfl, hp, ia, ib, ir⟩ := (hst2.same k2).same s3
        walk_at "r"
        refine ⟨rfl, ?_⟩
        walk_at "r"
        by_cases c : st.v = i
        · have c' : ((st.v : Nat) : Int) = (i : Nat) := by omega
          walk_at "r"
          exact hy st.b _ _ (by simp [hs, c]) (Same.refl _) ib
        · have c' : ¬ ((st.v : Nat) : Int) = (i : Nat) := by omega
          walk_at "r"
          exact hn _ (by simp [hs, c]) (Same.refl _)
      obtain ⟨s3, y3, hA3, hy3⟩ := hl3
      rw [hlx, upTo_fm] at hy3
      have k3 := k2.trans s3
      have hly3 := Paired.length hy3
      have f2 := List.length_filterMap_le (fun s : Stl => if s.u = i then some s.a else none) ss
      have f3 := List.length_filterMap_le (fun s : Stl => if s.v = i then some s.b else none) ss
      refine ⟨A1, A2, y2, y3, rfl, rfl, s3 _ _ hA2, hA3, Nat.le_of_lt (small1000 (by omega)), fun A4 nA4 => ?_⟩
      have s4 := same_upd (o := .lst (y2 ++ y3)) nA4
      have hA4 : upd H3 A4 (.lst (y2 ++ y3)) A4 = some (.lst (y2 ++ y3)) := upd_same
      have fs4 : Fs K (upd H3 A4 (.lst (y2 ++ y3))) (y2 ++ y3) (mineA ss i ++ mineB ss i) := paired_app (Paired.mapP hy2 fun _ _ h => (h.same s3).same s4) (Paired.mapP hy3 fun _ _ h => h.same s4)
      generalize upd H3 A4 (.lst (y2 ++ y3)) = H4 at *
      have k4 := k3.trans s4
      have k14 := (s2.trans s3).trans s4
      have hL4 := k14 _ _ hL1
      walk_at "r"
      refine ⟨Or.inl ⟨rfl, _, Or.inl (Or.inl hL4)⟩, ?_⟩
      walk_at "r"
      refine ⟨A4, _, _, M, rfl, hA4, fs4, br_mine hb ok i, hM, fun H5 v5 s5 h5 => ?_⟩
      rw [mine_held ok] at h5
      have hL5 := s5 _ _ hL4
      have tp := tps_put (H1 := H5) (o := .lst (ys ++ [v5])) hL5
      refine ⟨L, ys, _, rfl, rfl, hL5, small1000 (by
        rw [hly]
        simp
        omega), ?_⟩
      refine ⟨_, _, _, ys ++ [v5], rfl, same_put nL (k4.trans s5), upd_same, ?_⟩
      rw [List.range_succ, List.map_append]
      exact Paired.snoc (Paired.mapP hf1 fun _ _ h => ((h.same k14).same s5).ts tp) (h5.ts tp)
    · rintro σ H1 ⟨t3, t4, t5, ys, rfl, s1, hL1, hf1⟩
      walk_at "r"
      refine ⟨_, _, rfl, .inl ⟨.of hL1, fun l nl => ?_⟩⟩
      have sl := same_upd (o := .tup ys) nl
      exact q _ _ (s1.trans sl) ⟨l, ys, rfl, upd_same, Fs.same sl hf1⟩
def sp_lroots7 (K : PySem.W.Frag) : Sp := fun vs H Q _ => ∃ (S : Addr) (n M : Nat) (xs : List V) (ss : List Stl), vs = [.int (n : Nat), .ref S] ∧ H S = some (.lst xs) ∧ Sts K H xs ss ∧ n ≤ 8 ∧ ss.length ≤ 16 ∧ BL ss M ∧ M ≤ 1900 ∧ ∀ H' v, Same H H' → IsRt K H' v (rootsBy n ss) → Q v H'
theorem ok_l_roots (T : Txt K mg f_is_integer f_is_row f_is_fraction f_is_some f_added f_multiplied f_squared f_summed f_is_stall f_is_ware f_check_ware f_across f_hold_of f_stalls_of f_kept_of f_held f_roots f_neighbours f_l_deck f_l_pick f_l_divisor f_l_made f_l_amount f_l_great f_l_great_stall f_l_stall f_l_stalls f_l_added f_l_held f_l_roots f_l_are_fractions f_l_is_refused f_l_is_well f_law f_Web_init f_Web_eq c_BadWare c_Web c_ZERO d_is_integer d_is_row d_is_fraction d_is_some d_added d_multiplied d_squared d_summed d_is_stall d_is_ware d_check_ware d_across d_hold_of d_stalls_of d_kept_of d_held d_roots d_neighbours d_l_deck d_l_pick d_l_divisor d_l_made d_l_amount d_l_great d_l_great_stall d_l_stall d_l_stalls d_l_added d_l_held d_l_roots d_l_are_fractions d_l_is_refused d_l_is_well d_law d_Web_init d_Web_eq) : FnOk P w K mg base CX0 3 f_l_roots d_l_roots ["_law_wares", "_law_stalls_here"] (sp_lroots7 K) := by
  have G_l_added : FnOk P w K mg base CX0 2 f_l_added d_l_added ["_law_amounts"] (sp_ladded K) := ok_l_addedL T
  refine T.F_l_roots.ok sc_l_roots (fun vs H Q E h => ?_) (fun cdv A outer s H vs Q E hr h => ?_)
  · obtain ⟨S, n, M, xs, ss, rfl, _⟩ := h
    rfl
  · obtain ⟨S, n, M, xs, ss, rfl, hS, hst, n8, l16, hb, hM, q⟩ := h
    have hlx := hst.len
    refine ⟨_, (pss_cons (ps_set (i := 2) sc_l_roots.nd rfl (by first | exact Or.inl rfl | exact Or.inr rfl) (pe_lst pa_nil))
      (pss_cons (ps_for PassesOwn.never rfl (pi_range1 (by rfl) T.z_range (pa_cons (pv 0) pa_nil)) (pg_name (i := 3) sc_l_roots.nd rfl (by first | exact Or.inl rfl | exact Or.inr rfl))
        (pss_cons (ps_set (i := 4) sc_l_roots.nd rfl (by first | exact Or.inl rfl | exact Or.inr rfl) (pe_lst pa_nil))
          (pss_cons (ps_for PassesOwn.never rfl (pi_range1 (by rfl) T.z_range (pa_cons (pv 0) pa_nil)) (pg_name (i := 5) sc_l_roots.nd rfl (by first | exact Or.inl rfl | exact Or.inr rfl))
            (pss_one (ps_expr (pe_bm PySem.F.plainAttrs_list PySem.F.slot_list_append PySem.F.type_list_append mt_append (pv 4) (pa_cons (pe_call G_l_added (hr.mono (by decide)) (by rfl) T.g_l_added T.k_l_added T.b_l_added .nil pass0 (pa_cons (pe_lc (own := [("_law_stall_here", 6)]) (g := gName 6) rfl sc_l_roots.nd (pi_list (pv 1)) (blkOk_by (own := [("_law_stall_here", 6)]) (N := N_l_roots) (sc := defScope s_l_roots) (by decide +kernel)) (fun _ _ _ _ _ => (pg_name (i := 6) sc_l_roots.nd rfl (by first | exact Or.inl rfl | exact Or.inr rfl))) (fun _ _ _ _ _ => (pts_one (pt_cmpR (My.op_inDTK (K := K) (by rfl) (My.room65 hr)) (pe_slice (My.sl_tupK (K := K) (by rfl)) (pv 6) po_none (po_some pe_int)) (pe_tup (pa_cons (pe_tup (pa_cons (pv 3) (pa_cons (pv 5) pa_nil))) (pa_cons (pe_tup (pa_cons (pv 5) (pa_cons (pv 3) pa_nil))) pa_nil))) (by rfl)))) (fun _ _ _ _ _ => (pe_ix (My.ix_tupK (K := K) (by rfl)) (pv 6) pe_int (fun _ _ => rfl)))) pa_nil)) pa_nil)))))
          (pss_one (ps_expr (pe_bm PySem.F.plainAttrs_list PySem.F.slot_list_append PySem.F.type_list_append mt_append (pv 2) (pa_cons (pe_callTy call_tuple_of (by rfl) T.z_tuple (by decide +kernel) (pa_cons (pv 4) pa_nil)) pa_nil)))))))
      (pss_one (ps_ret (pe_callTy call_tuple_of (by rfl) T.z_tuple (by decide +kernel) (pa_cons (pv 2) pa_nil)))))), ?_⟩
    walk_at "r"
    intro L nL
    have s0 := same_upd (o := .lst ([] : List V)) nL
    have hL0 : upd H L (.lst []) L = some (.lst []) := upd_same
    generalize upd H L (.lst []) = H0 at *
    walk_at "r"
    refine ⟨by omega, by omega, ?_⟩
    refine for_range (lo := 0) (n := n) (fun i σ H' => ∃ (t3 t4 t5 t6 : Option V) (ys : List V), σ = [some (.int (n : Nat)), some (.ref S), some (.ref L), t3, t4, t5, t6] ∧ Same H H' ∧ H' L = some (.lst ys) ∧ Paired (IsFs K H') ys ((List.range i).map fun a => (List.range n).map fun b => sumR (rl ss a b))) ?_ ?_ ?_
    · exact ⟨_, _, _, _, [], rfl, s0, hL0, .nil⟩
    · rintro i σ H1 hi ⟨t3, t4, t5, t6, ys, rfl, s1, hL1, hf1⟩
      rw [Int.zero_add]
      have hly := Paired.length hf1
      walk_at "r"
      intro R nR
      have s2 := same_upd (o := .lst ([] : List V)) nR
      have hR0 : upd H1 R (.lst []) R = some (.lst []) := upd_same
      generalize upd H1 R (.lst []) = H2 at *
      walk_at "r"
      refine ⟨by omega, by omega, ?_⟩
      refine for_range (lo := 0) (n := n) (fun j σ H' => ∃ (t5 t6 : Option V) (zs : List V), σ = [some (.int (n : Nat)), some (.ref S), some (.ref L), some (.int (i : Nat)), some (.ref R), t5, t6] ∧ Same H1 H' ∧ H' R = some (.lst zs) ∧ Fs K H' zs ((List.range j).map fun b => sumR (rl ss i b))) ?_ ?_ ?_
      · exact ⟨_, _, [], rfl, s2, hR0, .nil⟩
      · rintro j σ H3 hj ⟨t5, t6, zs, rfl, s3, hR3, hf3⟩
        rw [Int.zero_add]
        have hlz := hf3.len
        walk_at "r"
        refine ⟨Or.inl ⟨rfl, _, Or.inl (Or.inl hR3)⟩, ?_⟩
        have k3 := s1.trans s3
        walk_at "r"
        refine ⟨⟨_, .of (k3 _ _ hS)⟩, fun A1 nA => ?_⟩
        refine lc_listP (R := IsF K) (fun _ _ _ _ f h => h.ts f) (f := fun k => (ss[k]?).bind fun s => if btwn s i j = true then some s.r else none) nA (by omega) (.of (k3 _ _ hS)) (fun k x hx H' Q' N' s4 hy hn => ?_) fun H4 hl4 => ?_
        · obtain ⟨st, hs, hst2⟩ := hst.at hx
          obtain ⟨p, va, vb, vr, rfl, hp, ia, ib, ir⟩ := (hst2.same k3).same s4
          walk_at "r"
          refine ⟨rfl, ?_⟩
          walk_at "r"
          refine rd_slT hp (show ¬ (HT.sIx 5 0 none = 0 ∧ HT.sIx 5 5 (some 2) = 5) by decide) fun p1 H5 s5 h5 => ?_
          have h5 : H5 p1 = some (.tup [V.int (st.u : Nat), .int (st.v : Nat)]) := h5
          walk_at "r"
          intro p2 n2
          have s6 := same_upd (o := .tup [V.int (i : Nat), .int (j : Nat)]) n2
          have h6 : upd H5 p2 (.tup [V.int (i : Nat), .int (j : Nat)]) p2 = some (.tup [V.int (i : Nat), .int (j : Nat)]) := upd_same
          generalize upd H5 p2 (.tup [V.int (i : Nat), .int (j : Nat)]) = H6 at *
          walk_at "r"
          intro p3 n3
          have s7 := same_upd (o := .tup [V.int (j : Nat), .int (i : Nat)]) n3
          have h7 : upd H6 p3 (.tup [V.int (j : Nat), .int (i : Nat)]) p3 = some (.tup [V.int (j : Nat), .int (i : Nat)]) := upd_same
          generalize upd H6 p3 (.tup [V.int (j : Nat), .int (i : Nat)]) = H7 at *
          walk_at "r"
          intro p4 n4
          have s8 := same_upd (o := .tup [V.ref p2, .ref p3]) n4
          have h8 : upd H7 p4 (.tup [V.ref p2, .ref p3]) p4 = some (.tup [V.ref p2, .ref p3]) := upd_same
          generalize upd H7 p4 (.tup [V.ref p2, .ref p3]) = H8 at *
          have s68 := s7.trans s8
          have s58 := s6.trans s68
          refine ⟨ptD (st.u, st.v), [ptD (i, j), ptD (j, i)], ptD_dp (s58 _ _ h5), .tup (.of h8) (.cons (ptD_dp (s68 _ _ h6)) (.cons (ptD_dp (s8 _ _ h7)) .nil)), rfl, rfl, ?_⟩
          rw [in_two]
          have hp8 := s58 _ _ (s5 _ _ hp)
          have s48 := s5.trans s58
          refine ⟨_, rfl, ?_⟩
          cases c : btwn st i j
          · exact hn _ (by simp [hs, c]) s48
          · walk_at "r"
            exact hy st.r _ _ (by simp [hs, c]) s48 (ir.same s48)
        obtain ⟨s4, y4, hA4, hy4⟩ := hl4
        rw [hlx, upTo_fm] at hy4
        have hy4 : Fs K H4 y4 (rl ss i j) := hy4
        have hR4 := s4 _ _ hR3
        walk_at "r"
        refine ⟨A1, _, _, M, rfl, hA4, hy4, br_rl hb i j, hM, fun H5 v5 s5 h5 => ?_⟩
        have hR5 := s5 _ _ hR4
        have tp := tps_put (H1 := H5) (o := .lst (zs ++ [v5])) hR5
        refine ⟨R, zs, _, rfl, rfl, hR5, small1000 (by
          rw [hlz]
          simp
          omega), ?_⟩
        refine ⟨_, _, zs ++ [v5], rfl, same_put nR ((s3.trans s4).trans s5), upd_same, ?_⟩
        rw [List.range_succ, List.map_append]
        exact Paired.snoc (Paired.mapP hf3 fun _ _ h => ((h.same s4).same s5).ts tp) (h5.ts tp)
      · rintro σ H3 ⟨t5, t6, zs, rfl, s3, hR3, hf3⟩
        have hL3 := s3 _ _ hL1
        walk_at "r"
        refine ⟨Or.inl ⟨rfl, _, Or.inl (Or.inl hL3)⟩, ?_⟩
        walk_at "r"
        refine ⟨_, _, rfl, .inl ⟨.of hR3, fun l nl => ?_⟩⟩
        have sl := same_upd (o := .tup zs) nl
        have hL4 := sl _ _ hL3
        have tp := tps_put (H1 := upd H3 l (.tup zs)) (o := .lst (ys ++ [V.ref l])) hL4
        refine ⟨L, ys, _, rfl, rfl, hL4, small1000 (by
          rw [hly]
          simp
          omega), ?_⟩
        refine ⟨_, _, _, _, ys ++ [.ref l], rfl, same_put nL ((s1.trans s3).trans sl), upd_same, ?_⟩
        rw [List.range_succ, List.map_append]
        exact Paired.snoc (Paired.mapP hf1 fun _ _ h => ((h.same s3).same sl).ts tp) (IsFs.ts tp ⟨l, zs, rfl, upd_same, hf3.same sl⟩)
    · rintro σ H1 ⟨t3, t4, t5, t6, ys, rfl, s1, hL1, hf1⟩
      walk_at "r"
      refine ⟨_, _, rfl, .inl ⟨.of hL1, fun l nl => ?_⟩⟩
      have sl := same_upd (o := .tup ys) nl
      exact q _ _ (s1.trans sl) ⟨l, ys, rfl, upd_same, Paired.mapP hf1 fun _ _ h => h.same sl⟩
end
end My
namespace My
open PySem PySem.Spec PyProof.Rows L2
variable {K : PySem.W.Frag}
theorem any_false {α : Type} (l : List α) : (l.map fun _ => false).any id = false := by
  induction l with
  | nil => rfl
  | cons a l ih => rw [List.map_cons, List.any_cons, ih]; rfl
theorem ins_two {u v w : Nat} (h : u = w ∨ v = w) : inV (.int (w : Nat)) [V.int (u : Nat), .int (v : Nat)] = true := in_pair (h.imp Eq.symm Eq.symm)
section
variable {P : Program} {w : World} {K : PySem.W.Frag} {mg : Str → Option Value} {base : Heap} {f_is_integer f_is_row f_is_fraction f_is_some f_added f_multiplied f_squared f_summed f_is_stall f_is_ware f_check_ware f_across f_hold_of f_stalls_of f_kept_of f_held f_roots f_neighbours f_l_deck f_l_pick f_l_divisor f_l_made f_l_amount f_l_great f_l_great_stall f_l_stall f_l_stalls f_l_added f_l_held f_l_roots f_l_are_fractions f_l_is_refused f_l_is_well f_law f_Web_init f_Web_eq c_BadWare c_Web c_ZERO : Addr} {d_is_integer d_is_row d_is_fraction d_is_some d_added d_multiplied d_squared d_summed d_is_stall d_is_ware d_check_ware d_across d_hold_of d_stalls_of d_kept_of d_held d_roots d_neighbours d_l_deck d_l_pick d_l_divisor d_l_made d_l_amount d_l_great d_l_great_stall d_l_stall d_l_stalls d_l_added d_l_held d_l_roots d_l_are_fractions d_l_is_refused d_l_is_well d_law d_Web_init d_Web_eq : FuncData}
def sp_lfracs (K : PySem.W.Frag) : Sp := fun vs H Q _ => ∃ (x : V) (rs : List Rat), vs = [x] ∧ IsFs K H x rs ∧ Q (.bl true) H
theorem ok_l_are_fractions (T : Txt K mg f_is_integer f_is_row f_is_fraction f_is_some f_added f_multiplied f_squared f_summed f_is_stall f_is_ware f_check_ware f_across f_hold_of f_stalls_of f_kept_of f_held f_roots f_neighbours f_l_deck f_l_pick f_l_divisor f_l_made f_l_amount f_l_great f_l_great_stall f_l_stall f_l_stalls f_l_added f_l_held f_l_roots f_l_are_fractions f_l_is_refused f_l_is_well f_law f_Web_init f_Web_eq c_BadWare c_Web c_ZERO d_is_integer d_is_row d_is_fraction d_is_some d_added d_multiplied d_squared d_summed d_is_stall d_is_ware d_check_ware d_across d_hold_of d_stalls_of d_kept_of d_held d_roots d_neighbours d_l_deck d_l_pick d_l_divisor d_l_made d_l_amount d_l_great d_l_great_stall d_l_stall d_l_stalls d_l_added d_l_held d_l_roots d_l_are_fractions d_l_is_refused d_l_is_well d_law d_Web_init d_Web_eq) : FnOk P w K mg base CX0 1 f_l_are_fractions d_l_are_fractions ["_law_things"] (sp_lfracs K) := by
  refine T.F_l_are_fractions.ok sc_l_are_fractions (fun vs H Q E h => ?_) (fun cdv A outer s H vs Q E hr h => ?_)
  · obtain ⟨x, rs, rfl, _⟩ := h
    rfl
  · obtain ⟨x, rs, rfl, ⟨t, ys, rfl, ht, hf⟩, q⟩ := h
    refine ⟨_, (pss_cons (ps_if (pt_not (pt_val (pe_callB call_isi (by rfl) T.z_isinstance (by decide +kernel) (pa_cons (pv 0) (pa_cons (pe_bltn (v := .ty "tuple") (u := .type "tuple") (by rfl) T.z_tuple (by decide +kernel) rfl) pa_nil)))))
        (pss_one (ps_ret pe_bl))
        pss_nil)
      (pss_cons (ps_for PassesOwn.never rfl (pi_tup (pv 0)) (pg_name (i := 1) sc_l_are_fractions.nd rfl (by first | exact Or.inl rfl | exact Or.inr rfl))
        (pss_one (ps_if (PW.pt (pw_or (pt_not (pt_val (pe_callB call_isi (by rfl) T.z_isinstance (by decide +kernel) (pa_cons (pv 1) (pa_cons (pe_bltn (v := .ty "tuple") (u := .type "tuple") (by rfl) T.z_tuple (by decide +kernel) rfl) pa_nil))))) (pw_or (pt_cmpR op_ne (pe_callB call_lenN (by rfl) T.z_len (by decide +kernel) (pa_cons (pv 1) pa_nil)) pe_int (nomark _)) (pw_or (pt_val (pe_callB call_isi (by rfl) T.z_isinstance (by decide +kernel) (pa_cons (pe_ix ix_tup (pv 1) pe_int (fun _ _ => rfl)) (pa_cons (pe_bltn (v := .ty "bool") (u := .type "bool") (by rfl) T.z_bool (by decide +kernel) rfl) pa_nil)))) (pw_or1 (pt_val (pe_callB call_isi (by rfl) T.z_isinstance (by decide +kernel) (pa_cons (pe_ix ix_tup (pv 1) pe_int (fun _ _ => rfl)) (pa_cons (pe_bltn (v := .ty "bool") (u := .type "bool") (by rfl) T.z_bool (by decide +kernel) rfl) pa_nil)))))))))
            (pss_one (ps_ret pe_bl))
            pss_nil)))
      (pss_one (ps_ret pe_bl)))), ?_⟩
    walk_at "r"
    refine ⟨⟨_, .of ht⟩, ?_⟩
    refine for_tup (K := K) (a := t) (xs := ys) (fun i σ H' => ∃ (t1 : Option V), σ = [some (.ref t), t1] ∧ H' = H) ⟨_, rfl, rfl⟩ ?_ ?_ ?_
    · rintro i σ H' _ ⟨t1, rfl, rfl⟩
      exact .of ht
    · rintro i v σ H' hx ⟨t1, rfl, rfl⟩
      obtain ⟨r, hr1, p, rfl, hp⟩ := Paired.at hf hx
      walk_at "r"
      exact rfl
    · rintro σ H' ⟨t1, rfl, rfl⟩
      walk_at "r"
      exact q
def sp_lrefused7 (K : PySem.W.Frag) (C : Addr) : Sp := fun vs H Q _ => ∃ (x v : V) (n : Nat) (ss : List Stl), vs = [x, v] ∧ IsWeb K C H x n ss ∧ Wr K H n v false ∧ Q (.bl true) H
theorem ok_l_is_refused (T : Txt K mg f_is_integer f_is_row f_is_fraction f_is_some f_added f_multiplied f_squared f_summed f_is_stall f_is_ware f_check_ware f_across f_hold_of f_stalls_of f_kept_of f_held f_roots f_neighbours f_l_deck f_l_pick f_l_divisor f_l_made f_l_amount f_l_great f_l_great_stall f_l_stall f_l_stalls f_l_added f_l_held f_l_roots f_l_are_fractions f_l_is_refused f_l_is_well f_law f_Web_init f_Web_eq c_BadWare c_Web c_ZERO d_is_integer d_is_row d_is_fraction d_is_some d_added d_multiplied d_squared d_summed d_is_stall d_is_ware d_check_ware d_across d_hold_of d_stalls_of d_kept_of d_held d_roots d_neighbours d_l_deck d_l_pick d_l_divisor d_l_made d_l_amount d_l_great d_l_great_stall d_l_stall d_l_stalls d_l_added d_l_held d_l_roots d_l_are_fractions d_l_is_refused d_l_is_well d_law d_Web_init d_Web_eq) : FnOk P w K mg base CX0 5 f_l_is_refused d_l_is_refused ["_law_web", "_law_ware"] (sp_lrefused7 K c_Web) := by
  have G_neighbours : FnOk P w K mg base (L2.CX P w) 4 f_neighbours d_neighbours ["web", "ware"] (sp_check_wareB K c_Web c_BadWare) := ok_neighboursB T
  refine T.F_l_is_refused.ok sc_l_is_refused (fun vs H Q E h => ?_) (fun cdv A outer sh H vs Q E hr h => ?_)
  · obtain ⟨x, v, n, ss, rfl, _⟩ := h
    rfl
  · obtain ⟨x, v, n, ss, rfl, hw, hv, q⟩ := h
    refine ⟨_, (pss_cons (ps_set (i := 2) sc_l_is_refused.nd rfl (by first | exact Or.inl rfl | exact Or.inr rfl) pe_bl)
      (pss_cons (ps_try_only (Wout := fun _ _ _ _ => False) rfl rfl ⟨rfl, by decide, .inl T.c_BadWare.g⟩ takes0 (fun W pn xe tk _ =>
        (pss_one (ps_expr (pe_callS G_neighbours (hr.mono (by decide)) (by rfl) T.g_neighbours T.k_neighbours T.b_neighbours (fun σ => passAt tk σ) (pa_cons (pv 0) (pa_cons (pv 1) pa_nil))))))
        (fun a oe cls d pn hz hf =>
        (pss_one (ps_set (i := 2) sc_l_is_refused.nd rfl (by first | exact Or.inl rfl | exact Or.inr rfl) pe_bl))))
      (pss_one (ps_ret (pv 2))))), ?_⟩
    walk_at "r"
    refine ⟨x, v, n, ss, rfl, hw, hv, ?_⟩
    refine ⟨true, T.c_BadWare.te, fun _ a _ => ?_, fun q => Bool.noConfusion q⟩
    walk_at "r"
    exact q
def sp_lwell (K : PySem.W.Frag) (C : Addr) : Sp := fun vs H Q _ => ∃ (x : V) (S : Addr) (n R M : Nat) (xs : List V) (ss : List Stl), vs = [x, .int (n : Nat), .ref S] ∧ IsWeb K C H x n ss ∧ H S = some (.lst xs) ∧ Sts K H xs ss ∧ n ≤ 8 ∧ ss.length ≤ 16 ∧ (∀ s ∈ ss, OkSt n s ∧ Bd R s.r) ∧ BL ss M ∧ M ≤ 1900 ∧ (R + 1) * ss.length + 1 ≤ 3900 ∧
  ∀ H', Same H H' → Q (.bl true) H'
theorem ok_l_is_well (T : Txt K mg f_is_integer f_is_row f_is_fraction f_is_some f_added f_multiplied f_squared f_summed f_is_stall f_is_ware f_check_ware f_across f_hold_of f_stalls_of f_kept_of f_held f_roots f_neighbours f_l_deck f_l_pick f_l_divisor f_l_made f_l_amount f_l_great f_l_great_stall f_l_stall f_l_stalls f_l_added f_l_held f_l_roots f_l_are_fractions f_l_is_refused f_l_is_well f_law f_Web_init f_Web_eq c_BadWare c_Web c_ZERO d_is_integer d_is_row d_is_fraction d_is_some d_added d_multiplied d_squared d_summed d_is_stall d_is_ware d_check_ware d_across d_hold_of d_stalls_of d_kept_of d_held d_roots d_neighbours d_l_deck d_l_pick d_l_divisor d_l_made d_l_amount d_l_great d_l_great_stall d_l_stall d_l_stalls d_l_added d_l_held d_l_roots d_l_are_fractions d_l_is_refused d_l_is_well d_law d_Web_init d_Web_eq) : FnOk P w K mg base CX0 5 f_l_is_well d_l_is_well ["_law_web", "_law_wares", "_law_stalls_here"] (sp_lwell K c_Web) := by
  have G_l_roots : FnOk P w K mg base CX0 3 f_l_roots d_l_roots ["_law_wares", "_law_stalls_here"] (sp_lroots7 K) := ok_l_roots T
  have G_l_held : FnOk P w K mg base CX0 3 f_l_held d_l_held ["_law_wares", "_law_stalls_here"] (sp_lheld7 K) := ok_l_held T
  have G_l_are_fractions : FnOk P w K mg base CX0 1 f_l_are_fractions d_l_are_fractions ["_law_things"] (sp_lfracs K) := ok_l_are_fractions T
  have G_held : FnOk P w K mg base CX0 4 f_held d_held ["web"] (sp_held K c_Web) := ok_held T
  have G_roots : FnOk P w K mg base CX0 2 f_roots d_roots ["web"] (sp_roots K c_Web) := ok_roots T
  have G_neighbours : FnOk P w K mg base CX0 4 f_neighbours d_neighbours ["web", "ware"] (sp_neighbours K c_Web) := ok_neighbours T
  refine T.F_l_is_well.ok sc_l_is_well (fun vs H Q E h => ?_) (fun cdv A outer sh H vs Q E hr h => ?_)
  · obtain ⟨x, S, n, R, M, xs, ss, rfl, _⟩ := h
    rfl
  · obtain ⟨x, S, n, R, M, xs, ss, rfl, hw, hS, hst, n8, l16, hok, hb, hM, hR, q⟩ := h
    have ok : ∀ s ∈ ss, OkSt n s := fun s hs => (hok s hs).1
    refine ⟨_, (pss_cons (ps_set (i := 3) sc_l_is_well.nd rfl (by first | exact Or.inl rfl | exact Or.inr rfl) (pe_call G_l_roots (hr.mono (by decide)) (by rfl) T.g_l_roots T.k_l_roots T.b_l_roots .nil pass0 (pa_cons (pv 1) (pa_cons (pv 2) pa_nil))))
      (pss_cons (ps_set (i := 4) sc_l_is_well.nd rfl (by first | exact Or.inl rfl | exact Or.inr rfl) (pe_call G_held (hr.mono (by decide)) (by rfl) T.g_held T.k_held T.b_held .nil pass0 (pa_cons (pv 0) pa_nil)))
      (pss_cons (ps_set (i := 5) sc_l_is_well.nd rfl (by first | exact Or.inl rfl | exact Or.inr rfl) (pe_call G_roots (hr.mono (by decide)) (by rfl) T.g_roots T.k_roots T.b_roots .nil pass0 (pa_cons (pv 0) pa_nil)))
      (pss_cons (ps_if (PW.pt (pw_or (pt_not (pt_val (pe_call G_l_are_fractions (hr.mono (by decide)) (by rfl) T.g_l_are_fractions T.k_l_are_fractions T.b_l_are_fractions .nil pass0 (pa_cons (pv 4) pa_nil)))) (pw_or1 (pt_cmpR (op_neD hr.units) (pv 4) (pe_call G_l_held (hr.mono (by decide)) (by rfl) T.g_l_held T.k_l_held T.b_l_held .nil pass0 (pa_cons (pv 1) (pa_cons (pv 2) pa_nil))) (nomark _)))))
        (pss_one (ps_ret pe_bl))
        pss_nil)
      (pss_cons (ps_if (PW.pt (pw_or (pt_not (pt_val (pe_callB call_isi (by rfl) T.z_isinstance (by decide +kernel) (pa_cons (pv 5) (pa_cons (pe_bltn (v := .ty "tuple") (u := .type "tuple") (by rfl) T.z_tuple (by decide +kernel) rfl) pa_nil))))) (pw_or (pt_not (pt_val (pe_callB (cr_all rfl) (by rfl) T.z_all (by decide +kernel) (pa_cons (pe_lc (own := [("_law_row", 6)]) (g := gName 6) rfl sc_l_is_well.nd (pi_tup (pv 5)) (blkOk_by (own := [("_law_row", 6)]) (N := N_l_is_well) (sc := defScope s_l_is_well) (by decide +kernel)) (fun _ _ _ _ _ => (pg_name (i := 6) sc_l_is_well.nd rfl (by first | exact Or.inl rfl | exact Or.inr rfl))) (fun _ _ _ _ _ => pts_nil) (fun _ _ _ _ _ => (pe_call G_l_are_fractions (hr.mono (by decide)) (by rfl) T.g_l_are_fractions T.k_l_are_fractions T.b_l_are_fractions .nil pass0 (pa_cons (pv 6) pa_nil)))) pa_nil)))) (pw_or1 (pt_cmpR (op_neD hr.units) (pv 5) (pv 3) (nomark _))))))
        (pss_one (ps_ret pe_bl))
        pss_nil)
      (pss_cons (ps_for PassesOwn.never rfl (pi_range1 (by rfl) T.z_range (pa_cons (pv 1) pa_nil)) (pg_name (i := 7) sc_l_is_well.nd rfl (by first | exact Or.inl rfl | exact Or.inr rfl))
        (pss_cons (ps_set (i := 8) sc_l_is_well.nd rfl (by first | exact Or.inl rfl | exact Or.inr rfl) (pe_call G_neighbours (hr.mono (by decide)) (by rfl) T.g_neighbours T.k_neighbours T.b_neighbours .nil pass0 (pa_cons (pv 0) (pa_cons (pv 7) pa_nil))))
          (pss_cons (ps_if (PW.pt (pw_or (pt_not (pt_val (pe_callB call_isi (by rfl) T.z_isinstance (by decide +kernel) (pa_cons (pv 8) (pa_cons (pe_bltn (v := .ty "tuple") (u := .type "tuple") (by rfl) T.z_tuple (by decide +kernel) rfl) pa_nil))))) (pw_or1 (pt_val (pe_callB (cr_any rfl) (by rfl) T.z_any (by decide +kernel) (pa_cons (pe_lc (own := [("_law_other", 9)]) (g := gName 9) rfl sc_l_is_well.nd (pi_tup (pv 8)) (blkOk_by (own := [("_law_other", 9)]) (N := N_l_is_well) (sc := defScope s_l_is_well) (by decide +kernel)) (fun _ _ _ _ _ => (pg_name (i := 9) sc_l_is_well.nd rfl (by first | exact Or.inl rfl | exact Or.inr rfl))) (fun _ _ _ _ _ => pts_nil) (fun _ _ _ _ _ => (pe_callB (My.call_isiK' (K := K) (by rfl)) (by rfl) T.z_isinstance (by decide +kernel) (pa_cons (pv 9) (pa_cons (pe_bltn (v := .ty "bool") (u := .type "bool") (by rfl) T.z_bool (by decide +kernel) rfl) pa_nil))))) pa_nil))))))
            (pss_one (ps_ret pe_bl))
            pss_nil)
          (pss_one (ps_if (pt_cmpR (op_neD hr.units) (pv 8) (pe_callTy call_tuple_of (by rfl) T.z_tuple (by decide +kernel) (pa_cons (pe_lc (own := [("_law_other", 9)]) (g := gName 9) rfl sc_l_is_well.nd (pi_range1 (by rfl) T.z_range (pa_cons (pv 1) pa_nil)) (blkOk_by (own := [("_law_other", 9)]) (N := N_l_is_well) (sc := defScope s_l_is_well) (by decide +kernel)) (fun _ _ _ _ _ => (pg_name (i := 9) sc_l_is_well.nd rfl (by first | exact Or.inl rfl | exact Or.inr rfl))) (fun _ _ _ _ _ => (pts_one (pt_cmpR op_gt (pe_ix (My.ix_tupK (K := K) (by rfl)) (pe_ix (My.ix_tupK (K := K) (by rfl)) (pe_ix (My.ix_tupK (K := K) (by rfl)) (pv 3) (pv 7) (fun _ _ => rfl)) (pv 9) (fun _ _ => rfl)) pe_int (fun _ _ => rfl)) pe_int (nomark _)))) (fun _ _ _ _ _ => (pv 9))) pa_nil)) (nomark _))
            (pss_one (ps_ret pe_bl))
            pss_nil)))))
      (pss_one (ps_ret pe_bl)))))))), ?_⟩
    walk_at "r"
    refine ⟨S, n, M, xs, ss, rfl, hS, hst, n8, l16, hb, hM, fun H1 v1 s1 h1 => ?_⟩
    walk_at "r"
    refine ⟨x, n, ss, M, rfl, hw.same s1, n8, l16, hb, by omega, fun H2 v2 s2 h2 => ?_⟩
    have k2 := s1.trans s2
    walk_at "r"
    refine ⟨x, n, R, ss, rfl, hw.same k2, n8, l16, hok, hR, fun H3 v3 s3 h3 => ?_⟩
    have k3 := k2.trans s3
    walk_at "r"
    refine ⟨_, _, rfl, h2.same s3, ?_⟩
    walk_at "r"
    refine ⟨S, n, M, xs, ss, rfl, k3 _ _ hS, hst.same k3, n8, l16, ok, hb, hM, fun H4 v4 s4 h4 => ?_⟩
    have k4 := k3.trans s4
    refine neFs (K := K) ((h2.same s3).same s4) h4 ?_
    have h1 := ((h1.same s2).same s3).same s4
    have h3 := h3.same s4
    clear h2 h4
    rw [rootsBy_is ok] at h1
    obtain ⟨t3, y3, rfl, ht3, hf3⟩ := id h3
    obtain ⟨t1, y1, rfl, ht1, hf1⟩ := id h1
    have hl3 := Paired.length hf3
    have hlr : (rootsAt n ss).length = n := by simp [rootsAt]
    walk_at "r"
    refine ⟨⟨_, .of ht3⟩, fun A1 nA => ?_⟩
    refine lc_tupP (R := fun H v (b : Bool) => v = .bl b) (fun _ _ _ _ _ h => h) (f := fun _ => some true) nA (by omega) (.of ht3) (fun i v hx H' Q' N' s5 hy _ => ?_) fun H5 hl5 => ?_
    · obtain ⟨rs, hrs, ir⟩ := Paired.at hf3 hx
      walk_at "r"
      refine ⟨rfl, ?_⟩
      walk_at "r"
      exact ⟨_, _, rfl, ir.same s5, hy true _ _ rfl (Same.refl _) rfl⟩
    obtain ⟨s5, bs, hA, hbs⟩ := hl5
    rw [upTo_map] at hbs
    have e := bools_of hbs
    subst e
    walk_at "r"
    refine ⟨A1, _, rfl, .of hA, ?_⟩
    rw [all_true _ (by simp)]
    have k5 := k4.trans s5
    walk_at "r"
    refine neRt (K := K) (h3.same s5) (h1.same s5) ?_
    walk_at "r"
    refine ⟨by omega, by omega, ?_⟩
    have ht1 := s5 _ _ ht1
    have hf1 : Paired (IsFs K H5) y1 (rootsAt n ss) := Paired.mapP hf1 fun _ _ h => h.same s5
    refine for_range (lo := 0) (n := n) (fun i σ H' => ∃ (t6 t7 t8 t9 : Option V), σ = [some x, some (.int (n : Nat)), some (.ref S), some (.ref t1), some v2, some (.ref t3), t6, t7, t8, t9] ∧ Same H5 H') ?_ ?_ ?_
    · exact ⟨_, _, _, _, rfl, Same.refl _⟩
    · rintro i σ H6 hi ⟨t6, t7, t8, t9, rfl, s6⟩
      rw [Int.zero_add]
      have hi : i < n := hi
      have k6 := k5.trans s6
      walk_at "r"
      refine ⟨x, n, ss, i, rfl, hw.same k6, hi, l16, fun H7 t ns s7 ht nb => ?_⟩
      have en := tied_is ok nb
      have hln : ns.length ≤ n := by
        rw [en, List.length_map]
        exact Nat.le_trans (List.length_filter_le _ _) (by simp)
      walk_at "r"
      refine ⟨⟨_, .of ht⟩, fun B nB => ?_⟩
      refine lc_tupP (R := fun H v (b : Bool) => v = .bl b) (fun _ _ _ _ _ h => h) (f := fun _ => some false) nB (by simp; omega) (.of ht) (fun j v hx H' Q' N' s8 hy _ => ?_) fun H8 hl8 => ?_
      · obtain ⟨z, rfl, _⟩ : ∃ z, v = .int z ∧ z ∈ ns := by
          rw [List.getElem?_map] at hx
          cases e : ns[j]? with
          | none =>
            rw [e] at hx
            cases hx
          | some z =>
            rw [e] at hx
            exact ⟨z, (Option.some.inj hx).symm, List.mem_of_getElem? e⟩
        walk_at "r"
        refine ⟨rfl, ?_⟩
        walk_at "r"
        exact hy false _ _ rfl (Same.refl _) rfl
      obtain ⟨s8, bs, hB, hbs⟩ := hl8
      rw [upTo_map] at hbs
      have e := bools_of hbs
      subst e
      walk_at "r"
      refine ⟨B, _, rfl, .of hB, ?_⟩
      rw [show ((List.range (ns.map V.int).length).map fun _ => false).any id = false from any_false _]
      have s68 := (s6.trans s7).trans s8
      have ht8 := s8 _ _ ht
      walk_at "r"
      refine ⟨by omega, by omega, fun B2 nB2 => ?_⟩
      refine lc_rangeP (R := fun H v (b : Nat) => v = .int (b : Nat)) (fun _ _ _ _ _ h => h) (f := Option.guard fun j => decide (0 < sumR (rl ss i j))) nB2 (by omega) (fun j hj H' Q' N' s9 hy hn => ?_) fun H9 hl9 => ?_
      · have hj : j < n := hj
        have s69 := s68.trans s9
        obtain ⟨row, hrow, t9', y9, rfl, ht9, hf9⟩ := Paired.get' hf1 (i := i) (a := (List.range n).map (rootM ss i)) (by simp [rootsAt, hi])
        obtain ⟨v, hv, ⟨pv, rfl, hpv⟩⟩ := Paired.get' hf9 (i := j) (a := rootM ss i j) (by simp [hj])
        have hpv := hpv.same s69
        rw [Int.zero_add]
        walk_at "r"
        refine ⟨rfl, ?_⟩
        walk_at "r"
        refine rd_ixT (s69 _ _ ht1) (at_some hrow) ?_
        walk_at "r"
        refine rd_ixT (s69 _ _ ht9) (at_some hv) ?_
        walk_at "r"
        have er := rootM_is ok i j
        by_cases c : 0 < sumR (rl ss i j)
        · have c' : (rootM ss i j).num > 0 := num_pos' (by rw [er]; exact c)
          walk_at "r"
          exact hy j _ _ (by simp [Option.guard, c]) (Same.refl _) rfl
        · have c' : ¬ (rootM ss i j).num > 0 := fun z => c (by rw [← er]; exact rat_pos z)
          walk_at "r"
          exact hn _ (by simp [Option.guard, c]) (Same.refl _)
      obtain ⟨s9, bs9, hB9, hb9⟩ := hl9
      rw [show ((n : Nat) : Int).toNat = n from rfl, show upTo (Option.guard fun j => decide (0 < sumR (rl ss i j))) n = tied n ss i from by
        unfold upTo tied
        exact congrFun List.filterMap_eq_filter _] at hb9
      have e9 := ints_of hb9
      subst e9
      rw [← en] at hB9
      walk_at "r"
      refine ⟨B2, _, rfl, .inl ⟨.of hB9, fun l nl => ?_⟩⟩
      have sl := same_upd (o := .tup (ns.map V.int)) nl
      refine neIs (K := K) (sl _ _ (s9 _ _ ht8)) upd_same ?_
      walk_at "r"
      exact ⟨_, _, _, _, rfl, (s68.trans s9).trans sl⟩
    · rintro σ H6 ⟨t6, t7, t8, t9, rfl, s6⟩
      walk_at "r"
      exact q _ (k5.trans s6)
end
end My
namespace My
open PySem PySem.Spec PyProof.Rows L2
variable {K : PySem.W.Frag}
theorem rd_revL {te : TE} {σ : L2.St} {H : Hp} {Q : VK} (h : te σ H fun x H1 => ∃ a xs, x = .ref a ∧ SqL K H1 a xs ∧ ∀ p, H1 p = none → Q (.ref p) (upd H1 p (.lst xs.reverse))) : tRevL K te σ H Q := h
theorem paired_rev {α β : Type} {R : α → β → Prop} {xs : List α} {ys : List β} (h : Paired R xs ys) : Paired R xs.reverse ys.reverse := by
  induction h with
  | nil => exact .nil
  | cons h t ih =>
    rw [List.reverse_cons, List.reverse_cons]
    exact paired_app ih (.cons h .nil)
theorem bl_snoc {k : Nat} {ss : List Stl} {s : Stl} (h : ∀ t ∈ ss, BdSt k t) (hs : BdSt k s) : ∀ t ∈ ss ++ [s], BdSt k t := fun t ht => by
  rcases List.mem_append.mp ht with z | z
  · exact h t z
  · rw [List.mem_singleton.mp z]
    exact hs
theorem bl_all {k m : Nat} {ss : List Stl} (hm : ss.length ≤ m) (h : ∀ s ∈ ss, BdSt k s) : BL ss (m * (k + 1) + 1) := by
  refine ⟨ss.map fun _ => k, ?_, ?_⟩
  · clear hm
    induction ss with
    | nil => exact .nil
    | cons s ss ih => exact .cons (h s (by simp)) (ih fun t ht => h t (by simp [ht]))
  · have e : ((ss.map fun _ => k).map (· + 1)).sum = ss.length * (k + 1) := by
      clear h hm
      induction ss with
      | nil => simp
      | cons s ss ih =>
        rw [List.map_cons, List.map_cons, List.sum_cons, ih, List.length_cons, Nat.add_mul]
        omega
    rw [e]
    have := Nat.mul_le_mul_right (k + 1) hm
    omega
theorem sum_two (a b : Rat) : sumR [a, b] = a + b := by
  rw [sumR_cons, sumR_cons, sumR_nil]
  grind
theorem br_pair {a b : Rat} {k l M : Nat} (h1 : Bd k a) (h2 : Bd l b) (h : k + l + 3 ≤ M) : BR [a, b] M := ⟨[k, l], .cons h1 (.cons h2 .nil), by simp; omega⟩
structure G07 (K : PySem.W.Frag) (B D C S x4 : Addr) (n c : Nat) (xs : List V) (ss : List Stl) (H : Hp) : Prop where
  dk : Deck 1048576 D C H c
  web : IsWeb K B H (.ref x4) n ss
  fS : H S = some (.lst xs)
  st : Sts K H xs ss
  sD : S ≠ D
section
variable {B D C S x4 : Addr} {n c : Nat} {xs : List V} {ss : List Stl} {H H' : Hp}
theorem G07.same (g : G07 K B D C S x4 n c xs ss H) (s : Same H H') : G07 K B D C S x4 n c xs ss H' := ⟨g.dk.same s, g.web.same s, s _ _ g.fS, g.st.same s, g.sD⟩
theorem G07.fw {c' : Nat} (g : G07 K B D C S x4 n c xs ss H) (f : Fw D H H') (k : Deck 1048576 D C H' c') : G07 K B D C S x4 n c' xs ss H' := ⟨k, g.web.fw f g.dk, f _ _ g.sD g.fS, g.st.ts (f.ts g.dk), g.sD⟩
theorem G07.mono {c' : Nat} (g : G07 K B D C S x4 n c xs ss H) (h : c ≤ c') : G07 K B D C S x4 n c' xs ss H := ⟨g.dk.mono h, g.web, g.fS, g.st, g.sD⟩
end
theorem rd_ixFs {H : Hp} {Q : VK} {x : V} {rs : List Rat} {i : Nat} (h : IsFs K H x rs) (hi : i < rs.length) (q : ∀ v, IsF K H v (rs.getD i 0) → Q v H) : rIxT K x (.int (i : Nat)) H Q := by
  obtain ⟨t, ys, rfl, h1, h2⟩ := h
  have e : rs[i]? = some (rs.getD i 0) := by
    rw [List.getD_eq_getElem?_getD, List.getElem?_eq_getElem hi]
    rfl
  obtain ⟨v, hv, iv⟩ := Paired.get' h2 e
  exact rd_ixT h1 (at_some hv) (q v iv)
theorem rd_ixRt {H : Hp} {Q : VK} {x : V} {rss : List (List Rat)} {i : Nat} {rs : List Rat} (h : IsRt K H x rss) (hi : rss[i]? = some rs) (q : ∀ v, IsFs K H v rs → Q v H) : rIxT K x (.int (i : Nat)) H Q := by
  obtain ⟨t, ys, rfl, h1, h2⟩ := h
  obtain ⟨v, hv, iv⟩ := Paired.get' h2 hi
  exact rd_ixT h1 (at_some hv) (q v iv)
theorem held_get {n : Nat} {ss : List Stl} {i : Nat} (h : i < n) : (heldAll n ss).getD i 0 = heldAt ss i := by
  unfold heldAll
  rw [List.getD_eq_getElem?_getD, List.getElem?_map, List.getElem?_range h]
  rfl
theorem roots_row {n : Nat} {ss : List Stl} {i : Nat} (h : i < n) : (rootsAt n ss)[i]? = some ((List.range n).map (rootM ss i)) := by
  unfold rootsAt
  rw [List.getElem?_map, List.getElem?_range h]
  rfl
theorem roots_at {n : Nat} {ss : List Stl} {i j : Nat} (h : j < n) : ((List.range n).map (rootM ss i)).getD j 0 = rootM ss i j := by
  rw [List.getD_eq_getElem?_getD, List.getElem?_map, List.getElem?_range h]
  rfl
section
variable {P : Program} {w : World} {K : PySem.W.Frag} {mg : Str → Option Value} {base : Heap} {f_is_integer f_is_row f_is_fraction f_is_some f_added f_multiplied f_squared f_summed f_is_stall f_is_ware f_check_ware f_across f_hold_of f_stalls_of f_kept_of f_held f_roots f_neighbours f_l_deck f_l_pick f_l_divisor f_l_made f_l_amount f_l_great f_l_great_stall f_l_stall f_l_stalls f_l_added f_l_held f_l_roots f_l_are_fractions f_l_is_refused f_l_is_well f_law f_Web_init f_Web_eq c_BadWare c_Web c_ZERO : Addr} {d_is_integer d_is_row d_is_fraction d_is_some d_added d_multiplied d_squared d_summed d_is_stall d_is_ware d_check_ware d_across d_hold_of d_stalls_of d_kept_of d_held d_roots d_neighbours d_l_deck d_l_pick d_l_divisor d_l_made d_l_amount d_l_great d_l_great_stall d_l_stall d_l_stalls d_l_added d_l_held d_l_roots d_l_are_fractions d_l_is_refused d_l_is_well d_law d_Web_init d_Web_eq : FuncData}
def sp_law (K : PySem.W.Frag) : Sp := fun vs H Q _ => ∃ (a : Addr) (ns : List Int), vs = [.ref a] ∧ SqL K H a (ns.map V.int) ∧ ns.length ≤ 63 ∧ (∀ z ∈ ns, Builtin.Int.intBits z ≤ 1048576) ∧ ∀ H', Q (.bl true) H'
theorem ok_law (T : Txt K mg f_is_integer f_is_row f_is_fraction f_is_some f_added f_multiplied f_squared f_summed f_is_stall f_is_ware f_check_ware f_across f_hold_of f_stalls_of f_kept_of f_held f_roots f_neighbours f_l_deck f_l_pick f_l_divisor f_l_made f_l_amount f_l_great f_l_great_stall f_l_stall f_l_stalls f_l_added f_l_held f_l_roots f_l_are_fractions f_l_is_refused f_l_is_well f_law f_Web_init f_Web_eq c_BadWare c_Web c_ZERO d_is_integer d_is_row d_is_fraction d_is_some d_added d_multiplied d_squared d_summed d_is_stall d_is_ware d_check_ware d_across d_hold_of d_stalls_of d_kept_of d_held d_roots d_neighbours d_l_deck d_l_pick d_l_divisor d_l_made d_l_amount d_l_great d_l_great_stall d_l_stall d_l_stalls d_l_added d_l_held d_l_roots d_l_are_fractions d_l_is_refused d_l_is_well d_law d_Web_init d_Web_eq) : FnOk P w K mg base CX0 7 f_law d_law ["_law_script"] (sp_law K) := by
  have G_l_deck : FnOk P w K mg base CX0 1 f_l_deck d_l_deck ["_law_script"] (sp_deck K) := ok_l_deck T
  have G_l_pick : FnOk P w K mg base CX0 1 f_l_pick d_l_pick ["_law_deck_here", "_law_many"] (sp_pick 1048576) := ok_pick (by decide) (by decide) T
  have G_l_stalls : FnOk P w K mg base CX0 5 f_l_stalls d_l_stalls ["_law_deck_here", "_law_wares"] (sp_lstalls7 K 1048576) := ok_l_stalls (by decide) (by decide) T
  have G_l_stall : FnOk P w K mg base CX0 4 f_l_stall d_l_stall ["_law_deck_here", "_law_wares"] (sp_lstall7 K 1048576 8 40 20) := ok_l_stall (by decide) (by decide) T
  have G_l_great_stall : FnOk P w K mg base CX0 3 f_l_great_stall d_l_great_stall ["_law_deck_here"] (sp_lgst K 1048576) := ok_l_great_stall (by decide) (by decide) T
  have G_l_added : FnOk P w K mg base CX0 2 f_l_added d_l_added ["_law_amounts"] (sp_ladded K) := ok_l_addedL T
  have G_l_is_refused : FnOk P w K mg base CX0 5 f_l_is_refused d_l_is_refused ["_law_web", "_law_ware"] (sp_lrefused7 K c_Web) := ok_l_is_refused T
  have G_l_is_well : FnOk P w K mg base CX0 5 f_l_is_well d_l_is_well ["_law_web", "_law_wares", "_law_stalls_here"] (sp_lwell K c_Web) := ok_l_is_well T
  have G_held : FnOk P w K mg base CX0 4 f_held d_held ["web"] (sp_held K c_Web) := ok_held T
  have G_roots : FnOk P w K mg base CX0 2 f_roots d_roots ["web"] (sp_roots K c_Web) := ok_roots T
  have G_Web_init : FnOk P w K mg base CX0 5 f_Web_init d_Web_init ["self", "wares", "stalls"] (sp_web K c_Web) := ok_Web_init T
  refine T.F_law.ok sc_law (fun vs H Q E h => ?_) (fun cdv A outer sh H vs Q E hr h => ?_)
  · obtain ⟨a, ns, rfl, _⟩ := h
    rfl
  · obtain ⟨a, ns, rfl, hS, hl, hb, q⟩ := h
    refine ⟨_, (pss_cons (ps_set (i := 1) sc_law.nd rfl (by first | exact Or.inl rfl | exact Or.inr rfl) (pe_call G_l_deck (hr.mono (by decide)) (by rfl) T.g_l_deck T.k_l_deck T.b_l_deck .nil pass0 (pa_cons (pv 0) pa_nil)))
      (pss_cons (ps_set (i := 2) sc_law.nd rfl (by first | exact Or.inl rfl | exact Or.inr rfl) (pe_op op_add pe_int (pe_call G_l_pick (hr.mono (by decide)) (by rfl) T.g_l_pick T.k_l_pick T.b_l_pick .nil pass0 (pa_cons (pv 1) (pa_cons pe_int pa_nil)))))
      (pss_cons (ps_set (i := 3) sc_law.nd rfl (by first | exact Or.inl rfl | exact Or.inr rfl) (pe_call G_l_stalls (hr.mono (by decide)) (by rfl) T.g_l_stalls T.k_l_stalls T.b_l_stalls .nil pass0 (pa_cons (pv 1) (pa_cons (pv 2) pa_nil))))
      (pss_cons (ps_set (i := 4) sc_law.nd rfl (by first | exact Or.inl rfl | exact Or.inr rfl) (pe_make T.w_Web.mks G_Web_init (hr.mono (by decide)) (by rfl) T.w_Web.g T.b_Web_init .nil pass0 (pa_cons (pv 2) (pa_cons (pv 3) pa_nil))))
      (pss_cons (ps_if (pt_not (pt_val (pe_call G_l_is_well (hr.mono (by decide)) (by rfl) T.g_l_is_well T.k_l_is_well T.b_l_is_well .nil pass0 (pa_cons (pv 4) (pa_cons (pv 2) (pa_cons (pv 3) pa_nil))))))
        (pss_one (ps_ret pe_bl))
        pss_nil)
      (pss_cons (ps_set (i := 5) sc_law.nd rfl (by first | exact Or.inl rfl | exact Or.inr rfl) (pe_make T.w_Web.mks G_Web_init (hr.mono (by decide)) (by rfl) T.w_Web.g T.b_Web_init .nil pass0 (pa_cons (pv 2) (pa_cons (pe_callTy call_tuple_of (by rfl) T.z_tuple (by decide +kernel) (pa_cons (pe_revL (pv 3)) pa_nil)) pa_nil))))
      (pss_cons (ps_if (PW.pt (pw_or (pt_cmpR (op_neD hr.units) (pe_call G_held (hr.mono (by decide)) (by rfl) T.g_held T.k_held T.b_held .nil pass0 (pa_cons (pv 5) pa_nil)) (pe_call G_held (hr.mono (by decide)) (by rfl) T.g_held T.k_held T.b_held .nil pass0 (pa_cons (pv 4) pa_nil)) (nomark _)) (pw_or1 (pt_cmpR (op_neD hr.units) (pe_call G_roots (hr.mono (by decide)) (by rfl) T.g_roots T.k_roots T.b_roots .nil pass0 (pa_cons (pv 5) pa_nil)) (pe_call G_roots (hr.mono (by decide)) (by rfl) T.g_roots T.k_roots T.b_roots .nil pass0 (pa_cons (pv 4) pa_nil)) (nomark _)))))
        (pss_one (ps_ret pe_bl))
        pss_nil)
      (pss_cons (ps_for PassesOwn.never rfl (pi_list (pe_lst (pa_cons (pv 2) (pa_cons (pe_un un_neg pe_int) (pa_cons (pe_op op_pow pe_int pe_int) (pa_cons pe_bl (pa_cons pe_bl (pa_cons pe_non (pa_cons pe_str (pa_cons (pe_tup (pa_cons pe_int pa_nil)) (pa_cons (pe_lst (pa_cons pe_int pa_nil)) (pa_cons pe_dnewK (pa_cons (pv 4) pa_nil))))))))))))) (pg_name (i := 6) sc_law.nd rfl (by first | exact Or.inl rfl | exact Or.inr rfl))
        (pss_one (ps_if (pt_not (pt_val (pe_call G_l_is_refused (hr.mono (by decide)) (by rfl) T.g_l_is_refused T.k_l_is_refused T.b_l_is_refused .nil pass0 (pa_cons (pv 4) (pa_cons (pv 6) pa_nil)))))
            (pss_one (ps_ret pe_bl))
            pss_nil)))
      (pss_cons (ps_setLc (i := 7) (own := [("_law_turn", 8)]) (g := gName 8) rfl sc_law.nd rfl rfl (sw_true rfl rfl rfl (by decide +kernel)) (pi_range1 (by rfl) T.z_range (pa_cons pe_int pa_nil)) (blkOk_by (own := [("_law_turn", 8)]) (N := N_law) (sc := defScope s_law) (by decide +kernel)) (fun _ _ _ _ _ => (pg_name (i := 8) sc_law.nd rfl (by first | exact Or.inl rfl | exact Or.inr rfl))) (fun _ _ _ _ _ => pts_nil) (fun _ _ _ _ _ => (pe_call G_l_great_stall (hr.mono (by decide)) (by rfl) T.g_l_great_stall T.k_l_great_stall T.b_l_great_stall .nil pass0 (pa_cons (pv 1) pa_nil))))
      (C8.pss_cut (ps_if (PW.pt (pw_and (pt_cmpR op_eq (pe_call G_l_pick (hr.mono (by decide)) (by rfl) T.g_l_pick T.k_l_pick T.b_l_pick .nil pass0 (pa_cons (pv 1) (pa_cons pe_int pa_nil))) pe_int (nomark _)) (pw_and1 (pt_not (pt_val (pe_call G_l_is_well (hr.mono (by decide)) (by rfl) T.g_l_is_well T.k_l_is_well T.b_l_is_well .nil pass0 (pa_cons (pe_make T.w_Web.mks G_Web_init (hr.mono (by decide)) (by rfl) T.w_Web.g T.b_Web_init .nil pass0 (pa_cons pe_int (pa_cons (pv 7) pa_nil))) (pa_cons pe_int (pa_cons (pv 7) pa_nil)))))))))
        (pss_one (ps_ret pe_bl))
        pss_nil)
      (pss_cons (ps_if (PW.pt (pw_or (pt_cmpR op_lt (pv 2) pe_int (nomark _)) (pw_or1 (pt_cmpR op_eq (pe_callB call_lenN (by rfl) T.z_len (by decide +kernel) (pa_cons (pv 3) pa_nil)) pe_int (nomark _)))))
        (pss_one (ps_ret (pe_call G_l_is_well (hr.mono (by decide)) (by rfl) T.g_l_is_well T.k_l_is_well T.b_l_is_well .nil pass0 (pa_cons (pv 4) (pa_cons (pv 2) (pa_cons (pv 3) pa_nil))))))
        pss_nil)
      (pss_cons (ps_set (i := 9) sc_law.nd rfl (by first | exact Or.inl rfl | exact Or.inr rfl) (pe_call G_l_stall (hr.mono (by decide)) (by rfl) T.g_l_stall T.k_l_stall T.b_l_stall .nil pass0 (pa_cons (pv 1) (pa_cons (pv 2) pa_nil))))
      (pss_cons (ps_set (i := 10) sc_law.nd rfl (by first | exact Or.inl rfl | exact Or.inr rfl) (pe_make T.w_Web.mks G_Web_init (hr.mono (by decide)) (by rfl) T.w_Web.g T.b_Web_init .nil pass0 (pa_cons (pv 2) (pa_cons (pe_op op_cat (pv 3) (pe_lst (pa_cons (pv 9) pa_nil))) pa_nil))))
      (pss_cons (ps_set (i := 11) sc_law.nd rfl (by first | exact Or.inl rfl | exact Or.inr rfl) (pe_call G_held (hr.mono (by decide)) (by rfl) T.g_held T.k_held T.b_held .nil pass0 (pa_cons (pv 4) pa_nil)))
      (pss_cons (ps_set (i := 12) sc_law.nd rfl (by first | exact Or.inl rfl | exact Or.inr rfl) (pe_call G_held (hr.mono (by decide)) (by rfl) T.g_held T.k_held T.b_held .nil pass0 (pa_cons (pv 10) pa_nil)))
      (pss_cons (ps_for PassesOwn.never rfl (pi_range1 (by rfl) T.z_range (pa_cons (pv 2) pa_nil)) (pg_name (i := 13) sc_law.nd rfl (by first | exact Or.inl rfl | exact Or.inr rfl))
        (pss_cons (ps_set (i := 14) sc_law.nd rfl (by first | exact Or.inl rfl | exact Or.inr rfl) (pe_ix ix_tup (pv 11) (pv 13) (fun _ _ => rfl)))
          (C8.pss_cut (ps_if (pt_cmpR op_in_seq (pv 13) (pe_slice sl_tup (pv 9) po_none (po_some pe_int)) (by rfl))
            (pss_one (ps_set (i := 14) sc_law.nd rfl (by first | exact Or.inl rfl | exact Or.inr rfl) (pe_call G_l_added (hr.mono (by decide)) (by rfl) T.g_l_added T.k_l_added T.b_l_added .nil pass0 (pa_cons (pe_lst (pa_cons (pv 14) (pa_cons (pe_ix ix_tup (pv 9) (pe_op op_add pe_int (pe_callTy call_intN (by rfl) T.z_int (by decide +kernel) (pa_cons (pe_cmpR op_eq (pv 13) (pe_ix ix_tup (pv 9) pe_int (fun _ _ => rfl)) (nomark _)) pa_nil))) (fun _ _ => rfl)) pa_nil))) pa_nil))))
            pss_nil)
          (pss_one (ps_if (pt_cmpR (op_neD hr.units) (pe_ix ix_tup (pv 12) (pv 13) (fun _ _ => rfl)) (pv 14) (nomark _))
            (pss_one (ps_ret pe_bl))
            pss_nil)))))
      (pss_one (ps_ret (pe_cmpR (op_eqD hr.units) (pe_ix ix_tup (pe_ix ix_tup (pe_call G_roots (hr.mono (by decide)) (by rfl) T.g_roots T.k_roots T.b_roots .nil pass0 (pa_cons (pv 10) pa_nil)) (pe_ix ix_tup (pv 9) pe_int (fun _ _ => rfl)) (fun _ _ => rfl)) (pe_ix ix_tup (pv 9) pe_int (fun _ _ => rfl)) (fun _ _ => rfl)) (pe_call G_l_added (hr.mono (by decide)) (by rfl) T.g_l_added T.k_l_added T.b_l_added .nil pass0 (pa_cons (pe_lst (pa_cons (pe_ix ix_tup (pe_ix ix_tup (pe_call G_roots (hr.mono (by decide)) (by rfl) T.g_roots T.k_roots T.b_roots .nil pass0 (pa_cons (pv 4) pa_nil)) (pe_ix ix_tup (pv 9) pe_int (fun _ _ => rfl)) (fun _ _ => rfl)) (pe_ix ix_tup (pv 9) pe_int (fun _ _ => rfl)) (fun _ _ => rfl)) (pa_cons (pe_ix ix_tup (pv 9) pe_int (fun _ _ => rfl)) pa_nil))) pa_nil)) (nomark _)))))))))))))))))))), ?_⟩
    walk_at "r"
    refine ⟨_, _, rfl, hS, hl, hb, fun H1 D C s1 k1 => ?_⟩
    walk_at "r"
    refine ⟨_, _, _, _, rfl, ⟨by decide, by decide⟩, k1, by decide, fun H3 r3 w3 k3 a3 b3 => ?_⟩
    obtain ⟨n, n1, n8, en⟩ : ∃ n : Nat, 1 ≤ n ∧ n ≤ 8 ∧ 1 + r3 = (n : Int) := ⟨(1 + r3).toNat, by omega, by omega, by omega⟩
    walk_at "r"
    rw [en]
    refine ⟨D, C, _, n, rfl, n1, n8, k3, by decide, fun H4 S xs ss w4 k4 sD hS4 hst4 l16 hok => ?_⟩
    clear k1 s1 w3 k3 w4 hS
    have hlx := hst4.len
    walk_at "r"
    intro x4 dx4 nx nd ne
    have xS := ne_of_none hS4 nx
    have dS := ne_of_none hS4 nd
    refine ⟨x4, dx4, S, n, xs, ss, rfl, upd_same, .inl ((upd_ne xS).trans ((upd_ne dS).trans hS4)), n1, n8, by omega, ?_, fun s hs => ⟨(hok s hs).1, (hok s hs).2.1.mono (by decide)⟩, fun H5 hweb kp => ⟨rfl, ?_⟩⟩
    · refine hst4.ts fun b zs hb => ?_
      rw [upd_ne (ne_of_none hb nx), upd_ne (ne_of_none hb nd)]
      exact hb
    have s5 : Same H4 H5 := Same.made nx nd kp
    have g : G07 K c_Web D C S x4 n 300 xs ss H5 := ⟨(k4.same s5).mono (by decide), hweb, s5 _ _ hS4, hst4.same s5, sD⟩
    clear hS4 hst4 k4 s5 kp xS dS nx nd ne hweb sD
    have ok : ∀ s ∈ ss, OkSt n s := fun s hs => (hok s hs).1
    have hbl : BL ss 657 := bl_of l16 fun s hs => (hok s hs).2.1
    have hR20 : (20 + 1) * ss.length + 1 ≤ 3900 := by omega
    have okR : ∀ s ∈ ss, OkSt n s ∧ Bd 20 s.r := fun s hs => ⟨(hok s hs).1, (hok s hs).2.2⟩
    walk_at "r"
    refine ⟨_, S, n, 20, 657, xs, ss, rfl, g.web, g.fS, g.st, n8, l16, okR, hbl, by decide, hR20, fun H6 s6 => ?_⟩
    have g := g.same s6
    walk_at "r"
    refine rd_revL ?_
    walk_at "r"
    refine ⟨S, xs, rfl, .of g.fS, fun p7 n7 => ?_⟩
    have s7 := same_upd (o := .lst xs.reverse) n7
    have h7 : upd H6 p7 (.lst xs.reverse) p7 = some (.lst xs.reverse) := upd_same
    generalize upd H6 p7 (.lst xs.reverse) = H7 at *
    have g := g.same s7
    walk_at "r"
    refine ⟨_, _, rfl, .inl ⟨.of h7, fun p8 n8' => ?_⟩⟩
    have s8 := same_upd (o := .tup xs.reverse) n8'
    have h8 : upd H7 p8 (.tup xs.reverse) p8 = some (.tup xs.reverse) := upd_same
    generalize upd H7 p8 (.tup xs.reverse) = H8 at *
    have g := g.same s8
    clear h7 n7 s7 n8' s8
    walk_at "r"
    intro x9 dx9 nx nd ne
    have xS := ne_of_none h8 nx
    have dS := ne_of_none h8 nd
    have okr : ∀ s ∈ ss.reverse, OkSt n s ∧ BdSt 40 s ∧ Bd 20 s.r := fun s hs => hok s (List.mem_reverse.mp hs)
    refine ⟨x9, dx9, p8, n, xs.reverse, ss.reverse, rfl, upd_same, .inr ((upd_ne xS).trans ((upd_ne dS).trans h8)), n1, n8, by rw [List.length_reverse]; omega, ?_, fun s hs => ⟨(okr s hs).1, (okr s hs).2.1.mono (by decide)⟩, fun H9 hweb9 kp => ⟨rfl, ?_⟩⟩
    · refine Sts.ts (fun b zs hb => ?_) (show Sts K H8 xs.reverse ss.reverse from paired_rev g.st)
      rw [upd_ne (ne_of_none hb nx), upd_ne (ne_of_none hb nd)]
      exact hb
    have s9 : Same H8 H9 := Same.made nx nd kp
    have g := g.same s9
    clear kp xS dS nx nd ne h8 s9
    have lrv : ss.reverse.length ≤ 16 := by rw [List.length_reverse]; exact l16
    walk_at "r"
    refine ⟨_, n, ss.reverse, 657, rfl, hweb9, n8, lrv, bl_of lrv fun s hs => (okr s hs).2.1, by decide, fun Ha va sa' ha => ?_⟩
    rw [heldAll_rev] at ha
    have g := g.same sa'
    walk_at "r"
    refine ⟨_, n, ss, 657, rfl, g.web, n8, l16, hbl, by decide, fun Hb vb sb hbb => ?_⟩
    have g := g.same sb
    refine neFs (K := K) (ha.same sb) hbb ?_
    clear ha hbb
    walk_at "r"
    refine ⟨_, n, 20, ss.reverse, rfl, (hweb9.same sa').same sb, n8, lrv, fun s hs => ⟨(okr s hs).1, (okr s hs).2.2⟩, by rw [List.length_reverse]; exact hR20, fun Hc vc sc hc => ?_⟩
    rw [rootsAt_rev ok] at hc
    have g := g.same sc
    walk_at "r"
    refine ⟨_, n, 20, ss, rfl, g.web, n8, l16, okR, hR20, fun Hd vd sd hd => ?_⟩
    have g := g.same sd
    refine neRt (K := K) (hc.same sd) hd ?_
    clear hc hd hweb9 sa' sb sc sd okr
    walk_at "r"
    intro p1 m1
    have s1 := same_upd (o := .tup [V.int 0]) m1
    have e1 : upd Hd p1 (.tup [V.int 0]) p1 = some (.tup [V.int 0]) := upd_same
    have d1 := g.dk.ne m1
    generalize upd Hd p1 (.tup [V.int 0]) = He at *
    have g := g.same s1
    walk_at "r"
    intro p2 m2
    have s2 := same_upd (o := .lst [V.int 0]) m2
    have e2 : upd He p2 (.lst [V.int 0]) p2 = some (.lst [V.int 0]) := upd_same
    have d2 := g.dk.ne m2
    generalize upd He p2 (.lst [V.int 0]) = Hf at *
    have g := g.same s2
    walk_at "r"
    intro p3 m3
    have s3 := same_upd (o := .dK []) m3
    have e3 : upd Hf p3 (.dK []) p3 = some (.dK []) := upd_same
    have d3 := g.dk.ne m3
    generalize upd Hf p3 (.dK []) = Hg at *
    have g := g.same s3
    walk_at "r"
    intro L nL
    generalize hzs : [V.int (n : Nat), V.int (-1), V.int (10 ^ (11 : Int).toNat), V.bl true, V.bl false, V.non, V.str "0", V.ref p1, V.ref p2, V.ref p3, V.ref x4] = zs at *
    have sL := same_upd (o := .lst zs) nL
    have hL : upd Hg L (.lst zs) L = some (.lst zs) := upd_same
    have w1 : Od K D (upd Hg L (.lst zs)) (.ref p1) := .tup d1 (sL _ _ (s3 _ _ (s2 _ _ e1)))
    have w2 : Od K D (upd Hg L (.lst zs)) (.ref p2) := .lst d2 (sL _ _ (s3 _ _ e2))
    have w3 : Od K D (upd Hg L (.lst zs)) (.ref p3) := .dK d3 (sL _ _ e3)
    have g := g.same sL
    generalize upd Hg L (.lst zs) = Hh at *
    have w4 : Od K D Hh (.ref x4) := by
      obtain ⟨px, dx, tt, xs', e, hpx, _⟩ := g.web
      cases e
      have nD : x4 ≠ D := by
        obtain ⟨cells, pl, rest, cnt, h0, h1, h2⟩ := g.dk
        exact ne_of hpx h1 (by intro z; cases z)
      exact .ins nD hpx T.w_Web.it
    have wr : ∀ v ∈ zs, Wr K Hh n v false := by
      intro v hv
      rw [← hzs] at hv
      simp only [List.mem_cons, List.not_mem_nil, or_false] at hv
      have t11 : (10 : Int) ^ (11 : Int).toNat = 100000000000 := by decide
      rcases hv with rfl | rfl | rfl | rfl | rfl | rfl | rfl | rfl | rfl | rfl | rfl
      · exact .inl ⟨_, rfl, by simp⟩
      · exact .inl ⟨_, rfl, by simp⟩
      · refine .inl ⟨_, rfl, ?_⟩
        rw [t11]
        symm
        rw [decide_eq_false_iff_not]
        omega
      · exact .inr ⟨⟨D, .bl _⟩, rfl⟩
      · exact .inr ⟨⟨D, .bl _⟩, rfl⟩
      · exact .inr ⟨⟨D, .non⟩, rfl⟩
      · exact .inr ⟨⟨D, .str _⟩, rfl⟩
      · exact .inr ⟨⟨D, w1⟩, rfl⟩
      · exact .inr ⟨⟨D, w2⟩, rfl⟩
      · exact .inr ⟨⟨D, w3⟩, rfl⟩
      · exact .inr ⟨⟨D, w4⟩, rfl⟩
    clear w1 w2 w3 w4 e1 e2 e3 s1 s2 s3 m1 m2 m3 d1 d2 d3 hzs sL nL
    refine ⟨_, rfl, ⟨_, .of hL⟩, ?_⟩
    refine for_list (K := K) (a := L) (xs := zs) (fun i σ H' => ∃ (t6 t7 t8 t9 t10 t11 t12 t13 t14 : Option V), σ = [some (.ref a), some (.ref D), some (.int (n : Nat)), some (.ref S), some (.ref x4), some (.ref x9), t6, t7, t8, t9, t10, t11, t12, t13, t14] ∧ H' = Hh) ?_ ?_ ?_ ?_
    · exact ⟨_, _, _, _, _, _, _, _, _, rfl, rfl⟩
    · rintro i σ H' _ ⟨t6, t7, t8, t9, t10, t11, t12, t13, t14, rfl, rfl⟩
      exact .of hL
    · rintro i v σ H' hv ⟨t6, t7, t8, t9, t10, t11, t12, t13, t14, rfl, rfl⟩
      walk_at "r"
      refine ⟨_, v, n, ss, rfl, g.web, wr v (List.mem_of_getElem? hv), ?_⟩
      walk_at "r"
      exact ⟨_, _, _, _, _, _, _, _, _, rfl, rfl⟩
    rintro σ H' ⟨t6, t7, t8, t9, t10, t11, t12, t13, t14, rfl, rfl⟩
    clear wr hL
    walk_at "r"
    refine ⟨by decide, by decide, fun G nG => ?_⟩
    have nGD := g.dk.ne nG
    have nGC := g.dk.neC nG
    refine lc_range (lo := 0) (n := 2) (fun j H2 => ∃ ys tt, Fw D H' H2 ∧ H2 G = some (.lst ys) ∧ ys.length = j ∧ Sts K H2 ys tt ∧ (∀ s ∈ tt, OkSt 2 s ∧ BdSt 840 s ∧ Bd 420 s.r) ∧ Deck 1048576 D C H2 (300 + 40 * j)) ?_ ?_ ?_
    · exact ⟨[], [], Same.fw (same_upd nG), upd_same, rfl, .nil, by simp, (g.dk.same (same_upd nG)).mono (by omega)⟩
    · rintro j H2 hj ⟨ys, tt, f2, hG2, hlen, hst, hok2, k2⟩
      walk_at "r"
      refine ⟨rfl, ?_⟩
      walk_at "r"
      refine ⟨_, _, _, rfl, k2, by omega, fun H3 v s w3 k3 iv o1 o2 o3 => ?_⟩
      have hG3 := w3 _ _ nGD hG2
      have tp := tps_put (H1 := H3) (o := .lst (ys ++ [v])) hG3
      refine ⟨ys, hG3, small1000 (by omega), ys ++ [v], tt ++ [s], fun b o hb' h => (upd_ne (ne_of_none h nG)).trans (w3 _ _ hb' (f2 _ _ hb' h)), upd_same, by simp [hlen], ((hst.ts (w3.ts k2)).snoc iv).ts tp, fun t ht => ?_, (k3.put nGD nGC).mono (by omega)⟩
      rcases List.mem_append.mp ht with h | h
      · exact hok2 t h
      · rw [List.mem_singleton.mp h]
        exact ⟨o1, o2, o3⟩
    rintro H2 ⟨ys, tt, f2, hG2, hlen, hst2, hok2, k2⟩
    have hlt := hst2.len
    have lt2 : tt.length = 2 := by omega
    have g := g.fw f2 k2
    clear f2 nGC nG
    walk_at "r"
    refine ⟨fun σ H3 => σ = [some (.ref a), some (.ref D), some (.int (n : Nat)), some (.ref S), some (.ref x4), some (.ref x9), t6, some (.ref G), t8, t9, t10, t11, t12, t13, t14] ∧ G07 K c_Web D C S x4 n 500 xs ss H3, ?_, ?_⟩
    · walk_at "r"
      refine ⟨_, _, _, _, rfl, ⟨by decide, by decide⟩, g.dk, by decide, fun H3 r3 w3 k3 a3 b3 => ?_⟩
      have hG3 := w3 _ _ nGD hG2
      have hst3 := hst2.ts (w3.ts g.dk)
      have g := g.fw w3 k3
      walk_at "r"
      walk_at "if"
      · walk_at "r"
        intro x5 dx5 nx nd ne
        have xS := ne_of_none hG3 nx
        have dS := ne_of_none hG3 nd
        refine ⟨x5, dx5, G, 2, ys, tt, rfl, upd_same, .inl ((upd_ne xS).trans ((upd_ne dS).trans hG3)), by decide, by decide, by omega, ?_, fun s hs => ⟨(hok2 s hs).1, (hok2 s hs).2.1.mono (by decide)⟩, fun H5 hweb5 kp => ⟨rfl, ?_⟩⟩
        · refine hst3.ts fun b zs hb => ?_
          rw [upd_ne (ne_of_none hb nx), upd_ne (ne_of_none hb nd)]
          exact hb
        have s5 : Same H3 H5 := Same.made nx nd kp
        have g := g.same s5
        walk_at "r"
        refine ⟨_, G, 2, 420, 1683, ys, tt, rfl, hweb5, s5 _ _ hG3, hst3.same s5, by decide, by omega, fun s hs => ⟨(hok2 s hs).1, (hok2 s hs).2.2⟩, bl_all (m := 2) (by omega) fun s hs => (hok2 s hs).2.1, by decide, by omega, fun H6 s6 => ?_⟩
        have g := g.same s6
        walk_at "r"
        exact ⟨rfl, g.mono (by decide)⟩
      · walk_at "r"
        exact ⟨rfl, g.mono (by decide)⟩
    clear g hG2 hst2 hok2 k2 hlt lt2 hlen
    rintro σ H3 ⟨rfl, g⟩
    have well : ∀ (Q' : VK), (∀ H', Q' (.bl true) H') → sp_lwell K c_Web [.ref x4, .int (n : Nat), .ref S] H3 Q' (fun _ _ _ => False) := fun Q' q' => ⟨_, S, n, 20, 657, xs, ss, rfl, g.web, g.fS, g.st, n8, l16, okR, hbl, by decide, hR20, fun H6 s6 => q' H6⟩
    walk_at "r"
    by_cases c2 : (n : Int) < 2
    · walk_at "r"
      exact ⟨_, S, n, 20, 657, xs, ss, rfl, g.web, g.fS, g.st, n8, l16, okR, hbl, by decide, hR20, fun H6 s6 => q H6⟩
    · have gS := g.fS
      walk_at "r"
      by_cases c3 : (xs.length : Int) = 16
      · walk_at "r"
        exact ⟨_, S, n, 20, 657, xs, ss, rfl, g.web, g.fS, g.st, n8, l16, okR, hbl, by decide, hR20, fun H6 s6 => q H6⟩
      · walk_at "r"
        clear well
        refine ⟨_, _, _, n, rfl, by omega, n8, g.dk, by decide, fun H4 v s w4 k4 iv oks bs br => ?_⟩
        have g := g.fw w4 k4
        obtain ⟨pv, va, vb, vr, rfl, hpv, ia, ib, ir⟩ := id iv
        walk_at "r"
        intro p5 n5
        have s5 := same_upd (o := .lst [V.ref pv]) n5
        have h5 : upd H4 p5 (.lst [V.ref pv]) p5 = some (.lst [V.ref pv]) := upd_same
        generalize upd H4 p5 (.lst [V.ref pv]) = H5 at *
        have g := g.same s5
        refine ⟨S, p5, xs, _, rfl, rfl, g.fS, h5, Nat.le_of_lt (small1000 (show xs.length + 1 ≤ 1000 by omega)), fun p6 n6 => ?_⟩
        have s6 := same_upd (o := .lst (xs ++ [V.ref pv])) n6
        have h6 : upd H5 p6 (.lst (xs ++ [V.ref pv])) p6 = some (.lst (xs ++ [V.ref pv])) := upd_same
        generalize upd H5 p6 (.lst (xs ++ [V.ref pv])) = H6 at *
        have g := g.same s6
        have iv6 := (iv.same s5).same s6
        have st6 : Sts K H6 (xs ++ [V.ref pv]) (ss ++ [s]) := g.st.snoc iv6
        have okm : ∀ t ∈ ss ++ [s], OkSt n t := fun t ht => by
          rcases List.mem_append.mp ht with z | z
          · exact ok t z
          · rw [List.mem_singleton.mp z]
            exact oks
        have okmR : ∀ t ∈ ss ++ [s], OkSt n t ∧ Bd 20 t.r := fun t ht => by
          rcases List.mem_append.mp ht with z | z
          · exact okR t z
          · rw [List.mem_singleton.mp z]
            exact ⟨oks, br⟩
        have lm : (ss ++ [s]).length ≤ 16 := by
          rw [List.length_append]
          show ss.length + 1 ≤ 16
          omega
        have blm : BL (ss ++ [s]) 657 := bl_of lm (bl_snoc (fun s hs => (hok s hs).2.1) bs)
        have hRm : (20 + 1) * (ss ++ [s]).length + 1 ≤ 3900 := by omega
        clear n5 n6 h5
        walk_at "r"
        intro x7 dx7 nx nd ne
        have xS := ne_of_none h6 nx
        have dS := ne_of_none h6 nd
        refine ⟨x7, dx7, p6, n, _, ss ++ [s], rfl, upd_same, .inl ((upd_ne xS).trans ((upd_ne dS).trans h6)), n1, n8, by rw [List.length_append]; show xs.length + 1 ≤ 16; omega, ?_, fun t ht => ⟨okm t ht, (bl_snoc (fun s hs => (hok s hs).2.1) bs t ht).mono (by decide)⟩, fun H7 hweb7 kp => ⟨rfl, ?_⟩⟩
        · refine st6.ts fun b zs hb => ?_
          rw [upd_ne (ne_of_none hb nx), upd_ne (ne_of_none hb nd)]
          exact hb
        have s7 : Same H6 H7 := Same.made nx nd kp
        have g := g.same s7
        have iv7 := iv6.same s7
        clear st6 h6 kp xS dS nx nd ne iv6
        walk_at "r"
        refine ⟨_, n, ss, 657, rfl, g.web, n8, l16, hbl, by decide, fun H8 v8 s8 h8 => ?_⟩
        have g := g.same s8
        walk_at "r"
        refine ⟨_, n, ss ++ [s], 657, rfl, hweb7.same s8, n8, lm, blm, by decide, fun H9 v9 s9 h9 => ?_⟩
        have g := g.same s9
        have h8 := h8.same s9
        have hweb9 := (hweb7.same s8).same s9
        have iv9 := (iv7.same s8).same s9
        clear hweb7 iv7 iv
        walk_at "r"
        refine ⟨by omega, by omega, ?_⟩
        refine for_range (lo := 0) (n := n) (fun i σ H' => ∃ (t13 t14 : Option V), σ = [some (.ref a), some (.ref D), some (.int (n : Nat)), some (.ref S), some (.ref x4), some (.ref x9), t6, some (.ref G), t8, some (.ref pv), some (.ref x7), some v8, some v9, t13, t14] ∧ Same H9 H') ?_ ?_ ?_
        · exact ⟨_, _, rfl, Same.refl _⟩
        · rintro i σ Ha hi ⟨t13', t14', rfl, sa'⟩
          rw [Int.zero_add]
          have hi : i < n := hi
          have eh : heldAt (ss ++ [s]) i = heldAt ss i + hold1 s i := by
            rw [heldAt_app, heldAt_cons]
            show _ = _
            rw [show heldAt [] i = 0 from rfl, Rat.add_zero]
          walk_at "r"
          refine rd_ixFs (h8.same sa') (by simp [heldAll]; exact hi) fun vd iv1 => ?_
          rw [held_get hi] at iv1
          walk_at "r"
          refine ⟨fun σ Hb => ∃ (vd : V), σ = [some (.ref a), some (.ref D), some (.int (n : Nat)), some (.ref S), some (.ref x4), some (.ref x9), t6, some (.ref G), t8, some (.ref pv), some (.ref x7), some v8, some v9, some (.int (i : Nat)), some vd] ∧ Same H9 Hb ∧ IsF K Hb vd (heldAt (ss ++ [s]) i), ?_, ?_⟩
          · obtain ⟨pv', va', vb', vr', e', hpv', ia', ib', ir'⟩ := iv9.same sa'
            cases e'
            walk_at "r"
            refine rd_slT hpv' (show ¬ (HT.sIx 5 0 none = 0 ∧ HT.sIx 5 5 (some 2) = 5) by decide) fun p1 Hb s1 h1 => ?_
            have h1 : Hb p1 = some (.tup [V.int (s.u : Nat), .int (s.v : Nat)]) := h1
            refine ⟨_, _, rfl, .inr (.of h1), rfl, rfl, ?_⟩
            rw [if_neg Bool.false_ne_true, stl_at_in]
            refine ⟨_, rfl, ?_⟩
            have hpvb := s1 _ _ hpv'
            cases c : s.at i
            · walk_at "r"
              have e0 : hold1 s i = 0 := by simp [hold1, c]
              rw [e0, Rat.add_zero] at eh
              rw [eh]
              refine ⟨sa'.trans s1, iv1.same s1⟩
            · walk_at "r"
              obtain ⟨vx, ex, ix⟩ : ∃ vx, atI [V.int (s.u : Nat), .int (s.v : Nat), va', vb', vr'] (2 + if decide (((i : Nat) : Int) = (s.v : Nat)) = true then 1 else 0) = some vx ∧ IsF K Hb vx (hold1 s i) := by
                have hn := oks.ne
                by_cases e : i = s.v
                · have e2 : ¬ i = s.u := fun z => hn (z.symm.trans e)
                  rw [decide_eq_true (show ((i : Nat) : Int) = (s.v : Nat) by omega)]
                  refine ⟨vb', rfl, ?_⟩
                  rw [show hold1 s i = s.b by rw [hold1, if_pos c, Stl.hold, if_neg e2]]
                  exact ib'.same s1
                · have e2 : i = s.u := by
                    unfold Stl.at at c
                    simp [e] at c
                    exact c
                  rw [decide_eq_false (show ¬ ((i : Nat) : Int) = (s.v : Nat) by omega)]
                  refine ⟨va', rfl, ?_⟩
                  rw [show hold1 s i = s.a by rw [hold1, if_pos c, Stl.hold, if_pos e2]]
                  exact ia'.same s1
              refine rd_ixT hpvb ex ?_
              walk_at "r"
              intro p2 n2
              have s2 := same_upd (o := .lst [vd, vx]) n2
              have b2 : Bd 40 (hold1 s i) := by
                unfold hold1
                rw [if_pos c]
                exact hold_bd bs i
              refine ⟨p2, [vd, vx], [heldAt ss i, hold1 s i], 1900, rfl, upd_same, .cons ((iv1.same s1).same s2) (.cons (ix.same s2) .nil), br_pair (hbl.held i) b2 (by decide), by decide, fun Hc vc sc hc => ?_⟩
              rw [sum_two, ← eh] at hc
              walk_at "r"
              exact ⟨((sa'.trans s1).trans s2).trans sc, hc⟩
          rintro σ Hb ⟨vd2, rfl, sb, hb2⟩
          walk_at "r"
          refine rd_ixFs (h9.same sb) (by simp [heldAll]; exact hi) fun vf iv2 => ?_
          rw [held_get hi] at iv2
          walk_at "r"
          refine neF (K := K) iv2 hb2 ?_
          rw [decide_eq_true rfl]
          walk_at "r"
          exact ⟨_, _, rfl, sb⟩
        · rintro σ Ha ⟨t13', t14', rfl, sa'⟩
          have g := g.same sa'
          have hu := oks.u
          have hv := oks.v
          walk_at "r"
          refine ⟨_, n, 20, ss ++ [s], rfl, hweb9.same sa', n8, lm, okmR, hRm, fun Hb vb2 sb hb2 => ?_⟩
          have g := g.same sb
          obtain ⟨pv', va', vb', vr', e', hpv', ia', ib', ir'⟩ := (iv9.same sa').same sb
          cases e'
          walk_at "r"
          refine rd_ixRt hb2 (roots_row hu) fun vrow irow => ?_
          walk_at "r"
          refine rd_ixFs irow (by simp; exact hv) fun vel iel => ?_
          rw [roots_at hv] at iel
          walk_at "r"
          refine ⟨_, n, 20, ss, rfl, g.web, n8, l16, okR, hR20, fun Hc vc sc hc => ?_⟩
          have hpvc := sc _ _ hpv'
          have iel := iel.same sc
          have irc := ir'.same sc
          walk_at "r"
          refine rd_ixRt hc (roots_row hv) fun vrow2 irow2 => ?_
          walk_at "r"
          refine rd_ixFs irow2 (by simp; exact hu) fun vel2 iel2 => ?_
          rw [roots_at hu] at iel2
          walk_at "r"
          intro p2 n2
          have s2 := same_upd (o := .lst [vel2, vr']) n2
          have bm : Bd 3900 (rootM ss s.v s.u) := by
            have := rootM_bd (fun s hs => (okR s hs).2) ss.length (Nat.le_refl _) s.v s.u
            rw [List.take_length] at this
            exact this.mono (by omega)
          have bm2 : Bd 700 (rootM ss s.v s.u) := by
            have := rootM_bd (fun s hs => (okR s hs).2) ss.length (Nat.le_refl _) s.v s.u
            rw [List.take_length] at this
            exact this.mono (by omega)
          refine ⟨p2, [vel2, vr'], [rootM ss s.v s.u, s.r], 1900, rfl, upd_same, .cons (iel2.same s2) (.cons (irc.same s2) .nil), br_pair bm2 br (by decide), by decide, fun Hd vd sd hd => ?_⟩
          rw [sum_two] at hd
          have er : rootM (ss ++ [s]) s.u s.v = rootM ss s.v s.u + s.r := by
            rw [rootM_is okm, rootM_is ok, rl_app, sumR_app, rl_sym ss s.v s.u]
            have : rl [s] s.u s.v = [s.r] := by
              have c : btwn s s.u s.v = true := decide_eq_true (.inl ⟨rfl, rfl⟩)
              simp [rl, c]
            rw [this, sumR_cons, sumR_nil, Rat.add_zero]
          rw [er] at iel
          refine eqF (K := K) ((iel.same s2).same sd) hd ?_
          rw [decide_eq_true rfl]
          exact q _
theorem ok_all (T : Txt K mg f_is_integer f_is_row f_is_fraction f_is_some f_added f_multiplied f_squared f_summed f_is_stall f_is_ware f_check_ware f_across f_hold_of f_stalls_of f_kept_of f_held f_roots f_neighbours f_l_deck f_l_pick f_l_divisor f_l_made f_l_amount f_l_great f_l_great_stall f_l_stall f_l_stalls f_l_added f_l_held f_l_roots f_l_are_fractions f_l_is_refused f_l_is_well f_law f_Web_init f_Web_eq c_BadWare c_Web c_ZERO d_is_integer d_is_row d_is_fraction d_is_some d_added d_multiplied d_squared d_summed d_is_stall d_is_ware d_check_ware d_across d_hold_of d_stalls_of d_kept_of d_held d_roots d_neighbours d_l_deck d_l_pick d_l_divisor d_l_made d_l_amount d_l_great d_l_great_stall d_l_stall d_l_stalls d_l_added d_l_held d_l_roots d_l_are_fractions d_l_is_refused d_l_is_well d_law d_Web_init d_Web_eq) : FnOk P w K mg base CX0 7 f_law d_law ["_law_script"] (sp_law K) := ok_law T
end
end My
namespace My
open PySem PySem.Spec PyProof.Rows L2
theorem all_mk {l : PySem.W.OpenLaw} {w : World} {K : PySem.W.Frag} {h : Heap} {mg : Str → Option Value} {fa : Addr} (X : K.In h) (G : h.Ns mainGlobals mg) (hfa : mg "law" = some (.ref fa))
    {c_BadWare : Addr}
    {c_Web : Addr}
    {c_ZERO : Addr} {dd_ZERO : Option Addr} {its_ZERO : Array Value} {n_ZERO : Nat} {sl_ZERO : Array (Option Value)}
    {tk_MOST_STALLS : Tok}
    {tk_MOST_WARES : Tok}
    {od0 an0 : Option Addr} {sl0 : Array (Option Value)} {oc0 kV0 dc0 pm0 cd0 ct0 : Value} {f_is_integer : Addr}
    {od1 an1 : Option Addr} {sl1 : Array (Option Value)} {oc1 kV1 dc1 pm1 cd1 ct1 : Value} {f_is_row : Addr}
    {od2 an2 : Option Addr} {sl2 : Array (Option Value)} {oc2 kV2 dc2 pm2 cd2 ct2 : Value} {f_is_fraction : Addr}
    {od3 an3 : Option Addr} {sl3 : Array (Option Value)} {oc3 kV3 dc3 pm3 cd3 ct3 : Value} {f_is_some : Addr}
    {od4 an4 : Option Addr} {sl4 : Array (Option Value)} {oc4 kV4 dc4 pm4 cd4 ct4 : Value} {f_added : Addr}
    {od5 an5 : Option Addr} {sl5 : Array (Option Value)} {oc5 kV5 dc5 pm5 cd5 ct5 : Value} {f_multiplied : Addr}
    {od6 an6 : Option Addr} {sl6 : Array (Option Value)} {oc6 kV6 dc6 pm6 cd6 ct6 : Value} {f_squared : Addr}
    {od7 an7 : Option Addr} {sl7 : Array (Option Value)} {oc7 kV7 dc7 pm7 cd7 ct7 : Value} {f_summed : Addr}
    {od8 an8 : Option Addr} {sl8 : Array (Option Value)} {oc8 kV8 dc8 pm8 cd8 ct8 : Value} {f_is_stall : Addr}
    {od9 an9 : Option Addr} {sl9 : Array (Option Value)} {oc9 kV9 dc9 pm9 cd9 ct9 : Value} {f_is_ware : Addr}
    {od10 an10 : Option Addr} {sl10 : Array (Option Value)} {oc10 kV10 dc10 pm10 cd10 ct10 : Value} {f_check_ware : Addr}
    {od11 an11 : Option Addr} {sl11 : Array (Option Value)} {oc11 kV11 dc11 pm11 cd11 ct11 : Value} {f_across : Addr}
    {od12 an12 : Option Addr} {sl12 : Array (Option Value)} {oc12 kV12 dc12 pm12 cd12 ct12 : Value} {f_hold_of : Addr}
    {od13 an13 : Option Addr} {sl13 : Array (Option Value)} {oc13 kV13 dc13 pm13 cd13 ct13 : Value} {f_stalls_of : Addr}
    {od14 an14 : Option Addr} {sl14 : Array (Option Value)} {oc14 kV14 dc14 pm14 cd14 ct14 : Value} {f_kept_of : Addr}
    {od15 an15 : Option Addr} {sl15 : Array (Option Value)} {oc15 kV15 dc15 pm15 cd15 ct15 : Value} {f_held : Addr}
    {od16 an16 : Option Addr} {sl16 : Array (Option Value)} {oc16 kV16 dc16 pm16 cd16 ct16 : Value} {f_roots : Addr}
    {od17 an17 : Option Addr} {sl17 : Array (Option Value)} {oc17 kV17 dc17 pm17 cd17 ct17 : Value} {f_neighbours : Addr}
    {od18 an18 : Option Addr} {sl18 : Array (Option Value)} {oc18 kV18 dc18 pm18 cd18 ct18 : Value} {f_l_deck : Addr}
    {od19 an19 : Option Addr} {sl19 : Array (Option Value)} {oc19 kV19 dc19 pm19 cd19 ct19 : Value} {f_l_pick : Addr}
    {od20 an20 : Option Addr} {sl20 : Array (Option Value)} {oc20 kV20 dc20 pm20 cd20 ct20 : Value} {f_l_divisor : Addr}
    {od21 an21 : Option Addr} {sl21 : Array (Option Value)} {oc21 kV21 dc21 pm21 cd21 ct21 : Value} {f_l_made : Addr}
    {od22 an22 : Option Addr} {sl22 : Array (Option Value)} {oc22 kV22 dc22 pm22 cd22 ct22 : Value} {f_l_amount : Addr}
    {od23 an23 : Option Addr} {sl23 : Array (Option Value)} {oc23 kV23 dc23 pm23 cd23 ct23 : Value} {f_l_great : Addr}
    {od24 an24 : Option Addr} {sl24 : Array (Option Value)} {oc24 kV24 dc24 pm24 cd24 ct24 : Value} {f_l_great_stall : Addr}
    {od25 an25 : Option Addr} {sl25 : Array (Option Value)} {oc25 kV25 dc25 pm25 cd25 ct25 : Value} {f_l_stall : Addr}
    {od26 an26 : Option Addr} {sl26 : Array (Option Value)} {oc26 kV26 dc26 pm26 cd26 ct26 : Value} {f_l_stalls : Addr}
    {od27 an27 : Option Addr} {sl27 : Array (Option Value)} {oc27 kV27 dc27 pm27 cd27 ct27 : Value} {f_l_added : Addr}
    {od28 an28 : Option Addr} {sl28 : Array (Option Value)} {oc28 kV28 dc28 pm28 cd28 ct28 : Value} {f_l_held : Addr}
    {od29 an29 : Option Addr} {sl29 : Array (Option Value)} {oc29 kV29 dc29 pm29 cd29 ct29 : Value} {f_l_roots : Addr}
    {od30 an30 : Option Addr} {sl30 : Array (Option Value)} {oc30 kV30 dc30 pm30 cd30 ct30 : Value} {f_l_are_fractions : Addr}
    {od31 an31 : Option Addr} {sl31 : Array (Option Value)} {oc31 kV31 dc31 pm31 cd31 ct31 : Value} {f_l_is_refused : Addr}
    {od32 an32 : Option Addr} {sl32 : Array (Option Value)} {oc32 kV32 dc32 pm32 cd32 ct32 : Value} {f_l_is_well : Addr}
    {od33 an33 : Option Addr} {sl33 : Array (Option Value)} {oc33 kV33 dc33 pm33 cd33 ct33 : Value} {f_law : Addr}
    {od34 an34 : Option Addr} {sl34 : Array (Option Value)} {oc34 kV34 dc34 pm34 cd34 ct34 : Value} {f_Web_init : Addr}
    {od35 an35 : Option Addr} {sl35 : Array (Option Value)} {oc35 kV35 dc35 pm35 cd35 ct35 : Value} {f_Web_eq : Addr}
    (z_abs : PySem.W.nsIn K mainGlobals "abs" = some none)
    (z_all : PySem.W.nsIn K mainGlobals "all" = some none)
    (z_any : PySem.W.nsIn K mainGlobals "any" = some none)
    (z_bool : PySem.W.nsIn K mainGlobals "bool" = some none)
    (z_enumerate : PySem.W.nsIn K mainGlobals "enumerate" = some none)
    (z_int : PySem.W.nsIn K mainGlobals "int" = some none)
    (z_isinstance : PySem.W.nsIn K mainGlobals "isinstance" = some none)
    (z_len : PySem.W.nsIn K mainGlobals "len" = some none)
    (z_list : PySem.W.nsIn K mainGlobals "list" = some none)
    (z_range : PySem.W.nsIn K mainGlobals "range" = some none)
    (z_set : PySem.W.nsIn K mainGlobals "set" = some none)
    (z_sorted : PySem.W.nsIn K mainGlobals "sorted" = some none)
    (z_tuple : PySem.W.nsIn K mainGlobals "tuple" = some none)
    (m_gcd : PySem.W.nsIn K mainGlobals "gcd" = some (some (.builtin "math.gcd")))
    (a_BadWare : PySem.W.nsIn K mainGlobals "BadWare" = some (some (.ref c_BadWare)))
    (ex_BadWare : PySem.W.excIn K c_BadWare veChain "ValueError.__new__" = true)
    (kp_BadWare : PySem.W.keepIn K (.ref c_BadWare) = true)
    (be_BadWare : PySem.W.subIn K (.ref c_BadWare) (.type "BaseException") = some true)
    (ty_BadWare : PySem.W.typeIn K (.ref c_BadWare) = some (.type "type"))
    (ic_BadWare : PySem.W.isClsIn K c_BadWare = true)
    (sf_BadWare : PySem.W.subIn K (.ref c_BadWare) (.ref c_BadWare) = some true)
    (a_Web : PySem.W.nsIn K mainGlobals "Web" = some (some (.ref c_Web)))
    (mk_Web : PySem.W.makesIn K c_Web = true)
    (in_Web : PySem.W.findIn K (.ref c_Web) "__init__" = some (some (.ref f_Web_init)))
    (fn_Web : PySem.W.isFn K (.ref f_Web_init) = true)
    (kp_Web : PySem.W.keepIn K (.ref c_Web) = true)
    (pg_Web : PySem.W.plainGet K c_Web Str.empty = true)
    (hd_Web : PySem.W.hasDictIn K c_Web = true)
    (po_Web : PySem.W.plainOver K c_Web = true)
    (sa_Web : PySem.W.findIn K (.ref c_Web) "__setattr__" = some (some (.builtin "object.__setattr__")))
    (ha_Web : PySem.W.findIn K (.ref c_Web) "__class__" = some (some (.builtin "object.__class__")))
    (hn_Web : PySem.W.specialIn K (.builtin "object.__class__") "__get__" = some (some (.builtin "getset_descriptor.__get__")))
    (ht_Web : PySem.W.takesIn K (.builtin "object.__class__") = some true)
    (mo_Web : PySem.W.mroIn K c_Web (.type "object") = some true)
    (i_int_Web : PySem.W.kitOne K (.ref c_Web) (.type "int") = some false)
    (i_bool_Web : PySem.W.kitOne K (.ref c_Web) (.type "bool") = some false)
    (i_tuple_Web : PySem.W.kitOne K (.ref c_Web) (.type "tuple") = some false)
    (i_list_Web : PySem.W.kitOne K (.ref c_Web) (.type "list") = some false)
    (na_Web_wares : PySem.W.findIn K (.ref c_Web) "wares" = some none)
    (na_Web_stalls : PySem.W.findIn K (.ref c_Web) "stalls" = some none)
    (v_ZERO : PySem.W.nsIn K mainGlobals "ZERO" = some (some (.ref c_ZERO)))
    (o_ZERO : K.lookup c_ZERO = some ⟨.type "tuple", dd_ZERO, .seq its_ZERO n_ZERO, sl_ZERO⟩)
    (tv_ZERO : Vals [V.int 0, V.int 1] its_ZERO.toList ∧ its_ZERO.size ≤ sizeLine)
    (v_MOST_STALLS : PySem.W.nsIn K mainGlobals "MOST_STALLS" = some (some (.int 16 tk_MOST_STALLS)))
    (v_MOST_WARES : PySem.W.nsIn K mainGlobals "MOST_WARES" = some (some (.int 8 tk_MOST_WARES)))
    (a_is_integer : PySem.W.nsIn K mainGlobals "is_integer" = some (some (.ref f_is_integer)))
    (l_is_integer : K.lookup f_is_integer = some ⟨oc0, od0, .func (PySem.W.fnOf "is_integer" "is_integer" (defArgs s_is_integer) (defBody s_is_integer) (defScope s_is_integer) .none kV0 dc0 pm0 an0 cd0 ct0), sl0⟩)
    (c_is_integer : PySem.W.codeIn K cd0 "is_integer" = true)
    (k_is_integer : PySem.W.keepIn K (.ref f_is_integer) = true)
    (a_is_row : PySem.W.nsIn K mainGlobals "is_row" = some (some (.ref f_is_row)))
    (l_is_row : K.lookup f_is_row = some ⟨oc1, od1, .func (PySem.W.fnOf "is_row" "is_row" (defArgs s_is_row) (defBody s_is_row) (defScope s_is_row) .none kV1 dc1 pm1 an1 cd1 ct1), sl1⟩)
    (c_is_row : PySem.W.codeIn K cd1 "is_row" = true)
    (k_is_row : PySem.W.keepIn K (.ref f_is_row) = true)
    (a_is_fraction : PySem.W.nsIn K mainGlobals "is_fraction" = some (some (.ref f_is_fraction)))
    (l_is_fraction : K.lookup f_is_fraction = some ⟨oc2, od2, .func (PySem.W.fnOf "is_fraction" "is_fraction" (defArgs s_is_fraction) (defBody s_is_fraction) (defScope s_is_fraction) .none kV2 dc2 pm2 an2 cd2 ct2), sl2⟩)
    (c_is_fraction : PySem.W.codeIn K cd2 "is_fraction" = true)
    (k_is_fraction : PySem.W.keepIn K (.ref f_is_fraction) = true)
    (a_is_some : PySem.W.nsIn K mainGlobals "is_some" = some (some (.ref f_is_some)))
    (l_is_some : K.lookup f_is_some = some ⟨oc3, od3, .func (PySem.W.fnOf "is_some" "is_some" (defArgs s_is_some) (defBody s_is_some) (defScope s_is_some) .none kV3 dc3 pm3 an3 cd3 ct3), sl3⟩)
    (c_is_some : PySem.W.codeIn K cd3 "is_some" = true)
    (k_is_some : PySem.W.keepIn K (.ref f_is_some) = true)
    (a_added : PySem.W.nsIn K mainGlobals "added" = some (some (.ref f_added)))
    (l_added : K.lookup f_added = some ⟨oc4, od4, .func (PySem.W.fnOf "added" "added" (defArgs s_added) (defBody s_added) (defScope s_added) .none kV4 dc4 pm4 an4 cd4 ct4), sl4⟩)
    (c_added : PySem.W.codeIn K cd4 "added" = true)
    (k_added : PySem.W.keepIn K (.ref f_added) = true)
    (a_multiplied : PySem.W.nsIn K mainGlobals "multiplied" = some (some (.ref f_multiplied)))
    (l_multiplied : K.lookup f_multiplied = some ⟨oc5, od5, .func (PySem.W.fnOf "multiplied" "multiplied" (defArgs s_multiplied) (defBody s_multiplied) (defScope s_multiplied) .none kV5 dc5 pm5 an5 cd5 ct5), sl5⟩)
    (c_multiplied : PySem.W.codeIn K cd5 "multiplied" = true)
    (k_multiplied : PySem.W.keepIn K (.ref f_multiplied) = true)
    (a_squared : PySem.W.nsIn K mainGlobals "squared" = some (some (.ref f_squared)))
    (l_squared : K.lookup f_squared = some ⟨oc6, od6, .func (PySem.W.fnOf "squared" "squared" (defArgs s_squared) (defBody s_squared) (defScope s_squared) .none kV6 dc6 pm6 an6 cd6 ct6), sl6⟩)
    (c_squared : PySem.W.codeIn K cd6 "squared" = true)
    (k_squared : PySem.W.keepIn K (.ref f_squared) = true)
    (a_summed : PySem.W.nsIn K mainGlobals "summed" = some (some (.ref f_summed)))
    (l_summed : K.lookup f_summed = some ⟨oc7, od7, .func (PySem.W.fnOf "summed" "summed" (defArgs s_summed) (defBody s_summed) (defScope s_summed) .none kV7 dc7 pm7 an7 cd7 ct7), sl7⟩)
    (c_summed : PySem.W.codeIn K cd7 "summed" = true)
    (k_summed : PySem.W.keepIn K (.ref f_summed) = true)
    (a_is_stall : PySem.W.nsIn K mainGlobals "is_stall" = some (some (.ref f_is_stall)))
    (l_is_stall : K.lookup f_is_stall = some ⟨oc8, od8, .func (PySem.W.fnOf "is_stall" "is_stall" (defArgs s_is_stall) (defBody s_is_stall) (defScope s_is_stall) .none kV8 dc8 pm8 an8 cd8 ct8), sl8⟩)
    (c_is_stall : PySem.W.codeIn K cd8 "is_stall" = true)
    (k_is_stall : PySem.W.keepIn K (.ref f_is_stall) = true)
    (a_is_ware : PySem.W.nsIn K mainGlobals "is_ware" = some (some (.ref f_is_ware)))
    (l_is_ware : K.lookup f_is_ware = some ⟨oc9, od9, .func (PySem.W.fnOf "is_ware" "is_ware" (defArgs s_is_ware) (defBody s_is_ware) (defScope s_is_ware) .none kV9 dc9 pm9 an9 cd9 ct9), sl9⟩)
    (c_is_ware : PySem.W.codeIn K cd9 "is_ware" = true)
    (k_is_ware : PySem.W.keepIn K (.ref f_is_ware) = true)
    (a_check_ware : PySem.W.nsIn K mainGlobals "check_ware" = some (some (.ref f_check_ware)))
    (l_check_ware : K.lookup f_check_ware = some ⟨oc10, od10, .func (PySem.W.fnOf "check_ware" "check_ware" (defArgs s_check_ware) (defBody s_check_ware) (defScope s_check_ware) .none kV10 dc10 pm10 an10 cd10 ct10), sl10⟩)
    (c_check_ware : PySem.W.codeIn K cd10 "check_ware" = true)
    (k_check_ware : PySem.W.keepIn K (.ref f_check_ware) = true)
    (a_across : PySem.W.nsIn K mainGlobals "across" = some (some (.ref f_across)))
    (l_across : K.lookup f_across = some ⟨oc11, od11, .func (PySem.W.fnOf "across" "across" (defArgs s_across) (defBody s_across) (defScope s_across) .none kV11 dc11 pm11 an11 cd11 ct11), sl11⟩)
    (c_across : PySem.W.codeIn K cd11 "across" = true)
    (k_across : PySem.W.keepIn K (.ref f_across) = true)
    (a_hold_of : PySem.W.nsIn K mainGlobals "hold_of" = some (some (.ref f_hold_of)))
    (l_hold_of : K.lookup f_hold_of = some ⟨oc12, od12, .func (PySem.W.fnOf "hold_of" "hold_of" (defArgs s_hold_of) (defBody s_hold_of) (defScope s_hold_of) .none kV12 dc12 pm12 an12 cd12 ct12), sl12⟩)
    (c_hold_of : PySem.W.codeIn K cd12 "hold_of" = true)
    (k_hold_of : PySem.W.keepIn K (.ref f_hold_of) = true)
    (a_stalls_of : PySem.W.nsIn K mainGlobals "stalls_of" = some (some (.ref f_stalls_of)))
    (l_stalls_of : K.lookup f_stalls_of = some ⟨oc13, od13, .func (PySem.W.fnOf "stalls_of" "stalls_of" (defArgs s_stalls_of) (defBody s_stalls_of) (defScope s_stalls_of) .none kV13 dc13 pm13 an13 cd13 ct13), sl13⟩)
    (c_stalls_of : PySem.W.codeIn K cd13 "stalls_of" = true)
    (k_stalls_of : PySem.W.keepIn K (.ref f_stalls_of) = true)
    (a_kept_of : PySem.W.nsIn K mainGlobals "kept_of" = some (some (.ref f_kept_of)))
    (l_kept_of : K.lookup f_kept_of = some ⟨oc14, od14, .func (PySem.W.fnOf "kept_of" "kept_of" (defArgs s_kept_of) (defBody s_kept_of) (defScope s_kept_of) .none kV14 dc14 pm14 an14 cd14 ct14), sl14⟩)
    (c_kept_of : PySem.W.codeIn K cd14 "kept_of" = true)
    (k_kept_of : PySem.W.keepIn K (.ref f_kept_of) = true)
    (a_held : PySem.W.nsIn K mainGlobals "held" = some (some (.ref f_held)))
    (l_held : K.lookup f_held = some ⟨oc15, od15, .func (PySem.W.fnOf "held" "held" (defArgs s_held) (defBody s_held) (defScope s_held) .none kV15 dc15 pm15 an15 cd15 ct15), sl15⟩)
    (c_held : PySem.W.codeIn K cd15 "held" = true)
    (k_held : PySem.W.keepIn K (.ref f_held) = true)
    (a_roots : PySem.W.nsIn K mainGlobals "roots" = some (some (.ref f_roots)))
    (l_roots : K.lookup f_roots = some ⟨oc16, od16, .func (PySem.W.fnOf "roots" "roots" (defArgs s_roots) (defBody s_roots) (defScope s_roots) .none kV16 dc16 pm16 an16 cd16 ct16), sl16⟩)
    (c_roots : PySem.W.codeIn K cd16 "roots" = true)
    (k_roots : PySem.W.keepIn K (.ref f_roots) = true)
    (a_neighbours : PySem.W.nsIn K mainGlobals "neighbours" = some (some (.ref f_neighbours)))
    (l_neighbours : K.lookup f_neighbours = some ⟨oc17, od17, .func (PySem.W.fnOf "neighbours" "neighbours" (defArgs s_neighbours) (defBody s_neighbours) (defScope s_neighbours) .none kV17 dc17 pm17 an17 cd17 ct17), sl17⟩)
    (c_neighbours : PySem.W.codeIn K cd17 "neighbours" = true)
    (k_neighbours : PySem.W.keepIn K (.ref f_neighbours) = true)
    (a_l_deck : PySem.W.nsIn K mainGlobals "_law_deck" = some (some (.ref f_l_deck)))
    (l_l_deck : K.lookup f_l_deck = some ⟨oc18, od18, .func (PySem.W.fnOf "_law_deck" "_law_deck" (defArgs s_l_deck) (defBody s_l_deck) (defScope s_l_deck) .none kV18 dc18 pm18 an18 cd18 ct18), sl18⟩)
    (c_l_deck : PySem.W.codeIn K cd18 "_law_deck" = true)
    (k_l_deck : PySem.W.keepIn K (.ref f_l_deck) = true)
    (a_l_pick : PySem.W.nsIn K mainGlobals "_law_pick" = some (some (.ref f_l_pick)))
    (l_l_pick : K.lookup f_l_pick = some ⟨oc19, od19, .func (PySem.W.fnOf "_law_pick" "_law_pick" (defArgs s_l_pick) (defBody s_l_pick) (defScope s_l_pick) .none kV19 dc19 pm19 an19 cd19 ct19), sl19⟩)
    (c_l_pick : PySem.W.codeIn K cd19 "_law_pick" = true)
    (k_l_pick : PySem.W.keepIn K (.ref f_l_pick) = true)
    (a_l_divisor : PySem.W.nsIn K mainGlobals "_law_divisor" = some (some (.ref f_l_divisor)))
    (l_l_divisor : K.lookup f_l_divisor = some ⟨oc20, od20, .func (PySem.W.fnOf "_law_divisor" "_law_divisor" (defArgs s_l_divisor) (defBody s_l_divisor) (defScope s_l_divisor) .none kV20 dc20 pm20 an20 cd20 ct20), sl20⟩)
    (c_l_divisor : PySem.W.codeIn K cd20 "_law_divisor" = true)
    (k_l_divisor : PySem.W.keepIn K (.ref f_l_divisor) = true)
    (a_l_made : PySem.W.nsIn K mainGlobals "_law_made" = some (some (.ref f_l_made)))
    (l_l_made : K.lookup f_l_made = some ⟨oc21, od21, .func (PySem.W.fnOf "_law_made" "_law_made" (defArgs s_l_made) (defBody s_l_made) (defScope s_l_made) .none kV21 dc21 pm21 an21 cd21 ct21), sl21⟩)
    (c_l_made : PySem.W.codeIn K cd21 "_law_made" = true)
    (k_l_made : PySem.W.keepIn K (.ref f_l_made) = true)
    (a_l_amount : PySem.W.nsIn K mainGlobals "_law_amount" = some (some (.ref f_l_amount)))
    (l_l_amount : K.lookup f_l_amount = some ⟨oc22, od22, .func (PySem.W.fnOf "_law_amount" "_law_amount" (defArgs s_l_amount) (defBody s_l_amount) (defScope s_l_amount) .none kV22 dc22 pm22 an22 cd22 ct22), sl22⟩)
    (c_l_amount : PySem.W.codeIn K cd22 "_law_amount" = true)
    (k_l_amount : PySem.W.keepIn K (.ref f_l_amount) = true)
    (a_l_great : PySem.W.nsIn K mainGlobals "_law_great" = some (some (.ref f_l_great)))
    (l_l_great : K.lookup f_l_great = some ⟨oc23, od23, .func (PySem.W.fnOf "_law_great" "_law_great" (defArgs s_l_great) (defBody s_l_great) (defScope s_l_great) .none kV23 dc23 pm23 an23 cd23 ct23), sl23⟩)
    (c_l_great : PySem.W.codeIn K cd23 "_law_great" = true)
    (k_l_great : PySem.W.keepIn K (.ref f_l_great) = true)
    (a_l_great_stall : PySem.W.nsIn K mainGlobals "_law_great_stall" = some (some (.ref f_l_great_stall)))
    (l_l_great_stall : K.lookup f_l_great_stall = some ⟨oc24, od24, .func (PySem.W.fnOf "_law_great_stall" "_law_great_stall" (defArgs s_l_great_stall) (defBody s_l_great_stall) (defScope s_l_great_stall) .none kV24 dc24 pm24 an24 cd24 ct24), sl24⟩)
    (c_l_great_stall : PySem.W.codeIn K cd24 "_law_great_stall" = true)
    (k_l_great_stall : PySem.W.keepIn K (.ref f_l_great_stall) = true)
    (a_l_stall : PySem.W.nsIn K mainGlobals "_law_stall" = some (some (.ref f_l_stall)))
    (l_l_stall : K.lookup f_l_stall = some ⟨oc25, od25, .func (PySem.W.fnOf "_law_stall" "_law_stall" (defArgs s_l_stall) (defBody s_l_stall) (defScope s_l_stall) .none kV25 dc25 pm25 an25 cd25 ct25), sl25⟩)
    (c_l_stall : PySem.W.codeIn K cd25 "_law_stall" = true)
    (k_l_stall : PySem.W.keepIn K (.ref f_l_stall) = true)
    (a_l_stalls : PySem.W.nsIn K mainGlobals "_law_stalls" = some (some (.ref f_l_stalls)))
    (l_l_stalls : K.lookup f_l_stalls = some ⟨oc26, od26, .func (PySem.W.fnOf "_law_stalls" "_law_stalls" (defArgs s_l_stalls) (defBody s_l_stalls) (defScope s_l_stalls) .none kV26 dc26 pm26 an26 cd26 ct26), sl26⟩)
    (c_l_stalls : PySem.W.codeIn K cd26 "_law_stalls" = true)
    (k_l_stalls : PySem.W.keepIn K (.ref f_l_stalls) = true)
    (a_l_added : PySem.W.nsIn K mainGlobals "_law_added" = some (some (.ref f_l_added)))
    (l_l_added : K.lookup f_l_added = some ⟨oc27, od27, .func (PySem.W.fnOf "_law_added" "_law_added" (defArgs s_l_added) (defBody s_l_added) (defScope s_l_added) .none kV27 dc27 pm27 an27 cd27 ct27), sl27⟩)
    (c_l_added : PySem.W.codeIn K cd27 "_law_added" = true)
    (k_l_added : PySem.W.keepIn K (.ref f_l_added) = true)
    (a_l_held : PySem.W.nsIn K mainGlobals "_law_held" = some (some (.ref f_l_held)))
    (l_l_held : K.lookup f_l_held = some ⟨oc28, od28, .func (PySem.W.fnOf "_law_held" "_law_held" (defArgs s_l_held) (defBody s_l_held) (defScope s_l_held) .none kV28 dc28 pm28 an28 cd28 ct28), sl28⟩)
    (c_l_held : PySem.W.codeIn K cd28 "_law_held" = true)
    (k_l_held : PySem.W.keepIn K (.ref f_l_held) = true)
    (a_l_roots : PySem.W.nsIn K mainGlobals "_law_roots" = some (some (.ref f_l_roots)))
    (l_l_roots : K.lookup f_l_roots = some ⟨oc29, od29, .func (PySem.W.fnOf "_law_roots" "_law_roots" (defArgs s_l_roots) (defBody s_l_roots) (defScope s_l_roots) .none kV29 dc29 pm29 an29 cd29 ct29), sl29⟩)
    (c_l_roots : PySem.W.codeIn K cd29 "_law_roots" = true)
    (k_l_roots : PySem.W.keepIn K (.ref f_l_roots) = true)
    (a_l_are_fractions : PySem.W.nsIn K mainGlobals "_law_are_fractions" = some (some (.ref f_l_are_fractions)))
    (l_l_are_fractions : K.lookup f_l_are_fractions = some ⟨oc30, od30, .func (PySem.W.fnOf "_law_are_fractions" "_law_are_fractions" (defArgs s_l_are_fractions) (defBody s_l_are_fractions) (defScope s_l_are_fractions) .none kV30 dc30 pm30 an30 cd30 ct30), sl30⟩)
    (c_l_are_fractions : PySem.W.codeIn K cd30 "_law_are_fractions" = true)
    (k_l_are_fractions : PySem.W.keepIn K (.ref f_l_are_fractions) = true)
    (a_l_is_refused : PySem.W.nsIn K mainGlobals "_law_is_refused" = some (some (.ref f_l_is_refused)))
    (l_l_is_refused : K.lookup f_l_is_refused = some ⟨oc31, od31, .func (PySem.W.fnOf "_law_is_refused" "_law_is_refused" (defArgs s_l_is_refused) (defBody s_l_is_refused) (defScope s_l_is_refused) .none kV31 dc31 pm31 an31 cd31 ct31), sl31⟩)
    (c_l_is_refused : PySem.W.codeIn K cd31 "_law_is_refused" = true)
    (k_l_is_refused : PySem.W.keepIn K (.ref f_l_is_refused) = true)
    (a_l_is_well : PySem.W.nsIn K mainGlobals "_law_is_well" = some (some (.ref f_l_is_well)))
    (l_l_is_well : K.lookup f_l_is_well = some ⟨oc32, od32, .func (PySem.W.fnOf "_law_is_well" "_law_is_well" (defArgs s_l_is_well) (defBody s_l_is_well) (defScope s_l_is_well) .none kV32 dc32 pm32 an32 cd32 ct32), sl32⟩)
    (c_l_is_well : PySem.W.codeIn K cd32 "_law_is_well" = true)
    (k_l_is_well : PySem.W.keepIn K (.ref f_l_is_well) = true)
    (a_law : PySem.W.nsIn K mainGlobals "law" = some (some (.ref f_law)))
    (l_law : K.lookup f_law = some ⟨oc33, od33, .func (PySem.W.fnOf "law" "law" (defArgs s_law) (defBody s_law) (defScope s_law) .none kV33 dc33 pm33 an33 cd33 ct33), sl33⟩)
    (c_law : PySem.W.codeIn K cd33 "law" = true)
    (k_law : PySem.W.keepIn K (.ref f_law) = true)
    (l_Web_init : K.lookup f_Web_init = some ⟨oc34, od34, .func (PySem.W.fnOf "__init__" "Web.__init__" (defArgs s_Web_init) (defBody s_Web_init) (defScope s_Web_init) .none kV34 dc34 pm34 an34 cd34 ct34), sl34⟩)
    (c_Web_init : PySem.W.codeIn K cd34 "Web.__init__" = true)
    (k_Web_init : PySem.W.keepIn K (.ref f_Web_init) = true)
    (mi_Web_eq : PySem.W.findIn K (.ref c_Web) "__eq__" = some (some (.ref f_Web_eq)))
    (l_Web_eq : K.lookup f_Web_eq = some ⟨oc35, od35, .func (PySem.W.fnOf "__eq__" "Web.__eq__" (defArgs s_Web_eq) (defBody s_Web_eq) (defScope s_Web_eq) .none kV35 dc35 pm35 an35 cd35 ct35), sl35⟩)
    (c_Web_eq : PySem.W.codeIn K cd35 "Web.__eq__" = true)
    (k_Web_eq : PySem.W.keepIn K (.ref f_Web_eq) = true)
    (mf_Web_eq : PySem.W.isFn K (.ref f_Web_eq) = true)
    (mn_Web : PySem.W.findIn K (.ref c_Web) "__ne__" = some (some (.builtin "object.__ne__")))
    : ∃ fd : FuncData, (∀ (s : Shared) (v : Value), BindsTo s fd ⟨[v], []⟩ [("_law_script", v)]) ∧ ∀ base : Heap, K.In base → base.Ns mainGlobals mg → FnOk l.prog w K mg base CX0 7 fa fd ["_law_script"] (sp_law K) := by
  have e := hfa.symm.trans (PySem.W.mg_of X G a_law)
  cases e
  have T : Txt K mg f_is_integer f_is_row f_is_fraction f_is_some f_added f_multiplied f_squared f_summed f_is_stall f_is_ware f_check_ware f_across f_hold_of f_stalls_of f_kept_of f_held f_roots f_neighbours f_l_deck f_l_pick f_l_divisor f_l_made f_l_amount f_l_great f_l_great_stall f_l_stall f_l_stalls f_l_added f_l_held f_l_roots f_l_are_fractions f_l_is_refused f_l_is_well fa f_Web_init f_Web_eq c_BadWare c_Web c_ZERO _ _ _ _ _ _ _ _ _ _ _ _ _ _ _ _ _ _ _ _ _ _ _ _ _ _ _ _ _ _ _ _ _ _ _ _ := {
    z_abs := PySem.W.mg_none_of X G z_abs
    z_all := PySem.W.mg_none_of X G z_all
    z_any := PySem.W.mg_none_of X G z_any
    z_bool := PySem.W.mg_none_of X G z_bool
    z_enumerate := PySem.W.mg_none_of X G z_enumerate
    z_int := PySem.W.mg_none_of X G z_int
    z_isinstance := PySem.W.mg_none_of X G z_isinstance
    z_len := PySem.W.mg_none_of X G z_len
    z_list := PySem.W.mg_none_of X G z_list
    z_range := PySem.W.mg_none_of X G z_range
    z_set := PySem.W.mg_none_of X G z_set
    z_sorted := PySem.W.mg_none_of X G z_sorted
    z_tuple := PySem.W.mg_none_of X G z_tuple
    m_gcd := PySem.W.mg_of X G m_gcd
    c_BadWare := ⟨PySem.W.mg_of X G a_BadWare, ex_BadWare, kp_BadWare, be_BadWare, ty_BadWare, ic_BadWare, sf_BadWare⟩
    w_Web := ⟨PySem.W.mg_of X G a_Web, ⟨mk_Web, in_Web, fn_Web, kp_Web⟩, ⟨⟨pg_Web, hd_Web, po_Web, sa_Web⟩, ha_Web, hn_Web, ht_Web, mo_Web, i_int_Web, i_bool_Web, i_tuple_Web, i_list_Web⟩⟩
    n_Web_wares := na_Web_wares
    n_Web_stalls := na_Web_stalls
    v_ZERO := PySem.W.mg_of X G v_ZERO
    t_ZERO := .inr ⟨_, _, _, o_ZERO, rfl, rfl, tv_ZERO.2, tv_ZERO.1⟩
    v_MOST_STALLS := ⟨_, PySem.W.mg_of X G v_MOST_STALLS, ⟨_, rfl⟩⟩
    v_MOST_WARES := ⟨_, PySem.W.mg_of X G v_MOST_WARES, ⟨_, rfl⟩⟩
    g_is_integer := PySem.W.mg_of X G a_is_integer
    F_is_integer := fun_mk (st := s_is_integer) l_is_integer c_is_integer k_is_integer
    k_is_integer := k_is_integer
    b_is_integer := (fun_mk (st := s_is_integer) l_is_integer c_is_integer k_is_integer).binds (ps := ["thing"]) fun _ _ _ _ _ _ us hl => match us, hl with | [_], _ => rfl
    g_is_row := PySem.W.mg_of X G a_is_row
    F_is_row := fun_mk (st := s_is_row) l_is_row c_is_row k_is_row
    k_is_row := k_is_row
    b_is_row := (fun_mk (st := s_is_row) l_is_row c_is_row k_is_row).binds (ps := ["thing"]) fun _ _ _ _ _ _ us hl => match us, hl with | [_], _ => rfl
    g_is_fraction := PySem.W.mg_of X G a_is_fraction
    F_is_fraction := fun_mk (st := s_is_fraction) l_is_fraction c_is_fraction k_is_fraction
    k_is_fraction := k_is_fraction
    b_is_fraction := (fun_mk (st := s_is_fraction) l_is_fraction c_is_fraction k_is_fraction).binds (ps := ["thing"]) fun _ _ _ _ _ _ us hl => match us, hl with | [_], _ => rfl
    g_is_some := PySem.W.mg_of X G a_is_some
    F_is_some := fun_mk (st := s_is_some) l_is_some c_is_some k_is_some
    k_is_some := k_is_some
    b_is_some := (fun_mk (st := s_is_some) l_is_some c_is_some k_is_some).binds (ps := ["thing"]) fun _ _ _ _ _ _ us hl => match us, hl with | [_], _ => rfl
    g_added := PySem.W.mg_of X G a_added
    F_added := fun_mk (st := s_added) l_added c_added k_added
    k_added := k_added
    b_added := (fun_mk (st := s_added) l_added c_added k_added).binds (ps := ["one", "other"]) fun _ _ _ _ _ _ us hl => match us, hl with | [_, _], _ => rfl
    g_multiplied := PySem.W.mg_of X G a_multiplied
    F_multiplied := fun_mk (st := s_multiplied) l_multiplied c_multiplied k_multiplied
    k_multiplied := k_multiplied
    b_multiplied := (fun_mk (st := s_multiplied) l_multiplied c_multiplied k_multiplied).binds (ps := ["one", "other"]) fun _ _ _ _ _ _ us hl => match us, hl with | [_, _], _ => rfl
    g_squared := PySem.W.mg_of X G a_squared
    F_squared := fun_mk (st := s_squared) l_squared c_squared k_squared
    k_squared := k_squared
    b_squared := (fun_mk (st := s_squared) l_squared c_squared k_squared).binds (ps := ["one"]) fun _ _ _ _ _ _ us hl => match us, hl with | [_], _ => rfl
    g_summed := PySem.W.mg_of X G a_summed
    F_summed := fun_mk (st := s_summed) l_summed c_summed k_summed
    k_summed := k_summed
    b_summed := (fun_mk (st := s_summed) l_summed c_summed k_summed).binds (ps := ["fractions"]) fun _ _ _ _ _ _ us hl => match us, hl with | [_], _ => rfl
    g_is_stall := PySem.W.mg_of X G a_is_stall
    F_is_stall := fun_mk (st := s_is_stall) l_is_stall c_is_stall k_is_stall
    k_is_stall := k_is_stall
    b_is_stall := (fun_mk (st := s_is_stall) l_is_stall c_is_stall k_is_stall).binds (ps := ["wares", "thing"]) fun _ _ _ _ _ _ us hl => match us, hl with | [_, _], _ => rfl
    g_is_ware := PySem.W.mg_of X G a_is_ware
    F_is_ware := fun_mk (st := s_is_ware) l_is_ware c_is_ware k_is_ware
    k_is_ware := k_is_ware
    b_is_ware := (fun_mk (st := s_is_ware) l_is_ware c_is_ware k_is_ware).binds (ps := ["web", "thing"]) fun _ _ _ _ _ _ us hl => match us, hl with | [_, _], _ => rfl
    g_check_ware := PySem.W.mg_of X G a_check_ware
    F_check_ware := fun_mk (st := s_check_ware) l_check_ware c_check_ware k_check_ware
    k_check_ware := k_check_ware
    b_check_ware := (fun_mk (st := s_check_ware) l_check_ware c_check_ware k_check_ware).binds (ps := ["web", "ware"]) fun _ _ _ _ _ _ us hl => match us, hl with | [_, _], _ => rfl
    g_across := PySem.W.mg_of X G a_across
    F_across := fun_mk (st := s_across) l_across c_across k_across
    k_across := k_across
    b_across := (fun_mk (st := s_across) l_across c_across k_across).binds (ps := ["stall", "ware"]) fun _ _ _ _ _ _ us hl => match us, hl with | [_, _], _ => rfl
    g_hold_of := PySem.W.mg_of X G a_hold_of
    F_hold_of := fun_mk (st := s_hold_of) l_hold_of c_hold_of k_hold_of
    k_hold_of := k_hold_of
    b_hold_of := (fun_mk (st := s_hold_of) l_hold_of c_hold_of k_hold_of).binds (ps := ["stall", "ware"]) fun _ _ _ _ _ _ us hl => match us, hl with | [_, _], _ => rfl
    g_stalls_of := PySem.W.mg_of X G a_stalls_of
    F_stalls_of := fun_mk (st := s_stalls_of) l_stalls_of c_stalls_of k_stalls_of
    k_stalls_of := k_stalls_of
    b_stalls_of := (fun_mk (st := s_stalls_of) l_stalls_of c_stalls_of k_stalls_of).binds (ps := ["ware", "stalls"]) fun _ _ _ _ _ _ us hl => match us, hl with | [_, _], _ => rfl
    g_kept_of := PySem.W.mg_of X G a_kept_of
    F_kept_of := fun_mk (st := s_kept_of) l_kept_of c_kept_of k_kept_of
    k_kept_of := k_kept_of
    b_kept_of := (fun_mk (st := s_kept_of) l_kept_of c_kept_of k_kept_of).binds (ps := ["ware", "stalls"]) fun _ _ _ _ _ _ us hl => match us, hl with | [_, _], _ => rfl
    g_held := PySem.W.mg_of X G a_held
    F_held := fun_mk (st := s_held) l_held c_held k_held
    k_held := k_held
    b_held := (fun_mk (st := s_held) l_held c_held k_held).binds (ps := ["web"]) fun _ _ _ _ _ _ us hl => match us, hl with | [_], _ => rfl
    g_roots := PySem.W.mg_of X G a_roots
    F_roots := fun_mk (st := s_roots) l_roots c_roots k_roots
    k_roots := k_roots
    b_roots := (fun_mk (st := s_roots) l_roots c_roots k_roots).binds (ps := ["web"]) fun _ _ _ _ _ _ us hl => match us, hl with | [_], _ => rfl
    g_neighbours := PySem.W.mg_of X G a_neighbours
    F_neighbours := fun_mk (st := s_neighbours) l_neighbours c_neighbours k_neighbours
    k_neighbours := k_neighbours
    b_neighbours := (fun_mk (st := s_neighbours) l_neighbours c_neighbours k_neighbours).binds (ps := ["web", "ware"]) fun _ _ _ _ _ _ us hl => match us, hl with | [_, _], _ => rfl
    g_l_deck := PySem.W.mg_of X G a_l_deck
    F_l_deck := fun_mk (st := s_l_deck) l_l_deck c_l_deck k_l_deck
    k_l_deck := k_l_deck
    b_l_deck := (fun_mk (st := s_l_deck) l_l_deck c_l_deck k_l_deck).binds (ps := ["_law_script"]) fun _ _ _ _ _ _ us hl => match us, hl with | [_], _ => rfl
    g_l_pick := PySem.W.mg_of X G a_l_pick
    F_l_pick := fun_mk (st := s_l_pick) l_l_pick c_l_pick k_l_pick
    k_l_pick := k_l_pick
    b_l_pick := (fun_mk (st := s_l_pick) l_l_pick c_l_pick k_l_pick).binds (ps := ["_law_deck_here", "_law_many"]) fun _ _ _ _ _ _ us hl => match us, hl with | [_, _], _ => rfl
    g_l_divisor := PySem.W.mg_of X G a_l_divisor
    F_l_divisor := fun_mk (st := s_l_divisor) l_l_divisor c_l_divisor k_l_divisor
    k_l_divisor := k_l_divisor
    b_l_divisor := (fun_mk (st := s_l_divisor) l_l_divisor c_l_divisor k_l_divisor).binds (ps := ["_law_one", "_law_other"]) fun _ _ _ _ _ _ us hl => match us, hl with | [_, _], _ => rfl
    g_l_made := PySem.W.mg_of X G a_l_made
    F_l_made := fun_mk (st := s_l_made) l_l_made c_l_made k_l_made
    k_l_made := k_l_made
    b_l_made := (fun_mk (st := s_l_made) l_l_made c_l_made k_l_made).binds (ps := ["_law_top", "_law_bottom"]) fun _ _ _ _ _ _ us hl => match us, hl with | [_, _], _ => rfl
    g_l_amount := PySem.W.mg_of X G a_l_amount
    F_l_amount := fun_mk (st := s_l_amount) l_l_amount c_l_amount k_l_amount
    k_l_amount := k_l_amount
    b_l_amount := (fun_mk (st := s_l_amount) l_l_amount c_l_amount k_l_amount).binds (ps := ["_law_deck_here"]) fun _ _ _ _ _ _ us hl => match us, hl with | [_], _ => rfl
    g_l_great := PySem.W.mg_of X G a_l_great
    F_l_great := fun_mk (st := s_l_great) l_l_great c_l_great k_l_great
    k_l_great := k_l_great
    b_l_great := (fun_mk (st := s_l_great) l_l_great c_l_great k_l_great).binds (ps := ["_law_deck_here"]) fun _ _ _ _ _ _ us hl => match us, hl with | [_], _ => rfl
    g_l_great_stall := PySem.W.mg_of X G a_l_great_stall
    F_l_great_stall := fun_mk (st := s_l_great_stall) l_l_great_stall c_l_great_stall k_l_great_stall
    k_l_great_stall := k_l_great_stall
    b_l_great_stall := (fun_mk (st := s_l_great_stall) l_l_great_stall c_l_great_stall k_l_great_stall).binds (ps := ["_law_deck_here"]) fun _ _ _ _ _ _ us hl => match us, hl with | [_], _ => rfl
    g_l_stall := PySem.W.mg_of X G a_l_stall
    F_l_stall := fun_mk (st := s_l_stall) l_l_stall c_l_stall k_l_stall
    k_l_stall := k_l_stall
    b_l_stall := (fun_mk (st := s_l_stall) l_l_stall c_l_stall k_l_stall).binds (ps := ["_law_deck_here", "_law_wares"]) fun _ _ _ _ _ _ us hl => match us, hl with | [_, _], _ => rfl
    g_l_stalls := PySem.W.mg_of X G a_l_stalls
    F_l_stalls := fun_mk (st := s_l_stalls) l_l_stalls c_l_stalls k_l_stalls
    k_l_stalls := k_l_stalls
    b_l_stalls := (fun_mk (st := s_l_stalls) l_l_stalls c_l_stalls k_l_stalls).binds (ps := ["_law_deck_here", "_law_wares"]) fun _ _ _ _ _ _ us hl => match us, hl with | [_, _], _ => rfl
    g_l_added := PySem.W.mg_of X G a_l_added
    F_l_added := fun_mk (st := s_l_added) l_l_added c_l_added k_l_added
    k_l_added := k_l_added
    b_l_added := (fun_mk (st := s_l_added) l_l_added c_l_added k_l_added).binds (ps := ["_law_amounts"]) fun _ _ _ _ _ _ us hl => match us, hl with | [_], _ => rfl
    g_l_held := PySem.W.mg_of X G a_l_held
    F_l_held := fun_mk (st := s_l_held) l_l_held c_l_held k_l_held
    k_l_held := k_l_held
    b_l_held := (fun_mk (st := s_l_held) l_l_held c_l_held k_l_held).binds (ps := ["_law_wares", "_law_stalls_here"]) fun _ _ _ _ _ _ us hl => match us, hl with | [_, _], _ => rfl
    g_l_roots := PySem.W.mg_of X G a_l_roots
    F_l_roots := fun_mk (st := s_l_roots) l_l_roots c_l_roots k_l_roots
    k_l_roots := k_l_roots
    b_l_roots := (fun_mk (st := s_l_roots) l_l_roots c_l_roots k_l_roots).binds (ps := ["_law_wares", "_law_stalls_here"]) fun _ _ _ _ _ _ us hl => match us, hl with | [_, _], _ => rfl
    g_l_are_fractions := PySem.W.mg_of X G a_l_are_fractions
    F_l_are_fractions := fun_mk (st := s_l_are_fractions) l_l_are_fractions c_l_are_fractions k_l_are_fractions
    k_l_are_fractions := k_l_are_fractions
    b_l_are_fractions := (fun_mk (st := s_l_are_fractions) l_l_are_fractions c_l_are_fractions k_l_are_fractions).binds (ps := ["_law_things"]) fun _ _ _ _ _ _ us hl => match us, hl with | [_], _ => rfl
    g_l_is_refused := PySem.W.mg_of X G a_l_is_refused
    F_l_is_refused := fun_mk (st := s_l_is_refused) l_l_is_refused c_l_is_refused k_l_is_refused
    k_l_is_refused := k_l_is_refused
    b_l_is_refused := (fun_mk (st := s_l_is_refused) l_l_is_refused c_l_is_refused k_l_is_refused).binds (ps := ["_law_web", "_law_ware"]) fun _ _ _ _ _ _ us hl => match us, hl with | [_, _], _ => rfl
    g_l_is_well := PySem.W.mg_of X G a_l_is_well
    F_l_is_well := fun_mk (st := s_l_is_well) l_l_is_well c_l_is_well k_l_is_well
    k_l_is_well := k_l_is_well
    b_l_is_well := (fun_mk (st := s_l_is_well) l_l_is_well c_l_is_well k_l_is_well).binds (ps := ["_law_web", "_law_wares", "_law_stalls_here"]) fun _ _ _ _ _ _ us hl => match us, hl with | [_, _, _], _ => rfl
    g_law := PySem.W.mg_of X G a_law
    F_law := fun_mk (st := s_law) l_law c_law k_law
    k_law := k_law
    b_law := (fun_mk (st := s_law) l_law c_law k_law).binds (ps := ["_law_script"]) fun _ _ _ _ _ _ us hl => match us, hl with | [_], _ => rfl
    F_Web_init := fun_mk (st := s_Web_init) l_Web_init c_Web_init k_Web_init
    b_Web_init := (fun_mk (st := s_Web_init) l_Web_init c_Web_init k_Web_init).binds (ps := ["self", "wares", "stalls"]) fun _ _ _ _ _ _ us hl => match us, hl with | [_, _, _], _ => rfl
    i_Web_eq := mi_Web_eq
    fn_Web_eq := mf_Web_eq
    ne_Web := mn_Web
    F_Web_eq := fun_mk (st := s_Web_eq) l_Web_eq c_Web_eq k_Web_eq
    b_Web_eq := (fun_mk (st := s_Web_eq) l_Web_eq c_Web_eq k_Web_eq).binds (ps := ["self", "other"]) fun _ _ _ _ _ _ us hl => match us, hl with | [_, _], _ => rfl
  }
  exact ⟨_, fun s v => .of_eq rfl, fun base _ _ => ok_all T⟩
end My
open PySem PySem.W PyProof.Rows
set_option maxRecDepth 100000 in
set_option maxHeartbeats 0 in
theorem PySem.Challenge.cw_rootstalls_k07_whole_held_roots_neighbou_holds : PySem.Challenge.rw_rootstalls_k07_whole_held_roots_neighbou.Holds := by
  w_on; o_law; k_head; (case hw => w_witness2)
  k_fill
  refine L2.walk_ofB (l := PySem.Challenge.rw_rootstalls_k07_whole_held_roots_neighbou) (n := 63) (k := 7) (x := "_law_script") (CX := fun _ => L2.CX0) (sp := fun w => My.sp_law _) rfl (by decide) rfl ⟨rfl, by decide, by decide⟩ (fun w h Y => PySem.W.kIn_of Y) ?F (fun _ _ a ns hl hb _ hS => ⟨a, ns, rfl, hS, hl, hb, fun _ => rfl⟩) (fun _ _ _ _ _ h => h)
  case F =>
    intro w mg fa h KX G hmg
    refine' My.all_mk KX G hmg ?z_abs ?z_all ?z_any ?z_bool ?z_enumerate ?z_int ?z_isinstance ?z_len ?z_list ?z_range ?z_set ?z_sorted ?z_tuple ?m_gcd ?a_BadWare ?ex_BadWare ?kp_BadWare ?be_BadWare ?ty_BadWare ?ic_BadWare ?sf_BadWare ?a_Web ?mk_Web ?in_Web ?fn_Web ?kp_Web ?pg_Web ?hd_Web ?po_Web ?sa_Web ?ha_Web ?hn_Web ?ht_Web ?mo_Web ?i_int_Web ?i_bool_Web ?i_tuple_Web ?i_list_Web ?na_Web_wares ?na_Web_stalls ?v_ZERO ?o_ZERO ?tv_ZERO ?v_MOST_STALLS ?v_MOST_WARES ?a_is_integer ?l_is_integer ?c_is_integer ?k_is_integer ?a_is_row ?l_is_row ?c_is_row ?k_is_row ?a_is_fraction ?l_is_fraction ?c_is_fraction ?k_is_fraction ?a_is_some ?l_is_some ?c_is_some ?k_is_some ?a_added ?l_added ?c_added ?k_added ?a_multiplied ?l_multiplied ?c_multiplied ?k_multiplied ?a_squared ?l_squared ?c_squared ?k_squared ?a_summed ?l_summed ?c_summed ?k_summed ?a_is_stall ?l_is_stall ?c_is_stall ?k_is_stall ?a_is_ware ?l_is_ware ?c_is_ware ?k_is_ware ?a_check_ware ?l_check_ware ?c_check_ware ?k_check_ware ?a_across ?l_across ?c_across ?k_across ?a_hold_of ?l_hold_of ?c_hold_of ?k_hold_of ?a_stalls_of ?l_stalls_of ?c_stalls_of ?k_stalls_of ?a_kept_of ?l_kept_of ?c_kept_of ?k_kept_of ?a_held ?l_held ?c_held ?k_held ?a_roots ?l_roots ?c_roots ?k_roots ?a_neighbours ?l_neighbours ?c_neighbours ?k_neighbours ?a_l_deck ?l_l_deck ?c_l_deck ?k_l_deck ?a_l_pick ?l_l_pick ?c_l_pick ?k_l_pick ?a_l_divisor ?l_l_divisor ?c_l_divisor ?k_l_divisor ?a_l_made ?l_l_made ?c_l_made ?k_l_made ?a_l_amount ?l_l_amount ?c_l_amount ?k_l_amount ?a_l_great ?l_l_great ?c_l_great ?k_l_great ?a_l_great_stall ?l_l_great_stall ?c_l_great_stall ?k_l_great_stall ?a_l_stall ?l_l_stall ?c_l_stall ?k_l_stall ?a_l_stalls ?l_l_stalls ?c_l_stalls ?k_l_stalls ?a_l_added ?l_l_added ?c_l_added ?k_l_added ?a_l_held ?l_l_held ?c_l_held ?k_l_held ?a_l_roots ?l_l_roots ?c_l_roots ?k_l_roots ?a_l_are_fractions ?l_l_are_fractions ?c_l_are_fractions ?k_l_are_fractions ?a_l_is_refused ?l_l_is_refused ?c_l_is_refused ?k_l_is_refused ?a_l_is_well ?l_l_is_well ?c_l_is_well ?k_l_is_well ?a_law ?l_law ?c_law ?k_law ?l_Web_init ?c_Web_init ?k_Web_init ?mi_Web_eq ?l_Web_eq ?c_Web_eq ?k_Web_eq ?mf_Web_eq ?mn_Web
    (case z_abs => k_is)
    (case z_all => k_is)
    (case z_any => k_is)
    (case z_bool => k_is)
    (case z_enumerate => k_is)
    (case z_int => k_is)
    (case z_isinstance => k_is)
    (case z_len => k_is)
    (case z_list => k_is)
    (case z_range => k_is)
    (case z_set => k_is)
    (case z_sorted => k_is)
    (case z_tuple => k_is)
    (case m_gcd => k_is)
    (case a_BadWare => k_is)
    (case ex_BadWare => first | k_exc | k_is)
    (case kp_BadWare => k_is)
    (case be_BadWare => k_is)
    (case ty_BadWare => k_is)
    (case ic_BadWare => k_is)
    (case sf_BadWare => first | rfl | k_is)
    (case a_Web => k_is)
    (case mk_Web => k_is)
    (case in_Web => k_is)
    (case fn_Web => k_is)
    (case kp_Web => k_is)
    (case pg_Web => k_is)
    (case hd_Web => k_is)
    (case po_Web => k_is)
    (case sa_Web => k_is)
    (case ha_Web => k_is)
    (case hn_Web => k_is)
    (case ht_Web => k_is)
    (case mo_Web => k_is)
    (case i_int_Web => first | rfl | k_is | decide +kernel)
    (case i_bool_Web => first | rfl | k_is | decide +kernel)
    (case i_tuple_Web => first | rfl | k_is | decide +kernel)
    (case i_list_Web => first | rfl | k_is | decide +kernel)
    (case na_Web_wares => k_is)
    (case na_Web_stalls => k_is)
    (case v_ZERO => k_is)
    (case o_ZERO => k_is)
    (case tv_ZERO => exact ⟨.cons ⟨_, rfl⟩ (.cons ⟨_, rfl⟩ .nil), by decide⟩)
    (case v_MOST_STALLS => k_is)
    (case v_MOST_WARES => k_is)
    (case a_is_integer => k_is)
    (case l_is_integer => k_is)
    (case c_is_integer => k_is)
    (case k_is_integer => k_is)
    (case a_is_row => k_is)
    (case l_is_row => k_is)
    (case c_is_row => k_is)
    (case k_is_row => k_is)
    (case a_is_fraction => k_is)
    (case l_is_fraction => k_is)
    (case c_is_fraction => k_is)
    (case k_is_fraction => k_is)
    (case a_is_some => k_is)
    (case l_is_some => k_is)
    (case c_is_some => k_is)
    (case k_is_some => k_is)
    (case a_added => k_is)
    (case l_added => k_is)
    (case c_added => k_is)
    (case k_added => k_is)
    (case a_multiplied => k_is)
    (case l_multiplied => k_is)
    (case c_multiplied => k_is)
    (case k_multiplied => k_is)
    (case a_squared => k_is)
    (case l_squared => k_is)
    (case c_squared => k_is)
    (case k_squared => k_is)
    (case a_summed => k_is)
    (case l_summed => k_is)
    (case c_summed => k_is)
    (case k_summed => k_is)
    (case a_is_stall => k_is)
    (case l_is_stall => k_is)
    (case c_is_stall => k_is)
    (case k_is_stall => k_is)
    (case a_is_ware => k_is)
    (case l_is_ware => k_is)
    (case c_is_ware => k_is)
    (case k_is_ware => k_is)
    (case a_check_ware => k_is)
    (case l_check_ware => k_is)
    (case c_check_ware => k_is)
    (case k_check_ware => k_is)
    (case a_across => k_is)
    (case l_across => k_is)
    (case c_across => k_is)
    (case k_across => k_is)
    (case a_hold_of => k_is)
    (case l_hold_of => k_is)
    (case c_hold_of => k_is)
    (case k_hold_of => k_is)
    (case a_stalls_of => k_is)
    (case l_stalls_of => k_is)
    (case c_stalls_of => k_is)
    (case k_stalls_of => k_is)
    (case a_kept_of => k_is)
    (case l_kept_of => k_is)
    (case c_kept_of => k_is)
    (case k_kept_of => k_is)
    (case a_held => k_is)
    (case l_held => k_is)
    (case c_held => k_is)
    (case k_held => k_is)
    (case a_roots => k_is)
    (case l_roots => k_is)
    (case c_roots => k_is)
    (case k_roots => k_is)
    (case a_neighbours => k_is)
    (case l_neighbours => k_is)
    (case c_neighbours => k_is)
    (case k_neighbours => k_is)
    (case a_l_deck => k_is)
    (case l_l_deck => k_is)
    (case c_l_deck => k_is)
    (case k_l_deck => k_is)
    (case a_l_pick => k_is)
    (case l_l_pick => k_is)
    (case c_l_pick => k_is)
    (case k_l_pick => k_is)
    (case a_l_divisor => k_is)
    (case l_l_divisor => k_is)
    (case c_l_divisor => k_is)
    (case k_l_divisor => k_is)
    (case a_l_made => k_is)
    (case l_l_made => k_is)
    (case c_l_made => k_is)
    (case k_l_made => k_is)
    (case a_l_amount => k_is)
    (case l_l_amount => k_is)
    (case c_l_amount => k_is)
    (case k_l_amount => k_is)
    (case a_l_great => k_is)
    (case l_l_great => k_is)
    (case c_l_great => k_is)
    (case k_l_great => k_is)
    (case a_l_great_stall => k_is)
    (case l_l_great_stall => k_is)
    (case c_l_great_stall => k_is)
    (case k_l_great_stall => k_is)
    (case a_l_stall => k_is)
    (case l_l_stall => k_is)
    (case c_l_stall => k_is)
    (case k_l_stall => k_is)
    (case a_l_stalls => k_is)
    (case l_l_stalls => k_is)
    (case c_l_stalls => k_is)
    (case k_l_stalls => k_is)
    (case a_l_added => k_is)
    (case l_l_added => k_is)
    (case c_l_added => k_is)
    (case k_l_added => k_is)
    (case a_l_held => k_is)
    (case l_l_held => k_is)
    (case c_l_held => k_is)
    (case k_l_held => k_is)
    (case a_l_roots => k_is)
    (case l_l_roots => k_is)
    (case c_l_roots => k_is)
    (case k_l_roots => k_is)
    (case a_l_are_fractions => k_is)
    (case l_l_are_fractions => k_is)
    (case c_l_are_fractions => k_is)
    (case k_l_are_fractions => k_is)
    (case a_l_is_refused => k_is)
    (case l_l_is_refused => k_is)
    (case c_l_is_refused => k_is)
    (case k_l_is_refused => k_is)
    (case a_l_is_well => k_is)
    (case l_l_is_well => k_is)
    (case c_l_is_well => k_is)
    (case k_l_is_well => k_is)
    (case a_law => k_is)
    (case l_law => k_is)
    (case c_law => k_is)
    (case k_law => k_is)
    (case l_Web_init => k_is)
    (case c_Web_init => k_is)
    (case k_Web_init => k_is)
    (case mi_Web_eq => k_is)
    (case l_Web_eq => k_is)
    (case c_Web_eq => k_is)
    (case k_Web_eq => k_is)
    (case mf_Web_eq => k_is)
    (case mn_Web => k_is)
