import PyProof.Rows.All
import Wide.All
import OpenK.AllK
import Wide.FinOn
import HandS.ForMost
import HandS.WideBits
import HandS.Gcd
import HandS.IsInst
import HandS.Style
import HandS.SetFor
import HandS.EndBits
import HandS.Codes
import HandS.ForExc
import HandS.Small
import HandS.Exc
import HandS.ExcOwn
import HandS.TryOnly
import HandS.WordsExc
import HandS.ExcInit
import HandS.ExcField
import Flt.RightSqrt
import HandS.GenYield
import HandS.OwnEq
import HandS.TupAny
import PyProof.Draws
import KE.DataMinMax
import HandS.Zip
import KE.GoesZip
import HandS.TupMul
import HandS.TryMany
import PyProof.StrOps2
import PySem.Challenge.RW_rootstalls_k14_deals_refused
set_option Elab.async false
set_option linter.all false
set_option maxRecDepth 100000
set_option maxHeartbeats 4000000
namespace My
/-! ### fractions in lowest terms are the rationals -/
theorem rat_of {n : Int} {d : Nat} {r : Rat} (hd : d ≠ 0) (hc : n.natAbs.Coprime d) (h : Rat.divInt n (d : Int) = r) : r.num = n ∧ r.den = d := by
  subst h
  rw [← Rat.mk_eq_divInt (nz := hd) (c := hc)]
  exact ⟨rfl, rfl⟩
theorem rat_cross {n d : Int} {r : Rat} (hd : d ≠ 0) : Rat.divInt n d = r ↔ n * r.den = r.num * d := by
  have h := Rat.num_divInt_den r
  have hz : (r.den : Int) ≠ 0 := by
    have := r.den_pos
    omega
  constructor
  · intro e
    rw [← h] at e
    exact (Rat.divInt_eq_divInt_iff hd hz).mp e
  · intro e
    rw [← h]
    exact (Rat.divInt_eq_divInt_iff hd hz).mpr e
theorem den_pos (r : Rat) : (0 : Int) < r.den := by
  have := r.den_pos
  omega
theorem gcd_den (r : Rat) : Nat.gcd r.num.natAbs r.den = 1 := r.reduced
/-- the sum -/
theorem add_form (r s : Rat) (g ad bd : Nat) (top : Int) (g1 : Nat) (hg : g = r.den.gcd s.den) (had : ad = r.den / g) (hbd : bd = s.den / g) (ht : top = r.num * bd + s.num * ad) (h1 : g1 = top.natAbs.gcd g) :
    (r + s).num = top / g1 ∧ (r + s).den = ad * (s.den / g1) := by
  have hd := r.den_pos
  have hs := s.den_pos
  have gpos : 0 < g := hg ▸ Nat.gcd_pos_of_pos_left _ hd
  have ae : ad * g = r.den := had ▸ Nat.div_mul_cancel (hg ▸ Nat.gcd_dvd_left ..)
  have be : bd * g = s.den := hbd ▸ Nat.div_mul_cancel (hg ▸ Nat.gcd_dvd_right ..)
  have adpos : 0 < ad := by
    rcases Nat.eq_zero_or_pos ad with e | e
    · rw [e] at ae
      omega
    · exact e
  have aux : top.natAbs.gcd g = top.natAbs.gcd (ad * s.den) := by
    rw [ht]
    exact Rat.add.aux r s hg had hbd
  have g1pos : 0 < g1 := h1 ▸ Nat.gcd_pos_of_pos_right _ gpos
  have d1 : g1 ∣ top.natAbs := h1 ▸ Nat.gcd_dvd_left ..
  have d2 : g1 ∣ g := h1 ▸ Nat.gcd_dvd_right ..
  have d3 : g1 ∣ s.den := Nat.dvd_trans d2 ⟨bd, by rw [← be, Nat.mul_comm]⟩
  have e1 : ad * (s.den / g1) = ad * s.den / g1 := (Nat.mul_div_assoc ad d3).symm
  have d4 : g1 ∣ ad * s.den := Nat.dvd_trans d3 (Nat.dvd_mul_left ..)
  rw [e1]
  have tz : (g1 : Int) ∣ top := Int.ofNat_dvd_left.mpr d1
  have tm : top / g1 * g1 = top := Int.ediv_mul_cancel tz
  have dm : ad * s.den / g1 * g1 = ad * s.den := Nat.div_mul_cancel d4
  have nz : ad * s.den / g1 ≠ 0 := by
    intro e
    rw [e] at dm
    have : 0 < ad * s.den := Nat.mul_pos adpos hs
    omega
  refine rat_of nz ?_ ?_
  · have na : (top / (g1 : Int)).natAbs = top.natAbs / g1 := by
      rw [Int.natAbs_ediv_of_dvd tz, Int.natAbs_natCast]
    rw [na, h1, aux]
    exact Nat.coprime_div_gcd_div_gcd (Nat.gcd_pos_of_pos_right _ (Nat.mul_pos adpos hs))
  · have z1 : (g1 : Int) ≠ 0 := by omega
    have z2 : (g : Int) ≠ 0 := by omega
    rw [← Rat.divInt_mul_right z1, tm, ← Int.natCast_mul, dm, ← Rat.divInt_mul_right z2]
    have er := Rat.num_divInt_den r
    have es := Rat.num_divInt_den s
    have rz : (r.den : Int) ≠ 0 := by omega
    have sz : (s.den : Int) ≠ 0 := by omega
    have key := Rat.divInt_add_divInt r.num s.num rz sz
    rw [er, es] at key
    rw [key]
    have k1 : top * g = r.num * s.den + s.num * r.den := by
      rw [ht, ← be, ← ae, Int.natCast_mul, Int.natCast_mul, Int.add_mul, Int.mul_assoc, Int.mul_assoc]
    have k2 : ((ad * s.den : Nat) : Int) * (g : Int) = r.den * s.den := by
      rw [← ae, Int.natCast_mul, Int.natCast_mul, Int.mul_assoc, Int.mul_comm (s.den : Int), ← Int.mul_assoc]
    rw [k1, k2]
/-- the product -/
theorem mul_form (r s : Rat) (g1 g2 : Nat) (h1 : g1 = r.num.natAbs.gcd s.den) (h2 : g2 = s.num.natAbs.gcd r.den) :
    (r * s).num = r.num / g1 * (s.num / g2) ∧ (r * s).den = r.den / g2 * (s.den / g1) := by
  subst h1 h2
  have e : r * s = Rat.mul r s := rfl
  rw [e]
  unfold Rat.mul
  refine ⟨?_, ?_⟩
  · show r.num.divExact _ _ * s.num.divExact _ _ = _
    rw [Int.divExact_eq_tdiv, Int.divExact_eq_tdiv, Int.tdiv_eq_ediv_of_dvd, Int.tdiv_eq_ediv_of_dvd]
    · exact Int.ofNat_dvd_left.mpr (Nat.gcd_dvd_left ..)
    · exact Int.ofNat_dvd_left.mpr (Nat.gcd_dvd_left ..)
  · show r.den.divExact _ _ * s.den.divExact _ _ = _
    rw [Nat.divExact_eq_div, Nat.divExact_eq_div]
/-- lowest terms of any pair -/
theorem low_form (n d : Int) (hd : d ≠ 0) : (Rat.divInt n d).num = (if d < 0 then n / (-(n.natAbs.gcd d.natAbs : Nat) : Int) else n / (n.natAbs.gcd d.natAbs : Nat)) ∧
    ((Rat.divInt n d).den : Int) = (if d < 0 then d / (-(n.natAbs.gcd d.natAbs : Nat) : Int) else d / (n.natAbs.gcd d.natAbs : Nat)) := by
  have pos : ∀ (n d : Int), 0 < d → (Rat.divInt n d).num = n / (n.natAbs.gcd d.natAbs : Nat) ∧ ((Rat.divInt n d).den : Int) = d / (n.natAbs.gcd d.natAbs : Nat) := by
    intro n d h
    have gp : 0 < n.natAbs.gcd d.natAbs := Nat.gcd_pos_of_pos_right _ (by omega)
    have z1 : ((n.natAbs.gcd d.natAbs : Nat) : Int) ≠ 0 := by omega
    have dn : ((n.natAbs.gcd d.natAbs : Nat) : Int) ∣ n := Int.ofNat_dvd_left.mpr (Nat.gcd_dvd_left ..)
    have dd : ((n.natAbs.gcd d.natAbs : Nat) : Int) ∣ d := Int.ofNat_dvd_left.mpr (Nat.gcd_dvd_right ..)
    have e : d / ((n.natAbs.gcd d.natAbs : Nat) : Int) = ((d.natAbs / n.natAbs.gcd d.natAbs : Nat) : Int) := by
      rw [Int.natCast_ediv]
      congr 1
      omega
    have dpos : d.natAbs / n.natAbs.gcd d.natAbs ≠ 0 := Nat.ne_of_gt (Nat.div_pos (Nat.le_of_dvd (by omega) (Nat.gcd_dvd_right ..)) gp)
    have key := rat_of (n := n / ((n.natAbs.gcd d.natAbs : Nat) : Int)) (d := d.natAbs / n.natAbs.gcd d.natAbs) (r := Rat.divInt n d) dpos
      (by
        rw [Int.natAbs_ediv_of_dvd dn, Int.natAbs_natCast]
        exact Nat.coprime_div_gcd_div_gcd gp)
      (by rw [← e, ← Rat.divInt_mul_right z1, Int.ediv_mul_cancel dn, Int.ediv_mul_cancel dd])
    exact ⟨key.1, by rw [key.2, e]⟩
  rcases Int.lt_or_gt_of_ne hd with h | h
  · rw [if_pos h, if_pos h, ← Rat.neg_divInt_neg]
    have k := pos (-n) (-d) (by omega)
    rw [Int.natAbs_neg, Int.natAbs_neg] at k
    rw [k.1, k.2]
    have dn : ((n.natAbs.gcd d.natAbs : Nat) : Int) ∣ n := Int.ofNat_dvd_left.mpr (Nat.gcd_dvd_left ..)
    have dd : ((n.natAbs.gcd d.natAbs : Nat) : Int) ∣ d := Int.ofNat_dvd_left.mpr (Nat.gcd_dvd_right ..)
    rw [Int.neg_ediv_of_dvd dn, Int.neg_ediv_of_dvd dd, Int.ediv_neg, Int.ediv_neg]
    exact ⟨rfl, rfl⟩
  · have k := pos n d h
    rw [if_neg (by omega), if_neg (by omega)]
    exact k
theorem low_self (r : Rat) : Rat.divInt r.num r.den = r := Rat.num_divInt_den r
/-! ### sizes -/
def Bd (k : Nat) (r : Rat) : Prop := r.num.natAbs < 2 ^ k ∧ r.den < 2 ^ k
theorem Bd.mono {k l : Nat} {r : Rat} (h : Bd k r) (hl : k ≤ l) : Bd l r := ⟨Nat.lt_of_lt_of_le h.1 (Nat.pow_le_pow_right (by decide) hl), Nat.lt_of_lt_of_le h.2 (Nat.pow_le_pow_right (by decide) hl)⟩
theorem nat_mul_lt {a b k l : Nat} (ha : a < 2 ^ k) (hb : b < 2 ^ l) : a * b < 2 ^ (k + l) := by
  rw [Nat.pow_add]
  exact Nat.mul_lt_mul'' ha hb
theorem Bd.divInt {k : Nat} {n d : Int} (hd : d ≠ 0) (h1 : n.natAbs < 2 ^ k) (h2 : d.natAbs < 2 ^ k) : Bd k (Rat.divInt n d) := by
  obtain ⟨a, b⟩ := low_form n d hd
  have dn : ((n.natAbs.gcd d.natAbs : Nat) : Int) ∣ n := Int.ofNat_dvd_left.mpr (Nat.gcd_dvd_left ..)
  have dd : ((n.natAbs.gcd d.natAbs : Nat) : Int) ∣ d := Int.ofNat_dvd_left.mpr (Nat.gcd_dvd_right ..)
  have dp := (Rat.divInt n d).den_pos
  refine ⟨Nat.lt_of_le_of_lt ?_ h1, Nat.lt_of_le_of_lt ?_ h2⟩
  · rw [a]
    split
    · rw [Int.ediv_neg, Int.natAbs_neg, Int.natAbs_ediv_of_dvd dn]
      exact Nat.div_le_self _ _
    · rw [Int.natAbs_ediv_of_dvd dn]
      exact Nat.div_le_self _ _
  · have e : (Rat.divInt n d).den = ((Rat.divInt n d).den : Int).natAbs := (Int.natAbs_natCast _).symm
    rw [e, b]
    split
    · rw [Int.ediv_neg, Int.natAbs_neg, Int.natAbs_ediv_of_dvd dd]
      exact Nat.div_le_self _ _
    · rw [Int.natAbs_ediv_of_dvd dd]
      exact Nat.div_le_self _ _
theorem Bd.add {k l : Nat} {r s : Rat} (hr : Bd k r) (hs : Bd l s) : Bd (k + l + 1) (r + s) := by
  have rz : (r.den : Int) ≠ 0 := Int.ne_of_gt (den_pos r)
  have sz : (s.den : Int) ≠ 0 := Int.ne_of_gt (den_pos s)
  have key := Rat.divInt_add_divInt r.num s.num rz sz
  rw [low_self, low_self] at key
  rw [key]
  have a := nat_mul_lt hr.1 hs.2
  have b := nat_mul_lt hs.1 hr.2
  have c := nat_mul_lt hr.2 hs.2
  rw [Nat.add_comm l k] at b
  refine Bd.divInt (Int.mul_ne_zero rz sz) ?_ ?_
  · have h1 : (r.num * (s.den : Int) + s.num * (r.den : Int)).natAbs ≤ (r.num * (s.den : Int)).natAbs + (s.num * (r.den : Int)).natAbs := Int.natAbs_add_le _ _
    rw [Int.natAbs_mul, Int.natAbs_mul, Int.natAbs_natCast, Int.natAbs_natCast] at h1
    rw [Nat.pow_succ]
    omega
  · rw [Int.natAbs_mul, Int.natAbs_natCast, Int.natAbs_natCast, Nat.pow_succ]
    omega
theorem Bd.mul {k l : Nat} {r s : Rat} (hr : Bd k r) (hs : Bd l s) : Bd (k + l) (r * s) := by
  have rz : (r.den : Int) ≠ 0 := Int.ne_of_gt (den_pos r)
  have sz : (s.den : Int) ≠ 0 := Int.ne_of_gt (den_pos s)
  have key := Rat.divInt_mul_divInt r.num s.num (d₁ := r.den) (d₂ := s.den)
  rw [low_self, low_self] at key
  rw [key]
  refine Bd.divInt (Int.mul_ne_zero rz sz) ?_ ?_
  · rw [Int.natAbs_mul]
    exact nat_mul_lt hr.1 hs.1
  · rw [Int.natAbs_mul, Int.natAbs_natCast, Int.natAbs_natCast]
    exact nat_mul_lt hr.2 hs.2
theorem Bd.neg {k : Nat} {r : Rat} (hr : Bd k r) : Bd k (-r) := by
  refine ⟨?_, ?_⟩
  · rw [Rat.neg_num, Int.natAbs_neg]
    exact hr.1
  · rw [Rat.neg_den]
    exact hr.2
theorem Bd.sub {k l : Nat} {r s : Rat} (hr : Bd k r) (hs : Bd l s) : Bd (k + l + 1) (r - s) := by
  rw [Rat.sub_eq_add_neg]
  exact hr.add hs.neg
theorem inv_num {s : Rat} (h : s ≠ 0) : (if s.num < 0 then -(s.den : Int) else s.den) = (s⁻¹).num ∧ (if s.num < 0 then -s.num else s.num) = (s⁻¹).den := by
  have hn : s.num ≠ 0 := fun e => h (Rat.num_eq_zero.mp e)
  rw [Rat.num_inv, Rat.den_inv, if_neg hn]
  split
  · rename_i g
    rw [Int.sign_eq_neg_one_of_neg g]
    omega
  · rename_i g
    rw [Int.sign_eq_one_of_pos (by omega)]
    omega
theorem Bd.inv {k : Nat} {s : Rat} (h : s ≠ 0) (hs : Bd k s) : Bd k s⁻¹ := by
  obtain ⟨a, b⟩ := inv_num h
  have dp := den_pos s
  refine ⟨?_, ?_⟩
  · rw [← a]
    have := hs.2
    split <;> omega
  · have := hs.1
    have e : (s⁻¹).den = ((s⁻¹).den : Int).natAbs := (Int.natAbs_natCast _).symm
    rw [e, ← b]
    split <;> omega
theorem Bd.div {k l : Nat} {r s : Rat} (h : s ≠ 0) (hr : Bd k r) (hs : Bd l s) : Bd (k + l) (r / s) := by
  rw [Rat.div_def]
  exact hr.mul (hs.inv h)
end My
namespace My
open PySem PySem.Spec PyProof.Rows L2
theorem and_sw {A B : Prop} (b : B) (a : A) : A ∧ B := ⟨a, b⟩
theorem if_dec {p : Prop} [Decidable p] {A B : Prop} (h1 : p → A) (h2 : ¬ p → B) : if decide p = true then A else B := by
  by_cases h : p
  · rw [if_pos (decide_eq_true h)]
    exact h1 h
  · rw [if_neg (fun q => h (of_decide_eq_true q))]
    exact h2 h
theorem if_ndec {p : Prop} [Decidable p] {A B : Prop} (h1 : ¬ p → A) (h2 : p → B) : if (!decide p) = true then A else B := by
  by_cases h : p
  · rw [decide_eq_true h]
    exact iteF (h2 h)
  · rw [decide_eq_false h]
    exact iteT (h1 h)
/-- // by a divisor that is not 0, below 2 ^ 9000 -/
def CDivX (_ j : Int) : Prop := j ≠ 0 ∧ j.natAbs.log2 < 9000
section
variable {X : Cx}
theorem op_fdivX : OpR X (binaryOp .FloorDiv) (rI CDivX fun i j => .int (i.fdiv j)) := opI fun _ _ _ _ _ _ _ hc q => floordiv_int hc.1 q (.inl (PyProof.noPylong_of_log2 hc.2))
end
theorem cdivx {i j : Int} {b : Nat} (h : j ≠ 0) (hb : j.natAbs < 2 ^ b) (h9 : b ≤ 9000) : CDivX i j := by
  refine ⟨h, ?_⟩
  by_cases h0 : b = 0
  · subst h0
    omega
  · exact Nat.lt_of_lt_of_le (PySem.Flt.log2_lt_of (by omega) hb) h9
/-! ### heaps: all that was there, but what stands at D, stands -/
def Fw (D : Addr) (H H' : Hp) : Prop := ∀ b o, b ≠ D → H b = some o → H' b = some o
theorem Fw.refl (D : Addr) (H : Hp) : Fw D H H := fun _ _ _ h => h
theorem Fw.trans {D : Addr} {H H1 H2 : Hp} (a : Fw D H H1) (b : Fw D H1 H2) : Fw D H H2 := fun c o n h => b c o n (a c o n h)
theorem Same.fw {D : Addr} {H H' : Hp} (s : Same H H') : Fw D H H' := fun b o _ h => s b o h
theorem same_upd {H : Hp} {p : Addr} {o : HO} (h : H p = none) : Same H (upd H p o) := fun b x e => by
  rw [upd_ne (ne_of_none e h)]
  exact e
theorem fw_upd {D : Addr} {H : Hp} {o : HO} : Fw D H (upd H D o) := fun b x n e => by
  rw [upd_ne n]
  exact e
/-! ### the deck -/
def Deck (M : Nat) (D C : Addr) (H : Hp) (c : Nat) : Prop := ∃ (cells : List Int) (pl rest cnt : Int), C ≠ D ∧ H D = some (.lst [.ref C, .int pl, .int rest, .int cnt]) ∧ H C = some (.lst (cells.map V.int)) ∧
  cells.length ≤ 63 ∧ (∀ z ∈ cells, z.natAbs < 2 ^ M) ∧ (0 ≤ rest ∧ rest.natAbs < 2 ^ M) ∧ 0 ≤ cnt ∧ cnt ≤ c
theorem Deck.same {M : Nat} {D C : Addr} {H H' : Hp} {c : Nat} (d : Deck M D C H c) (s : Same H H') : Deck M D C H' c := by
  obtain ⟨cells, pl, rest, cnt, h0, h1, h2, h3⟩ := d
  exact ⟨cells, pl, rest, cnt, h0, s _ _ h1, s _ _ h2, h3⟩
theorem Deck.mono {M : Nat} {D C : Addr} {H : Hp} {c c' : Nat} (d : Deck M D C H c) (h : c ≤ c') : Deck M D C H c' := by
  obtain ⟨cells, pl, rest, cnt, h0, h1, h2, h3, h4, h5, h6, h7⟩ := d
  exact ⟨cells, pl, rest, cnt, h0, h1, h2, h3, h4, h5, h6, by omega⟩
theorem Deck.ne {M : Nat} {D C p : Addr} {H : Hp} {c : Nat} (d : Deck M D C H c) (h : H p = none) : p ≠ D := by
  obtain ⟨cells, pl, rest, cnt, h0, h1, h2⟩ := d
  exact (ne_of_none h1 h).symm
theorem Deck.neC {M : Nat} {D C p : Addr} {H : Hp} {c : Nat} (d : Deck M D C H c) (h : H p = none) : p ≠ C := by
  obtain ⟨cells, pl, rest, cnt, h0, h1, h2, _⟩ := d
  exact (ne_of_none h2 h).symm
theorem Deck.put {M : Nat} {D C p : Addr} {H : Hp} {c : Nat} {o : HO} (d : Deck M D C H c) (n1 : p ≠ D) (n2 : p ≠ C) : Deck M D C (upd H p o) c := by
  obtain ⟨cells, pl, rest, cnt, h0, h1, h2, h3⟩ := d
  exact ⟨cells, pl, rest, cnt, h0, (upd_ne (Ne.symm n1)).trans h1, (upd_ne (Ne.symm n2)).trans h2, h3⟩
theorem pow_le {a b : Nat} (h : a ≤ b) : (2 : Nat) ^ a ≤ 2 ^ b := Nat.pow_le_pow_right (by decide) h
theorem div_small {i j : Int} {M : Nat} (h0 : 0 ≤ i) (h : i.natAbs < 2 ^ M) (hj : 0 < j) : 0 ≤ i.fdiv j ∧ (i.fdiv j).natAbs < 2 ^ M := by
  rw [Int.fdiv_eq_ediv_of_nonneg i (by omega)]
  have a := Int.ediv_nonneg h0 (Int.le_of_lt hj)
  have b : i / j ≤ i := Int.ediv_le_self j h0
  exact ⟨a, by omega⟩
end My
namespace My
open PySem PySem.Spec PyProof.Rows L2
theorem at_ints {cells : List Int} {i : Int} (h0 : 0 ≤ i) (h1 : i < ((cells.map V.int).length : Nat)) : ∃ z, z ∈ cells ∧ atI (cells.map V.int) i = some (.int z) := by
  obtain ⟨j, rfl⟩ := Int.eq_ofNat_of_zero_le h0
  rw [List.length_map] at h1
  have hj : j < cells.length := by omega
  refine ⟨cells[j], List.getElem_mem hj, atI_nat ?_⟩
  rw [List.getElem?_map, List.getElem?_eq_getElem hj]
  rfl
theorem bits_lt {z : Int} {M : Nat} (h : Builtin.Int.intBits z ≤ M) : z.natAbs < 2 ^ M := by
  unfold Builtin.Int.intBits at h
  split at h
  · rename_i e
    have e' : z = 0 := by simpa using e
    subst e'
    exact Nat.two_pow_pos M
  · have := Nat.lt_log2_self (n := z.natAbs)
    exact Nat.lt_of_lt_of_le this (pow_le h)
theorem pw_big {z cnt : Int} {c M : Nat} (hz : z.natAbs < 2 ^ M) (hM : 64 ≤ M) (h0 : 0 ≤ cnt) (h1 : cnt ≤ c) (hc : c ≤ 2 ^ 40) : (z + 7919 * (cnt + 1) + 1).natAbs < 2 ^ (M + 1) := by
  have e : (2 : Nat) ^ 64 ≤ 2 ^ M := pow_le hM
  rw [Nat.pow_succ]
  generalize (2 : Nat) ^ M = p at *
  omega
theorem fdiv_dvd {a b : Int} (h : b ∣ a) : a.fdiv b = a / b := by
  obtain ⟨c, rfl⟩ := h
  by_cases hb : b = 0
  · subst hb
    rw [Int.zero_mul]
    simp
  · rw [Int.mul_fdiv_cancel_left _ hb, Int.mul_ediv_cancel_left _ hb]
theorem mod_rng (x : Int) {m : Int} (h : 0 < m) : 0 ≤ x % m ∧ x % m < m := ⟨Int.emod_nonneg _ (by omega), Int.emod_lt_of_pos _ h⟩
end My
namespace My
open PySem PySem.Spec PyProof.Rows L2
theorem cpow_of {i j : Int} (h : 0 ≤ j ∧ j ≤ 1000000 ∧ i.natAbs < 2 ^ 64) : CPow i j := h
theorem ten18 : (0 : Int) ≤ 10 ^ (18 : Int).toNat := by decide
theorem cmul_small {i j : Int} (h : i.natAbs < 2 ^ 64) (h2 : j.natAbs < 2 ^ 64) : CMulX i j := mulx_ok h h2 (by decide)
theorem cmul_big {i j : Int} {M : Nat} (h : i.natAbs < 2 ^ M) (h2 : j.natAbs < 2 ^ 64) (hM : M ≤ 100000000) : CMulX i j := mulx_ok h h2 (by omega)
theorem pick_mul2 (x : Int) {m k : Int} (h0 : 0 < m) (hm : m.natAbs < 2 ^ 32) (hk : k.natAbs < 2 ^ 32) {d : Int} (hd : 0 < d) : CMulX (x % m) ((x % m).fdiv d + k) := by
  obtain ⟨a, b⟩ := mod_rng x h0
  rw [Int.fdiv_eq_ediv_of_nonneg _ (by omega)]
  have c := Int.ediv_nonneg a (Int.le_of_lt hd)
  have e : (x % m) / d ≤ x % m := Int.ediv_le_self d a
  exact cmul_small (by omega) (by omega)
end My
namespace My
open PySem PySem.Spec PyProof.Rows L2
variable {K : PySem.W.Frag}
/-! ### isinstance -/
section
variable {K : PySem.W.Frag} {H : Hp} {Q : VK}
theorem isi_int_int {i : Int} (q : Q (.bl true) H) : rIsi K [.int i, .ty "int"] H Q := ⟨_, _, _, _, _, rfl, .ty _, .base (.int _), kit_ty (by decide +kernel), q⟩
theorem isi_int_bool {i : Int} (q : Q (.bl false) H) : rIsi K [.int i, .ty "bool"] H Q := ⟨_, _, _, _, _, rfl, .ty _, .base (.int _), kit_ty (by decide +kernel), q⟩
theorem isi_bl_bool {b : Bool} (q : Q (.bl true) H) : rIsi K [.bl b, .ty "bool"] H Q := ⟨_, _, _, _, _, rfl, .ty _, .base (.bl _), kit_ty (by decide +kernel), q⟩
theorem isi_tup_tup {p : Addr} {xs : List V} (h : H p = some (.tup xs)) (q : Q (.bl true) H) : rIsi K [.ref p, .ty "tuple"] H Q := ⟨_, _, _, _, _, rfl, .ty _, .base (.tup h), kit_ty (by decide +kernel), q⟩
end
/-! ### a fraction that stands in the heap -/
abbrev frV (r : Rat) : List V := [.int r.num, .int r.den]
/-- a tuple: in the heap, or one of the module's own -/
def Tp (K : PySem.W.Frag) (H : Hp) (p : Addr) (xs : List V) : Prop := H p = some (.tup xs) ∨ SqT K (fun _ => none) p xs
theorem Tp.same {H H' : Hp} {p : Addr} {xs : List V} (s : Same H H') (h : Tp K H p xs) : Tp K H' p xs := h.imp (fun h => s _ _ h) id
theorem Tp.sq {H : Hp} {p : Addr} {xs : List V} (h : Tp K H p xs) : SqT K H p xs := by
  rcases h with h | (h | ⟨_, h⟩) | h
  · exact .of h
  · cases h
  · cases h
  · exact .inr h
def IsF (K : PySem.W.Frag) (H : Hp) (v : V) (r : Rat) : Prop := ∃ p, v = .ref p ∧ Tp K H p (frV r)
theorem IsF.same {H H' : Hp} {v : V} {r : Rat} (s : Same H H') (h : IsF K H v r) : IsF K H' v r := by
  obtain ⟨p, e, h⟩ := h
  exact ⟨p, e, h.same s⟩
theorem Tp.new {H : Hp} {p : Addr} {xs : List V} : Tp K (upd H p (.tup xs)) p xs := .inl upd_same
theorem at_same {H H' : Hp} {p : Addr} {o : HO} (s : Same H H') (h : H p = some o) : H' p = some o := s _ _ h
theorem Tp.fw {M : Nat} {D C : Addr} {c : Nat} {H H' : Hp} {p : Addr} {xs : List V} (d : Deck M D C H c) (s : Fw D H H') (h : Tp K H p xs) : Tp K H' p xs := by
  obtain ⟨cells, pl, rest, cnt, h0, h1, h2⟩ := d
  exact h.imp (fun h => s _ _ (ne_of h h1 (by intro z; cases z)) h) id
theorem IsF.fw {M : Nat} {D C : Addr} {c : Nat} {H H' : Hp} {v : V} {r : Rat} (d : Deck M D C H c) (s : Fw D H H') (h : IsF K H v r) : IsF K H' v r := by
  obtain ⟨p, e, h⟩ := h
  exact ⟨p, e, h.fw d s⟩
/-- all tuples stand -/
def Tps (H H' : Hp) : Prop := ∀ b xs, H b = some (.tup xs) → H' b = some (.tup xs)
theorem Tp.ts {H H' : Hp} {p : Addr} {xs : List V} (f : Tps H H') (h : Tp K H p xs) : Tp K H' p xs := h.imp (fun h => f _ _ h) id
theorem isi_tp {K' : PySem.W.Frag} {H : Hp} {Q : VK} {p : Addr} {xs : List V} (h : Tp K' H p xs) (hk : K' = K) (q : Q (.bl true) H) : rIsi K [.ref p, .ty "tuple"] H Q := by
  subst hk
  rcases h with h | (h | ⟨_, h⟩) | ⟨o, its, n, h1, h2, _⟩
  · exact ⟨_, _, _, _, _, rfl, .ty _, .base (.tup h), kit_ty (by decide +kernel), q⟩
  · cases h
  · cases h
  · exact ⟨_, _, _, _, _, rfl, .ty _, .kTuple h1 h2, kit_ty (by decide +kernel), q⟩
theorem isF_new {H : Hp} {p : Addr} {a b : Int} {r : Rat} (h1 : r.num = a) (h2 : (r.den : Int) = b) : IsF K (upd H p (.tup [.int a, .int b])) (.ref p) r := by
  subst h1 h2
  exact ⟨p, rfl, .new⟩
def frD (r : Rat) : PyData := .tuple [.int r.num, .int r.den]
theorem IsF.dp {K : PySem.W.Frag} {H : Hp} {v : V} {r : Rat} (h : IsF K H v r) : Dp K H v (frD r) := by
  obtain ⟨p, rfl, h⟩ := h
  exact .tup h.sq (.cons (.int _) (.cons (.int _) .nil))
theorem frD_shaped (r : Rat) : SeqAt.shaped (frD r) = true := by rfl
theorem frD_eqv (r s : Rat) : PyData.eqv (frD r) (frD s) = decide (r = s) := by
  have e : PyData.eqv (frD r) (frD s) = (decide (r.num = s.num) && decide ((r.den : Int) = s.den)) := by
    simp only [frD, PyData.eqv, PyData.eqvAll, Bool.and_true, Bool.beq_eq_decide_eq]
  rw [e, Bool.eq_iff_iff]
  simp only [Bool.and_eq_true, decide_eq_true_eq]
  constructor
  · rintro ⟨a, b⟩
    exact Rat.ext a (by omega)
  · rintro rfl
    exact ⟨rfl, rfl⟩
theorem eqF {K : PySem.W.Frag} {H : Hp} {v w : V} {r s : Rat} {Q : VK} (h1 : IsF K H v r) (h2 : IsF K H w s) (q : Q (.bl (decide (r = s))) H) : rEqD K v w H Q := ⟨_, _, h1.dp, h2.dp, frD_shaped r, frD_shaped s, by rw [frD_eqv]; exact q⟩
theorem neF {K : PySem.W.Frag} {H : Hp} {v w : V} {r s : Rat} {Q : VK} (h1 : IsF K H v r) (h2 : IsF K H w s) (q : Q (.bl (!decide (r = s))) H) : rNeD K v w H Q := ⟨_, _, h1.dp, h2.dp, frD_shaped r, frD_shaped s, by rw [frD_eqv]; exact q⟩
end My
namespace My
open PySem PySem.Spec PyProof.Rows L2
/-! ### calls of built-ins by named readings -/
def rInt : List V → Hp → VK → Prop := fun xs H Q => (∃ i, xs = [.int i] ∧ Q (.int i) H) ∨ ∃ k, xs = [.bl k] ∧ Q (.int (if k then 1 else 0)) H
def rLen (K : PySem.W.Frag) : List V → Hp → VK → Prop := fun xs H Q => ∃ p ys, xs = [.ref p] ∧ (SqL K H p ys ∨ SqT K H p ys) ∧ Q (.int ys.length) H
def rAbs : List V → Hp → VK → Prop := fun xs H Q => ∃ i, xs = [.int i] ∧ Q (.int (if i < 0 then -i else i)) H
def rMin : List V → Hp → VK → Prop := fun xs H Q => ∃ i j, xs = [.int i, .int j] ∧ Q (.int (if j < i then j else i)) H
theorem call_intN {X : Cx} : CallR X (.type "int") rInt := call_int1
theorem call_lenN {X : Cx} : CallR X (.builtin "len") (rLen X.K) := call_len_seq
theorem call_absN {X : Cx} : CallR X (.builtin "abs") rAbs := call_abs
theorem call_minN {X : Cx} (hc : X.calm = true) : CallR X (.builtin "min") rMin := call_min2 hc
/-! ### a reading, one step a rule: each says what its left side asks first -/
section
variable {σ : L2.St} {H : Hp} {Q : VK} {K : PySem.W.Frag} {D : Ends} {ta tb te : TE} {t : TA} {i : Nat} {v x y : V}
theorem rd_var (e : σ[i]? = some (some v)) (q : Q v H) : tVar i σ H Q := ⟨v, e, q⟩
theorem rd_C (q : Q v H) : tC v σ H Q := q
theorem rd_op {r : R2} (h : ta σ H fun x H1 => tb σ H1 fun y H2 => r x y H2 Q) : tOp r ta tb σ H Q := h
theorem rd_un {r : V → Hp → VK → Prop} (h : ta σ H fun x H1 => r x H1 Q) : tUn r ta σ H Q := h
theorem rd_CB {r : List V → Hp → VK → Prop} (h : t σ H fun vs H1 => r vs H1 Q) : tCB r t σ H Q := h
theorem rd_nil {Q : List V → Hp → Prop} (q : Q [] H) : tNil σ H Q := q
theorem rd_cons {Q : List V → Hp → Prop} (h : ta σ H fun x H1 => t σ H1 fun xs H2 => Q (x :: xs) H2) : tCons ta t σ H Q := h
theorem rd_call {sp : Sp} {dvs : List V} {E : XK} (h : t σ H fun vs H1 => sp (vs ++ dvs) H1 Q E) : tCall sp dvs E t σ H Q := h
theorem rd_rI {C : Int → Int → Prop} {g : Int → Int → V} {i j : Int} (q : Q (g i j) H) (c : C i j) : rI C g (.int i) (.int j) H Q := ⟨i, j, rfl, rfl, c, q⟩
theorem rd_rI0 {g : Int → Int → V} {i j : Int} (q : Q (g i j) H) : rI0 g (.int i) (.int j) H Q := ⟨i, j, rfl, rfl, q⟩
theorem rd_rU {g : Int → V} {i : Int} (q : Q (g i) H) : rU g (.int i) H Q := ⟨i, rfl, q⟩
theorem rd_eq (s : scal x y = true) (q : Q (.bl (decide (x = y))) H) : rEq x y H Q := ⟨s, q⟩
theorem rd_ne (s : scal x y = true) (q : Q (.bl (!decide (x = y))) H) : rNe x y H Q := ⟨s, q⟩
theorem int_eq {i j : Int} : (V.int i = V.int j) = (i = j) := by simp
theorem rd_eqI {i j : Int} (q : Q (.bl (decide (i = j))) H) : rEq (.int i) (.int j) H Q := ⟨rfl, by simpa using q⟩
theorem rd_neI {i j : Int} (q : Q (.bl (!decide (i = j))) H) : rNe (.int i) (.int j) H Q := ⟨rfl, by simpa using q⟩
theorem rd_ixL {p : Addr} {xs : List V} {i : Int} {v : V} (h : H p = some (.lst xs)) (e : atI xs i = some v) (q : Q v H) : rIxL K (.ref p) (.int i) H Q := ⟨p, xs, i, v, rfl, rfl, .of h, e, q⟩
theorem rd_ixT {p : Addr} {xs : List V} {i : Int} {v : V} (h : H p = some (.tup xs)) (e : atI xs i = some v) (q : Q v H) : rIxT K (.ref p) (.int i) H Q := ⟨p, xs, i, v, rfl, rfl, .of h, e, q⟩
theorem rd_ixTp {K' : PySem.W.Frag} {p : Addr} {xs : List V} {i : Int} {v : V} (h : Tp K' H p xs) (hk : K' = K) (e : atI xs i = some v) (q : Q v H) : rIxT K (.ref p) (.int i) H Q := ⟨p, xs, i, v, rfl, rfl, hk ▸ h.sq, e, q⟩
theorem rd_setL {p : Addr} {xs : List V} {k : Int} {j : Nat} {Q : Hp → Prop} (h : H p = some (.lst xs)) (e : ixN xs.length k = some j) (q : Q (upd H p (.lst (xs.set j v)))) : rSetL (.ref p) (.int k) v H Q := ⟨p, xs, k, j, rfl, rfl, h, e, q⟩
theorem rd_gcd {a b : Int} (q : Q (.int ((Nat.gcd a.natAbs b.natAbs : Nat) : Int)) H) : rGcd [.int a, .int b] H Q := ⟨a, b, rfl, q⟩
theorem rd_bits (h : te σ H fun x H1 => ∃ i, x = .int i ∧ Q (.int (Builtin.Int.intBits i : Nat)) H1) : tBits te σ H Q := h
theorem rd_tup (h : t σ H fun xs H1 => xs.length ≤ sizeLine ∧ ∀ p, H1 p = none → Q (.ref p) (upd H1 p (.tup xs))) : tTup t σ H Q := h
theorem rd_lst (h : t σ H fun xs H1 => xs.length ≤ sizeLine ∧ ∀ p, H1 p = none → Q (.ref p) (upd H1 p (.lst xs))) : tLst t σ H Q := h
theorem rd_sl {r : V → Option Int → Option Int → Hp → VK → Prop} {tl th : TO} (h : te σ H fun x H1 => tl σ H1 fun l H2 => th σ H2 fun u H3 => r x l u H3 Q) : tSl r te tl th σ H Q := h
theorem rd_part {Q : Option Int → Hp → Prop} (h : te σ H fun x H1 => ∃ i, x = .int i ∧ Q (some i) H1) : tPart te σ H Q := h
theorem rd_nopart {Q : Option Int → Hp → Prop} (h : Q none H) : tNoPart σ H Q := h
theorem rd_slL {a : Addr} {xs : List V} {lo hi : Option Int} (h : SqL K H a xs) (q : ∀ p, H p = none → Q (.ref p) (upd H p (.lst (cutV xs lo hi)))) : rSlL K (.ref a) lo hi H Q := ⟨a, xs, rfl, h, q⟩
theorem rd_bm {T : String} {r : V → List V → Hp → VK → Prop} (h : te σ H fun x H1 => tyV K T x H1 ∧ t σ H1 fun xs H2 => r x xs H2 Q) : tBM K T r te t σ H Q := h
theorem rd_chain {r r' : R2} (h : ta σ H fun x H1 => tb σ H1 fun y H2 => r x y H2 fun z H3 => ∃ k, z = .bl k ∧ (if k = true then te σ H3 fun w' H4 => r' y w' H4 Q else Q (.bl false) H3)) : tChain r r' ta tb te σ H Q := h
theorem rd_andV (h : ta σ H fun x H1 => ∃ c, x = .bl c ∧ if c = true then tb σ H1 Q else Q (.bl false) H1) : tAndV ta tb σ H Q := h
theorem rd_orV (h : ta σ H fun x H1 => ∃ c, x = .bl c ∧ if c = true then Q (.bl true) H1 else tb σ H1 Q) : tOrV ta tb σ H Q := h
theorem rd_notV (h : ta σ H fun x H1 => ∃ c, x = .bl c ∧ Q (.bl (!c)) H1) : tNotV ta σ H Q := h
theorem rd_ifE {c : TT} (h : c σ H fun c H1 => if c = true then ta σ H1 Q else tb σ H1 Q) : tIf c ta tb σ H Q := h
section
variable {Q : Bool → Hp → Prop} {u u' : TT}
theorem rd_test (h : te σ H fun x H' => ∃ k, x = .bl k ∧ Q k H') : tTest te σ H Q := h
theorem rd_B (h : te σ H fun x H1 => ∃ c, x = .bl c ∧ Q c H1) : tB te σ H Q := h
theorem rd_not (h : u σ H fun c H1 => Q (!c) H1) : tNot u σ H Q := h
theorem rd_and (h : u σ H fun c H1 => if c = true then u' σ H1 Q else Q false H1) : tAnd u u' σ H Q := h
theorem rd_or (h : u σ H fun c H1 => if c = true then Q true H1 else u' σ H1 Q) : tOr u u' σ H Q := h
theorem rd_yes (q : Q true H) : tYes σ H Q := q
end
section
variable {s s' : TS} {g : TG} {gs : TGs}
theorem rd_seq (h : s { D with nx := s' D } σ H) : tSeq s s' D σ H := h
theorem rd_next (h : D.nx σ H) : tNext D σ H := h
theorem rd_drop (h : te σ H fun _ H1 => D.nx σ H1) : tDrop te D σ H := h
theorem rd_ret (h : te σ H D.rt) : tRet te D σ H := h
theorem rd_ifS {c : TT} (h : c σ H fun b H1 => if b = true then s D σ H1 else s' D σ H1) : tIfS c s s' D σ H := h
theorem rd_asg (h : te σ H fun x H1 => g x σ H1 D.nx) : tAsg te g D σ H := h
theorem rd_gName {Q : L2.St → Hp → Prop} (h : Q (σ.set i (some v)) H) : gName i v σ H Q := h
theorem rd_gSub {Q : L2.St → Hp → Prop} {ts : TSet} (h : ta σ H fun o H1 => tb σ H1 fun i H2 => ts o i v H2 fun H3 => Q σ H3) : gSub ta tb ts v σ H Q := h
theorem rd_gTup {Q : L2.St → Hp → Prop} {p : Addr} {xs : List V} {n : Nat} (h : H p = some (.tup xs)) (e : xs.length = n) (q : gs xs σ H Q) : gTup K n gs (.ref p) σ H Q := ⟨p, xs, rfl, .of h, e, q⟩
theorem rd_gTp {K' : PySem.W.Frag} {Q : L2.St → Hp → Prop} {p : Addr} {xs : List V} {n : Nat} (h : Tp K' H p xs) (hk : K' = K) (e : xs.length = n) (q : gs xs σ H Q) : gTup K n gs (.ref p) σ H Q := ⟨p, xs, rfl, hk ▸ h.sq, e, q⟩
theorem rd_gNil {Q : L2.St → Hp → Prop} (q : Q σ H) : gNil [] σ H Q := ⟨rfl, q⟩
theorem rd_gCons {Q : L2.St → Hp → Prop} {r : List V} (h : g v σ H fun σ' H' => gs r σ' H' Q) : gCons g gs (v :: r) σ H Q := ⟨v, r, rfl, h⟩
theorem rd_for {wi : TI} (h : wi σ H fun J H1 => ∃ W : Nat → Nat → L2.St → Hp → Prop, (∃ m, W 0 m σ H1) ∧ ∀ i m σ H, W i m σ H →
  (J.stop i H ∧ D.nx σ H) ∨ (J.go i H ∧ ∃ N : L2.St → Hp → Prop, (∀ σ' H', N σ' H' → ∃ m', m' < m ∧ W (i + 1) m' σ' H') ∧ ∀ x H', J.yld i H x H' → g x σ H' fun σ2 H2 => s { D with nx := N, ct := N, bk := D.nx } σ2 H2)) : tFor wi g s D σ H := h
theorem rd_rng1 {R : It → Hp → Prop} (h : t σ H fun vs H1 => ∃ j : Int, vs = [.int j] ∧ -(2 ^ 62) ≤ j ∧ j < 2 ^ 62 ∧ R (Itr 0 j.toNat) H1) : iRng1 t σ H R := h
theorem rd_itL {R : It → Hp → Prop} (h : te σ H fun x H1 => ∃ a, x = .ref a ∧ (∃ xs, SqL K H1 a xs) ∧ R (Itl K a) H1) : iList K te σ H R := h
theorem rd_itT {R : It → Hp → Prop} (h : te σ H fun x H1 => ∃ a, x = .ref a ∧ (∃ xs, SqT K H1 a xs) ∧ R (Itt K a) H1) : iTup K te σ H R := h
end
theorem if_T {p : Prop} [Decidable p] {A B : Prop} (hp : p) (h : A) : if decide p = true then A else B := by
  rw [if_pos (decide_eq_true hp)]
  exact h
theorem if_F {p : Prop} [Decidable p] {A B : Prop} (hp : ¬ p) (h : B) : if decide p = true then A else B := by
  rw [if_neg (fun q => hp (of_decide_eq_true q))]
  exact h
theorem if_nF {p : Prop} [Decidable p] {A B : Prop} (hp : p) (h : B) : if (!decide p) = true then A else B := by
  rw [decide_eq_true hp]
  exact iteF h
theorem if_nT {p : Prop} [Decidable p] {A B : Prop} (hp : ¬ p) (h : A) : if (!decide p) = true then A else B := by
  rw [decide_eq_false hp]
  exact iteT h
theorem ite_nt {A B : Prop} (h : B) : if (!true) = true then A else B := iteF h
theorem ite_nf {A B : Prop} (h : A) : if (!false) = true then A else B := iteT h
theorem rd_len {xs : List V} {R : Prop} (q : R) (h : xs.length.ble sizeLine = true) : xs.length ≤ sizeLine ∧ R := ⟨Nat.le_of_ble_eq_true h, q⟩
theorem rd_lenL {p : Addr} {xs : List V} (q : Q (.int xs.length) H) (h : H p = some (.lst xs)) : rLen K [.ref p] H Q := ⟨p, xs, rfl, .inl (.of h), q⟩
theorem rd_lenS {p : Addr} {xs : List V} (q : Q (.int xs.length) H) (h : SqL K H p xs) : rLen K [.ref p] H Q := ⟨p, xs, rfl, .inl h, q⟩
theorem rd_lenT {p : Addr} {xs : List V} (q : Q (.int xs.length) H) (h : H p = some (.tup xs)) : rLen K [.ref p] H Q := ⟨p, xs, rfl, .inr (.of h), q⟩
theorem rd_lenTp {K' : PySem.W.Frag} {p : Addr} {xs : List V} (q : Q (.int xs.length) H) (h : Tp K' H p xs) (hk : K' = K) : rLen K [.ref p] H Q := ⟨p, xs, rfl, .inr (hk ▸ h.sq), q⟩
theorem rd_int {i : Int} (q : Q (.int i) H) : rInt [.int i] H Q := .inl ⟨i, rfl, q⟩
theorem rd_intB {k : Bool} (q : Q (.int (if k then 1 else 0)) H) : rInt [.bl k] H Q := .inr ⟨k, rfl, q⟩
theorem rd_abs {i : Int} (q : Q (.int (i.natAbs : Nat)) H) : rAbs [.int i] H Q := ⟨i, rfl, by
  have e : (if i < 0 then -i else i) = (i.natAbs : Int) := by split <;> omega
  rw [e]
  exact q⟩
theorem rd_min {i j : Int} (q : Q (.int (min i j)) H) : rMin [.int i, .int j] H Q := ⟨i, j, rfl, by
  have e : (if j < i then j else i) = min i j := by split <;> omega
  rw [e]
  exact q⟩
theorem rd_neB {a b : Bool} (q : Q (.bl (!decide (a = b))) H) : rNe (.bl a) (.bl b) H Q := ⟨rfl, by simpa using q⟩
theorem rd_eqB {a b : Bool} (q : Q (.bl (decide (a = b))) H) : rEq (.bl a) (.bl b) H Q := ⟨rfl, by simpa using q⟩
theorem rd_neS {a b : Str} (q : Q (.bl (!decide (a = b))) H) : rNe (.str a) (.str b) H Q := ⟨rfl, by simpa using q⟩
theorem rd_eqS {a b : Str} (q : Q (.bl (decide (a = b))) H) : rEq (.str a) (.str b) H Q := ⟨rfl, by simpa using q⟩
theorem rd_isBl {a b : Bool} (q : Q (.bl (decide (a = b))) H) : rIsB (.bl a) (.bl b) H Q := ⟨a, b, rfl, rfl, q⟩
end
end My
namespace My
open PySem PySem.Spec PyProof.Rows L2
theorem rd_lc {wi : TI} {g : TG} {tt : TT} {te : TE} {vs : List Nat} {σ : L2.St} {H : Hp} {Q : VK} (h : wi σ H fun J H1 => ∀ D, H1 D = none → ∃ W : Nat → Nat → Hp → Prop, (∃ m, W 0 m (upd H1 D (.lst []))) ∧ ∀ i m H, W i m H →
  (J.stop i H ∧ Q (.ref D) H) ∨ (J.go i H ∧ ∃ Nx : Hp → Prop, (∀ H', Nx H' → ∃ m', m' < m ∧ W (i + 1) m' H') ∧ ∀ x H', J.yld i H x H' → g x (wipe σ vs) H' fun σ2 H2 => wipe σ2 vs = wipe σ vs ∧ tt σ2 H2 fun b H3 =>
    if b = true then te σ2 H3 fun y H4 => ∃ acc, H4 D = some (.lst acc) ∧ acc.length < sizeLine ∧ Nx (upd H4 D (.lst (acc ++ [y]))) else Nx H3)) : tLc wi g tt te vs σ H Q := h
theorem cut_all {xs : List V} {n : Nat} (h : xs.length ≤ n) : cutV xs none (some (n : Int)) = xs := by
  unfold cutV
  rw [HT.sIx_none, HT.sIx_nat, List.drop_zero]
  exact List.take_of_length_le (by omega)
theorem take_succ_map {ns : List Int} {i : Nat} {x : V} (h : (ns.map V.int)[i]? = some x) : ∃ z, x = .int z ∧ z ∈ ns ∧ (ns.take (i + 1)).map V.int = (ns.take i).map V.int ++ [x] := by
  rw [List.getElem?_map] at h
  cases e : ns[i]? with
  | none =>
    rw [e] at h
    cases h
  | some z =>
    rw [e] at h
    have hx : x = .int z := (Option.some.inj h).symm
    refine ⟨z, hx, List.mem_of_getElem? e, ?_⟩
    rw [List.take_add_one, e, List.map_append, hx]
    rfl
/-! ### list.count of flags -/
def eqb (k : Bool) (v : Value) : Bool := match v with
  | .bool b => b == k
  | _ => false
theorem eqb_at {A : Around} {s : Shared} {k : Bool} : ∀ {us : List Value} {bs : List Bool}, Vals (bs.map V.bl) us → ∀ y ∈ us, SeqAt.EqAt A s y (.bool k) (eqb k y)
  | [], bs, r => fun y hy => nomatch hy
  | u :: us, [], r => nomatch r
  | u :: us, b :: bs, r => fun y hy => by
    cases r with
    | cons r1 r2 =>
      rcases List.mem_cons.mp hy with e | e
      · rw [e]
        cases (show u = Value.bool b from r1)
        exact SeqAt.EqAt.bool_bool b k
      · exact eqb_at r2 y e
theorem eqb_count {k : Bool} : ∀ {us : List Value} {bs : List Bool}, Vals (bs.map V.bl) us → us.countP (eqb k) = bs.count k
  | [], [], _ => rfl
  | [], b :: bs, r => nomatch r
  | u :: us, [], r => nomatch r
  | u :: us, b :: bs, r => by
    cases r with
    | cons r1 r2 =>
      cases (show u = Value.bool b from r1)
      rw [List.countP_cons, List.count_cons, eqb_count r2] <;> rfl
def rCntB (K : PySem.W.Frag) : V → List V → Hp → VK → Prop := fun x xs H Q => ∃ (p : Addr) (bs : List Bool) (k : Bool), x = .ref p ∧ xs = [.bl k] ∧ SqL K H p (bs.map V.bl) ∧ Q (.int (bs.count k : Nat)) H
theorem mt_bcount {X : Cx} : MtR X "list.count" (rCntB X.K) := by
  intro pins s σ H x xs v us Q I rx rxs h
  obtain ⟨p, bs, k, rfl, rfl, hs, q⟩ := h
  cases rx
  obtain ⟨u, rfl, ru⟩ := rxs.one
  cases (show u = Value.bool k from ru)
  obtain ⟨its, rv, ⟨⟨cls, dd, data, sl⟩, n, ho, hc, hdn, hd⟩, hlen⟩ := I.list hs
  simp only at hc hd
  subst hc hd
  refine call_meets PySem.F.slot_list_count ⟨_, ho, rfl⟩ PySem.F.entry_list_count (PySem.F.args_list_count_2 _ _)
    (SeqAt.list_countAt p its.toArray n dd sl (.bool k) (eqb k)) ⟨ho, fun y hy => eqb_at rv y (by simpa using hy), ?_⟩
  have ec : its.toArray.toList.countP (eqb k) = bs.count k := eqb_count rv
  refine ⟨.int (bs.count k : Nat), H, I.tok _, ⟨s.toks, ?_⟩, q⟩
  show Value.int ((its.toArray.toList.countP (eqb k) : Nat) : Int) s.toks = Value.int ((bs.count k : Nat) : Int) s.toks
  rw [ec]
/-! ### greatest common divisors by remainders -/
structure Euc (G b i : Nat) (x y : Nat) : Prop where
  g : x.gcd y = G
  h : y * 2 ^ (i / 2) ≤ b
  m : i ≠ 0 → y < x ∧ x * 2 ^ ((i - 1) / 2) ≤ b
theorem Euc.step {G b i x y : Nat} (e : Euc G b i x y) (hy : y ≠ 0) : Euc G b (i + 1) y (x % y) := by
  have lt : x % y < y := Nat.mod_lt _ (by omega)
  refine ⟨?_, ?_, fun _ => ⟨lt, ?_⟩⟩
  · rw [← e.g, Nat.gcd_comm x y, Nat.gcd_comm y (x % y)]
    exact (Nat.gcd_rec y x).symm
  · rcases Nat.mod_two_eq_zero_or_one i with p | p
    · have q : (i + 1) / 2 = i / 2 := by omega
      rw [q]
      exact Nat.le_trans (Nat.mul_le_mul_right _ (Nat.le_of_lt lt)) e.h
    · have q : (i + 1) / 2 = (i - 1) / 2 + 1 := by omega
      obtain ⟨m1, m2⟩ := e.m (by omega)
      have half : 2 * (x % y) ≤ x := by
        have d := Nat.div_add_mod x y
        have dp : 1 ≤ x / y := Nat.div_pos (Nat.le_of_lt m1) (by omega)
        have : y ≤ y * (x / y) := Nat.le_mul_of_pos_right y dp
        omega
      rw [q, Nat.pow_succ]
      calc x % y * (2 ^ ((i - 1) / 2) * 2) = (2 * (x % y)) * 2 ^ ((i - 1) / 2) := by rw [Nat.mul_comm (2 ^ _) 2, ← Nat.mul_assoc, Nat.mul_comm (x % y) 2]
        _ ≤ x * 2 ^ ((i - 1) / 2) := Nat.mul_le_mul_right _ half
        _ ≤ b := m2
  · have q : (i + 1 - 1) / 2 = i / 2 := by omega
    rw [q]
    exact e.h
theorem Euc.done {G b k x y : Nat} (e : Euc G b (2 * k + 2) x y) (hb : b < 2 ^ k) : y = 0 ∧ x = G := by
  have h := e.h
  have q : (2 * k + 2) / 2 = k + 1 := by omega
  rw [q] at h
  have hy : y = 0 := by
    rcases Nat.eq_zero_or_pos y with z | z
    · exact z
    · have p : 2 ^ (k + 1) ≤ y * 2 ^ (k + 1) := Nat.le_mul_of_pos_left _ z
      rw [Nat.pow_succ] at p
      have : 0 < 2 ^ k := Nat.two_pow_pos k
      rw [Nat.pow_succ] at h
      omega
  have g := e.g
  rw [hy, Nat.gcd_zero_right] at g
  exact ⟨hy, g⟩
end My
namespace My
open PySem PySem.Spec PyProof.Rows L2
theorem cdv {j : Int} (h : 0 < j) (hb : j.natAbs < 2 ^ 8000) (i : Int) : CDivX i j := cdivx (by omega) hb (by decide)
theorem cmx {i j : Int} (h1 : i.natAbs < 2 ^ 20000) (h2 : j.natAbs < 2 ^ 20000) : CMulX i j := mulx_ok h1 h2 (by decide)
theorem div_nat (a b : Nat) : (a : Int).fdiv (b : Int) = ((a / b : Nat) : Int) := by
  rw [Int.fdiv_eq_ediv_of_nonneg _ (by omega), Int.natCast_ediv]
theorem p45 {n : Nat} (h : n < 2 ^ 4000) : n < 2 ^ 8000 := Nat.lt_of_lt_of_le h (pow_le (by decide))
theorem p46 {n : Nat} (h : n < 2 ^ 4000) : n < 2 ^ 20000 := Nat.lt_of_lt_of_le h (pow_le (by decide))
theorem added_math {r s : Rat} (hr : Bd 4000 r) (hs : Bd 4000 s) : ∀ g top sh : Int, g = ((Nat.gcd (r.den : Int).natAbs (s.den : Int).natAbs : Nat) : Int) → top = r.num * (s.den : Int).fdiv g + s.num * (r.den : Int).fdiv g →
    sh = ((Nat.gcd top.natAbs g.natAbs : Nat) : Int) → (∀ i, CDivX i g) ∧ CMulX r.num ((s.den : Int).fdiv g) ∧ CMulX s.num ((r.den : Int).fdiv g) ∧ (∀ i, CDivX i sh) ∧ CMulX ((r.den : Int).fdiv g) ((s.den : Int).fdiv sh) ∧
      (r + s).num = top.fdiv sh ∧ ((r + s).den : Int) = (r.den : Int).fdiv g * (s.den : Int).fdiv sh := by
  intro g top sh hg ht hsh
  have hd := r.den_pos
  have hs' := s.den_pos
  rw [Int.natAbs_natCast, Int.natAbs_natCast] at hg
  have gpos : 0 < r.den.gcd s.den := Nat.gcd_pos_of_pos_left _ hd
  have gle : r.den.gcd s.den ≤ r.den := Nat.gcd_le_left _ hd
  have gna : g.natAbs = r.den.gcd s.den := by rw [hg, Int.natAbs_natCast]
  have shpos : 0 < top.natAbs.gcd (r.den.gcd s.den) := Nat.gcd_pos_of_pos_right _ gpos
  have shle : top.natAbs.gcd (r.den.gcd s.den) ≤ r.den.gcd s.den := Nat.gcd_le_right _ gpos
  rw [gna] at hsh
  have hr2 := hr.2
  have hs2 := hs.2
  have e1 : (s.den : Int).fdiv g = ((s.den / r.den.gcd s.den : Nat) : Int) := by rw [hg, div_nat]
  have e2 : (r.den : Int).fdiv g = ((r.den / r.den.gcd s.den : Nat) : Int) := by rw [hg, div_nat]
  have l1 : s.den / r.den.gcd s.den ≤ s.den := Nat.div_le_self _ _
  have l2 : r.den / r.den.gcd s.den ≤ r.den := Nat.div_le_self _ _
  have form := add_form r s (r.den.gcd s.den) (r.den / r.den.gcd s.den) (s.den / r.den.gcd s.den) top (top.natAbs.gcd (r.den.gcd s.den)) rfl rfl rfl (by rw [ht, e1, e2]) rfl
  have e3 : (s.den : Int).fdiv sh = ((s.den / top.natAbs.gcd (r.den.gcd s.den) : Nat) : Int) := by rw [hsh, div_nat]
  have l3 : s.den / top.natAbs.gcd (r.den.gcd s.den) ≤ s.den := Nat.div_le_self _ _
  refine ⟨cdv (by omega) (by rw [gna]; exact p45 (by omega)), ?_, ?_, cdv (by omega) ?_, ?_, ?_, ?_⟩
  · rw [e1]
    exact cmx (p46 hr.1) (by rw [Int.natAbs_natCast]; exact p46 (by omega))
  · rw [e2]
    exact cmx (p46 hs.1) (by rw [Int.natAbs_natCast]; exact p46 (by omega))
  · rw [hsh, Int.natAbs_natCast]
    exact p45 (by omega)
  · rw [e2, e3]
    exact cmx (by rw [Int.natAbs_natCast]; exact p46 (by omega)) (by rw [Int.natAbs_natCast]; exact p46 (by omega))
  · rw [form.1, hsh, Int.fdiv_eq_ediv_of_nonneg _ (by omega)]
  · rw [form.2, e2, e3, Int.natCast_mul]
theorem mul_math {r s : Rat} (hr : Bd 4000 r) (hs : Bd 4000 s) : ∀ a b : Int, a = ((Nat.gcd r.num.natAbs (s.den : Int).natAbs : Nat) : Int) → b = ((Nat.gcd s.num.natAbs (r.den : Int).natAbs : Nat) : Int) →
    (∀ i, CDivX i a) ∧ (∀ i, CDivX i b) ∧ CMulX (r.num.fdiv a) (s.num.fdiv b) ∧ CMulX ((r.den : Int).fdiv b) ((s.den : Int).fdiv a) ∧
      (r * s).num = r.num.fdiv a * s.num.fdiv b ∧ ((r * s).den : Int) = (r.den : Int).fdiv b * (s.den : Int).fdiv a := by
  intro a b ha hb
  rw [Int.natAbs_natCast] at ha hb
  have hd := r.den_pos
  have hs' := s.den_pos
  have ap : 0 < r.num.natAbs.gcd s.den := Nat.gcd_pos_of_pos_right _ hs'
  have bp : 0 < s.num.natAbs.gcd r.den := Nat.gcd_pos_of_pos_right _ hd
  have al : r.num.natAbs.gcd s.den ≤ s.den := Nat.gcd_le_right _ hs'
  have bl : s.num.natAbs.gcd r.den ≤ r.den := Nat.gcd_le_right _ hd
  have da : a ∣ r.num := by rw [ha]; exact Int.ofNat_dvd_left.mpr (Nat.gcd_dvd_left ..)
  have db : b ∣ s.num := by rw [hb]; exact Int.ofNat_dvd_left.mpr (Nat.gcd_dvd_left ..)
  have hr2 := hr.2
  have hs2 := hs.2
  obtain ⟨f1, f2⟩ := mul_form r s _ _ rfl rfl
  have e1 : r.num.fdiv a = r.num / a := fdiv_dvd da
  have e2 : s.num.fdiv b = s.num / b := fdiv_dvd db
  have e3 : (r.den : Int).fdiv b = ((r.den / s.num.natAbs.gcd r.den : Nat) : Int) := by rw [hb, div_nat]
  have e4 : (s.den : Int).fdiv a = ((s.den / r.num.natAbs.gcd s.den : Nat) : Int) := by rw [ha, div_nat]
  have l3 : r.den / s.num.natAbs.gcd r.den ≤ r.den := Nat.div_le_self _ _
  have l4 : s.den / r.num.natAbs.gcd s.den ≤ s.den := Nat.div_le_self _ _
  have n1 : (r.num / a).natAbs ≤ r.num.natAbs := by
    rw [Int.natAbs_ediv_of_dvd da]
    exact Nat.div_le_self _ _
  have n2 : (s.num / b).natAbs ≤ s.num.natAbs := by
    rw [Int.natAbs_ediv_of_dvd db]
    exact Nat.div_le_self _ _
  have hr1 := hr.1
  have hs1 := hs.1
  refine ⟨cdv (by omega) (by rw [ha, Int.natAbs_natCast]; exact p45 (by omega)), cdv (by omega) (by rw [hb, Int.natAbs_natCast]; exact p45 (by omega)), ?_, ?_, ?_, ?_⟩
  · rw [e1, e2]
    exact cmx (p46 (by omega)) (p46 (by omega))
  · rw [e3, e4]
    exact cmx (by rw [Int.natAbs_natCast]; exact p46 (by omega)) (by rw [Int.natAbs_natCast]; exact p46 (by omega))
  · rw [f1, e1, e2, ha, hb]
  · rw [f2, e3, e4, Int.natCast_mul]
end My
namespace My
open PySem PySem.Spec PyProof.Rows L2
theorem low_math {n b : Int} (hb : 0 < b) (hl : b.natAbs < 2 ^ 8000) : ∀ g : Int, g = ((n.natAbs.gcd b.natAbs : Nat) : Int) → (∀ i, CDivX i g) ∧ (Rat.divInt n b).num = n.fdiv g ∧ ((Rat.divInt n b).den : Int) = b.fdiv g := by
  rintro g rfl
  have gp : 0 < n.natAbs.gcd b.natAbs := Nat.gcd_pos_of_pos_right _ (by omega)
  have gl : n.natAbs.gcd b.natAbs ≤ b.natAbs := Nat.gcd_le_right _ (by omega)
  obtain ⟨e1, e2⟩ := low_form n b (by omega)
  rw [if_neg (by omega)] at e1 e2
  refine ⟨cdv (by omega) (by rw [Int.natAbs_natCast]; omega), ?_, ?_⟩
  · rw [e1, fdiv_dvd (Int.ofNat_dvd_left.mpr (Nat.gcd_dvd_left ..))]
  · rw [e2, fdiv_dvd (Int.ofNat_dvd_left.mpr (Nat.gcd_dvd_right ..))]
theorem sign_na {t r : Int} (a : 0 ≤ r) (b : r < 2) : (t * (1 - 2 * r)).natAbs = t.natAbs := by
  have h : r = 0 ∨ r = 1 := by omega
  rcases h with rfl | rfl
  · simp
  · rw [Int.natAbs_mul]
    simp
end My
namespace My
open PySem PySem.Spec PyProof.Rows L2
/-! ### an own error class without __init__, made without arguments -/
abbrev veChain : List Value := [.type "ValueError", .type "Exception", .type "BaseException", .type "object"]
theorem pmk_own0 {X : Cx} {C : Addr} {bmB : List Value} {B newId initId : String} {x : Str} {p pos : Pos} (F : ExcBaseFacts B newId initId bmB) (q : PySem.W.excIn X.K C bmB newId = true) (gC : X.mg x = some (.ref C))
    (kC : PySem.W.keepIn X.K (.ref C) = true) (r : Raises X (.ref C)) (hg : Gl X x) (hdb : (x == ("__debug__" : Str)) = false := by decide) :
    PMk X (.Call (.Name x p) [] [] pos) (fun _ H Q => Q (.ref C) none H) := by
  intro pins s σ H Q I h
  refine wpAny_Call_Name_kw (ld_glob I hg gC ?_ hdb)
  refine PySem.W.callWith_K0 I.kIn kC ?_
  show wpAny _ _ (call (.ref C) []) _ _ _
  obtain ⟨hp, g, d, t, os⟩ := s
  obtain ⟨bm, N, nm, qn, bs, hdct, sn, sub, ab, col, dd, k0, k1, k2, k3, k5, mN, hC, hN, hni, T⟩ := exc_obj I.kIn q
  refine wpAny_call_exc_subT F T hC hN hni (fun h' e hm => ?_) (Nat.zero_le _)
  exact mk_of I hm r h (I.hok.gone hm.new)
/-- what the top holds of such a class -/
structure ExC (K : PySem.W.Frag) (mg : Str → Option Value) (x : Str) (C : Addr) : Prop where
  g : mg x = some (.ref C)
  ex : PySem.W.excIn K C veChain "ValueError.__new__" = true
  kp : PySem.W.keepIn K (.ref C) = true
  be : PySem.W.subIn K (.ref C) (.type "BaseException") = some true
  ty : PySem.W.typeIn K (.ref C) = some (.type "type")
  ic : PySem.W.isClsIn K C = true
  sf : PySem.W.subIn K (.ref C) (.ref C) = some true
theorem exm_sub {K : PySem.W.Frag} {C S : Addr} {b : Bool} (h1 : PySem.W.subIn K (.ref S) (.type "BaseException") = some true) (h2 : PySem.W.isClsIn K S = true) (h3 : PySem.W.typeIn K (.ref S) = some (.type "type")) (h4 : PySem.W.subIn K (.ref C) (.ref S) = some b) :
    PySem.W.exmOne K (.ref C) (.ref S) = some b := by
  have e1 : (PySem.W.subIn K (.ref S) (.type "BaseException") == some true) = true := by rw [h1] <;> rfl
  have e2 : ((PySem.W.clsIn K S).isSome && PySem.W.typeIn K (.ref S) == some (.type "type")) = true := by
    have h2' : (PySem.W.clsIn K S).isSome = true := h2
    rw [h2', h3] <;> rfl
  show (if (PySem.W.subIn K (.ref S) (.type "BaseException") == some true) = true then (if ((PySem.W.clsIn K S).isSome && PySem.W.typeIn K (.ref S) == some (.type "type")) = true then PySem.W.subIn K (.ref C) (.ref S) else none) else none) = some b
  rw [if_pos e1, if_pos e2]
  exact h4
theorem ExC.te {K : PySem.W.Frag} {mg : Str → Option Value} {x : Str} {C : Addr} (e : ExC K mg x C) : PySem.W.exmOne K (.ref C) (.ref C) = some true := exm_sub e.be e.ic e.ty e.sf
/-- raise X() -/
theorem ps_raise0 {X : Cx} {W : WX} {C : Addr} {x : Str} {p pos pos2 : Pos} (hc : X.calm = true) (e : ExC X.K X.mg x C) (tk : Takes X W) (hg : Gl X x := by rfl) (hdb : (x == ("__debug__" : Str)) = false := by decide) :
    PS X (.Raise (some (.Call (.Name x p) [] [] pos)) none pos2) (fun _ σ H => W (.ref C) none σ H) :=
  ps_raise hc tk (pmk_own0 PySem.F.excBase_ValueError e.ex e.g e.kp (raises_own e.be e.ty) hg hdb)
theorem rd_callS {sp : Sp} {E : L2.St → XK} {t : TA} {σ : L2.St} {H : Hp} {Q : VK} (h : t σ H fun vs H1 => sp vs H1 Q (E σ)) : tCallS sp E t σ H Q := h
theorem rd_newK {σ : L2.St} {H : Hp} {Q : VK} (h : ∀ p, H p = none → Q (.ref p) (upd H p (.dK []))) : tDNewK σ H Q := h
theorem at_any {xs : List V} {i : Int} (h0 : 0 ≤ i) (h1 : i < (xs.length : Nat)) : ∃ v, v ∈ xs ∧ atI xs i = some v := by
  obtain ⟨j, rfl⟩ := Int.eq_ofNat_of_zero_le h0
  have hj : j < xs.length := by omega
  exact ⟨xs[j], List.getElem_mem hj, atI_nat (List.getElem?_eq_getElem hj)⟩
/-! ### things that are no integers -/
inductive Odd (D : Addr) (H : Hp) : V → Prop where
  | non : Odd D H .non
  | bl (b : Bool) : Odd D H (.bl b)
  | str (s : Str) : Odd D H (.str s)
  | lst {p : Addr} {xs : List V} (n : p ≠ D) (h : H p = some (.lst xs)) : Odd D H (.ref p)
  | tup {p : Addr} {xs : List V} (n : p ≠ D) (h : H p = some (.tup xs)) : Odd D H (.ref p)
  | dK {p : Addr} {kvs : List (Key × V)} (n : p ≠ D) (h : H p = some (.dK kvs)) : Odd D H (.ref p)
theorem Odd.fw {D : Addr} {H H' : Hp} {v : V} (o : Odd D H v) (f : Fw D H H') : Odd D H' v := by
  cases o with
  | non => exact .non
  | bl b => exact .bl b
  | str s => exact .str s
  | lst n h => exact .lst n (f _ _ n h)
  | tup n h => exact .tup n (f _ _ n h)
  | dK n h => exact .dK n (f _ _ n h)
theorem Odd.isi {D : Addr} {H : Hp} {v : V} (o : Odd D H v) (K : PySem.W.Frag) : ∃ b1 b2 : Bool, (b1 && !b2) = false ∧ (∀ Q : VK, Q (.bl b1) H → rIsi K [v, .ty "int"] H Q) ∧ (∀ Q : VK, Q (.bl b2) H → rIsi K [v, .ty "bool"] H Q) := by
  cases o with
  | non => exact ⟨false, false, rfl, fun Q q => ⟨_, _, _, _, _, rfl, .ty _, .base .non, kit_ty (by decide +kernel), q⟩, fun Q q => ⟨_, _, _, _, _, rfl, .ty _, .base .non, kit_ty (by decide +kernel), q⟩⟩
  | bl b => exact ⟨true, true, rfl, fun Q q => ⟨_, _, _, _, _, rfl, .ty _, .base (.bl _), kit_ty (by decide +kernel), q⟩, fun Q q => ⟨_, _, _, _, _, rfl, .ty _, .base (.bl _), kit_ty (by decide +kernel), q⟩⟩
  | str s => exact ⟨false, false, rfl, fun Q q => ⟨_, _, _, _, _, rfl, .ty _, .base (.str _), kit_ty (by decide +kernel), q⟩, fun Q q => ⟨_, _, _, _, _, rfl, .ty _, .base (.str _), kit_ty (by decide +kernel), q⟩⟩
  | lst n h => exact ⟨false, false, rfl, fun Q q => ⟨_, _, _, _, _, rfl, .ty _, .base (.lst h), kit_ty (by decide +kernel), q⟩, fun Q q => ⟨_, _, _, _, _, rfl, .ty _, .base (.lst h), kit_ty (by decide +kernel), q⟩⟩
  | tup n h => exact ⟨false, false, rfl, fun Q q => ⟨_, _, _, _, _, rfl, .ty _, .base (.tup h), kit_ty (by decide +kernel), q⟩, fun Q q => ⟨_, _, _, _, _, rfl, .ty _, .base (.tup h), kit_ty (by decide +kernel), q⟩⟩
  | dK n h => exact ⟨false, false, rfl, fun Q q => ⟨_, _, _, _, _, rfl, .ty _, .base (.dK h), kit_ty (by decide +kernel), q⟩, fun Q q => ⟨_, _, _, _, _, rfl, .ty _, .base (.dK h), kit_ty (by decide +kernel), q⟩⟩
end My
namespace My
open PySem PySem.Spec PyProof.Rows L2
/-! ### for i, x in enumerate(t), t a tuple -/
section
variable {prog : Program} {w : World} {A : Around} {E : Value → Shared → Prop} {s : Shared}
theorem tupNext {it t : Addr} {i : Nat} {its : Array Value} {x : Value} {Q : Value → Shared → Prop} (h1 : IsTupIter s.heap it t i) (h2 : IsTup s.heap t its) (hx : its[i]? = some x)
    (q : ∀ h', IsTupIter h' it t (i + 1) → Heap.SameBut it s.heap h' → Q x { s with heap := h' }) : wpAny (model prog w) A (Builtin.SmallTypes.nextOf (.ref it)) Q E s := by
  unfold Builtin.SmallTypes.nextOf
  exact wpAny_bind (special_tup_item h1 h2 hx fun h' a b => wpAny_pure (q h' a b))
theorem tupNo {it t : Addr} {i : Nat} {its : Array Value} {Q : Value → Shared → Prop} (hh : A.handled = none) (h1 : IsTupIter s.heap it t i) (h2 : IsTup s.heap t its) (hx : its[i]? = none)
    (q : ∀ h' e, Heap.ExtBut it s.heap h' → (∃ o, h'.get? e = some o ∧ o.cls = .type "StopIteration") → E (.ref e) { s with heap := h' }) : wpAny (model prog w) A (Builtin.SmallTypes.nextOf (.ref it)) Q E s := by
  unfold Builtin.SmallTypes.nextOf
  refine wpAny_bind (special_tup_end hh h1 h2 hx fun e h' sx eb => ?_)
  obtain ⟨a, o, vs, rfl, ho, hc, _⟩ := sx
  exact q h' a eb ⟨o, ho, hc⟩
theorem tupDraws {it t : Addr} {its : Array Value} (hh : A.handled = none) (ne : t ≠ it) : Draws prog w A it [it, t] its.size (fun i x => its[i]? = some x) (fun i h => IsTupIter h it t i ∧ IsTup h t its) where
  live := fun i h st => by
    obtain ⟨⟨o, ho, _⟩, _⟩ := st
    exact ⟨o, ho⟩
  frame := fun i h h' st k => by
    obtain ⟨⟨o, ho, r⟩, ⟨o2, ho2, r2⟩⟩ := st
    exact ⟨⟨o, k it (by simp) o ho, r⟩, ⟨o2, k t (by simp) o2 ho2, r2⟩⟩
  item := fun i s Q E hi st q => tupNext st.1 st.2 (x := its[i]) (by simp [hi]) fun h' a b => q _ h' s.toks (by simp [hi]) ⟨a, st.2.extBut b.extBut ne⟩ b
  done := fun s Q E st q => tupNo hh st.1 st.2 (by simp) q
theorem newEnumT (t : Addr) (its : Array Value) (n : Nat) (dct : Option Addr) (sl : Array (Option Value)) :
    Meets (Builtin.«enumerate.__new__» ⟨[.type "enumerate", .ref t], []⟩) (fun _ R s => s.heap.get? t = some { cls := .type "tuple", dict := dct, data := .seq its n, slots := sl } ∧
      R (.ok (.ret (.ref (s.heap.push { cls := .type "tuple_iterator", data := .fields #[.ref t, .int 0 0] }).objs.size)))
        { s with heap := (s.heap.push { cls := .type "tuple_iterator", data := .fields #[.ref t, .int 0 0] }).push { cls := .type "enumerate", data := .fields #[.none, .bool false, .ref s.heap.objs.size, rawInt 0, .none, .none] } }) :=
  Meets.of_wp fun prog w A R s h => by
    obtain ⟨hp, g, d, tk, os⟩ := s
    obtain ⟨ht, hR⟩ := h
    have hsub := sub_enumerate
    have hT : IsTup (Shared.heap ⟨hp, g, d, tk, os⟩) t its := ⟨_, ht, rfl, n, rfl⟩
    wp_walk using AutoSeq1.wpAny_loadPart' ht
    refine wpAny_stack_any (fun st => wpAny_pure ?_)
    split
    · rename_i c _ _ _ _ _
      cases (c == Value.type "enumerate") <;> (wp_walk using AutoSeq1.wpAny_loadPart' ht, iter_tuple hT; exact ⟨_, rfl, hR⟩)
    · wp_walk using AutoSeq1.wpAny_loadPart' ht, iter_tuple hT
      exact ⟨_, rfl, hR⟩
theorem callEnumT {t : Addr} {its : Array Value} {Q : Value → Shared → Prop} (hT : IsTup s.heap t its)
    (q : ∀ h', IsEnum h' (s.heap.objs.size + 1) s.heap.objs.size 0 .none → IsTupIter h' s.heap.objs.size t 0 → (∀ b o, s.heap.get? b = some o → h'.get? b = some o) → Q (.ref (s.heap.objs.size + 1)) { s with heap := h' }) :
    wpAny (model prog w) A (call (.type "enumerate") [.ref t]) Q E s := by
  obtain ⟨⟨c, dct, dt, sl⟩, ht, hc, n, hd⟩ := hT
  simp only at hc hd
  subst hc hd
  refine callType_new F.called_enumerate (by decide) (F.typeCall_enumerate_1 _) (F.newCall_enumerate_1 _) (fun obj => F.args_object_init_2 obj _) F.entry_enumerate_new (newEnumT t its n dct sl) ⟨ht, ?_⟩
  generalize hh1 : s.heap.push { cls := .type "tuple_iterator", data := .fields #[.ref t, .int 0 0] } = h1
  have z1 : h1.objs.size = s.heap.objs.size + 1 := by rw [← hh1, Heap.size_push]
  have k1 : ∀ b o, s.heap.get? b = some o → h1.get? b = some o := fun b o e => by rw [← hh1]; exact Heap.get?_push_of_some _ e
  have i1 : h1.get? s.heap.objs.size = some { cls := .type "tuple_iterator", data := .fields #[.ref t, .int 0 0] } := by rw [← hh1]; exact Heap.get?_push_size _ rfl
  show _ ∧ _
  rw [z1]
  have e1 := Heap.get?_push_size h1 (o := { cls := .type "enumerate", data := .fields #[.none, .bool false, .ref s.heap.objs.size, rawInt 0, .none, .none] }) rfl
  rw [z1] at e1
  exact ⟨⟨_, e1, rfl⟩, q _ e1 ⟨_, Heap.get?_push_of_some _ i1, rfl, rfl⟩ fun b o e => Heap.get?_push_of_some _ (k1 b o e)⟩
end
def IteT (K : PySem.W.Frag) (a : Addr) : It :=
  ⟨fun i H => ∃ (xs : List V) (x : V), SqT K H a xs ∧ xs[i]? = some x, fun i H v H' => ∃ T x, v = .ref T ∧ H T = none ∧ H' = upd H T (.tup [.int (i : Nat), x]) ∧ ∀ xs, SqT K H a xs → xs[i]? = some x, fun i H => ∃ xs : List V, SqT K H a xs ∧ xs.length = i⟩
theorem turnEnumT {P : Program} {w : World} {K : PySem.W.Frag} {elts : List Expr} {kk : Nat} {tpos : Pos} (a e it : Addr) :
    Turn P w K (.Tuple elts kk tpos) (IteT K a) [e, it] e (fun i h => (∃ old, IsEnum h e it ((i : Nat) : Int) old) ∧ IsTupIter h it a i ∧ e ≠ it) where
  mem := by simp
  obj := fun i h st b hb => by
    obtain ⟨⟨old, he⟩, ⟨o, ho, hc, hd⟩, _⟩ := st
    rcases (show b = e ∨ b = it by simpa using hb) with rfl | rfl
    · exact ⟨_, he, fun v q => nomatch q⟩
    · exact ⟨o, ho, fun v q => by rw [hd] at q; cases q⟩
  keep := fun i h h' st k => by
    obtain ⟨⟨old, he⟩, ⟨o, ho, r⟩, hne⟩ := st
    exact ⟨⟨old, k e (by simp) _ he⟩, ⟨o, k it (by simp) o ho, r⟩, hne⟩
  item := by
    intro X hP hw hK hc i pins s σ H E I hf st hg
    subst hP hw hK
    obtain ⟨⟨old, he⟩, hit, hne⟩ := st
    obtain ⟨xs, x, hq, hx⟩ := hg
    obtain ⟨its, rv, p, hz⟩ := I.tuple hq
    obtain ⟨u, hu, ru⟩ := rv.get hx
    have elt := Heap.lt_size he
    have ilt : it < s.heap.objs.size := by obtain ⟨_, q, _⟩ := hit; exact Heap.lt_size q
    have hh := I.ok.hd hc
    have hti : a ≠ it := fun z => by
      obtain ⟨o1, e1, c1, _⟩ := hit
      obtain ⟨o2, e2, c2, _⟩ := p
      rw [z, e1] at e2
      cases e2
      rw [c1] at c2
      exact absurd c2 (by decide)
    have hte : e ≠ a := fun z => by
      obtain ⟨o2, e2, c2, _⟩ := p
      rw [← z, he] at e2
      cases e2
      exact absurd (show (Value.type "enumerate" : Value) = .type "tuple" from c2) (by decide)
    have ii : i < its.toArray.size := by
      have hl := rv.length
      have : i < xs.length := by
        rcases Nat.lt_or_ge i xs.length with h | h
        · exact h
        · rw [List.getElem?_eq_none h] at hx
          cases hx
      simp
      omega
    refine wpAny_pyNext_enum_itemD (tupDraws (A := X.A.in1) hh hti) he ⟨hit, p⟩ ii hne (by simp [hne, hte]) fun u' h' tk hu' ho st' hT hsz hk => ?_
    obtain rfl : u = u' := by
      have e2 : its.toArray[i]? = some u := by simpa using hu
      rw [e2] at hu'
      exact Option.some.inj hu'
    refine ⟨_, rfl, wpAny_letOwnedTupleGo_enum (s := { s with heap := h', toks := tk + 1 }) ho fun h'' he' sb => ?_⟩
    have hT2 := (sb.2 _ (Nat.ne_of_gt elt)).trans hT
    have new : ObjOk X.prog X.w (upd H s.heap.objs.size (.tup [.int (i : Nat), x])) h'' s.heap.objs.size (.tup [.int (i : Nat), x]) := ⟨by show 2 ≤ sizeLine; decide, [.int i tk, u], .cons ⟨_, rfl⟩ (.cons ru .nil), ⟨_, hT2, rfl, _, rfl⟩⟩
    have I1 : Inv X pins σ (upd H s.heap.objs.size (.tup [.int (i : Nat), x])) { s with heap := h'', toks := tk + 1 } :=
      I.turnedNew (t' := tk + 1) (ch := [e, it]) (fun b ob hb q => by
        have b1 : b ≠ e := fun z => hb (by simp [z])
        have b2 : b ≠ it := fun z => hb (by simp [z])
        exact (sb.2 b b1).trans (hk b ob b1 b2 q)) hf (Nat.le_refl _) new
    refine ⟨.ref s.heap.objs.size, _, I1, rfl, ⟨_, x, rfl, I.hok.fresh (Nat.le_refl _), rfl, fun ys hy => by rw [I.tuple_inj hy hq]; exact hx⟩, ⟨⟨u, ?_⟩, ?_, hne⟩, fun b hb => ?_⟩
    · rw [show ((i + 1 : Nat) : Int) = (i : Int) + 1 by omega]
      exact he'
    · obtain ⟨o, ho', r⟩ := st'.1
      exact ⟨o, (sb.2 it (Ne.symm hne)).trans ho', r⟩
    · have hb' : b < s.heap.objs.size := by
        rcases (show b = e ∨ b = it by simpa using hb) with rfl | rfl
        · exact elt
        · exact ilt
      rw [upd_ne (Nat.ne_of_lt hb')]
      exact (hf b hb).1
  done := by
    intro X hP hw hK hc i pins s σ H E I hf st hg
    subst hP hw hK
    obtain ⟨⟨old, he⟩, hit, hne⟩ := st
    obtain ⟨xs, hq, hx⟩ := hg
    obtain ⟨its, rv, p, hz⟩ := I.tuple hq
    obtain ⟨f0, f1, f2, f3, f4, f5⟩ := hf it (by simp)
    have hl := rv.length
    have hh := I.ok.hd hc
    have hti : a ≠ it := fun z => by
      obtain ⟨o1, e1, c1, _⟩ := hit
      obtain ⟨o2, e2, c2, _⟩ := p
      rw [z, e1] at e2
      cases e2
      rw [c1] at c2
      exact absurd c2 (by decide)
    have en : i = its.toArray.size := by
      simp
      omega
    rw [en] at he hit
    exact wpAny_pyNext_enum_endD (tupDraws (A := X.A.in1) hh hti) he ⟨hit, p⟩ fun h' eb => ⟨rfl, I.turned (t' := s.toks) (fun b o hb q => eb b o hb q) f0 f1 f3 f4 f5⟩
  self := fun A i s Q E st h => by
    obtain ⟨⟨_, he⟩, _⟩ := st
    exact wpAny_pyIter_enum he h
/-- enumerate over a list or a tuple -/
def iEnumX (K : PySem.W.Frag) (ta : TA) : TI := fun σ H R => ta σ H fun vs H1 => ∃ a xs, vs = [.ref a] ∧ ((SqL K H1 a xs ∧ R (Ite K a) H1) ∨ (SqT K H1 a xs ∧ R (IteT K a) H1))
theorem pi_enumX {X : Cx} {e : Expr} {ta : TA} {p pos tpos : Pos} {elts : List Expr} {kk : Nat} (hg : Gl X "enumerate") (hm : X.mg "enumerate" = none) (ha : PA X [e] ta) (hs : starEach [e] X.env = [(false, eval e X.env)] := by rfl) :
    PI X (.Tuple elts kk tpos) (.Call (.Name "enumerate" p) [e] [] pos) (iEnumX X.K ta) := by
  refine ⟨fun pins s σ H R I h => ?_⟩
  refine Call_ (ld_blt I hg hm boot_enumerate (PyProof.Rows.callWith_type1 (thn (ha.run pos pins s σ H _ I h) fun us s1 q1 => ?_) hs rfl))
  obtain ⟨vs, H1, I1, r1, a, xs, ex, q⟩ := q1
  subst ex
  obtain ⟨u, rfl, ru⟩ := vals1 r1
  cases ru
  have go : ∀ (h' : Heap) (J : It) (tn : Nat → Heap → Prop), (∀ b o, s1.heap.get? b = some o → h'.get? b = some o) → IsEnum h' (s1.heap.objs.size + 1) s1.heap.objs.size 0 .none → Turn X.prog X.w X.K (.Tuple elts kk tpos) J [s1.heap.objs.size + 1, s1.heap.objs.size] (s1.heap.objs.size + 1) tn → tn 0 h' → R J H1 →
      wpAny (model X.prog X.w) X.A (pyIter (.ref (s1.heap.objs.size + 1))) (PIE X pins σ (.Tuple elts kk tpos) R) X.xe { s1 with heap := h' } := fun h' J tn hk he T t0 q => by
    refine wpAny_pyIter_enum he ?_
    refine ⟨s1.heap.objs.size + 1, [s1.heap.objs.size + 1, s1.heap.objs.size], tn, J, H1, rfl, I1.kept (t' := s1.toks) hk, T, t0, fun b hb => ?_, q⟩
    have hle : s1.heap.objs.size ≤ b := by
      rcases (show b = s1.heap.objs.size + 1 ∨ b = s1.heap.objs.size by simpa using hb) with rfl | rfl
      · exact Nat.le_succ _
      · exact Nat.le_refl _
    exact I1.fpOk hle (I1.hok.fresh hle)
  rcases q with ⟨hq, q⟩ | ⟨hq, q⟩
  · obtain ⟨its, rv, p', hz⟩ := I1.list hq
    exact call_enumerate_list p'.isList fun h' he hit hsz hk => go h' _ _ hk he (turn_enum a _ _) ⟨⟨.none, he⟩, hit, Nat.succ_ne_self _⟩ q
  · obtain ⟨its, rv, p', hz⟩ := I1.tuple hq
    exact callEnumT p' fun h' he hit hk => go h' _ _ hk he (turnEnumT a _ _) ⟨⟨.none, he⟩, hit, Nat.succ_ne_self _⟩ q
theorem rd_enumX {K : PySem.W.Frag} {ta : TA} {R : It → Hp → Prop} {σ : L2.St} {H : Hp} (h : ta σ H fun vs H1 => ∃ a xs, vs = [.ref a] ∧ ((SqL K H1 a xs ∧ R (Ite K a) H1) ∨ (SqT K H1 a xs ∧ R (IteT K a) H1))) : iEnumX K ta σ H R := h
theorem for_enumT {K : PySem.W.Frag} {a : Addr} {xs : List V} {g : TG} {tb : TS} {D : Ends} {σ : L2.St} {H : Hp} (Pv : Nat → L2.St → Hp → Prop) (h0 : Pv 0 σ H) (hl : ∀ i σ H, i ≤ xs.length → Pv i σ H → SqT K H a xs)
    (hs : ∀ i x T σ H, xs[i]? = some x → Pv i σ H → H T = none → g (.ref T) σ (upd H T (.tup [.int (i : Nat), x])) fun σ2 H2 => tb { D with nx := Pv (i + 1), ct := Pv (i + 1), bk := D.nx } σ2 H2) (hd : ∀ σ H, Pv xs.length σ H → D.nx σ H) :
    ∃ W : Nat → Nat → L2.St → Hp → Prop, (∃ m, W 0 m σ H) ∧ ∀ i m σ H, W i m σ H →
      ((IteT K a).stop i H ∧ D.nx σ H) ∨ ((IteT K a).go i H ∧ ∃ N : L2.St → Hp → Prop, (∀ σ' H', N σ' H' → ∃ m', m' < m ∧ W (i + 1) m' σ' H') ∧ ∀ x H', (IteT K a).yld i H x H' → g x σ H' fun σ2 H2 => tb { D with nx := N, ct := N, bk := D.nx } σ2 H2) := by
  refine ⟨fun i m σ H => m = xs.length - i ∧ i ≤ xs.length ∧ Pv i σ H, ⟨xs.length, by simp, Nat.zero_le _, h0⟩, ?_⟩
  rintro i m σ H ⟨rfl, hi, p⟩
  have q := hl i σ H hi p
  by_cases hlt : i < xs.length
  · refine .inr ⟨⟨xs, xs[i], q, by simp [hlt]⟩, Pv (i + 1), fun σ' H' p' => ⟨xs.length - (i + 1), by omega, rfl, hlt, p'⟩, fun x H' y => ?_⟩
    obtain ⟨T, x, rfl, nT, rfl, y⟩ := y
    exact hs i x T σ H (y xs q) p nT
  · have e : i = xs.length := by omega
    subst e
    exact .inl ⟨⟨xs, q, rfl⟩, hd σ H p⟩
end My
namespace My
open PySem PySem.Spec PyProof.Rows L2
/-! ### max of a tuple of two ints -/
def rMaxT (K : PySem.W.Frag) : List V → Hp → VK → Prop := fun vs H Q => ∃ (a : Addr) (i j : Int), vs = [V.ref a] ∧ SqT K H a [.int i, .int j] ∧ ∀ m, (m = i ∨ m = j) ∧ i ≤ m ∧ j ≤ m → Q (.int m) H
theorem cr_maxT {X : Cx} (hc : X.calm = true) (hu : X.A.units + 64 < cLine) : CallR X (.builtin "max") (rMaxT X.K) := by
  intro pins s σ H vs us Q I r h
  obtain ⟨a, i, j, rfl, hs, q⟩ := h
  obtain ⟨its, rv, hl, _⟩ := I.tuple hs
  rw [Vals.ref1 r]
  have hv : ∃ (u1 u2 : Value), its = [u1, u2] ∧ RelV (.int i) u1 ∧ RelV (.int j) u2 := by
    cases rv with
    | cons r1 r2 =>
      cases r2 with
      | cons r2 r3 =>
        cases r3
        exact ⟨_, _, rfl, r1, r2⟩
  clear rv
  obtain ⟨_, _, rfl, ⟨t1, rfl⟩, ⟨t2, rfl⟩⟩ := hv
  have e : PyData.depthAll [PyData.int i, .int j] ≤ 2 := by simp [PyData.depthAll, PyData.depth]
  have hm : PySem.W.maxD (.int i) [.int j] = .int (max i j) := PySem.W.maxD_ints i [j]
  have hr : ReadsAll s.heap [Value.int i t1, Value.int j t2] [PyData.int i, .int j] [] := .cons (as := []) (.int _ _) (.cons (as := []) (.int _ _) .nil)
  have ha : PySem.W.AlikeAll [PyData.int i, .int j] := by
    refine ⟨fun x hx y hy => ?_, fun x hx => ?_⟩
    · simp only [List.mem_cons, List.not_mem_nil, or_false] at hx hy
      rcases hx with rfl | rfl <;> rcases hy with rfl | rfl <;> rfl
    · simp only [List.mem_cons, List.not_mem_nil, or_false] at hx
      rcases hx with rfl | rfl <;> simp
  refine PySem.W.max_tuple_data (x := .int i) (xs := [.int j]) (as := []) (I.ok.hd hc) hl hr ha ?_ fun k v h' tk bs hk hr hk' => ?_
  · omega
  · rw [hm] at hr
    cases hr
    exact ⟨.int (max i j), H, I.kept hk', ⟨_, rfl⟩, q (max i j) ⟨by omega, by omega, by omega⟩⟩
end My
namespace My
open PySem PySem.Spec PyProof.Rows L2
variable {K : PySem.W.Frag}
/-! ### own error classes with one field -/
structure ExF (K : PySem.W.Frag) (mg : Str → Option Value) (x : Str) (C fI : Addr) (fl : Str) : Prop where
  g : mg x = some (.ref C)
  ox : OexC K C
  iC : PySem.W.findIn K (.ref C) "__init__" = some (some (.ref fI))
  tI : PySem.W.typeIn K (.ref fI) = some (.type "function")
  no : PySem.W.findIn K (.ref C) fl = some none
  xf : XfC K C
  ic : PySem.W.isClsIn K C = true
  sf : PySem.W.subIn K (.ref C) (.ref C) = some true
theorem ExF.te {K : PySem.W.Frag} {mg : Str → Option Value} {x : Str} {C fI : Addr} {fl : Str} (e : ExF K mg x C fI fl) : PySem.W.exmOne K (.ref C) (.ref C) = some true := exm_sub e.ox.exC e.ic e.ox.tyC e.sf
/-- what such an __init__ does -/
def sp_xinit (C : Addr) (fl : Str) : Sp := fun vs H Q _ => ∃ p v, vs = [.ref p, v] ∧ H p = some (exo p C none) ∧ ∀ dx, H dx = none → dx ≠ p → Q .non (upd (upd H dx (exd dx [(fl, v)])) p (exo p C (some dx)))
theorem rd_ost {K : PySem.W.Frag} {f : Str} {to te : TE} {D : Ends} {σ : L2.St} {H : Hp} (h : te σ H fun y H1 => to σ H1 fun x H2 => ∃ a C : Addr, x = .ref a ∧ OexC K C ∧ PySem.W.findIn K (.ref C) f = some none ∧
    ((H2 a = some (exo a C none) ∧ ∀ dx, H2 dx = none → dx ≠ a → D.nx σ (upd (upd H2 dx (exd dx [(f, y)])) a (exo a C (some dx)))) ∨
      ∃ (dx : Addr) (fs : List (Str × V)), H2 a = some (exo a C (some dx)) ∧ H2 dx = some (exd dx fs) ∧ fs.length ≤ 900 ∧ D.nx σ (upd H2 dx (exd dx ((f, y) :: fs))))) : tOst K f to te D σ H := h
theorem del_upd_back {H1 : Hp} {a d : Addr} {o1 o2 o3 : HO} {fs : List (Str × V)} (ha : H1 a = none) (hd : H1 d = none) (hn : d ≠ a) :
    upd (del (upd (upd (upd H1 a o1) d o2) a o3) a) d (.xd fs) = upd H1 d (.xd fs) := by
  funext b
  by_cases hb : b = d
  · rw [hb, upd_same, upd_same]
  · rw [upd_ne hb, upd_ne hb]
    by_cases hb2 : b = a
    · rw [hb2, del_same, ha]
    · rw [del_ne hb2, upd_ne hb2, upd_ne hb, upd_ne hb2]
theorem lk1 {f : Str} {v : V} : ([(f, v)] : List (Str × V)).lookup f = some v := by
  have e : (f == f) = true := beq_self_eq_true f
  simp only [List.lookup, e]
/-- raise X(e) -/
def tRaise1 (C : Addr) (fl : Str) (W : WX) (ta : TA) : TS := fun _ σ H => tMkO C (sp_xinit C fl) [] ta σ H fun cls d H' => W cls d σ H'
theorem rd_raise1 {C : Addr} {fl : Str} {W : WX} {ta : TA} {D : Ends} {σ : L2.St} {H : Hp} (h : ta σ H fun vs H1 => vs.length ≤ 1000 ∧ ∀ a, H1 a = none → sp_xinit C fl (.ref a :: (vs ++ [])) (upd H1 a (exo a C none))
    (fun v H2 => v = .non ∧ ∃ (d : Addr) (fs : List (Str × V)), H2 a = some (exo a C (some d)) ∧ H2 d = some (exd d fs) ∧ H1 d = none ∧ W (.ref C) (some d) σ (upd (del H2 a) d (.xd fs))) (fun _ _ _ => False)) : tRaise1 C fl W ta D σ H := h
theorem rd_x1 {C : Addr} {fl : Str} {v : V} {H1 : Hp} {Q : Value → Option Addr → Hp → Prop} (h : ∀ d, H1 d = none → Q (.ref C) (some d) (upd H1 d (.xd [(fl, v)]))) :
    [v].length ≤ 1000 ∧ ∀ a, H1 a = none → sp_xinit C fl (.ref a :: ([v] ++ [])) (upd H1 a (exo a C none))
      (fun v H2 => v = .non ∧ ∃ (d : Addr) (fs : List (Str × V)), H2 a = some (exo a C (some d)) ∧ H2 d = some (exd d fs) ∧ H1 d = none ∧ Q (.ref C) (some d) (upd (del H2 a) d (.xd fs))) (fun _ _ _ => False) := by
  refine ⟨by show 1 ≤ 1000; decide, fun a na => ⟨a, v, rfl, upd_same, fun dx nd ne => ⟨rfl, dx, [(fl, v)], upd_same, ?_, ?_, ?_⟩⟩⟩
  · rw [upd_ne ne, upd_same]
  · rw [upd_ne ne] at nd
    exact nd
  · rw [upd_ne ne] at nd
    rw [del_upd_back na nd ne]
    exact h dx nd
theorem ps_raise1 {X : Cx} {W : WX} {C fI : Addr} {x : Str} {fl : Str} {k : Nat} {fd : FuncData} {ta : TA} {e : Expr} {es : List Expr} {p pos pos2 : Pos} (hc : X.calm = true) (E : ExF X.K X.mg x C fI fl)
    (F1 : FnOk X.prog X.w X.K X.mg X.base CX0 k fI fd ["self", fl] (sp_xinit C fl)) (hr : Room (k + 1) X.A) (tk : Takes X W) (hb : Binds X.K fd ["self", fl] []) (ha : PA X (e :: es) ta) (hg : Gl X x := by rfl)
    (hdb : (x == ("__debug__" : Str)) = false := by decide) (he : starEach (e :: es) X.env = (false, eval e X.env) :: starEach es X.env := by rfl) (hpl : (backTo pos (starEach es X.env)).any (·.1) = false := by rfl) :
    PS X (.Raise (some (.Call (.Name x p) (e :: es) [] pos)) none pos2) (tRaise1 C fl W ta) :=
  ps_raise (pos := pos2) hc tk (pmk_oex (pos := pos) E.ox E.iC E.tI F1 hr hb .nil pass0 hg E.g ha hdb he hpl)
/-- e.f of the caught error -/
theorem rd_xf {a : Addr} {cls : Value} {d : Option Addr} {C : Addr} {f : Str} {te : TE} {σ : L2.St} {H : Hp} {Q : VK} (h : te σ H fun x H1 => x = .ref a ∧ cls = .ref C ∧ ∃ (dd : Addr) (fs : List (Str × V)) (v : V), d = some dd ∧ H1 dd = some (.xd fs) ∧ fs.lookup f = some v ∧ Q v H1) : tXf a cls d C f te σ H Q := h
theorem rd_xf1 {a : Addr} {C dd : Addr} {f : Str} {v : V} {H : Hp} {Q : VK} (h : H dd = some (.xd [(f, v)])) (q : Q v H) : (V.ref a) = .ref a ∧ (Value.ref C) = .ref C ∧ ∃ (dd2 : Addr) (fs : List (Str × V)) (v : V), some dd = some dd2 ∧ H dd2 = some (.xd fs) ∧ fs.lookup f = some v ∧ Q v H := ⟨rfl, rfl, dd, _, v, rfl, h, lk1, q⟩
/-! ### own classes with fields -/
structure InsT (K : PySem.W.Frag) (C : Addr) : Prop where
  cl : Cls K C
  ha : PySem.W.findIn K (.ref C) "__class__" = some (some (.builtin "object.__class__"))
  hn : PySem.W.specialIn K (.builtin "object.__class__") "__get__" = some (some (.builtin "getset_descriptor.__get__"))
  ht : PySem.W.takesIn K (.builtin "object.__class__") = some true
  mo : PySem.W.mroIn K C (.type "object") = some true
  ki : PySem.W.kitOne K (.ref C) (.type "int") = some false
  kb : PySem.W.kitOne K (.ref C) (.type "bool") = some false
  kt : PySem.W.kitOne K (.ref C) (.type "tuple") = some false
  kl : PySem.W.kitOne K (.ref C) (.type "list") = some false
structure WebC (K : PySem.W.Frag) (mg : Str → Option Value) (x : Str) (C fI : Addr) : Prop where
  g : mg x = some (.ref C)
  mks : Mk K C fI
  it : InsT K C
theorem rd_fldS {K : PySem.W.Frag} {ta tv : TE} {f : Str} {D : Ends} {σ : L2.St} {H : Hp} (h : tv σ H fun y H1 => ta σ H1 fun x H2 => ∃ a C dx fs, x = .ref a ∧ H2 a = some (.ins C dx fs) ∧ Cls K C ∧ NoAttr K C f ∧ fs.length < 1000 ∧ D.nx σ (upd H2 a (.ins C dx (putF f y fs)))) : sFld K ta tv f D σ H := h
theorem rd_make {C : Addr} {sp : Sp} {dvs : List V} {E : XK} {t : TA} {σ : L2.St} {H : Hp} {Q : VK} (h : t σ H fun vs H1 => ∀ x dx, H1 x = none → H1 dx = none → dx ≠ x → sp (.ref x :: (vs ++ dvs)) (upd (upd H1 dx (.own x)) x (.ins C dx [])) (fun v H2 => v = .non ∧ Q (.ref x) H2) E) : tMake C sp dvs E t σ H Q := h
theorem rd_enum {K : PySem.W.Frag} {ta : TA} {R : It → Hp → Prop} {σ : L2.St} {H : Hp} (h : ta σ H fun vs H1 => ∃ a xs, vs = [.ref a] ∧ SqL K H1 a xs ∧ R (Ite K a) H1) : iEnum K ta σ H R := h
/-! ### things of all kinds; D: the deck, which alone is changed -/
inductive Od (K : PySem.W.Frag) (D : Addr) (H : Hp) : V → Prop where
  | non : Od K D H .non
  | bl (b : Bool) : Od K D H (.bl b)
  | str (s : Str) : Od K D H (.str s)
  | lst {p : Addr} {xs : List V} (n : p ≠ D) (h : H p = some (.lst xs)) : Od K D H (.ref p)
  | tup {p : Addr} {xs : List V} (n : p ≠ D) (h : H p = some (.tup xs)) : Od K D H (.ref p)
  | dK {p : Addr} {kvs : List (Key × V)} (n : p ≠ D) (h : H p = some (.dK kvs)) : Od K D H (.ref p)
  | ins {p C dx : Addr} {fs : List (Str × V)} (n : p ≠ D) (h : H p = some (.ins C dx fs)) (c : InsT K C) : Od K D H (.ref p)
theorem Od.fw {K : PySem.W.Frag} {D : Addr} {H H' : Hp} {v : V} (o : Od K D H v) (f : Fw D H H') : Od K D H' v := by
  cases o with
  | non => exact .non
  | bl b => exact .bl b
  | str s => exact .str s
  | lst n h => exact .lst n (f _ _ n h)
  | tup n h => exact .tup n (f _ _ n h)
  | dK n h => exact .dK n (f _ _ n h)
  | ins n h c => exact .ins n (f _ _ n h) c
/-- what isinstance says of it -/
theorem Od.isi {K : PySem.W.Frag} {D : Addr} {H : Hp} {v : V} (o : Od K D H v) : ∃ b1 b2 b3 : Bool, (b1 && !b2) = false ∧ (∀ Q : VK, Q (.bl b1) H → rIsi K [v, .ty "int"] H Q) ∧ (∀ Q : VK, Q (.bl b2) H → rIsi K [v, .ty "bool"] H Q) ∧ (∀ Q : VK, Q (.bl b3) H → rIsi K [v, .ty "tuple"] H Q) ∧ (b3 = true → ∃ p xs, v = .ref p ∧ p ≠ D ∧ H p = some (.tup xs)) := by
  cases o with
  | non => exact ⟨false, false, false, rfl, fun Q q => ⟨_, _, _, _, _, rfl, .ty _, .base .non, kit_ty (by decide +kernel), q⟩, fun Q q => ⟨_, _, _, _, _, rfl, .ty _, .base .non, kit_ty (by decide +kernel), q⟩, fun Q q => ⟨_, _, _, _, _, rfl, .ty _, .base .non, kit_ty (by decide +kernel), q⟩, fun z => Bool.noConfusion z⟩
  | bl b => exact ⟨true, true, false, rfl, fun Q q => ⟨_, _, _, _, _, rfl, .ty _, .base (.bl _), kit_ty (by decide +kernel), q⟩, fun Q q => ⟨_, _, _, _, _, rfl, .ty _, .base (.bl _), kit_ty (by decide +kernel), q⟩, fun Q q => ⟨_, _, _, _, _, rfl, .ty _, .base (.bl _), kit_ty (by decide +kernel), q⟩, fun z => Bool.noConfusion z⟩
  | str s => exact ⟨false, false, false, rfl, fun Q q => ⟨_, _, _, _, _, rfl, .ty _, .base (.str _), kit_ty (by decide +kernel), q⟩, fun Q q => ⟨_, _, _, _, _, rfl, .ty _, .base (.str _), kit_ty (by decide +kernel), q⟩, fun Q q => ⟨_, _, _, _, _, rfl, .ty _, .base (.str _), kit_ty (by decide +kernel), q⟩, fun z => Bool.noConfusion z⟩
  | lst n h => exact ⟨false, false, false, rfl, fun Q q => ⟨_, _, _, _, _, rfl, .ty _, .base (.lst h), kit_ty (by decide +kernel), q⟩, fun Q q => ⟨_, _, _, _, _, rfl, .ty _, .base (.lst h), kit_ty (by decide +kernel), q⟩, fun Q q => ⟨_, _, _, _, _, rfl, .ty _, .base (.lst h), kit_ty (by decide +kernel), q⟩, fun z => Bool.noConfusion z⟩
  | tup n h => exact ⟨false, false, true, rfl, fun Q q => ⟨_, _, _, _, _, rfl, .ty _, .base (.tup h), kit_ty (by decide +kernel), q⟩, fun Q q => ⟨_, _, _, _, _, rfl, .ty _, .base (.tup h), kit_ty (by decide +kernel), q⟩, fun Q q => ⟨_, _, _, _, _, rfl, .ty _, .base (.tup h), kit_ty (by decide +kernel), q⟩, fun _ => ⟨_, _, rfl, n, h⟩⟩
  | dK n h => exact ⟨false, false, false, rfl, fun Q q => ⟨_, _, _, _, _, rfl, .ty _, .base (.dK h), kit_ty (by decide +kernel), q⟩, fun Q q => ⟨_, _, _, _, _, rfl, .ty _, .base (.dK h), kit_ty (by decide +kernel), q⟩, fun Q q => ⟨_, _, _, _, _, rfl, .ty _, .base (.dK h), kit_ty (by decide +kernel), q⟩, fun z => Bool.noConfusion z⟩
  | ins n h c => exact ⟨false, false, false, rfl, fun Q q => ⟨_, _, _, _, _, rfl, .ty _, .base (.ins h c.cl c.ha c.hn c.ht c.mo), c.ki, q⟩, fun Q q => ⟨_, _, _, _, _, rfl, .ty _, .base (.ins h c.cl c.ha c.hn c.ht c.mo), c.kb, q⟩, fun Q q => ⟨_, _, _, _, _, rfl, .ty _, .base (.ins h c.cl c.ha c.hn c.ht c.mo), c.kt, q⟩, fun z => Bool.noConfusion z⟩
/-- what is no fraction -/
inductive NoF (K : PySem.W.Frag) (D : Addr) (H : Hp) : V → Prop where
  | int (i : Int) : NoF K D H (.int i)
  | not {v : V} (o : Od K D H v) (h : ∀ p xs, v = .ref p → H p = some (.tup xs) → xs.length ≠ 2) : NoF K D H v
  | fst {p : Addr} {x y : V} (n : p ≠ D) (h : H p = some (.tup [x, y])) (o : Od K D H x) : NoF K D H (.ref p)
  | snd {p : Addr} {i : Int} {y : V} (n : p ≠ D) (h : H p = some (.tup [.int i, y])) (o : Od K D H y) : NoF K D H (.ref p)
  | low {p : Addr} {i j : Int} (n : p ≠ D) (h : H p = some (.tup [.int i, .int j])) (z : ¬ (0 < j ∧ Nat.gcd i.natAbs j.natAbs = 1)) (b : j.natAbs < 2 ^ 4000) : NoF K D H (.ref p)
theorem NoF.fw {K : PySem.W.Frag} {D : Addr} {H H' : Hp} {v : V} (o : NoF K D H v) (f : Fw D H H') : NoF K D H' v := by
  cases o with
  | int i => exact .int i
  | not o h =>
    refine .not (o.fw f) fun p xs e h2 => ?_
    subst e
    cases o with
    | lst n h3 =>
      rw [f _ _ n h3] at h2
      cases h2
    | tup n h3 =>
      rw [f _ _ n h3] at h2
      cases h2
      exact h _ _ rfl h3
    | dK n h3 =>
      rw [f _ _ n h3] at h2
      cases h2
    | ins n h3 c =>
      rw [f _ _ n h3] at h2
      cases h2
  | fst n h o => exact .fst n (f _ _ n h) (o.fw f)
  | snd n h o => exact .snd n (f _ _ n h) (o.fw f)
  | low n h z b => exact .low n (f _ _ n h) z b
/-- a thing with the word whether it is a fraction -/
def JF (K : PySem.W.Frag) (D : Addr) (H : Hp) (v : V) (b : Option Rat) : Prop := (∃ r, IsF K H v r ∧ Bd 40 r ∧ b = some r) ∨ (NoF K D H v ∧ b = none)
theorem isi_int_tup {K : PySem.W.Frag} {H : Hp} {Q : VK} {i : Int} (q : Q (.bl false) H) : rIsi K [.int i, .ty "tuple"] H Q := ⟨_, _, _, _, _, rfl, .ty _, .base (.int _), kit_ty (by decide +kernel), q⟩
end My
namespace My
open PySem PySem.Spec PyProof.Rows L2
variable {K : PySem.W.Frag}
theorem for_enum {K : PySem.W.Frag} {a : Addr} {xs : List V} {g : TG} {tb : TS} {D : Ends} {σ : L2.St} {H : Hp} (Pv : Nat → L2.St → Hp → Prop) (h0 : Pv 0 σ H) (hl : ∀ i σ H, i ≤ xs.length → Pv i σ H → SqL K H a xs)
    (hs : ∀ i x T σ H, xs[i]? = some x → Pv i σ H → H T = none → g (.ref T) σ (upd H T (.tup [.int (i : Nat), x])) fun σ2 H2 => tb { D with nx := Pv (i + 1), ct := Pv (i + 1), bk := D.nx } σ2 H2) (hd : ∀ σ H, Pv xs.length σ H → D.nx σ H) :
    ∃ W : Nat → Nat → L2.St → Hp → Prop, (∃ m, W 0 m σ H) ∧ ∀ i m σ H, W i m σ H →
      ((Ite K a).stop i H ∧ D.nx σ H) ∨ ((Ite K a).go i H ∧ ∃ N : L2.St → Hp → Prop, (∀ σ' H', N σ' H' → ∃ m', m' < m ∧ W (i + 1) m' σ' H') ∧ ∀ x H', (Ite K a).yld i H x H' → g x σ H' fun σ2 H2 => tb { D with nx := N, ct := N, bk := D.nx } σ2 H2) := by
  refine ⟨fun i m σ H => m = xs.length - i ∧ i ≤ xs.length ∧ Pv i σ H, ⟨xs.length, by simp, Nat.zero_le _, h0⟩, ?_⟩
  rintro i m σ H ⟨rfl, hi, p⟩
  have q := hl i σ H hi p
  by_cases hlt : i < xs.length
  · refine .inr ⟨⟨xs, xs[i], q, by simp [hlt]⟩, Pv (i + 1), fun σ' H' p' => ⟨xs.length - (i + 1), by omega, rfl, hlt, p'⟩, fun x H' y => ?_⟩
    obtain ⟨T, x, rfl, nT, rfl, y⟩ := y
    exact hs i x T σ H (y xs q) p nT
  · have e : i = xs.length := by omega
    subst e
    exact .inl ⟨⟨xs, q, Nat.le_refl _⟩, hd σ H p⟩
/-! ### right stalls and webs of them -/
structure Stl where
  u : Nat
  v : Nat
  a : Rat
  b : Rat
  r : Rat
structure OkSt (n : Nat) (s : Stl) : Prop where
  u : s.u < n
  v : s.v < n
  ne : s.u ≠ s.v
  a : 0 < s.a
  b : 0 < s.b
  r : 0 < s.r
  e : s.a * s.b = s.r * s.r
structure BdSt (k : Nat) (s : Stl) : Prop where
  a : Bd k s.a
  b : Bd k s.b
  r : Bd k s.r
def IsSt (K : PySem.W.Frag) (H : Hp) (x : V) (s : Stl) : Prop := ∃ p va vb vr, x = .ref p ∧ H p = some (.tup [.int (s.u : Nat), .int (s.v : Nat), va, vb, vr]) ∧ IsF K H va s.a ∧ IsF K H vb s.b ∧ IsF K H vr s.r
theorem IsSt.same {H H' : Hp} {x : V} {s : Stl} (f : Same H H') (h : IsSt K H x s) : IsSt K H' x s := by
  obtain ⟨p, va, vb, vr, e, h, a, b, c⟩ := h
  exact ⟨p, va, vb, vr, e, f _ _ h, a.same f, b.same f, c.same f⟩
def Sts (K : PySem.W.Frag) (H : Hp) (xs : List V) (ss : List Stl) : Prop := Paired (IsSt K H) xs ss
theorem Sts.same {H H' : Hp} {xs : List V} {ss : List Stl} (f : Same H H') (h : Sts K H xs ss) : Sts K H' xs ss := by
  unfold Sts at *
  induction h with
  | nil => exact .nil
  | cons h t ih => exact .cons (h.same f) ih
theorem Sts.len {H : Hp} {xs : List V} {ss : List Stl} (h : Sts K H xs ss) : xs.length = ss.length := Paired.length h
theorem Sts.at {H : Hp} {xs : List V} {ss : List Stl} (h : Sts K H xs ss) : ∀ {i : Nat} {x : V}, xs[i]? = some x → ∃ s, ss[i]? = some s ∧ IsSt K H x s := by
  unfold Sts at h
  induction h with
  | nil =>
    intro i x e
    simp at e
  | cons h t ih =>
    intro i x e
    match i with
    | 0 =>
      simp at e
      subst e
      exact ⟨_, rfl, h⟩
    | i + 1 => exact ih (by simpa using e)
theorem IsF.ts {H H' : Hp} {x : V} {r : Rat} (f : Tps H H') (h : IsF K H x r) : IsF K H' x r := by
  obtain ⟨p, e, h⟩ := h
  exact ⟨p, e, h.ts f⟩
theorem IsSt.ts {H H' : Hp} {x : V} {s : Stl} (f : Tps H H') (h : IsSt K H x s) : IsSt K H' x s := by
  obtain ⟨p, va, vb, vr, e, h, a, b, c⟩ := h
  exact ⟨p, va, vb, vr, e, f _ _ h, a.ts f, b.ts f, c.ts f⟩
theorem Sts.ts {H H' : Hp} {xs : List V} {ss : List Stl} (f : Tps H H') (h : Sts K H xs ss) : Sts K H' xs ss := by
  unfold Sts at *
  induction h with
  | nil => exact .nil
  | cons h t ih => exact .cons (h.ts f) ih
def wF (n : Nat) (t : Addr) : List (Str × V) := [("wares", .int (n : Nat)), ("stalls", .ref t)]
def IsWeb (K : PySem.W.Frag) (C : Addr) (H : Hp) (x : V) (n : Nat) (ss : List Stl) : Prop := ∃ p dx t xs, x = .ref p ∧ H p = some (.ins C dx (wF n t)) ∧ H t = some (.tup xs) ∧ Sts K H xs ss
theorem IsWeb.same {C : Addr} {H H' : Hp} {x : V} {n : Nat} {ss : List Stl} (f : Same H H') (h : IsWeb K C H x n ss) : IsWeb K C H' x n ss := by
  obtain ⟨p, dx, t, xs, e, h1, h2, h3⟩ := h
  exact ⟨p, dx, t, xs, e, f _ _ h1, f _ _ h2, h3.same f⟩
theorem lk_here {k : Str} {v : V} {r : List (Str × V)} : List.lookup k ((k, v) :: r) = some v := by
  have e : (k == k) = true := beq_self_eq_true k
  simp only [List.lookup, e]
theorem lk_past {k g : Str} {v : V} {r : List (Str × V)} (h : (k == g) = false) : List.lookup k ((g, v) :: r) = List.lookup k r := by
  simp only [List.lookup, h]
theorem wF_wares (n : Nat) (t : Addr) : (wF n t).lookup ("wares" : Str) = some (.int (n : Nat)) := lk_here
theorem wF_stalls (n : Nat) (t : Addr) : (wF n t).lookup ("stalls" : Str) = some (.ref t) := (lk_past (by decide +kernel)).trans lk_here
theorem wF_new (n : Nat) (t : Addr) : putF "stalls" (.ref t) (putF "wares" (.int (n : Nat)) []) = wF n t := by
  have h : ¬ (("wares" : Str) = "stalls") := by decide +kernel
  show putF "stalls" (.ref t) [("wares", .int (n : Nat))] = _
  simp [putF, h, wF]
theorem rd_fld {K : PySem.W.Frag} {ta : TE} {f : Str} {σ : L2.St} {H : Hp} {Q : VK} (h : ta σ H fun x H1 => ∃ a C dx fs v, x = .ref a ∧ H1 a = some (.ins C dx fs) ∧ Cls K C ∧ NoAttr K C f ∧ fs.lookup f = some v ∧ Q v H1) : tFld K ta f σ H Q := h
/-- what a stall is behind a move -/
def Stl.first (s : Stl) (x : Rat) : Stl := ⟨s.u, s.v, x, s.r * s.r / x, s.r⟩
def Stl.secnd (s : Stl) (y : Rat) : Stl := ⟨s.u, s.v, s.r * s.r / y, y, s.r⟩
def Stl.behind (s : Stl) (w : Nat) (x : Rat) : Stl := if w = s.u then s.first (s.a + x) else s.secnd (s.b + x)
def Stl.out (s t : Stl) (w : Nat) : Rat := if w = s.u then s.b - t.b else s.a - t.a
/-- a move of the web -/
def IsMv (K : PySem.W.Frag) (H : Hp) (v : V) (i w : Nat) (x : Rat) : Prop := ∃ p vx, v = .ref p ∧ H p = some (.tup [.int (i : Nat), .int (w : Nat), vx]) ∧ IsF K H vx x
theorem IsMv.same {H H' : Hp} {v : V} {i w : Nat} {x : Rat} (f : Same H H') (h : IsMv K H v i w x) : IsMv K H' v i w x := by
  obtain ⟨p, vx, e, h, a⟩ := h
  exact ⟨p, vx, e, f _ _ h, a.same f⟩
theorem Sts.get {H : Hp} {xs : List V} {ss : List Stl} (h : Sts K H xs ss) : ∀ {i : Nat} {s : Stl}, ss[i]? = some s → ∃ x, xs[i]? = some x ∧ IsSt K H x s := by
  unfold Sts at h
  induction h with
  | nil =>
    intro i x e
    simp at e
  | cons h t ih =>
    intro i x e
    match i with
    | 0 =>
      simp at e
      subst e
      exact ⟨_, rfl, h⟩
    | i + 1 => exact ih (by simpa using e)
end My
namespace My
open PySem PySem.Spec PyProof.Rows L2
variable {K : PySem.W.Frag}
theorem tps_put {H1 H : Hp} {D : Addr} {o : HO} {ys : List V} (h : H D = some (.lst ys)) : Tps H (upd H D o) := fun b xs hb => by
  refine (upd_ne fun e => ?_).trans hb
  rw [e, h] at hb
  cases hb
theorem same_put {H1 H : Hp} {D : Addr} {o : HO} (n : H1 D = none) (s : Same H1 H) : Same H1 (upd H D o) := fun b x h => (upd_ne (ne_of_none h n)).trans (s b x h)
/-- what stands while the tuples stand -/
def Mn {α : Type} (R : Hp → V → α → Prop) : Prop := ∀ H H' v a, Tps H H' → R H v a → R H' v a
theorem Paired.mono {α : Type} {R : Hp → V → α → Prop} (hR : Mn R) {H H' : Hp} (f : Tps H H') {ys : List V} {as : List α} (h : Paired (R H) ys as) : Paired (R H') ys as := by
  induction h with
  | nil => exact .nil
  | cons h t ih => exact .cons (hR _ _ _ _ f h) ih
theorem same_tps {H H' : Hp} (s : Same H H') : Tps H H' := fun b xs h => s _ _ h
theorem sqT_same {H H' : Hp} {a : Addr} {xs : List V} (e : Same H H') (h : SqT K H a xs) : SqT K H' a xs := by
  rcases h with (h | ⟨o, h⟩) | h
  · exact .inl (.inl (e _ _ h))
  · exact .inl (.inr ⟨o, e _ _ h⟩)
  · exact .inr h
section
variable {α : Type} {R : Hp → V → α → Prop} {g : TG} {tt : TT} {te : TE} {vs : List Nat} {σ : L2.St} {H1 : Hp} {D : Addr} {Qd : Hp → Prop} {f : Nat → Option α}
/-- the state of a list under way -/
def Lst (R : Hp → V → α → Prop) (H1 : Hp) (D : Addr) (as : List α) (H : Hp) : Prop := Same H1 H ∧ ∃ ys, H D = some (.lst ys) ∧ Paired (R H) ys as
theorem Lst.len {as : List α} {H : Hp} : Lst R H1 D as H → ∃ ys, H D = some (.lst ys) ∧ ys.length = as.length := fun ⟨_, ys, h, p⟩ => ⟨ys, h, Paired.length p⟩
theorem Lst.add (hR : Mn R) (nD : H1 D = none) {as : List α} {a : α} {H H' : Hp} {y : V} (l : Lst R H1 D as H) (s : Same H H') (h : R H' y a) (hn : as.length < 1000) :
    ∃ acc, H' D = some (.lst acc) ∧ acc.length < sizeLine ∧ Lst R H1 D (as ++ [a]) (upd H' D (.lst (acc ++ [y]))) := by
  obtain ⟨s1, ys, hD, p⟩ := l
  have hl := Paired.length p
  refine ⟨ys, s _ _ hD, small1000 (by omega), same_put nD (s1.trans s), _, upd_same, ?_⟩
  have t : Tps H' (upd H' D (.lst (ys ++ [y]))) := tps_put (H1 := H1) (s _ _ hD)
  exact Paired.mono hR t (Paired.snoc (Paired.mono hR (same_tps s) p) h)
theorem Lst.skip (hR : Mn R) {as : List α} {H H' : Hp} (l : Lst R H1 D as H) (s : Same H H') : Lst R H1 D as H' := by
  obtain ⟨s1, ys, hD, p⟩ := l
  exact ⟨s1.trans s, ys, s _ _ hD, Paired.mono hR (same_tps s) p⟩
def upTo (f : Nat → Option α) (i : Nat) : List α := (List.range i).filterMap f
theorem upTo_some {i : Nat} {a : α} (h : f i = some a) : upTo f (i + 1) = upTo f i ++ [a] := by
  unfold upTo
  rw [List.range_succ, List.filterMap_append]
  simp [h]
theorem upTo_none {i : Nat} (h : f i = none) : upTo f (i + 1) = upTo f i := by
  unfold upTo
  rw [List.range_succ, List.filterMap_append]
  simp [h]
theorem upTo_len (f : Nat → Option α) (i : Nat) : (upTo f i).length ≤ i := by
  unfold upTo
  refine Nat.le_trans (List.length_filterMap_le _ _) ?_
  simp
/-- one turn -/
def Turn1 (R : Hp → V → α → Prop) (H1 : Hp) (f : Nat → Option α) (i : Nat) (G : Hp → VK → (Hp → Prop) → Prop) : Prop :=
  ∀ H' (Q : VK) (N : Hp → Prop), Same H1 H' → (∀ a y H4, f i = some a → Same H' H4 → R H4 y a → Q y H4) → (∀ H3, f i = none → Same H' H3 → N H3) → G H' Q N
theorem Turn1.step (hR : Mn R) (nD : H1 D = none) {i : Nat} (hi : i < 1000) {G : Hp → VK → (Hp → Prop) → Prop} (t : Turn1 R H1 f i G) {H : Hp} (l : Lst R H1 D (upTo f i) H) :
    G H (fun y H4 => ∃ acc, H4 D = some (.lst acc) ∧ acc.length < sizeLine ∧ Lst R H1 D (upTo f (i + 1)) (upd H4 D (.lst (acc ++ [y])))) (Lst R H1 D (upTo f (i + 1))) := by
  refine t H _ _ l.1 (fun a y H4 e s h => ?_) fun H3 e s => ?_
  · rw [upTo_some e]
    exact l.add hR nD s h (Nat.lt_of_le_of_lt (upTo_len f i) hi)
  · rw [upTo_none e]
    exact l.skip hR s
theorem lst_new (nD : H1 D = none) : Lst R H1 D (upTo f 0) (upd H1 D (.lst [])) := ⟨same_upd nD, [], upd_same, .nil⟩
theorem lc_rangeP (hR : Mn R) {lo : Int} {n : Nat} (nD : H1 D = none) (hn : n ≤ 1000)
    (hs : ∀ i, i < n → Turn1 R H1 f i fun H' Q N => g (.int (lo + i)) (wipe σ vs) H' fun σ2 H2 => wipe σ2 vs = wipe σ vs ∧ tt σ2 H2 fun b H3 => if b = true then te σ2 H3 Q else N H3)
    (hd : ∀ H', Lst R H1 D (upTo f n) H' → Qd H') :
    ∃ W : Nat → Nat → Hp → Prop, (∃ m, W 0 m (upd H1 D (.lst []))) ∧ ∀ i m H, W i m H →
      ((Itr lo n).stop i H ∧ Qd H) ∨ ((Itr lo n).go i H ∧ ∃ Nx : Hp → Prop, (∀ H', Nx H' → ∃ m', m' < m ∧ W (i + 1) m' H') ∧ ∀ x H', (Itr lo n).yld i H x H' → g x (wipe σ vs) H' fun σ2 H2 => wipe σ2 vs = wipe σ vs ∧ tt σ2 H2 fun b H3 =>
        if b = true then te σ2 H3 fun y H4 => ∃ acc, H4 D = some (.lst acc) ∧ acc.length < sizeLine ∧ Nx (upd H4 D (.lst (acc ++ [y]))) else Nx H3) :=
  lc_range (fun i H => Lst R H1 D (upTo f i) H) (lst_new nD) (fun i H hi l => Turn1.step (i := i) hR nD (by omega) (hs i hi) l) hd
theorem lc_tupP (hR : Mn R) {a : Addr} {xs : List V} (nD : H1 D = none) (hn : xs.length ≤ 1000) (hl : SqT K H1 a xs)
    (hs : ∀ i x, xs[i]? = some x → Turn1 R H1 f i fun H' Q N => g x (wipe σ vs) H' fun σ2 H2 => wipe σ2 vs = wipe σ vs ∧ tt σ2 H2 fun b H3 => if b = true then te σ2 H3 Q else N H3)
    (hd : ∀ H', Lst R H1 D (upTo f xs.length) H' → Qd H') :
    ∃ W : Nat → Nat → Hp → Prop, (∃ m, W 0 m (upd H1 D (.lst []))) ∧ ∀ i m H, W i m H →
      ((Itt K a).stop i H ∧ Qd H) ∨ ((Itt K a).go i H ∧ ∃ Nx : Hp → Prop, (∀ H', Nx H' → ∃ m', m' < m ∧ W (i + 1) m' H') ∧ ∀ x H', (Itt K a).yld i H x H' → g x (wipe σ vs) H' fun σ2 H2 => wipe σ2 vs = wipe σ vs ∧ tt σ2 H2 fun b H3 =>
        if b = true then te σ2 H3 fun y H4 => ∃ acc, H4 D = some (.lst acc) ∧ acc.length < sizeLine ∧ Nx (upd H4 D (.lst (acc ++ [y]))) else Nx H3) :=
  lc_tup (xs := xs) (fun i H => Lst R H1 D (upTo f i) H) (lst_new nD) (fun i H _ l => sqT_same l.1 hl) (fun i x H hx l => Turn1.step (i := i) hR nD (by
    have := (List.getElem?_eq_some_iff.mp hx).1
    omega) (hs i x hx) l) hd
theorem lc_listP (hR : Mn R) {a : Addr} {xs : List V} (nD : H1 D = none) (hn : xs.length ≤ 1000) (hl : SqL K H1 a xs)
    (hs : ∀ i x, xs[i]? = some x → Turn1 R H1 f i fun H' Q N => g x (wipe σ vs) H' fun σ2 H2 => wipe σ2 vs = wipe σ vs ∧ tt σ2 H2 fun b H3 => if b = true then te σ2 H3 Q else N H3)
    (hd : ∀ H', Lst R H1 D (upTo f xs.length) H' → Qd H') :
    ∃ W : Nat → Nat → Hp → Prop, (∃ m, W 0 m (upd H1 D (.lst []))) ∧ ∀ i m H, W i m H →
      ((Itl K a).stop i H ∧ Qd H) ∨ ((Itl K a).go i H ∧ ∃ Nx : Hp → Prop, (∀ H', Nx H' → ∃ m', m' < m ∧ W (i + 1) m' H') ∧ ∀ x H', (Itl K a).yld i H x H' → g x (wipe σ vs) H' fun σ2 H2 => wipe σ2 vs = wipe σ vs ∧ tt σ2 H2 fun b H3 =>
        if b = true then te σ2 H3 fun y H4 => ∃ acc, H4 D = some (.lst acc) ∧ acc.length < sizeLine ∧ Nx (upd H4 D (.lst (acc ++ [y]))) else Nx H3) :=
  lc_list (xs := xs) (fun i H => Lst R H1 D (upTo f i) H) (lst_new nD) (fun i H _ l => l.1.seq hl) (fun i x H hx l => Turn1.step (i := i) hR nD (by
    have := (List.getElem?_eq_some_iff.mp hx).1
    omega) (hs i x hx) l) hd
theorem lc_enumTP (hR : Mn R) {a : Addr} {xs : List V} (nD : H1 D = none) (hn : xs.length ≤ 1000) (hl : SqT K H1 a xs)
    (hs : ∀ i x, xs[i]? = some x → Turn1 R H1 f i fun H' Q N => ∀ T, H' T = none → g (.ref T) (wipe σ vs) (upd H' T (.tup [.int (i : Nat), x])) fun σ2 H2 => wipe σ2 vs = wipe σ vs ∧ tt σ2 H2 fun b H3 => if b = true then te σ2 H3 Q else N H3)
    (hd : ∀ H', Lst R H1 D (upTo f xs.length) H' → Qd H') :
    ∃ W : Nat → Nat → Hp → Prop, (∃ m, W 0 m (upd H1 D (.lst []))) ∧ ∀ i m H, W i m H →
      ((IteT K a).stop i H ∧ Qd H) ∨ ((IteT K a).go i H ∧ ∃ Nx : Hp → Prop, (∀ H', Nx H' → ∃ m', m' < m ∧ W (i + 1) m' H') ∧ ∀ x H', (IteT K a).yld i H x H' → g x (wipe σ vs) H' fun σ2 H2 => wipe σ2 vs = wipe σ vs ∧ tt σ2 H2 fun b H3 =>
        if b = true then te σ2 H3 fun y H4 => ∃ acc, H4 D = some (.lst acc) ∧ acc.length < sizeLine ∧ Nx (upd H4 D (.lst (acc ++ [y]))) else Nx H3) := by
  refine ⟨fun i m H => m = xs.length - i ∧ i ≤ xs.length ∧ Lst R H1 D (upTo f i) H, ⟨xs.length, by simp, Nat.zero_le _, lst_new nD⟩, ?_⟩
  rintro i m H ⟨rfl, hi, l⟩
  have q := sqT_same l.1 hl
  by_cases hlt : i < xs.length
  · refine .inr ⟨⟨xs, xs[i], q, by simp [hlt]⟩, Lst R H1 D (upTo f (i + 1)), fun H' p' => ⟨xs.length - (i + 1), by omega, rfl, hlt, p'⟩, fun x H' y => ?_⟩
    obtain ⟨T, x, rfl, nT, rfl, y⟩ := y
    exact Turn1.step (i := i) hR nD (by omega) (hs i x (y xs q)) l T nT
  · have e : i = xs.length := by omega
    subst e
    exact .inl ⟨⟨xs, q, rfl⟩, hd H l⟩
end
end My
namespace My
open PySem PySem.Spec PyProof.Rows L2
section
variable {X : Cx} {K : PySem.W.Frag}
theorem sl_tupK (h : X.K = K) : SlR X (rSlT K) := h ▸ sl_tup
theorem sl_listK (h : X.K = K) : SlR X (rSlL K) := h ▸ sl_list
def rIxA (K : PySem.W.Frag) : R2 := fun x y H Q => ∃ p xs i v, x = .ref p ∧ y = .int i ∧ (SqL K H p xs ∨ SqT K H p xs) ∧ atI xs i = some v ∧ Q v H
theorem ix_any : IxR X (rIxA X.K) := by
  intro value slice pins s σ H x y v u Q I rx ry h hs
  obtain ⟨p, xs, i, z, e1, e2, hq, he, q⟩ := h
  rcases hq with hq | hq
  · exact ix_list value slice pins s σ H x y v u Q I rx ry ⟨p, xs, i, z, e1, e2, hq, he, q⟩ hs
  · exact ix_tup value slice pins s σ H x y v u Q I rx ry ⟨p, xs, i, z, e1, e2, hq, he, q⟩ hs
theorem ix_anyK (h : X.K = K) : IxR X (rIxA K) := h ▸ ix_any
theorem ix_tupK (h : X.K = K) : IxR X (rIxT K) := h ▸ ix_tup
theorem ix_listK (h : X.K = K) : IxR X (rIxL K) := h ▸ ix_list
theorem op_inK (h : X.K = K) : OpR X (compareOp .In) (rIn K false) := h ▸ op_in_seq
theorem op_eqDK (h : X.K = K) (hu : X.A.units + 64 < cLine) : OpR X (compareOp .Eq) (rEqD K) := h ▸ op_eqD hu
theorem op_neDK (h : X.K = K) (hu : X.A.units + 64 < cLine) : OpR X (compareOp .NotEq) (rNeD K) := h ▸ op_neD hu
theorem call_lenNK (h : X.K = K) : CallR X (.builtin "len") (rLen K) := h ▸ call_lenN
theorem call_isiK' (h : X.K = K) : CallR X (.builtin "isinstance") (rIsi K) := h ▸ call_isi
theorem pe_fldK {e : Expr} {f : Str} {pos : Pos} {ta : TE} (h : X.K = K) (he : PE X e ta) (hb : attributeBase e f X.env (eval e X.env) = eval e X.env) : PE X (.Attribute e f pos) (tFld K ta f) := h ▸ pe_fld he hb
end
end My
namespace My
open PySem PySem.Spec PyProof.Rows L2
/-! ### several except clauses, some of them with a name -/
abbrev Suit := Addr → Value → Option Addr → TS
/-- the ends of a suite whose name goes behind it -/
abbrev offEnds (j : Nat) (D : Ends) : Ends :=
  ⟨fun τ G => D.nx (τ.set j none) G, D.rt, fun τ G => D.bk (τ.set j none) G, fun τ G => D.ct (τ.set j none) G⟩
def clsAsk (K : PySem.W.Frag) (k : Value) (yes no : WX) : WX := fun e dd τ G =>
  ∃ t, PySem.W.exmOne K e k = some t ∧ (t = true → yes e dd τ G) ∧ (t = false → no e dd τ G)
def wMix (K : PySem.W.Frag) (Wo : WX) (D : Ends) : List (Value × Option Nat × Suit) → WX
  | [] => Wo
  | (k, none, u) :: l => clsAsk K k (fun e dd τ G => ∀ x, G x = none → u x e dd D τ G) (wMix K Wo D l)
  | (k, some j, u) :: l => clsAsk K k (fun e dd τ G => ∀ x, G x = none → u x e dd (offEnds j D) (τ.set j (some (.ref x))) G) (wMix K Wo D l)
def SuitOk (X : Cx) (b : List Stmt) (u : Suit) : Prop := ∀ (x : Addr) (ob : Obj) (e : Value) (dd : Option Addr) (ps : List (Addr × Obj)),
  Zc e dd ob → (∃ fs, ob.data = .fields fs) → PSs (X.suite x ((x, ob) :: ps)) b (u x e dd)
inductive HdsX (X : Cx) : List ExceptHandler → List (Value × Option Nat × Suit) → Prop
  | nil : HdsX X [] []
  | bare {y : Str} {k : Value} {u : Suit} {s0 : Stmt} {rest : List Stmt} {q q' : Pos} {hl : List ExceptHandler} {l : List (Value × Option Nat × Suit)}
      (hk : Names X y k) (hu : SuitOk X (s0 :: rest) u) (more : HdsX X hl l) : HdsX X (.ExceptHandler (some (.Name y q)) none (s0 :: rest) q' :: hl) ((k, none, u) :: l)
  | as_ {y m : Str} {j : Nat} {k : Value} {u : Suit} {s0 : Stmt} {rest : List Stmt} {q q' : Pos} {hl : List ExceptHandler} {l : List (Value × Option Nat × Suit)}
      (hk : Names X y k) (hj : X.N[j]? = some m) (hm : X.env.kindOf m = some .local) (hu : SuitOk X (s0 :: rest) u) (more : HdsX X hl l) :
      HdsX X (.ExceptHandler (some (.Name y q)) (some m) (s0 :: rest) q' :: hl) ((k, some j, u) :: l)
section
variable {X : Cx} {bd : List Stmt} {h1 : ExceptHandler} {hl : List ExceptHandler} {l : List (Value × Option Nat × Suit)} {q : Pos} {tt : WX → TS} {Wo : WX}
/-- an exception of the body that has come to the clauses of its try -/
structure Came (X : Cx) (pins : List (Addr × Obj)) (τ : L2.St) (G : Hp) (e : Value) (dd : Option Addr) (x : Addr) (B : Heap) (s0 s : Shared) : Prop where
  inv : Inv X pins τ G s0
  nb : ∀ b o, s0.heap.get? b = some o → b ∉ frs X.stack → B.get? b = some o
  fly : PySem.HandSPX.FlyingZ B (X.env :: X.outer) x (Zc e dd) s.heap
  up : s0.heap.UpToSlots s.heap
  os : s.os = s0.os
  ag : AllBare s.gens
  na : G x = none
  fr : X.env.frame = some X.env.locals
theorem off_frames {B h : Heap} {x : Addr} {ob : Obj} {fs : Array Value} {es : List Env} (ff : h.FunFrames B es) (g : h.get? x = some ob) (g2 : ob.data = .fields fs) : x ∉ frs es := fun m => by
  obtain ⟨_, o2, r, nf⟩ := ff.mem m
  cases g.symm.trans r
  exact nf _ g2
theorem Came.look {pins : List (Addr × Obj)} {τ : L2.St} {G : Hp} {e : Value} {dd : Option Addr} {x : Addr} {B : Heap} {s0 s : Shared} (c : Came X pins τ G e dd x B s0 s) :
    ∃ ob fs, s.heap.get? x = some ob ∧ Zc e dd ob ∧ ob.data = .fields fs ∧ Inv X pins τ G s ∧ Inv (X.suite x ((x, ob) :: (X.pn ++ pins))) [] τ G s := by
  obtain ⟨ob, fs, g, z, g2⟩ := c.fly.there
  have J := c.inv.landed c.nb c.fly.1 c.up c.os c.ag
  have nf := off_frames c.fly.2.2.1 g g2
  refine ⟨ob, fs, g, z, g2, J, J.suite g g2 c.na (fun y => nf ?_) (fun m => ?_)⟩
  · exact List.mem_filterMap.mpr ⟨X.env, List.mem_cons_self, c.fr.trans (congrArg some y.symm)⟩
  · obtain ⟨w, m1, m2⟩ := List.mem_filterMap.mp m
    exact nf (List.mem_filterMap.mpr ⟨w, List.mem_cons_of_mem _ m1, m2⟩)
theorem ends_of {pins : List (Addr × Obj)} {D : Ends} {ob : Obj} {x : Addr} {f : Flow} {s : Shared} (ok : X.Ok) (h : SP (X.suite x ((x, ob) :: (X.pn ++ pins))) [] D f s) : SP X pins D f s := by
  cases f with
  | next =>
    obtain ⟨τ, G, S, r⟩ := h
    exact ⟨τ, G, S.unsuite ok, r⟩
  | brk =>
    obtain ⟨τ, G, S, r⟩ := h
    exact ⟨τ, G, S.unsuite ok, r⟩
  | cont =>
    obtain ⟨τ, G, S, r⟩ := h
    exact ⟨τ, G, S.unsuite ok, r⟩
  | ret u =>
    obtain ⟨v, τ, G, S, r⟩ := h
    exact ⟨v, τ, G, S.unsuite ok, r⟩
theorem ends_try {pins : List (Addr × Obj)} {D : Ends} {pn : List (Addr × Obj)} {xe : Value → Shared → Prop} {f : Flow} {s : Shared} (ok : X.Ok) (h : SP (X.tr (X.pn ++ pins) xe) pn D f s) : SP X pins D f s := by
  cases f with
  | next =>
    obtain ⟨τ, G, S, r⟩ := h
    exact ⟨τ, G, S.ofTry ok, r⟩
  | brk =>
    obtain ⟨τ, G, S, r⟩ := h
    exact ⟨τ, G, S.ofTry ok, r⟩
  | cont =>
    obtain ⟨τ, G, S, r⟩ := h
    exact ⟨τ, G, S.ofTry ok, r⟩
  | ret u =>
    obtain ⟨v, τ, G, S, r⟩ := h
    exact ⟨v, τ, G, S.ofTry ok, r⟩
/-- the name of a clause, looked up -/
theorem Came.name {pins : List (Addr × Obj)} {τ : L2.St} {G : Hp} {e k : Value} {dd : Option Addr} {x : Addr} {B : Heap} {s0 s : Shared} (c : Came X pins τ G e dd x B s0 s) {y : Str} {qq : Pos} (hk : Names X y k) {R E2 : Value → Shared → Prop} (h : R k s) :
    wpAny (model X.prog X.w) (X.A.mark (some (.ref x))) (eval (.Name y qq) X.env) R E2 s := by
  obtain ⟨ob, fs, _, _, _, _, S⟩ := c.look
  rcases hk with ⟨g1, g2, g3 | ⟨g3, g4, g5⟩⟩
  · exact ld_glob (X := X.suite x ((x, ob) :: (X.pn ++ pins))) S g1 g3 h g2
  · exact ld_blt (X := X.suite x ((x, ob) :: (X.pn ++ pins))) S g1 g3 g4 h g5 g2
theorem Came.clauses {pins : List (Addr × Obj)} {D : Ends} {τ : L2.St} {G : Hp} {e : Value} {dd : Option Addr} {x : Addr} {B : Heap} {s0 s : Shared} (c : Came X pins τ G e dd x B s0 s) (ok : X.Ok) (hs : X.stack = X.env :: X.outer) (hN : X.N.Nodup) (tk : Takes X Wo)
    (hh : HdsX X hl l) (wsh : wMix X.K Wo D l e dd τ G) : wpAny (model X.prog X.w) X.A (handleBy (.ref x) X.env hl) (SP X pins D) X.xe s := by
  obtain ⟨ob, fs, g, z, g2, J, S⟩ := c.look
  have LT : PySem.W.Looks (model X.prog X.w) s.heap (typeOf (.ref x)) e := fun A Q E s k q => wpAny_typeOf_ref (k _ _ g) (by rw [z.1]; exact q)
  induction hh with
  | nil =>
    refine wpAny_handleBy_nil ?_
    obtain ⟨_, _, _, ob', fs', Tb, oT, tf, e1, _, e3, e4, _⟩ := id c.fly
    unfold PySem.passOn
    refine wpAny_bind (wpAny_field e1 e3 e4 ?_)
    rw [if_neg (by simp)]
    have last : wpAny (model X.prog X.w) X.A (setFlight (.ref x) X.env.frame) (fun _ t => wpAny (model X.prog X.w) X.A (throw (.ref x) : Sem Flow) (SP X pins D) X.xe t) X.xe s := by
      rw [c.fr]
      exact HandSPX.setFlight_upZ c.fly fun h4 held up4 => wpAny_throw (tk _ _ ⟨x, B, s0, pins, τ, G, e, dd, rfl, c.inv, c.nb, c.up.trans up4, .inr (.inr (hs ▸ held)), c.na, c.os, c.ag, wsh⟩)
    first
      | exact wpAny_bind last
      | exact wpAny_bind (wpAny_pure (wpAny_bind last))
  | @bare y k u st0 rest q1 q2 hl' l' hk hu more ih =>
    obtain ⟨t, ht, yes, no⟩ := wsh
    have LM := PySem.W.exm_one (M := model X.prog X.w) J.kIn LT ht
    refine wpAny_handleBy_cons (codeAny_handlers_test (c.name hk (LM.here ?_))) (by intro r; cases r)
    cases t with
    | false => exact ih (no rfl)
    | true =>
      refine codeAny_handlers_suite ?_
      refine HandSPX.lands_againZ c.fly fun h4 fl4 up4 => ?_
      have c4 : Came X pins τ G e dd x B s0 { s with heap := h4 } := ⟨c.inv, c.nb, fl4, c.up.trans up4, c.os, c.ag, c.na, c.fr⟩
      obtain ⟨ob4, fs4, _, z4, d4, _, S4⟩ := c4.look
      exact wpAny_mono ((hu x ob4 e dd (X.pn ++ pins) z4 ⟨_, d4⟩).run [] _ _ _ _ S4 (yes rfl x c.na)) (fun f s6 hsp => ends_of ok hsp) (fun _ _ z => False.elim z)
  | @as_ y m j k u st0 rest q1 q2 hl' l' hk hj hm hu more ih =>
    obtain ⟨t, ht, yes, no⟩ := wsh
    have LM := PySem.W.exm_one (M := model X.prog X.w) J.kIn LT ht
    refine wpAny_handleBy_cons (codeAny_handlers_test (c.name hk (LM.here ?_))) (by intro r; cases r)
    cases t with
    | false => exact ih (no rfl)
    | true =>
      refine codeAny_handlers_suite_as ?_
      refine HandSPX.lands_againZ c.fly fun h4 fl4 up4 => ?_
      have c4 : Came X pins τ G e dd x B s0 { s with heap := h4 } := ⟨c.inv, c.nb, fl4, c.up.trans up4, c.os, c.ag, c.na, c.fr⟩
      obtain ⟨ob4, fs4, _, z4, d4, _, S4⟩ := c4.look
      refine store_ok (X := X.suite x ((x, ob4) :: (X.pn ++ pins))) (v := .ref x) S4 hN hj (.inl hm) rfl (fun s5 S5 => ?_) (.inr hm)
      refine wpAny_mono ((hu x ob4 e dd (X.pn ++ pins) z4 ⟨_, d4⟩).run [] s5 _ _ _ S5 (yes rfl x c.na)) (fun f s6 hsp => ?_) (fun _ _ z => False.elim z)
      cases f with
      | next =>
        obtain ⟨τ6, G6, S6, r6⟩ := hsp
        exact gone_ok (S6.unsuite ok) hN hj hm fun s7 J7 => ⟨_, _, J7, r6⟩
      | brk =>
        obtain ⟨τ6, G6, S6, r6⟩ := hsp
        exact gone_ok (S6.unsuite ok) hN hj hm fun s7 J7 => ⟨_, _, J7, r6⟩
      | cont =>
        obtain ⟨τ6, G6, S6, r6⟩ := hsp
        exact gone_ok (S6.unsuite ok) hN hj hm fun s7 J7 => ⟨_, _, J7, r6⟩
      | ret v =>
        obtain ⟨v6, τ6, G6, S6, r6, r7⟩ := hsp
        exact gone_ok (S6.unsuite ok) hN hj hm fun s7 J7 => ⟨_, _, _, J7, r6, r7⟩
theorem ps_try_mix (hs : X.stack = X.env :: X.outer) (hf : X.env.frame = some X.env.locals) (hN : X.N.Nodup) (tk : Takes X Wo)
    (hb : ∀ (W : WX) (ps : List (Addr × Obj)) (ex : Value → Shared → Prop), Takes (X.tr ps ex) W → PassesOwn (model X.prog X.w) X.A X.env ex → PSs (X.tr ps ex) bd (tt W))
    (hh : HdsX X (h1 :: hl) l) : PS X (.Try bd (h1 :: hl) [] [] q) (fun D τ G => tt (wMix X.K Wo D l) D τ G) := by
  constructor
  intro pins s τ G D I wsh
  have ok := I.ok
  refine wpAny_Try_except (wpAny_mono ((hb (wMix X.K Wo D l) (X.pn ++ pins) _ (fun u s' xx => ?_) PassesOwn.looking).run [] s τ G D (I.toTry _) wsh) (fun f s1 hsp => ?_) fun e s1 r => r)
  · obtain ⟨x, B, sI, pins', τ', G', e, dd, rfl, J', nb, up, sky, na, os, ag, ww⟩ := xx
    refine Sky.land (L := X.env.locals) Zc.steady (ok.frames.trans (congrArg some hs)) hf (hs ▸ sky) fun h3 fl3 up3 => ?_
    exact Came.clauses ⟨J'.ofTry ok, nb, fl3, up.trans up3, os, ag, na, hf⟩ ok hs hN tk hh ww
  · cases f with
    | next => exact wpAny_execs_nil (ends_try ok hsp)
    | brk => exact ends_try ok hsp
    | cont => exact ends_try ok hsp
    | ret u => exact ends_try ok hsp
end
end My
namespace My
open PySem PySem.Spec PyProof.Rows L2
/-! ### a text so often -/
def rRepS : R2 := fun x y H Q => ∃ (s : Str) (k : Int), x = .str s ∧ y = .int k ∧ s.length ≤ 1000 ∧ 0 ≤ k ∧ k ≤ 1000 ∧ ∀ s', Q (.str s') H
theorem fold_size {α : Type} (a : Array α) : ∀ (n : Nat) (b : Array α), ((List.replicate n a).foldl (· ++ ·) b).size = b.size + n * a.size
  | 0, b => by simp
  | n + 1, b => by
    rw [List.replicate_succ, List.foldl_cons, fold_size a n (b ++ a), Array.size_append, Nat.succ_mul]
    omega
theorem op_repS {X : Cx} : OpR X (binaryOp .Mult) rRepS := by
  intro pins s σ H x y v u Q I rx ry h
  obtain ⟨z, k, rfl, rfl, hz, k0, k1, q⟩ := h
  obtain ⟨t, rfl⟩ := rx
  obtain ⟨t', rfl⟩ := ry
  have hk : k.toNat ≤ 1000 := by omega
  have hm : z.length * k.toNat ≤ 1000 * 1000 := Nat.mul_le_mul hz hk
  refine P.mul_str ?_ (fun h1 _ => ?_) (fun _ _ => ?_) ?_
  · simp only [Bool.or_eq_false_iff, decide_eq_false_iff_not]
    omega
  · intro c
    have h2 : (1000 : Int) * k ≤ 2 ^ 63 - 1 := by omega
    have h3 : (1000 : Int) ≤ (2 ^ 63 - 1) / k := by
      rw [Int.le_ediv_iff_mul_le (by omega)]
      exact h2
    omega
  · show decide (z.length * k.toNat > sizeLine) = false
    rw [sizeLine_eq, decide_eq_false_iff_not]
    omega
  · by_cases c : k < 1
    · rw [if_pos c]
      refine ⟨by rw [sizeLine_eq]; decide, ⟨.str _, H, I.tok _, ⟨s.toks, rfl⟩, q _⟩⟩
    · rw [if_neg c]
      split
      · exact (show EP X pins σ Q _ _ from ⟨.str _, H, I, ⟨t, rfl⟩, q _⟩)
      · refine ⟨?_, ⟨.str _, H, I.tok _, ⟨s.toks, rfl⟩, q _⟩⟩
        show ((List.replicate k.toNat z.cps).foldl (· ++ ·) #[]).size ≤ sizeLine
        have hz2 : k.toNat * z.cps.size ≤ 1000 * 1000 := Nat.mul_le_mul hk hz
        rw [fold_size, sizeLine_eq]
        show 0 + _ ≤ _
        omega
end My
namespace My
open PySem PySem.Spec PyProof.Rows L2
/-! ### a list or a tuple walked -/
def iSeqA (K : PySem.W.Frag) (te : TE) : TI := fun σ H R => te σ H fun x H1 => ∃ a, x = .ref a ∧ (((∃ xs, SqL K H1 a xs) ∧ R (Itl K a) H1) ∨ ((∃ xs, SqT K H1 a xs) ∧ R (Itt K a) H1))
theorem pi_seqA {X : Cx} {tg l : Expr} {tl : TE} (hl : PE X l tl) : PI X tg l (iSeqA X.K tl) := by
  refine ⟨fun pins s σ H R I h => ?_⟩
  refine thn (hl.run pins s σ H _ I h) fun v s1 ⟨x, H1, I1, r1, q1⟩ => ?_
  obtain ⟨a, e, q⟩ := q1
  subst e
  cases r1
  rcases q with ⟨⟨xs, hq⟩, q⟩ | ⟨⟨xs, hq⟩, q⟩
  · obtain ⟨its, rv, p, hz⟩ := I1.list hq
    refine wpAny_pyIter_list p.isList ?_
    refine ⟨s1.heap.objs.size, [s1.heap.objs.size], _, _, H1, rfl, I1.kept (t' := s1.toks) fun b o e => Heap.get?_push_of_some _ e, turn_list a _, ⟨_, Heap.get?_push_size _ rfl, rfl, rfl⟩, fun b hb => ?_, q⟩
    have e : b = s1.heap.objs.size := by simpa using hb
    subst e
    exact I1.fpOk (Nat.le_refl _) (I1.hok.fresh (Nat.le_refl _))
  · obtain ⟨its, rv, p, hz⟩ := I1.tuple hq
    refine wpAny_pyIter_tuple (show s1.heap.IsTuple a its.toArray from p) ?_
    refine ⟨s1.heap.objs.size, [s1.heap.objs.size], _, _, H1, rfl, I1.kept (t' := s1.toks) fun b o e => Heap.get?_push_of_some _ e, turn_tuple a _, ⟨_, Heap.get?_push_size _ rfl, rfl, rfl⟩, fun b hb => ?_, q⟩
    have e : b = s1.heap.objs.size := by simpa using hb
    subst e
    exact I1.fpOk (Nat.le_refl _) (I1.hok.fresh (Nat.le_refl _))
variable {K : PySem.W.Frag}
theorem rd_seqA {te : TE} {σ : L2.St} {H : Hp} {R : It → Hp → Prop} (h : te σ H fun x H1 => ∃ a, x = .ref a ∧ (((∃ xs, SqL K H1 a xs) ∧ R (Itl K a) H1) ∨ ((∃ xs, SqT K H1 a xs) ∧ R (Itt K a) H1))) : iSeqA K te σ H R := h
/-- an address of a list or a tuple of these values -/
def Sq (K : PySem.W.Frag) (H : Hp) (a : Addr) (xs : List V) : Prop := SqL K H a xs ∨ SqT K H a xs
theorem Sq.same {H H' : Hp} {a : Addr} {xs : List V} (s : Same H H') (h : Sq K H a xs) : Sq K H' a xs := h.imp (Same.seq s) (sqT_same s)
theorem Sq.l {H : Hp} {a : Addr} {xs : List V} (h : H a = some (.lst xs)) : Sq K H a xs := .inl (.of h)
theorem Sq.t {H : Hp} {a : Addr} {xs : List V} (h : H a = some (.tup xs)) : Sq K H a xs := .inr (.of h)
section
variable {α : Type} {R : Hp → V → α → Prop} {g : TG} {tt : TT} {te : TE} {vs : List Nat} {σ : L2.St} {H1 : Hp} {Qd : Addr → Hp → Prop} {f : Nat → Option α}
theorem lc_seqA (hR : Mn R) {a : Addr} {xs : List V} (hn : xs.length ≤ 1000) (hl : Sq K H1 a xs)
    (hs : ∀ i x, xs[i]? = some x → Turn1 R H1 f i fun H' Q N => g x (wipe σ vs) H' fun σ2 H2 => wipe σ2 vs = wipe σ vs ∧ tt σ2 H2 fun b H3 => if b = true then te σ2 H3 Q else N H3)
    (hd : ∀ D H', Lst R H1 D (upTo f xs.length) H' → Qd D H') {RR : It → Hp → Prop}
    (hRR : RR = fun J H1 => ∀ D, H1 D = none → ∃ W : Nat → Nat → Hp → Prop, (∃ m, W 0 m (upd H1 D (.lst []))) ∧ ∀ i m H, W i m H →
      (J.stop i H ∧ Qd D H) ∨ (J.go i H ∧ ∃ Nx : Hp → Prop, (∀ H', Nx H' → ∃ m', m' < m ∧ W (i + 1) m' H') ∧ ∀ x H', J.yld i H x H' → g x (wipe σ vs) H' fun σ2 H2 => wipe σ2 vs = wipe σ vs ∧ tt σ2 H2 fun b H3 =>
        if b = true then te σ2 H3 fun y H4 => ∃ acc, H4 D = some (.lst acc) ∧ acc.length < sizeLine ∧ Nx (upd H4 D (.lst (acc ++ [y]))) else Nx H3)) :
    ((∃ xs, SqL K H1 a xs) ∧ RR (Itl K a) H1) ∨ ((∃ xs, SqT K H1 a xs) ∧ RR (Itt K a) H1) := by
  subst hRR
  rcases hl with hl | hl
  · exact .inl ⟨⟨_, hl⟩, fun D nD => lc_listP hR nD hn hl hs fun H' l => hd D H' l⟩
  · exact .inr ⟨⟨_, hl⟩, fun D nD => lc_tupP hR nD hn hl hs fun H' l => hd D H' l⟩
end
section
variable {g : TG} {tb : TS} {D : Ends} {σ : L2.St} {H : Hp}
theorem for_seqA {H0 : Hp} {a : Addr} {xs : List V} (Pv : Nat → L2.St → Hp → Prop) (h : Sq K H0 a xs) (h0 : Pv 0 σ H) (hl : ∀ i σ' H', Pv i σ' H' → Same H0 H')
    (hs : ∀ i x σ H, xs[i]? = some x → Pv i σ H → g x σ H fun σ2 H2 => tb { D with nx := Pv (i + 1), ct := Pv (i + 1), bk := D.nx } σ2 H2) (hd : ∀ σ H, Pv xs.length σ H → D.nx σ H) {RR : It → Hp → Prop}
    (hRR : RR = fun J H1 => ∃ W : Nat → Nat → L2.St → Hp → Prop, (∃ m, W 0 m σ H1) ∧ ∀ i m σ H, W i m σ H →
      (J.stop i H ∧ D.nx σ H) ∨ (J.go i H ∧ ∃ N : L2.St → Hp → Prop, (∀ σ' H', N σ' H' → ∃ m', m' < m ∧ W (i + 1) m' σ' H') ∧ ∀ x H', J.yld i H x H' → g x σ H' fun σ2 H2 => tb { D with nx := N, ct := N, bk := D.nx } σ2 H2)) :
    ((∃ xs, SqL K H a xs) ∧ RR (Itl K a) H) ∨ ((∃ xs, SqT K H a xs) ∧ RR (Itt K a) H) := by
  subst hRR
  rcases h with h | h
  · exact .inl ⟨⟨_, (hl 0 σ H h0).seq h⟩, for_list Pv h0 (fun i σ' H' hi p => (hl i σ' H' p).seq h) hs hd⟩
  · exact .inr ⟨⟨_, sqT_same (hl 0 σ H h0) h⟩, for_tup Pv h0 (fun i σ' H' hi p => sqT_same (hl i σ' H' p) h) hs hd⟩
end
end My
namespace My
open PySem PySem.Spec PyProof.Rows L2
/-! ### zip of a tuple and a list -/
abbrev zmH1 (h : Heap) (l1 : Addr) : Heap := h.push { cls := .type "tuple_iterator", data := .fields #[.ref l1, .int 0 0] }
abbrev zmH2 (h : Heap) (l1 l2 : Addr) : Heap := (zmH1 h l1).push { cls := .type "list_iterator", data := .fields #[.ref l2, .int 0 0] }
abbrev zmH3 (h : Heap) (l1 l2 : Addr) : Heap := (zmH2 h l1 l2).push { cls := .type "tuple", data := .seq #[.ref h.objs.size, .ref (zmH1 h l1).objs.size] }
abbrev zmH4 (h : Heap) (l1 l2 : Addr) : Heap := (zmH3 h l1 l2).push { cls := .type "tuple", data := .seq #[.none, .none] }
abbrev zmH5 (h : Heap) (l1 l2 : Addr) : Heap := (zmH4 h l1 l2).push { cls := .type "zip", data := .fields #[.none, .bool false, .bool false, .ref (zmH2 h l1 l2).objs.size, .ref (zmH3 h l1 l2).objs.size] }
theorem meets_zm_new (l1 l2 : Addr) (xs ys : Array Value) :
    Meets (Builtin.«zip.__new__» ⟨[.type "zip", .ref l1, .ref l2], []⟩) (fun _ R s => s.heap.IsTuple l1 xs ∧ s.heap.IsList l2 ys ∧
      R (.ok (.ret (.ref (zmH4 s.heap l1 l2).objs.size))) { s with heap := zmH5 s.heap l1 l2 }) :=
  .of_wp fun prog w A R s h => by
    obtain ⟨hp, g, d, tk, os⟩ := s
    obtain ⟨hl1, hl2, h⟩ := h
    have hsub := sub_zip
    have hL1 : Heap.IsTuple (Shared.heap ⟨hp, g, d, tk, os⟩) l1 xs := hl1
    have hL2 : Heap.IsList (Shared.heap ⟨hp.push { cls := .type "tuple_iterator", data := .fields #[.ref l1, .int 0 0] }, g, d, tk, os⟩) l2 ys := Heap.IsList.push hl2 _
    wp_walk using wpAny_pyIter_tuple hL1, wpAny_pyIter_list hL2
    exact ⟨_, rfl, h⟩
section
variable {prog : Program} {w : World} {A : Around} {E : Value → Shared → Prop} {s : Shared}
theorem call_zm {l1 l2 : Addr} {xs ys : Array Value} {Q : Value → Shared → Prop} (hl1 : s.heap.IsTuple l1 xs) (hl2 : s.heap.IsList l2 ys)
    (h : ∀ h', IsZip h' (s.heap.objs.size + 4) (s.heap.objs.size + 2) (s.heap.objs.size + 3) .none → IsPair h' (s.heap.objs.size + 2) (.ref s.heap.objs.size) (.ref (s.heap.objs.size + 1)) →
      IsPair h' (s.heap.objs.size + 3) .none .none → h'.IsTupleIter s.heap.objs.size l1 0 → h'.IsListIter (s.heap.objs.size + 1) l2 0 → h'.objs.size = s.heap.objs.size + 5 →
      (∀ c o, s.heap.get? c = some o → h'.get? c = some o) → Q (.ref (s.heap.objs.size + 4)) { s with heap := h' }) :
    wpAny (model prog w) A (call (.type "zip") [.ref l1, .ref l2]) Q E s := by
  refine callType_new F.called_zip (by decide) (F.typeCall_zip_2 _ _) (F.newCall_zip_2 _ _) (fun obj => F.args_object_init_3 obj _ _) F.entry_zip_new
    (meets_zm_new l1 l2 xs ys) ⟨hl1, hl2, ?_⟩
  have z1 : (zmH1 s.heap l1).objs.size = s.heap.objs.size + 1 := Heap.size_push ..
  have z2 : (zmH2 s.heap l1 l2).objs.size = s.heap.objs.size + 2 := by rw [Heap.size_push, z1]
  have z3 : (zmH3 s.heap l1 l2).objs.size = s.heap.objs.size + 3 := by rw [Heap.size_push, z2]
  have z4 : (zmH4 s.heap l1 l2).objs.size = s.heap.objs.size + 4 := by rw [Heap.size_push, z3]
  have z5 : (zmH5 s.heap l1 l2).objs.size = s.heap.objs.size + 5 := by rw [Heap.size_push, z4]
  have g5 : (zmH5 s.heap l1 l2).get? (zmH4 s.heap l1 l2).objs.size = some _ := Heap.get?_push_size _ rfl
  have g4 : (zmH5 s.heap l1 l2).get? (zmH3 s.heap l1 l2).objs.size = some _ := Heap.get?_push_of_some _ (Heap.get?_push_size _ rfl)
  have g3 : (zmH5 s.heap l1 l2).get? (zmH2 s.heap l1 l2).objs.size = some _ := Heap.get?_push_of_some _ (Heap.get?_push_of_some _ (Heap.get?_push_size _ rfl))
  have g2 : (zmH5 s.heap l1 l2).get? (zmH1 s.heap l1).objs.size = some _ := Heap.get?_push_of_some _ (Heap.get?_push_of_some _ (Heap.get?_push_of_some _ (Heap.get?_push_size _ rfl)))
  have g1 : (zmH5 s.heap l1 l2).get? s.heap.objs.size = some _ := Heap.get?_push_of_some _ (Heap.get?_push_of_some _ (Heap.get?_push_of_some _ (Heap.get?_push_of_some _ (Heap.get?_push_size _ rfl))))
  show _ ∧ _
  rw [z2, z3, z4] at g5
  rw [z1, z2] at g3
  rw [z3] at g4
  rw [z1] at g2
  rw [z4]
  exact ⟨⟨_, g5, rfl⟩, h _ g5 g3 g4 ⟨_, g1, rfl, rfl⟩ ⟨_, g2, rfl, rfl⟩ z5 fun c o x =>
    Heap.get?_push_of_some _ (Heap.get?_push_of_some _ (Heap.get?_push_of_some _ (Heap.get?_push_of_some _ (Heap.get?_push_of_some _ x))))⟩
end
def ItzM (K : PySem.W.Frag) (a b : Addr) : It :=
  ⟨fun i H => ∃ (xs ys : List V) (x y : V), SqT K H a xs ∧ SqL K H b ys ∧ xs[i]? = some x ∧ ys[i]? = some y,
    fun i H v H' => ∃ T x y, v = .ref T ∧ H T = none ∧ H' = upd H T (.tup [x, y]) ∧ (∀ xs, SqT K H a xs → xs[i]? = some x) ∧ ∀ ys, SqL K H b ys → ys[i]? = some y,
    fun i H => ∃ xs ys : List V, SqT K H a xs ∧ SqL K H b ys ∧ (xs.length = i ∧ i ≤ ys.length)⟩
theorem zip_sep {z TI TO i1 i2 a b : Addr} (D : ZipApart z TI TO i1 i2 a b) : ZipSep2 z TI TO i1 i2 [i1, a] [i2, b] where
  TIz := D.TIz
  TOz := D.TOz
  TITO := D.TITO
  TIi1 := D.TIi1
  mem1 := by simp
  zf1 := by
    simp
    exact ⟨D.i1z.symm, D.l1z.symm⟩
  Tf1 := by
    simp
    exact ⟨D.TOi1, D.l1TO.symm⟩
  TIi2 := D.TIi2
  mem2 := by simp
  zf2 := by
    simp
    exact ⟨D.i2z.symm, D.l2z.symm⟩
  Tf2 := by
    simp
    exact ⟨D.TOi2, D.l2TO.symm⟩
  sep1_2 := by
    simp
    exact ⟨D.i12, D.l2i1.symm⟩
  sep2_1 := by
    simp
    exact ⟨D.i12.symm, D.l1i2.symm⟩
theorem turn_zm {P : Program} {w : World} {K : PySem.W.Frag} {elts : List Expr} {kk : Nat} {tpos : Pos} {a b z TI TO i1 i2 : Addr} (D : ZipApart z TI TO i1 i2 a b) :
    Turn P w K (.Tuple elts kk tpos) (ItzM K a b) [z, TI, TO, i1, i2] z (fun i h => IsZip h z TI TO .none ∧ IsPair h TI (.ref i1) (.ref i2) ∧ (∃ x y, IsPair h TO x y) ∧ h.IsTupleIter i1 a i ∧ h.IsListIter i2 b i) where
  mem := by simp
  obj := fun i h st c hc => by
    obtain ⟨hz, hTI, ⟨x, y, hTO⟩, ⟨o1, e1, _, d1⟩, ⟨o2, e2, _, d2⟩⟩ := st
    have e' : c = z ∨ c = TI ∨ c = TO ∨ c = i1 ∨ c = i2 := by simpa using hc
    rcases e' with q | q | q | q | q
    · rw [q]; exact ⟨_, hz, fun v q => nomatch q⟩
    · rw [q]; exact ⟨_, hTI, fun v q => nomatch q⟩
    · rw [q]; exact ⟨_, hTO, fun v q => nomatch q⟩
    · rw [q]; exact ⟨o1, e1, fun v q => by rw [d1] at q; cases q⟩
    · rw [q]; exact ⟨o2, e2, fun v q => by rw [d2] at q; cases q⟩
  keep := fun i h h' st k => by
    obtain ⟨hz, hTI, ⟨x, y, hTO⟩, h1, h2⟩ := st
    exact ⟨k z (by simp) _ hz, k TI (by simp) _ hTI, ⟨x, y, k TO (by simp) _ hTO⟩, h1.at fun o q => k i1 (by simp) o q, h2.at fun o q => k i2 (by simp) o q⟩
  item := by
    intro X hP hw hK hc i pins s σ H E I hf st hg
    subst hP hw hK
    obtain ⟨hz, hTI, ⟨x0, y0, hTO⟩, h1, h2⟩ := st
    obtain ⟨xs, ys, x, y, hqx, hqy, hx, hy⟩ := hg
    obtain ⟨its, rv, p, _⟩ := I.tuple hqx
    obtain ⟨its2, rv2, p2, _⟩ := I.list hqy
    obtain ⟨u, hu, ru⟩ := rv.get hx
    obtain ⟨u2, hu2, ru2⟩ := rv2.get hy
    have hzl : z < s.heap.objs.size := Heap.lt_size hz
    have hh : X.A.in1.handled = none := I.ok.hd hc
    have D1 := tupDraws (prog := X.prog) (w := X.w) (A := X.A.in1) (its := its.toArray) hh D.l1i1
    have D2 := Draws.list (prog := X.prog) (w := X.w) (A := X.A.in1) hh i2 b D.l2i2 its2.toArray
    have n1 : i < its.toArray.size := by
      have := (List.getElem?_eq_some_iff.mp hu).1
      simpa using this
    have n2 : i < its2.toArray.size := by
      have := (List.getElem?_eq_some_iff.mp hu2).1
      simpa using this
    refine wpAny_pyNext_zipD2_item (zip_sep D) D1 D2 hz hTI hTO ⟨h1, p⟩ ⟨h2, p2.isList⟩ n1 n2 fun v1 v2 h' tk e1 e2 z' TO' h1' h2' hT hsz hk => ?_
    obtain rfl : u = v1 := by
      have e3 : its.toArray[i]? = some u := by simpa using hu
      exact Option.some.inj (e3.symm.trans e1)
    obtain rfl : u2 = v2 := by
      have e3 : its2.toArray[i]? = some u2 := by simpa using hu2
      exact Option.some.inj (e3.symm.trans e2)
    refine ⟨_, rfl, wpAny_letOwnedTupleGo_zip (s := { s with heap := h', toks := tk }) z' fun h'' z'' sb => ?_⟩
    have hT2 : h''.get? s.heap.objs.size = some { cls := .type "tuple", data := .seq #[u, u2] } := (sb.2 _ (Nat.ne_of_gt hzl)).trans hT
    have new : ObjOk X.prog X.w (upd H s.heap.objs.size (.tup [x, y])) h'' s.heap.objs.size (.tup [x, y]) :=
      ⟨by show 2 ≤ sizeLine; decide, [u, u2], .cons ru (.cons ru2 .nil), ⟨_, hT2, rfl, _, rfl⟩⟩
    have I1 : Inv X pins σ (upd H s.heap.objs.size (.tup [x, y])) { s with heap := h'', toks := tk } :=
      I.turnedNew (t' := tk) (ch := [z, TI, TO, i1, i2]) (fun c o hb q => (sb.2 c (fun q' => hb (by simp [q']))).trans (hk c o (fun q' => hb (by simp [q'])) (fun q' => hb (by simp [q'])) (fun q' => hb (by simp [q'])) (fun q' => hb (by simp [q'])) q)) hf (Nat.le_refl _) new
    refine ⟨.ref s.heap.objs.size, _, I1, rfl, ⟨_, x, y, rfl, I.hok.fresh (Nat.le_refl _), rfl, fun l hl => by rw [I.tuple_inj hl hqx]; exact hx, fun l hl => by rw [I.list_inj hl hqy]; exact hy⟩, ⟨z'', ?_, ⟨u, u2, ?_⟩, ?_, ?_⟩, fun c hcm => ?_⟩
    · exact (sb.2 _ D.TIz).trans (hk _ _ D.TIz D.TITO D.TIi1 D.TIi2 hTI)
    · exact (sb.2 _ D.TOz).trans TO'
    · exact Heap.IsTupleIter.at (show h'.IsTupleIter i1 a (i + 1) from h1'.1) fun o q => (sb.2 _ D.i1z).trans q
    · exact h2'.1.at fun o q => (sb.2 _ D.i2z).trans q
    · have hlt : c < s.heap.objs.size := by
        have e' : c = z ∨ c = TI ∨ c = TO ∨ c = i1 ∨ c = i2 := by simpa using hcm
        rcases e' with q | q | q | q | q
        · rw [q]; exact hzl
        · rw [q]; exact Heap.lt_size hTI
        · rw [q]; exact Heap.lt_size hTO
        · rw [q]; obtain ⟨_, e1, _⟩ := h1; exact Heap.lt_size e1
        · rw [q]; obtain ⟨_, e2, _⟩ := h2; exact Heap.lt_size e2
      rw [upd_ne (Nat.ne_of_lt hlt)]
      exact (hf c hcm).1
  done := by
    intro X hP hw hK hc i pins s σ H E I hf st hg
    subst hP hw hK
    obtain ⟨hz, hTI, ⟨x0, y0, hTO⟩, h1, h2⟩ := st
    obtain ⟨xs, ys, hqx, hqy, hend⟩ := hg
    obtain ⟨its, rv, p, _⟩ := I.tuple hqx
    obtain ⟨its2, rv2, p2, _⟩ := I.list hqy
    have l1 := rv.length
    have l2 := rv2.length
    have hh : X.A.in1.handled = none := I.ok.hd hc
    have D1 := tupDraws (prog := X.prog) (w := X.w) (A := X.A.in1) (its := its.toArray) hh D.l1i1
    have D2 := Draws.list (prog := X.prog) (w := X.w) (A := X.A.in1) hh i2 b D.l2i2 its2.toArray
    exact wpAny_pyNext_zipD2_end (zip_sep D) D1 D2 hz hTI hTO ⟨h1, p⟩ ⟨h2, p2.isList⟩ (by simp; omega) (by simp; omega) (.inl (by simp; omega)) fun h' tk hk => ⟨rfl, I.turnedL (t' := tk) (ch := [z, TI, TO, i1, i2]) (fun c o hb q =>
      hk c o (fun q' => hb (by simp [q'])) (fun q' => hb (by simp [q'])) (fun q' => hb (by simp [q'])) (fun q' => hb (by simp [q'])) q) hf⟩
  self := fun A i s Q E st h => wpAny_pyIter_zip st.1 h
def iZipM (K : PySem.W.Frag) (ta : TA) : TI := fun σ H R => ta σ H fun vs H1 => ∃ a b xs ys, vs = [.ref a, .ref b] ∧ SqT K H1 a xs ∧ ((SqL K H1 b ys ∧ R (ItzM K a b) H1) ∨ (SqT K H1 b ys ∧ R (RZ.ItzT K a b) H1))
theorem pi_zipM {X : Cx} {e e2 : Expr} {ta : TA} {p pos tpos : Pos} {elts : List Expr} {kk : Nat} (hg : Gl X "zip") (hm : X.mg "zip" = none) (ha : PA X [e, e2] ta)
    (hs : starEach [e, e2] X.env = (false, eval e X.env) :: starEach [e2] X.env := by rfl) (hpl : (backTo pos (starEach [e2] X.env)).any (·.1) = false := by rfl) :
    PI X (.Tuple elts kk tpos) (.Call (.Name "zip" p) [e, e2] [] pos) (iZipM X.K ta) := by
  refine ⟨fun pins s σ H R I h => ?_⟩
  refine Call_ (ld_blt I hg hm PyProof.Rows.boot_zip (PyProof.Rows.callWith_type1 (thn (ha.run pos pins s σ H _ I h) fun us s1 ⟨vs, H1, I1, r1, q1⟩ => ?_) hs hpl))
  obtain ⟨a, b, xs, ys, ex, hqx, q1⟩ := q1
  subst ex
  cases r1 with
  | cons r rr =>
    cases rr with
    | cons r' rr =>
      cases rr
      cases r
      cases r'
      have fresh5 : ∀ c, c ∈ [s1.heap.objs.size + 4, s1.heap.objs.size + 2, s1.heap.objs.size + 3, s1.heap.objs.size, s1.heap.objs.size + 1] → FpOk X pins H1 c := fun c hcm => by
        have e' : c = s1.heap.objs.size + 4 ∨ c = s1.heap.objs.size + 2 ∨ c = s1.heap.objs.size + 3 ∨ c = s1.heap.objs.size ∨ c = s1.heap.objs.size + 1 := by simpa using hcm
        have hle : s1.heap.objs.size ≤ c := by
          rcases e' with z | z | z | z | z
          · rw [z]; exact Nat.le_add_right _ _
          · rw [z]; exact Nat.le_add_right _ _
          · rw [z]; exact Nat.le_add_right _ _
          · rw [z]; exact Nat.le_refl _
          · rw [z]; exact Nat.le_add_right _ _
        exact I1.fpOk hle (I1.hok.fresh hle)
      obtain ⟨its, rv, p1, _⟩ := I1.tuple hqx
      obtain ⟨o1, ho1, _⟩ := id p1
      rcases q1 with ⟨hqy, q⟩ | ⟨hqy, q⟩
      · obtain ⟨its2, rv2, p2, _⟩ := I1.list hqy
        refine call_zm (show s1.heap.IsTuple a its.toArray from p1) p2.isList fun h' hz hTI hTO h1 h2 hsz hk => wpAny_pyIter_zip hz ?_
        have I2 : Inv X pins σ H1 { s1 with heap := h' } := I1.kept (t' := s1.toks) hk
        exact ⟨s1.heap.objs.size + 4, [s1.heap.objs.size + 4, s1.heap.objs.size + 2, s1.heap.objs.size + 3, s1.heap.objs.size, s1.heap.objs.size + 1], _, _, H1, rfl, I2, turn_zm (PySem.W.ktu_apart s1.heap.objs.size a b (Heap.lt_size ho1) p2.lt), ⟨hz, hTI, ⟨_, _, hTO⟩, h1, h2⟩, fresh5, q⟩
      · obtain ⟨its2, rv2, p2, _⟩ := I1.tuple hqy
        obtain ⟨o2, ho2, _⟩ := id p2
        refine RZ.call_zipT (show s1.heap.IsTuple a its.toArray from p1) (show s1.heap.IsTuple b its2.toArray from p2) fun h' hz hTI hTO h1 h2 hsz hk => wpAny_pyIter_zip hz ?_
        have I2 : Inv X pins σ H1 { s1 with heap := h' } := I1.kept (t' := s1.toks) hk
        exact ⟨s1.heap.objs.size + 4, [s1.heap.objs.size + 4, s1.heap.objs.size + 2, s1.heap.objs.size + 3, s1.heap.objs.size, s1.heap.objs.size + 1], _, _, H1, rfl, I2, RZ.turn_zipT (PySem.W.ktu_apart s1.heap.objs.size a b (Heap.lt_size ho1) (Heap.lt_size ho2)), ⟨hz, hTI, ⟨_, _, hTO⟩, h1, h2⟩, fresh5, q⟩
variable {K : PySem.W.Frag}
theorem rd_zipM {ta : TA} {σ : L2.St} {H : Hp} {R : It → Hp → Prop} (h : ta σ H fun vs H1 => ∃ a b xs ys, vs = [.ref a, .ref b] ∧ SqT K H1 a xs ∧ ((SqL K H1 b ys ∧ R (ItzM K a b) H1) ∨ (SqT K H1 b ys ∧ R (RZ.ItzT K a b) H1))) : iZipM K ta σ H R := h
section
variable {α : Type} {R : Hp → V → α → Prop} {g : TG} {tt : TT} {te : TE} {vs : List Nat} {σ : L2.St} {H1 : Hp} {Qd : Addr → Hp → Prop} {f : Nat → Option α}
/-- a comprehension over zip of a tuple and a list or a tuple of the same length -/
theorem lc_zipM (hR : Mn R) {a b : Addr} {xs ys : List V} (hn : xs.length ≤ 1000) (hlen : xs.length = ys.length) (ha : SqT K H1 a xs) (hb : Sq K H1 b ys)
    (hs : ∀ i x y, xs[i]? = some x → ys[i]? = some y → Turn1 R H1 f i fun H' Q N => ∀ T, H' T = none → g (.ref T) (wipe σ vs) (upd H' T (.tup [x, y])) fun σ2 H2 => wipe σ2 vs = wipe σ vs ∧ tt σ2 H2 fun b H3 => if b = true then te σ2 H3 Q else N H3)
    (hd : ∀ D H', Lst R H1 D (upTo f xs.length) H' → Qd D H') {RR : It → Hp → Prop}
    (hRR : RR = fun J H1 => ∀ D, H1 D = none → ∃ W : Nat → Nat → Hp → Prop, (∃ m, W 0 m (upd H1 D (.lst []))) ∧ ∀ i m H, W i m H →
      (J.stop i H ∧ Qd D H) ∨ (J.go i H ∧ ∃ Nx : Hp → Prop, (∀ H', Nx H' → ∃ m', m' < m ∧ W (i + 1) m' H') ∧ ∀ x H', J.yld i H x H' → g x (wipe σ vs) H' fun σ2 H2 => wipe σ2 vs = wipe σ vs ∧ tt σ2 H2 fun b H3 =>
        if b = true then te σ2 H3 fun y H4 => ∃ acc, H4 D = some (.lst acc) ∧ acc.length < sizeLine ∧ Nx (upd H4 D (.lst (acc ++ [y]))) else Nx H3)) :
    (SqL K H1 b ys ∧ RR (ItzM K a b) H1) ∨ (SqT K H1 b ys ∧ RR (RZ.ItzT K a b) H1) := by
  subst hRR
  rcases hb with hb | hb
  · refine .inl ⟨hb, fun D nD => ?_⟩
    refine ⟨fun i m H => m = xs.length - i ∧ i ≤ xs.length ∧ Lst R H1 D (upTo f i) H, ⟨xs.length, by simp, Nat.zero_le _, lst_new nD⟩, ?_⟩
    rintro i m H ⟨rfl, hi, l⟩
    have qa := sqT_same l.1 ha
    have qb := l.1.seq hb
    by_cases hlt : i < xs.length
    · refine .inr ⟨⟨xs, ys, xs[i], ys[i], qa, qb, by simp [hlt], by simp⟩, Lst R H1 D (upTo f (i + 1)), fun H' p' => ⟨xs.length - (i + 1), by omega, rfl, hlt, p'⟩, fun x H' y => ?_⟩
      obtain ⟨T, x, y, rfl, nT, rfl, hx, hy⟩ := y
      exact Turn1.step (i := i) hR nD (by omega) (hs i x y (hx xs qa) (hy ys qb)) l T nT
    · have e : i = xs.length := by omega
      subst e
      exact .inl ⟨⟨xs, ys, qa, qb, rfl, by omega⟩, hd D H l⟩
  · refine .inr ⟨hb, fun D nD => ?_⟩
    refine ⟨fun i m H => m = xs.length - i ∧ i ≤ xs.length ∧ Lst R H1 D (upTo f i) H, ⟨xs.length, by simp, Nat.zero_le _, lst_new nD⟩, ?_⟩
    rintro i m H ⟨rfl, hi, l⟩
    have qa := sqT_same l.1 ha
    have qb := sqT_same l.1 hb
    by_cases hlt : i < xs.length
    · refine .inr ⟨⟨xs, ys, xs[i], ys[i], qa, qb, by simp [hlt], by simp⟩, Lst R H1 D (upTo f (i + 1)), fun H' p' => ⟨xs.length - (i + 1), by omega, rfl, hlt, p'⟩, fun x H' y => ?_⟩
      obtain ⟨T, x, y, rfl, nT, rfl, hx, hy⟩ := y
      exact Turn1.step (i := i) hR nD (by omega) (hs i x y (hx xs qa) (hy ys qb)) l T nT
    · have e : i = xs.length := by omega
      subst e
      exact .inl ⟨⟨xs, ys, qa, qb, .inl (Nat.le_refl _)⟩, hd D H l⟩
end
end My
namespace My
open PySem PySem.Spec PyProof.Rows L2
/-! ### zip of a list and a tuple -/
abbrev znH1 (h : Heap) (l1 : Addr) : Heap := h.push { cls := .type "list_iterator", data := .fields #[.ref l1, .int 0 0] }
abbrev znH2 (h : Heap) (l1 l2 : Addr) : Heap := (znH1 h l1).push { cls := .type "tuple_iterator", data := .fields #[.ref l2, .int 0 0] }
abbrev znH3 (h : Heap) (l1 l2 : Addr) : Heap := (znH2 h l1 l2).push { cls := .type "tuple", data := .seq #[.ref h.objs.size, .ref (znH1 h l1).objs.size] }
abbrev znH4 (h : Heap) (l1 l2 : Addr) : Heap := (znH3 h l1 l2).push { cls := .type "tuple", data := .seq #[.none, .none] }
abbrev znH5 (h : Heap) (l1 l2 : Addr) : Heap := (znH4 h l1 l2).push { cls := .type "zip", data := .fields #[.none, .bool false, .bool false, .ref (znH2 h l1 l2).objs.size, .ref (znH3 h l1 l2).objs.size] }
theorem meets_zn_new (l1 l2 : Addr) (xs ys : Array Value) :
    Meets (Builtin.«zip.__new__» ⟨[.type "zip", .ref l1, .ref l2], []⟩) (fun _ R s => s.heap.IsList l1 xs ∧ s.heap.IsTuple l2 ys ∧
      R (.ok (.ret (.ref (znH4 s.heap l1 l2).objs.size))) { s with heap := znH5 s.heap l1 l2 }) :=
  .of_wp fun prog w A R s h => by
    obtain ⟨hp, g, d, tk, os⟩ := s
    obtain ⟨hl1, hl2, h⟩ := h
    have hsub := sub_zip
    have hL1 : Heap.IsList (Shared.heap ⟨hp, g, d, tk, os⟩) l1 xs := hl1
    have hL2 : Heap.IsTuple (Shared.heap ⟨hp.push { cls := .type "list_iterator", data := .fields #[.ref l1, .int 0 0] }, g, d, tk, os⟩) l2 ys := Heap.IsTuple.push hl2 _
    wp_walk using wpAny_pyIter_list hL1, wpAny_pyIter_tuple hL2
    exact ⟨_, rfl, h⟩
section
variable {prog : Program} {w : World} {A : Around} {E : Value → Shared → Prop} {s : Shared}
theorem call_zn {l1 l2 : Addr} {xs ys : Array Value} {Q : Value → Shared → Prop} (hl1 : s.heap.IsList l1 xs) (hl2 : s.heap.IsTuple l2 ys)
    (h : ∀ h', IsZip h' (s.heap.objs.size + 4) (s.heap.objs.size + 2) (s.heap.objs.size + 3) .none → IsPair h' (s.heap.objs.size + 2) (.ref s.heap.objs.size) (.ref (s.heap.objs.size + 1)) →
      IsPair h' (s.heap.objs.size + 3) .none .none → h'.IsListIter s.heap.objs.size l1 0 → h'.IsTupleIter (s.heap.objs.size + 1) l2 0 → h'.objs.size = s.heap.objs.size + 5 →
      (∀ c o, s.heap.get? c = some o → h'.get? c = some o) → Q (.ref (s.heap.objs.size + 4)) { s with heap := h' }) :
    wpAny (model prog w) A (call (.type "zip") [.ref l1, .ref l2]) Q E s := by
  refine callType_new F.called_zip (by decide) (F.typeCall_zip_2 _ _) (F.newCall_zip_2 _ _) (fun obj => F.args_object_init_3 obj _ _) F.entry_zip_new
    (meets_zn_new l1 l2 xs ys) ⟨hl1, hl2, ?_⟩
  have z1 : (znH1 s.heap l1).objs.size = s.heap.objs.size + 1 := Heap.size_push ..
  have z2 : (znH2 s.heap l1 l2).objs.size = s.heap.objs.size + 2 := by rw [Heap.size_push, z1]
  have z3 : (znH3 s.heap l1 l2).objs.size = s.heap.objs.size + 3 := by rw [Heap.size_push, z2]
  have z4 : (znH4 s.heap l1 l2).objs.size = s.heap.objs.size + 4 := by rw [Heap.size_push, z3]
  have z5 : (znH5 s.heap l1 l2).objs.size = s.heap.objs.size + 5 := by rw [Heap.size_push, z4]
  have g5 : (znH5 s.heap l1 l2).get? (znH4 s.heap l1 l2).objs.size = some _ := Heap.get?_push_size _ rfl
  have g4 : (znH5 s.heap l1 l2).get? (znH3 s.heap l1 l2).objs.size = some _ := Heap.get?_push_of_some _ (Heap.get?_push_size _ rfl)
  have g3 : (znH5 s.heap l1 l2).get? (znH2 s.heap l1 l2).objs.size = some _ := Heap.get?_push_of_some _ (Heap.get?_push_of_some _ (Heap.get?_push_size _ rfl))
  have g2 : (znH5 s.heap l1 l2).get? (znH1 s.heap l1).objs.size = some _ := Heap.get?_push_of_some _ (Heap.get?_push_of_some _ (Heap.get?_push_of_some _ (Heap.get?_push_size _ rfl)))
  have g1 : (znH5 s.heap l1 l2).get? s.heap.objs.size = some _ := Heap.get?_push_of_some _ (Heap.get?_push_of_some _ (Heap.get?_push_of_some _ (Heap.get?_push_of_some _ (Heap.get?_push_size _ rfl))))
  show _ ∧ _
  rw [z2, z3, z4] at g5
  rw [z1, z2] at g3
  rw [z3] at g4
  rw [z1] at g2
  rw [z4]
  exact ⟨⟨_, g5, rfl⟩, h _ g5 g3 g4 ⟨_, g1, rfl, rfl⟩ ⟨_, g2, rfl, rfl⟩ z5 fun c o x =>
    Heap.get?_push_of_some _ (Heap.get?_push_of_some _ (Heap.get?_push_of_some _ (Heap.get?_push_of_some _ (Heap.get?_push_of_some _ x))))⟩
end
def ItzN (K : PySem.W.Frag) (a b : Addr) : It :=
  ⟨fun i H => ∃ (xs ys : List V) (x y : V), SqL K H a xs ∧ SqT K H b ys ∧ xs[i]? = some x ∧ ys[i]? = some y,
    fun i H v H' => ∃ T x y, v = .ref T ∧ H T = none ∧ H' = upd H T (.tup [x, y]) ∧ (∀ xs, SqL K H a xs → xs[i]? = some x) ∧ ∀ ys, SqT K H b ys → ys[i]? = some y,
    fun i H => ∃ xs ys : List V, SqL K H a xs ∧ SqT K H b ys ∧ (xs.length = i ∧ i ≤ ys.length)⟩
theorem turn_zn {P : Program} {w : World} {K : PySem.W.Frag} {elts : List Expr} {kk : Nat} {tpos : Pos} {a b z TI TO i1 i2 : Addr} (D : ZipApart z TI TO i1 i2 a b) :
    Turn P w K (.Tuple elts kk tpos) (ItzN K a b) [z, TI, TO, i1, i2] z (fun i h => IsZip h z TI TO .none ∧ IsPair h TI (.ref i1) (.ref i2) ∧ (∃ x y, IsPair h TO x y) ∧ h.IsListIter i1 a i ∧ h.IsTupleIter i2 b i) where
  mem := by simp
  obj := fun i h st c hc => by
    obtain ⟨hz, hTI, ⟨x, y, hTO⟩, ⟨o1, e1, _, d1⟩, ⟨o2, e2, _, d2⟩⟩ := st
    have e' : c = z ∨ c = TI ∨ c = TO ∨ c = i1 ∨ c = i2 := by simpa using hc
    rcases e' with q | q | q | q | q
    · rw [q]; exact ⟨_, hz, fun v q => nomatch q⟩
    · rw [q]; exact ⟨_, hTI, fun v q => nomatch q⟩
    · rw [q]; exact ⟨_, hTO, fun v q => nomatch q⟩
    · rw [q]; exact ⟨o1, e1, fun v q => by rw [d1] at q; cases q⟩
    · rw [q]; exact ⟨o2, e2, fun v q => by rw [d2] at q; cases q⟩
  keep := fun i h h' st k => by
    obtain ⟨hz, hTI, ⟨x, y, hTO⟩, h1, h2⟩ := st
    exact ⟨k z (by simp) _ hz, k TI (by simp) _ hTI, ⟨x, y, k TO (by simp) _ hTO⟩, h1.at fun o q => k i1 (by simp) o q, h2.at fun o q => k i2 (by simp) o q⟩
  item := by
    intro X hP hw hK hc i pins s σ H E I hf st hg
    subst hP hw hK
    obtain ⟨hz, hTI, ⟨x0, y0, hTO⟩, h1, h2⟩ := st
    obtain ⟨xs, ys, x, y, hqx, hqy, hx, hy⟩ := hg
    obtain ⟨its, rv, p, _⟩ := I.list hqx
    obtain ⟨its2, rv2, p2, _⟩ := I.tuple hqy
    obtain ⟨u, hu, ru⟩ := rv.get hx
    obtain ⟨u2, hu2, ru2⟩ := rv2.get hy
    have hzl : z < s.heap.objs.size := Heap.lt_size hz
    have hh : X.A.in1.handled = none := I.ok.hd hc
    have D1 := Draws.list (prog := X.prog) (w := X.w) (A := X.A.in1) hh i1 a D.l1i1 its.toArray
    have D2 := tupDraws (prog := X.prog) (w := X.w) (A := X.A.in1) (its := its2.toArray) hh D.l2i2
    have n1 : i < its.toArray.size := by
      have := (List.getElem?_eq_some_iff.mp hu).1
      simpa using this
    have n2 : i < its2.toArray.size := by
      have := (List.getElem?_eq_some_iff.mp hu2).1
      simpa using this
    refine wpAny_pyNext_zipD2_item (zip_sep D) D1 D2 hz hTI hTO ⟨h1, p.isList⟩ ⟨h2, p2⟩ n1 n2 fun v1 v2 h' tk e1 e2 z' TO' h1' h2' hT hsz hk => ?_
    obtain rfl : u = v1 := by
      have e3 : its.toArray[i]? = some u := by simpa using hu
      exact Option.some.inj (e3.symm.trans e1)
    obtain rfl : u2 = v2 := by
      have e3 : its2.toArray[i]? = some u2 := by simpa using hu2
      exact Option.some.inj (e3.symm.trans e2)
    refine ⟨_, rfl, wpAny_letOwnedTupleGo_zip (s := { s with heap := h', toks := tk }) z' fun h'' z'' sb => ?_⟩
    have hT2 : h''.get? s.heap.objs.size = some { cls := .type "tuple", data := .seq #[u, u2] } := (sb.2 _ (Nat.ne_of_gt hzl)).trans hT
    have new : ObjOk X.prog X.w (upd H s.heap.objs.size (.tup [x, y])) h'' s.heap.objs.size (.tup [x, y]) :=
      ⟨by show 2 ≤ sizeLine; decide, [u, u2], .cons ru (.cons ru2 .nil), ⟨_, hT2, rfl, _, rfl⟩⟩
    have I1 : Inv X pins σ (upd H s.heap.objs.size (.tup [x, y])) { s with heap := h'', toks := tk } :=
      I.turnedNew (t' := tk) (ch := [z, TI, TO, i1, i2]) (fun c o hb q => (sb.2 c (fun q' => hb (by simp [q']))).trans (hk c o (fun q' => hb (by simp [q'])) (fun q' => hb (by simp [q'])) (fun q' => hb (by simp [q'])) (fun q' => hb (by simp [q'])) q)) hf (Nat.le_refl _) new
    refine ⟨.ref s.heap.objs.size, _, I1, rfl, ⟨_, x, y, rfl, I.hok.fresh (Nat.le_refl _), rfl, fun l hl => by rw [I.list_inj hl hqx]; exact hx, fun l hl => by rw [I.tuple_inj hl hqy]; exact hy⟩, ⟨z'', ?_, ⟨u, u2, ?_⟩, ?_, ?_⟩, fun c hcm => ?_⟩
    · exact (sb.2 _ D.TIz).trans (hk _ _ D.TIz D.TITO D.TIi1 D.TIi2 hTI)
    · exact (sb.2 _ D.TOz).trans TO'
    · exact h1'.1.at fun o q => (sb.2 _ D.i1z).trans q
    · exact Heap.IsTupleIter.at (show h'.IsTupleIter i2 b (i + 1) from h2'.1) fun o q => (sb.2 _ D.i2z).trans q
    · have hlt : c < s.heap.objs.size := by
        have e' : c = z ∨ c = TI ∨ c = TO ∨ c = i1 ∨ c = i2 := by simpa using hcm
        rcases e' with q | q | q | q | q
        · rw [q]; exact hzl
        · rw [q]; exact Heap.lt_size hTI
        · rw [q]; exact Heap.lt_size hTO
        · rw [q]; obtain ⟨_, e1, _⟩ := h1; exact Heap.lt_size e1
        · rw [q]; obtain ⟨_, e2, _⟩ := h2; exact Heap.lt_size e2
      rw [upd_ne (Nat.ne_of_lt hlt)]
      exact (hf c hcm).1
  done := by
    intro X hP hw hK hc i pins s σ H E I hf st hg
    subst hP hw hK
    obtain ⟨hz, hTI, ⟨x0, y0, hTO⟩, h1, h2⟩ := st
    obtain ⟨xs, ys, hqx, hqy, hend⟩ := hg
    obtain ⟨its, rv, p, _⟩ := I.list hqx
    obtain ⟨its2, rv2, p2, _⟩ := I.tuple hqy
    have l1 := rv.length
    have l2 := rv2.length
    have hh : X.A.in1.handled = none := I.ok.hd hc
    have D1 := Draws.list (prog := X.prog) (w := X.w) (A := X.A.in1) hh i1 a D.l1i1 its.toArray
    have D2 := tupDraws (prog := X.prog) (w := X.w) (A := X.A.in1) (its := its2.toArray) hh D.l2i2
    exact wpAny_pyNext_zipD2_end (zip_sep D) D1 D2 hz hTI hTO ⟨h1, p.isList⟩ ⟨h2, p2⟩ (by simp; omega) (by simp; omega) (.inl (by simp; omega)) fun h' tk hk => ⟨rfl, I.turnedL (t' := tk) (ch := [z, TI, TO, i1, i2]) (fun c o hb q =>
      hk c o (fun q' => hb (by simp [q'])) (fun q' => hb (by simp [q'])) (fun q' => hb (by simp [q'])) (fun q' => hb (by simp [q'])) q) hf⟩
  self := fun A i s Q E st h => wpAny_pyIter_zip st.1 h
def iZipN (K : PySem.W.Frag) (ta : TA) : TI := fun σ H R => ta σ H fun vs H1 => ∃ a b xs ys, vs = [.ref a, .ref b] ∧ SqT K H1 b ys ∧ ((SqL K H1 a xs ∧ R (ItzN K a b) H1) ∨ (SqT K H1 a xs ∧ R (RZ.ItzT K a b) H1))
theorem pi_zipN {X : Cx} {e e2 : Expr} {ta : TA} {p pos tpos : Pos} {elts : List Expr} {kk : Nat} (hg : Gl X "zip") (hm : X.mg "zip" = none) (ha : PA X [e, e2] ta)
    (hs : starEach [e, e2] X.env = (false, eval e X.env) :: starEach [e2] X.env := by rfl) (hpl : (backTo pos (starEach [e2] X.env)).any (·.1) = false := by rfl) :
    PI X (.Tuple elts kk tpos) (.Call (.Name "zip" p) [e, e2] [] pos) (iZipN X.K ta) := by
  refine ⟨fun pins s σ H R I h => ?_⟩
  refine Call_ (ld_blt I hg hm PyProof.Rows.boot_zip (PyProof.Rows.callWith_type1 (thn (ha.run pos pins s σ H _ I h) fun us s1 ⟨vs, H1, I1, r1, q1⟩ => ?_) hs hpl))
  obtain ⟨a, b, xs, ys, ex, hqy, q1⟩ := q1
  subst ex
  cases r1 with
  | cons r rr =>
    cases rr with
    | cons r' rr =>
      cases rr
      cases r
      cases r'
      have fresh5 : ∀ c, c ∈ [s1.heap.objs.size + 4, s1.heap.objs.size + 2, s1.heap.objs.size + 3, s1.heap.objs.size, s1.heap.objs.size + 1] → FpOk X pins H1 c := fun c hcm => by
        have e' : c = s1.heap.objs.size + 4 ∨ c = s1.heap.objs.size + 2 ∨ c = s1.heap.objs.size + 3 ∨ c = s1.heap.objs.size ∨ c = s1.heap.objs.size + 1 := by simpa using hcm
        have hle : s1.heap.objs.size ≤ c := by
          rcases e' with z | z | z | z | z
          · rw [z]; exact Nat.le_add_right _ _
          · rw [z]; exact Nat.le_add_right _ _
          · rw [z]; exact Nat.le_add_right _ _
          · rw [z]; exact Nat.le_refl _
          · rw [z]; exact Nat.le_add_right _ _
        exact I1.fpOk hle (I1.hok.fresh hle)
      obtain ⟨its2, rv2, p2, _⟩ := I1.tuple hqy
      obtain ⟨o2, ho2, _⟩ := id p2
      rcases q1 with ⟨hqx, q⟩ | ⟨hqx, q⟩
      · obtain ⟨its, rv, p1, _⟩ := I1.list hqx
        refine call_zn p1.isList (show s1.heap.IsTuple b its2.toArray from p2) fun h' hz hTI hTO h1 h2 hsz hk => wpAny_pyIter_zip hz ?_
        have I2 : Inv X pins σ H1 { s1 with heap := h' } := I1.kept (t' := s1.toks) hk
        exact ⟨s1.heap.objs.size + 4, [s1.heap.objs.size + 4, s1.heap.objs.size + 2, s1.heap.objs.size + 3, s1.heap.objs.size, s1.heap.objs.size + 1], _, _, H1, rfl, I2, turn_zn (PySem.W.ktu_apart s1.heap.objs.size a b p1.lt (Heap.lt_size ho2)), ⟨hz, hTI, ⟨_, _, hTO⟩, h1, h2⟩, fresh5, q⟩
      · obtain ⟨its, rv, p1, _⟩ := I1.tuple hqx
        obtain ⟨o1, ho1, _⟩ := id p1
        refine RZ.call_zipT (show s1.heap.IsTuple a its.toArray from p1) (show s1.heap.IsTuple b its2.toArray from p2) fun h' hz hTI hTO h1 h2 hsz hk => wpAny_pyIter_zip hz ?_
        have I2 : Inv X pins σ H1 { s1 with heap := h' } := I1.kept (t' := s1.toks) hk
        exact ⟨s1.heap.objs.size + 4, [s1.heap.objs.size + 4, s1.heap.objs.size + 2, s1.heap.objs.size + 3, s1.heap.objs.size, s1.heap.objs.size + 1], _, _, H1, rfl, I2, RZ.turn_zipT (PySem.W.ktu_apart s1.heap.objs.size a b (Heap.lt_size ho1) (Heap.lt_size ho2)), ⟨hz, hTI, ⟨_, _, hTO⟩, h1, h2⟩, fresh5, q⟩
variable {K : PySem.W.Frag}
theorem rd_zipN {ta : TA} {σ : L2.St} {H : Hp} {R : It → Hp → Prop} (h : ta σ H fun vs H1 => ∃ a b xs ys, vs = [.ref a, .ref b] ∧ SqT K H1 b ys ∧ ((SqL K H1 a xs ∧ R (ItzN K a b) H1) ∨ (SqT K H1 a xs ∧ R (RZ.ItzT K a b) H1))) : iZipN K ta σ H R := h
section
variable {α : Type} {R : Hp → V → α → Prop} {g : TG} {tt : TT} {te : TE} {vs : List Nat} {σ : L2.St} {H1 : Hp} {Qd : Addr → Hp → Prop} {f : Nat → Option α}
/-- a comprehension over zip of a list and a tuple or a tuple of the same length -/
theorem lc_zipN (hR : Mn R) {a b : Addr} {xs ys : List V} (hn : xs.length ≤ 1000) (hlen : xs.length = ys.length) (ha : Sq K H1 a xs) (hb : SqT K H1 b ys)
    (hs : ∀ i x y, xs[i]? = some x → ys[i]? = some y → Turn1 R H1 f i fun H' Q N => ∀ T, H' T = none → g (.ref T) (wipe σ vs) (upd H' T (.tup [x, y])) fun σ2 H2 => wipe σ2 vs = wipe σ vs ∧ tt σ2 H2 fun b H3 => if b = true then te σ2 H3 Q else N H3)
    (hd : ∀ D H', Lst R H1 D (upTo f xs.length) H' → Qd D H') {RR : It → Hp → Prop}
    (hRR : RR = fun J H1 => ∀ D, H1 D = none → ∃ W : Nat → Nat → Hp → Prop, (∃ m, W 0 m (upd H1 D (.lst []))) ∧ ∀ i m H, W i m H →
      (J.stop i H ∧ Qd D H) ∨ (J.go i H ∧ ∃ Nx : Hp → Prop, (∀ H', Nx H' → ∃ m', m' < m ∧ W (i + 1) m' H') ∧ ∀ x H', J.yld i H x H' → g x (wipe σ vs) H' fun σ2 H2 => wipe σ2 vs = wipe σ vs ∧ tt σ2 H2 fun b H3 =>
        if b = true then te σ2 H3 fun y H4 => ∃ acc, H4 D = some (.lst acc) ∧ acc.length < sizeLine ∧ Nx (upd H4 D (.lst (acc ++ [y]))) else Nx H3)) :
    (SqL K H1 a xs ∧ RR (ItzN K a b) H1) ∨ (SqT K H1 a xs ∧ RR (RZ.ItzT K a b) H1) := by
  subst hRR
  rcases ha with ha | ha
  · refine .inl ⟨ha, fun D nD => ?_⟩
    refine ⟨fun i m H => m = xs.length - i ∧ i ≤ xs.length ∧ Lst R H1 D (upTo f i) H, ⟨xs.length, by simp, Nat.zero_le _, lst_new nD⟩, ?_⟩
    rintro i m H ⟨rfl, hi, l⟩
    have qa := l.1.seq ha
    have qb := sqT_same l.1 hb
    by_cases hlt : i < xs.length
    · refine .inr ⟨⟨xs, ys, xs[i], ys[i], qa, qb, by simp [hlt], by simp⟩, Lst R H1 D (upTo f (i + 1)), fun H' p' => ⟨xs.length - (i + 1), by omega, rfl, hlt, p'⟩, fun x H' y => ?_⟩
      obtain ⟨T, x, y, rfl, nT, rfl, hx, hy⟩ := y
      exact Turn1.step (i := i) hR nD (by omega) (hs i x y (hx xs qa) (hy ys qb)) l T nT
    · have e : i = xs.length := by omega
      subst e
      exact .inl ⟨⟨xs, ys, qa, qb, rfl, by omega⟩, hd D H l⟩
  · refine .inr ⟨ha, fun D nD => ?_⟩
    refine ⟨fun i m H => m = xs.length - i ∧ i ≤ xs.length ∧ Lst R H1 D (upTo f i) H, ⟨xs.length, by simp, Nat.zero_le _, lst_new nD⟩, ?_⟩
    rintro i m H ⟨rfl, hi, l⟩
    have qa := sqT_same l.1 ha
    have qb := sqT_same l.1 hb
    by_cases hlt : i < xs.length
    · refine .inr ⟨⟨xs, ys, xs[i], ys[i], qa, qb, by simp [hlt], by simp⟩, Lst R H1 D (upTo f (i + 1)), fun H' p' => ⟨xs.length - (i + 1), by omega, rfl, hlt, p'⟩, fun x H' y => ?_⟩
      obtain ⟨T, x, y, rfl, nT, rfl, hx, hy⟩ := y
      exact Turn1.step (i := i) hR nD (by omega) (hs i x y (hx xs qa) (hy ys qb)) l T nT
    · have e : i = xs.length := by omega
      subst e
      exact .inl ⟨⟨xs, ys, qa, qb, .inl (Nat.le_refl _)⟩, hd D H l⟩
end
end My

namespace My
open PySem PySem.Spec PyProof.Rows L2
def topS (i : Nat) : Stmt := PySem.Challenge.pw_rootstalls_k14_deals_refused.main.body.getD i (.Pass ⟨0, 0, 0, 0⟩)
abbrev s_is_integer : Stmt := topS 11
abbrev N_is_integer : List Str := ["thing"]
theorem sc_is_integer : FnScope N_is_integer ["thing"] (defScope s_is_integer) := ⟨rfl, rfl, rfl, by decide +kernel, rfl, by decide +kernel, by decide +kernel⟩
abbrev s_is_row : Stmt := topS 12
abbrev N_is_row : List Str := ["thing"]
theorem sc_is_row : FnScope N_is_row ["thing"] (defScope s_is_row) := ⟨rfl, rfl, rfl, by decide +kernel, rfl, by decide +kernel, by decide +kernel⟩
abbrev s_is_fraction : Stmt := topS 13
abbrev N_is_fraction : List Str := ["thing", "top", "bottom"]
theorem sc_is_fraction : FnScope N_is_fraction ["thing"] (defScope s_is_fraction) := ⟨rfl, rfl, rfl, by decide +kernel, rfl, by decide +kernel, by decide +kernel⟩
abbrev s_is_amount : Stmt := topS 14
abbrev N_is_amount : List Str := ["thing"]
theorem sc_is_amount : FnScope N_is_amount ["thing"] (defScope s_is_amount) := ⟨rfl, rfl, rfl, by decide +kernel, rfl, by decide +kernel, by decide +kernel⟩
abbrev s_is_some : Stmt := topS 15
abbrev N_is_some : List Str := ["thing"]
theorem sc_is_some : FnScope N_is_some ["thing"] (defScope s_is_some) := ⟨rfl, rfl, rfl, by decide +kernel, rfl, by decide +kernel, by decide +kernel⟩
abbrev s_are_amounts : Stmt := topS 16
abbrev N_are_amounts : List Str := ["things", "number", "thing"]
theorem sc_are_amounts : FnScope N_are_amounts ["things", "number"] (defScope s_are_amounts) := ⟨rfl, rfl, rfl, by decide +kernel, rfl, by decide +kernel, by decide +kernel⟩
abbrev s_added : Stmt := topS 17
abbrev N_added : List Str := ["one", "other", "common", "part", "top", "shared"]
theorem sc_added : FnScope N_added ["one", "other"] (defScope s_added) := ⟨rfl, rfl, rfl, by decide +kernel, rfl, by decide +kernel, by decide +kernel⟩
abbrev s_negated : Stmt := topS 18
abbrev N_negated : List Str := ["one"]
theorem sc_negated : FnScope N_negated ["one"] (defScope s_negated) := ⟨rfl, rfl, rfl, by decide +kernel, rfl, by decide +kernel, by decide +kernel⟩
abbrev s_lessened : Stmt := topS 19
abbrev N_lessened : List Str := ["one", "other"]
theorem sc_lessened : FnScope N_lessened ["one", "other"] (defScope s_lessened) := ⟨rfl, rfl, rfl, by decide +kernel, rfl, by decide +kernel, by decide +kernel⟩
abbrev s_multiplied : Stmt := topS 20
abbrev N_multiplied : List Str := ["one", "other", "left", "right"]
theorem sc_multiplied : FnScope N_multiplied ["one", "other"] (defScope s_multiplied) := ⟨rfl, rfl, rfl, by decide +kernel, rfl, by decide +kernel, by decide +kernel⟩
abbrev s_divided : Stmt := topS 21
abbrev N_divided : List Str := ["one", "other"]
theorem sc_divided : FnScope N_divided ["one", "other"] (defScope s_divided) := ⟨rfl, rfl, rfl, by decide +kernel, rfl, by decide +kernel, by decide +kernel⟩
abbrev s_squared : Stmt := topS 22
abbrev N_squared : List Str := ["one"]
theorem sc_squared : FnScope N_squared ["one"] (defScope s_squared) := ⟨rfl, rfl, rfl, by decide +kernel, rfl, by decide +kernel, by decide +kernel⟩
abbrev s_summed : Stmt := topS 23
abbrev N_summed : List Str := ["fractions", "total", "one"]
theorem sc_summed : FnScope N_summed ["fractions"] (defScope s_summed) := ⟨rfl, rfl, rfl, by decide +kernel, rfl, by decide +kernel, by decide +kernel⟩
abbrev s_lies_below : Stmt := topS 24
abbrev N_lies_below : List Str := ["one", "other"]
theorem sc_lies_below : FnScope N_lies_below ["one", "other"] (defScope s_lies_below) := ⟨rfl, rfl, rfl, by decide +kernel, rfl, by decide +kernel, by decide +kernel⟩
abbrev s_is_stall : Stmt := topS 28
abbrev N_is_stall : List Str := ["wares", "thing", "one", "other", "kept", "other_kept", "root", "ware"]
theorem sc_is_stall : FnScope N_is_stall ["wares", "thing"] (defScope s_is_stall) := ⟨rfl, rfl, rfl, by decide +kernel, rfl, by decide +kernel, by decide +kernel⟩
abbrev s_hold_of : Stmt := topS 30
abbrev N_hold_of : List Str := ["stall", "ware"]
theorem sc_hold_of : FnScope N_hold_of ["stall", "ware"] (defScope s_hold_of) := ⟨rfl, rfl, rfl, by decide +kernel, rfl, by decide +kernel, by decide +kernel⟩
abbrev s_stalls_of : Stmt := topS 31
abbrev N_stalls_of : List Str := ["ware", "stalls", "stall"]
theorem sc_stalls_of : FnScope N_stalls_of ["ware", "stalls"] (defScope s_stalls_of) := ⟨rfl, rfl, rfl, by decide +kernel, rfl, by decide +kernel, by decide +kernel⟩
abbrev s_kept_of : Stmt := topS 32
abbrev N_kept_of : List Str := ["ware", "stalls", "stall"]
theorem sc_kept_of : FnScope N_kept_of ["ware", "stalls"] (defScope s_kept_of) := ⟨rfl, rfl, rfl, by decide +kernel, rfl, by decide +kernel, by decide +kernel⟩
abbrev s_held : Stmt := topS 33
abbrev N_held : List Str := ["web", "ware"]
theorem sc_held : FnScope N_held ["web"] (defScope s_held) := ⟨rfl, rfl, rfl, by decide +kernel, rfl, by decide +kernel, by decide +kernel⟩
abbrev s_is_index : Stmt := topS 36
abbrev N_is_index : List Str := ["web", "thing"]
theorem sc_is_index : FnScope N_is_index ["web", "thing"] (defScope s_is_index) := ⟨rfl, rfl, rfl, by decide +kernel, rfl, by decide +kernel, by decide +kernel⟩
abbrev s_is_move : Stmt := topS 37
abbrev N_is_move : List Str := ["web", "thing", "index", "ware", "amount"]
theorem sc_is_move : FnScope N_is_move ["web", "thing"] (defScope s_is_move) := ⟨rfl, rfl, rfl, by decide +kernel, rfl, by decide +kernel, by decide +kernel⟩
abbrev s_check_purse : Stmt := topS 38
abbrev N_check_purse : List Str := ["web", "purse"]
theorem sc_check_purse : FnScope N_check_purse ["web", "purse"] (defScope s_check_purse) := ⟨rfl, rfl, rfl, by decide +kernel, rfl, by decide +kernel, by decide +kernel⟩
abbrev s_check_wish : Stmt := topS 39
abbrev N_check_wish : List Str := ["web", "wish"]
theorem sc_check_wish : FnScope N_check_wish ["web", "wish"] (defScope s_check_wish) := ⟨rfl, rfl, rfl, by decide +kernel, rfl, by decide +kernel, by decide +kernel⟩
abbrev s_stall_led : Stmt := topS 40
abbrev N_stall_led : List Str := ["stall", "amount"]
theorem sc_stall_led : FnScope N_stall_led ["stall", "amount"] (defScope s_stall_led) := ⟨rfl, rfl, rfl, by decide +kernel, rfl, by decide +kernel, by decide +kernel⟩
abbrev s_stall_behind : Stmt := topS 41
abbrev N_stall_behind : List Str := ["stall", "ware", "amount", "one", "other", "kept", "other_kept", "root", "other_more"]
theorem sc_stall_behind : FnScope N_stall_behind ["stall", "ware", "amount"] (defScope s_stall_behind) := ⟨rfl, rfl, rfl, by decide +kernel, rfl, by decide +kernel, by decide +kernel⟩
abbrev s_stalls_behind : Stmt := topS 42
abbrev N_stalls_behind : List Str := ["stalls", "move", "index", "ware", "amount"]
theorem sc_stalls_behind : FnScope N_stalls_behind ["stalls", "move"] (defScope s_stalls_behind) := ⟨rfl, rfl, rfl, by decide +kernel, rfl, by decide +kernel, by decide +kernel⟩
abbrev s_deal_fault : Stmt := topS 43
abbrev N_deal_fault : List Str := ["web", "thing", "index", "move"]
theorem sc_deal_fault : FnScope N_deal_fault ["web", "thing"] (defScope s_deal_fault) := ⟨rfl, rfl, rfl, by decide +kernel, rfl, by decide +kernel, by decide +kernel⟩
abbrev s_check_deal : Stmt := topS 44
abbrev N_check_deal : List Str := ["web", "purse", "deal", "fault"]
theorem sc_check_deal : FnScope N_check_deal ["web", "purse", "deal"] (defScope s_check_deal) := ⟨rfl, rfl, rfl, by decide +kernel, rfl, by decide +kernel, by decide +kernel⟩
abbrev s_web_behind : Stmt := topS 45
abbrev N_web_behind : List Str := ["web", "deal", "stalls", "move"]
theorem sc_web_behind : FnScope N_web_behind ["web", "deal"] (defScope s_web_behind) := ⟨rfl, rfl, rfl, by decide +kernel, rfl, by decide +kernel, by decide +kernel⟩
abbrev s_left_with : Stmt := topS 46
abbrev N_left_with : List Str := ["web", "purse", "behind", "amount", "more"]
theorem sc_left_with : FnScope N_left_with ["web", "purse", "behind"] (defScope s_left_with) := ⟨rfl, rfl, rfl, by decide +kernel, rfl, by decide +kernel, by decide +kernel⟩
abbrev s_played : Stmt := topS 47
abbrev N_played : List Str := ["web", "purse", "deal", "behind"]
theorem sc_played : FnScope N_played ["web", "purse", "deal"] (defScope s_played) := ⟨rfl, rfl, rfl, by decide +kernel, rfl, by decide +kernel, by decide +kernel⟩
abbrev s_owes : Stmt := topS 48
abbrev N_owes : List Str := ["web", "purse", "deal", "stock", "stalls", "at", "move", "ware", "whole"]
theorem sc_owes : FnScope N_owes ["web", "purse", "deal"] (defScope s_owes) := ⟨rfl, rfl, rfl, by decide +kernel, rfl, by decide +kernel, by decide +kernel⟩
abbrev s_is_deal : Stmt := topS 49
abbrev N_is_deal : List Str := ["web", "purse", "wish", "thing", "left", "has", "least"]
theorem sc_is_deal : FnScope N_is_deal ["web", "purse", "wish", "thing"] (defScope s_is_deal) := ⟨rfl, rfl, rfl, by decide +kernel, rfl, by decide +kernel, by decide +kernel⟩
abbrev s_stands_alike : Stmt := topS 50
abbrev N_stands_alike : List Str := ["one", "other"]
theorem sc_stands_alike : FnScope N_stands_alike ["one", "other"] (defScope s_stands_alike) := ⟨rfl, rfl, rfl, by decide +kernel, rfl, by decide +kernel, by decide +kernel⟩
abbrev s_check_alike : Stmt := topS 51
abbrev N_check_alike : List Str := ["one_web", "other_web", "one", "other"]
theorem sc_check_alike : FnScope N_check_alike ["one_web", "other_web"] (defScope s_check_alike) := ⟨rfl, rfl, rfl, by decide +kernel, rfl, by decide +kernel, by decide +kernel⟩
abbrev s_change_of : Stmt := topS 52
abbrev N_change_of : List Str := ["one_web", "other_web", "before", "behind", "ware"]
theorem sc_change_of : FnScope N_change_of ["one_web", "other_web"] (defScope s_change_of) := ⟨rfl, rfl, rfl, by decide +kernel, rfl, by decide +kernel, by decide +kernel⟩
abbrev s_l_deck : Stmt := topS 54
abbrev N_l_deck : List Str := ["_law_script", "_law_cell"]
theorem sc_l_deck : FnScope N_l_deck ["_law_script"] (defScope s_l_deck) := ⟨rfl, rfl, rfl, by decide +kernel, rfl, by decide +kernel, by decide +kernel⟩
abbrev s_l_pick : Stmt := topS 55
abbrev N_l_pick : List Str := ["_law_deck_here", "_law_many", "_law_found", "_law_cells", "_law_cell", "_law_number"]
theorem sc_l_pick : FnScope N_l_pick ["_law_deck_here", "_law_many"] (defScope s_l_pick) := ⟨rfl, rfl, rfl, by decide +kernel, rfl, by decide +kernel, by decide +kernel⟩
abbrev s_l_fold : Stmt := topS 56
abbrev N_l_fold : List Str := ["_law_script", "_law_found", "_law_cell"]
theorem sc_l_fold : FnScope N_l_fold ["_law_script"] (defScope s_l_fold) := ⟨rfl, rfl, rfl, by decide +kernel, rfl, by decide +kernel, by decide +kernel⟩
abbrev s_l_divisor : Stmt := topS 57
abbrev N_l_divisor : List Str := ["_law_one", "_law_other", "_law_turn", "_law_rest"]
theorem sc_l_divisor : FnScope N_l_divisor ["_law_one", "_law_other"] (defScope s_l_divisor) := ⟨rfl, rfl, rfl, by decide +kernel, rfl, by decide +kernel, by decide +kernel⟩
abbrev s_l_made : Stmt := topS 58
abbrev N_l_made : List Str := ["_law_top", "_law_bottom", "_law_divisor_here"]
theorem sc_l_made : FnScope N_l_made ["_law_top", "_law_bottom"] (defScope s_l_made) := ⟨rfl, rfl, rfl, by decide +kernel, rfl, by decide +kernel, by decide +kernel⟩
abbrev s_l_amount : Stmt := topS 59
abbrev N_l_amount : List Str := ["_law_deck_here"]
theorem sc_l_amount : FnScope N_l_amount ["_law_deck_here"] (defScope s_l_amount) := ⟨rfl, rfl, rfl, by decide +kernel, rfl, by decide +kernel, by decide +kernel⟩
abbrev s_l_stall : Stmt := topS 60
abbrev N_l_stall : List Str := ["_law_deck_here", "_law_wares", "_law_one", "_law_other", "_law_root", "_law_factor", "_law_first"]
theorem sc_l_stall : FnScope N_l_stall ["_law_deck_here", "_law_wares"] (defScope s_l_stall) := ⟨rfl, rfl, rfl, by decide +kernel, rfl, by decide +kernel, by decide +kernel⟩
abbrev s_l_deep : Stmt := topS 61
abbrev N_l_deep : List Str := ["_law_deck_here", "_law_found", "_law_sort", "_law_turn"]
theorem sc_l_deep : FnScope N_l_deep ["_law_deck_here"] (defScope s_l_deep) := ⟨rfl, rfl, rfl, by decide +kernel, rfl, by decide +kernel, by decide +kernel⟩
abbrev s_l_odd : Stmt := topS 62
abbrev N_l_odd : List Str := ["_law_deck_here", "_law_web", "_law_menu"]
theorem sc_l_odd : FnScope N_l_odd ["_law_deck_here", "_law_web"] (defScope s_l_odd) := ⟨rfl, rfl, rfl, by decide +kernel, rfl, by decide +kernel, by decide +kernel⟩
abbrev s_l_row : Stmt := topS 63
abbrev N_l_row : List Str := ["_law_deck_here", "_law_web", "_law_ware"]
theorem sc_l_row : FnScope N_l_row ["_law_deck_here", "_law_web"] (defScope s_l_row) := ⟨rfl, rfl, rfl, by decide +kernel, rfl, by decide +kernel, by decide +kernel⟩
abbrev s_l_bad_row : Stmt := topS 64
abbrev N_l_bad_row : List Str := ["_law_deck_here", "_law_web", "_law_row_here", "_law_at", "_law_odd_here", "_law_menu"]
theorem sc_l_bad_row : FnScope N_l_bad_row ["_law_deck_here", "_law_web"] (defScope s_l_bad_row) := ⟨rfl, rfl, rfl, by decide +kernel, rfl, by decide +kernel, by decide +kernel⟩
abbrev s_l_move : Stmt := topS 65
abbrev N_l_move : List Str := ["_law_deck_here", "_law_web", "_law_at"]
theorem sc_l_move : FnScope N_l_move ["_law_deck_here", "_law_web"] (defScope s_l_move) := ⟨rfl, rfl, rfl, by decide +kernel, rfl, by decide +kernel, by decide +kernel⟩
abbrev s_l_bad_deal : Stmt := topS 66
abbrev N_l_bad_deal : List Str := ["_law_deck_here", "_law_web", "_law_deal", "_law_turn", "_law_odd_here", "_law_at", "_law_place", "_law_move_here", "_law_menu"]
theorem sc_l_bad_deal : FnScope N_l_bad_deal ["_law_deck_here", "_law_web"] (defScope s_l_bad_deal) := ⟨rfl, rfl, rfl, by decide +kernel, rfl, by decide +kernel, by decide +kernel⟩
abbrev s_l_is_some : Stmt := topS 67
abbrev N_l_is_some : List Str := ["_law_thing", "_law_least", "_law_item"]
theorem sc_l_is_some : FnScope N_l_is_some ["_law_thing", "_law_least"] (defScope s_l_is_some) := ⟨rfl, rfl, rfl, by decide +kernel, rfl, by decide +kernel, by decide +kernel⟩
abbrev s_l_is_row : Stmt := topS 68
abbrev N_l_is_row : List Str := ["_law_web", "_law_thing", "_law_item"]
theorem sc_l_is_row : FnScope N_l_is_row ["_law_web", "_law_thing"] (defScope s_l_is_row) := ⟨rfl, rfl, rfl, by decide +kernel, rfl, by decide +kernel, by decide +kernel⟩
abbrev s_l_is_below : Stmt := topS 69
abbrev N_l_is_below : List Str := ["_law_thing", "_law_many"]
theorem sc_l_is_below : FnScope N_l_is_below ["_law_thing", "_law_many"] (defScope s_l_is_below) := ⟨rfl, rfl, rfl, by decide +kernel, rfl, by decide +kernel, by decide +kernel⟩
abbrev s_l_is_move : Stmt := topS 70
abbrev N_l_is_move : List Str := ["_law_web", "_law_thing"]
theorem sc_l_is_move : FnScope N_l_is_move ["_law_web", "_law_thing"] (defScope s_l_is_move) := ⟨rfl, rfl, rfl, by decide +kernel, rfl, by decide +kernel, by decide +kernel⟩
abbrev s_l_due : Stmt := topS 71
abbrev N_l_due : List Str := ["_law_web", "_law_purse", "_law_deal", "_law_at"]
theorem sc_l_due : FnScope N_l_due ["_law_web", "_law_purse", "_law_deal"] (defScope s_l_due) := ⟨rfl, rfl, rfl, by decide +kernel, rfl, by decide +kernel, by decide +kernel⟩
abbrev s_l_answer : Stmt := topS 72
abbrev N_l_answer : List Str := ["_law_is_played", "_law_web", "_law_purse", "_law_deal", "_law_answer_here", "e"]
theorem sc_l_answer : FnScope N_l_answer ["_law_is_played", "_law_web", "_law_purse", "_law_deal"] (defScope s_l_answer) := ⟨rfl, rfl, rfl, by decide +kernel, rfl, by decide +kernel, by decide +kernel⟩
abbrev s_l_word : Stmt := topS 73
abbrev N_l_word : List Str := ["_law_web", "_law_purse", "_law_wish", "_law_deal", "_law_word_here"]
theorem sc_l_word : FnScope N_l_word ["_law_web", "_law_purse", "_law_wish", "_law_deal"] (defScope s_l_word) := ⟨rfl, rfl, rfl, by decide +kernel, rfl, by decide +kernel, by decide +kernel⟩
abbrev s_l_word_is_due : Stmt := topS 74
abbrev N_l_word_is_due : List Str := ["_law_web", "_law_purse", "_law_wish", "_law_deal", "_law_word_here"]
theorem sc_l_word_is_due : FnScope N_l_word_is_due ["_law_web", "_law_purse", "_law_wish", "_law_deal"] (defScope s_l_word_is_due) := ⟨rfl, rfl, rfl, by decide +kernel, rfl, by decide +kernel, by decide +kernel⟩
abbrev s_law : Stmt := topS 75
abbrev N_law : List Str := ["_law_script", "_law_deck_here", "_law_wares", "_law_many", "_law_web", "_law_turn", "_law_right", "_law_purse", "_law_wish", "_law_deal", "_law_row_here", "_law_due_here", "_law_move_here", "_law_long"]
theorem sc_law : FnScope N_law ["_law_script"] (defScope s_law) := ⟨rfl, rfl, rfl, by decide +kernel, rfl, by decide +kernel, by decide +kernel⟩
abbrev s_BadDeal_init : Stmt := inClass (topS 6) 0
abbrev N_BadDeal_init : List Str := ["self", "index"]
theorem sc_BadDeal_init : FnScope N_BadDeal_init ["self", "index"] (defScope s_BadDeal_init) := ⟨rfl, rfl, rfl, by decide +kernel, rfl, by decide +kernel, by decide +kernel⟩
abbrev s_Web_init : Stmt := inClass (topS 29) 0
abbrev N_Web_init : List Str := ["self", "wares", "stalls", "index", "stall"]
theorem sc_Web_init : FnScope N_Web_init ["self", "wares", "stalls"] (defScope s_Web_init) := ⟨rfl, rfl, rfl, by decide +kernel, rfl, by decide +kernel, by decide +kernel⟩
abbrev s_Web_eq : Stmt := inClass (topS 29) 1
abbrev N_Web_eq : List Str := ["self", "other"]
theorem sc_Web_eq : FnScope N_Web_eq ["self", "other"] (defScope s_Web_eq) := ⟨rfl, rfl, rfl, by decide +kernel, rfl, by decide +kernel, by decide +kernel⟩
structure Txt (K : PySem.W.Frag) (mg : Str → Option Value) (f_is_integer f_is_row f_is_fraction f_is_amount f_is_some f_are_amounts f_added f_negated f_lessened f_multiplied f_divided f_squared f_summed f_lies_below f_is_stall f_hold_of f_stalls_of f_kept_of f_held f_is_index f_is_move f_check_purse f_check_wish f_stall_led f_stall_behind f_stalls_behind f_deal_fault f_check_deal f_web_behind f_left_with f_played f_owes f_is_deal f_stands_alike f_check_alike f_change_of f_l_deck f_l_pick f_l_fold f_l_divisor f_l_made f_l_amount f_l_stall f_l_deep f_l_odd f_l_row f_l_bad_row f_l_move f_l_bad_deal f_l_is_some f_l_is_row f_l_is_below f_l_is_move f_l_due f_l_answer f_l_word f_l_word_is_due f_law f_BadDeal_init f_Web_init f_Web_eq c_BadPurse c_BadWish c_BadDeal c_Web c_ZERO : Addr) (d_is_integer d_is_row d_is_fraction d_is_amount d_is_some d_are_amounts d_added d_negated d_lessened d_multiplied d_divided d_squared d_summed d_lies_below d_is_stall d_hold_of d_stalls_of d_kept_of d_held d_is_index d_is_move d_check_purse d_check_wish d_stall_led d_stall_behind d_stalls_behind d_deal_fault d_check_deal d_web_behind d_left_with d_played d_owes d_is_deal d_stands_alike d_check_alike d_change_of d_l_deck d_l_pick d_l_fold d_l_divisor d_l_made d_l_amount d_l_stall d_l_deep d_l_odd d_l_row d_l_bad_row d_l_move d_l_bad_deal d_l_is_some d_l_is_row d_l_is_below d_l_is_move d_l_due d_l_answer d_l_word d_l_word_is_due d_law d_BadDeal_init d_Web_init d_Web_eq : FuncData) : Prop where
  z_abs : mg "abs" = none
  z_all : mg "all" = none
  z_any : mg "any" = none
  z_bool : mg "bool" = none
  z_enumerate : mg "enumerate" = none
  z_int : mg "int" = none
  z_isinstance : mg "isinstance" = none
  z_len : mg "len" = none
  z_list : mg "list" = none
  z_min : mg "min" = none
  z_range : mg "range" = none
  z_tuple : mg "tuple" = none
  z_zip : mg "zip" = none
  m_gcd : mg "gcd" = some (.builtin "math.gcd")
  x_BadDeal_BadPurse : PySem.W.subIn K (.ref c_BadDeal) (.ref c_BadPurse) = some false
  x_BadWish_BadPurse : PySem.W.subIn K (.ref c_BadWish) (.ref c_BadPurse) = some false
  c_BadPurse : ExC K mg "BadPurse" c_BadPurse
  c_BadWish : ExC K mg "BadWish" c_BadWish
  c_BadDeal : ExF K mg "BadDeal" c_BadDeal f_BadDeal_init "index"
  w_Web : WebC K mg "Web" c_Web f_Web_init
  n_Web_wares : NoAttr K c_Web "wares"
  n_Web_stalls : NoAttr K c_Web "stalls"
  v_ZERO : mg "ZERO" = some (.ref c_ZERO)
  t_ZERO : SqT K (fun _ => none) c_ZERO [.int 0, .int 1]
  v_MOST_MOVES : ∃ u, mg "MOST_MOVES" = some u ∧ RelV (.int 200) u
  v_MOST_STALLS : ∃ u, mg "MOST_STALLS" = some u ∧ RelV (.int 16) u
  v_MOST_WARES : ∃ u, mg "MOST_WARES" = some u ∧ RelV (.int 8) u
  g_is_integer : mg "is_integer" = some (.ref f_is_integer)
  F_is_integer : Fun K "is_integer" "is_integer" s_is_integer f_is_integer d_is_integer
  k_is_integer : PySem.W.keepIn K (.ref f_is_integer) = true
  b_is_integer : Binds K d_is_integer ["thing"] []
  g_is_row : mg "is_row" = some (.ref f_is_row)
  F_is_row : Fun K "is_row" "is_row" s_is_row f_is_row d_is_row
  k_is_row : PySem.W.keepIn K (.ref f_is_row) = true
  b_is_row : Binds K d_is_row ["thing"] []
  g_is_fraction : mg "is_fraction" = some (.ref f_is_fraction)
  F_is_fraction : Fun K "is_fraction" "is_fraction" s_is_fraction f_is_fraction d_is_fraction
  k_is_fraction : PySem.W.keepIn K (.ref f_is_fraction) = true
  b_is_fraction : Binds K d_is_fraction ["thing"] []
  g_is_amount : mg "is_amount" = some (.ref f_is_amount)
  F_is_amount : Fun K "is_amount" "is_amount" s_is_amount f_is_amount d_is_amount
  k_is_amount : PySem.W.keepIn K (.ref f_is_amount) = true
  b_is_amount : Binds K d_is_amount ["thing"] []
  g_is_some : mg "is_some" = some (.ref f_is_some)
  F_is_some : Fun K "is_some" "is_some" s_is_some f_is_some d_is_some
  k_is_some : PySem.W.keepIn K (.ref f_is_some) = true
  b_is_some : Binds K d_is_some ["thing"] []
  g_are_amounts : mg "are_amounts" = some (.ref f_are_amounts)
  F_are_amounts : Fun K "are_amounts" "are_amounts" s_are_amounts f_are_amounts d_are_amounts
  k_are_amounts : PySem.W.keepIn K (.ref f_are_amounts) = true
  b_are_amounts : Binds K d_are_amounts ["things", "number"] []
  g_added : mg "added" = some (.ref f_added)
  F_added : Fun K "added" "added" s_added f_added d_added
  k_added : PySem.W.keepIn K (.ref f_added) = true
  b_added : Binds K d_added ["one", "other"] []
  g_negated : mg "negated" = some (.ref f_negated)
  F_negated : Fun K "negated" "negated" s_negated f_negated d_negated
  k_negated : PySem.W.keepIn K (.ref f_negated) = true
  b_negated : Binds K d_negated ["one"] []
  g_lessened : mg "lessened" = some (.ref f_lessened)
  F_lessened : Fun K "lessened" "lessened" s_lessened f_lessened d_lessened
  k_lessened : PySem.W.keepIn K (.ref f_lessened) = true
  b_lessened : Binds K d_lessened ["one", "other"] []
  g_multiplied : mg "multiplied" = some (.ref f_multiplied)
  F_multiplied : Fun K "multiplied" "multiplied" s_multiplied f_multiplied d_multiplied
  k_multiplied : PySem.W.keepIn K (.ref f_multiplied) = true
  b_multiplied : Binds K d_multiplied ["one", "other"] []
  g_divided : mg "divided" = some (.ref f_divided)
  F_divided : Fun K "divided" "divided" s_divided f_divided d_divided
  k_divided : PySem.W.keepIn K (.ref f_divided) = true
  b_divided : Binds K d_divided ["one", "other"] []
  g_squared : mg "squared" = some (.ref f_squared)
  F_squared : Fun K "squared" "squared" s_squared f_squared d_squared
  k_squared : PySem.W.keepIn K (.ref f_squared) = true
  b_squared : Binds K d_squared ["one"] []
  g_summed : mg "summed" = some (.ref f_summed)
  F_summed : Fun K "summed" "summed" s_summed f_summed d_summed
  k_summed : PySem.W.keepIn K (.ref f_summed) = true
  b_summed : Binds K d_summed ["fractions"] []
  g_lies_below : mg "lies_below" = some (.ref f_lies_below)
  F_lies_below : Fun K "lies_below" "lies_below" s_lies_below f_lies_below d_lies_below
  k_lies_below : PySem.W.keepIn K (.ref f_lies_below) = true
  b_lies_below : Binds K d_lies_below ["one", "other"] []
  g_is_stall : mg "is_stall" = some (.ref f_is_stall)
  F_is_stall : Fun K "is_stall" "is_stall" s_is_stall f_is_stall d_is_stall
  k_is_stall : PySem.W.keepIn K (.ref f_is_stall) = true
  b_is_stall : Binds K d_is_stall ["wares", "thing"] []
  g_hold_of : mg "hold_of" = some (.ref f_hold_of)
  F_hold_of : Fun K "hold_of" "hold_of" s_hold_of f_hold_of d_hold_of
  k_hold_of : PySem.W.keepIn K (.ref f_hold_of) = true
  b_hold_of : Binds K d_hold_of ["stall", "ware"] []
  g_stalls_of : mg "stalls_of" = some (.ref f_stalls_of)
  F_stalls_of : Fun K "stalls_of" "stalls_of" s_stalls_of f_stalls_of d_stalls_of
  k_stalls_of : PySem.W.keepIn K (.ref f_stalls_of) = true
  b_stalls_of : Binds K d_stalls_of ["ware", "stalls"] []
  g_kept_of : mg "kept_of" = some (.ref f_kept_of)
  F_kept_of : Fun K "kept_of" "kept_of" s_kept_of f_kept_of d_kept_of
  k_kept_of : PySem.W.keepIn K (.ref f_kept_of) = true
  b_kept_of : Binds K d_kept_of ["ware", "stalls"] []
  g_held : mg "held" = some (.ref f_held)
  F_held : Fun K "held" "held" s_held f_held d_held
  k_held : PySem.W.keepIn K (.ref f_held) = true
  b_held : Binds K d_held ["web"] []
  g_is_index : mg "is_index" = some (.ref f_is_index)
  F_is_index : Fun K "is_index" "is_index" s_is_index f_is_index d_is_index
  k_is_index : PySem.W.keepIn K (.ref f_is_index) = true
  b_is_index : Binds K d_is_index ["web", "thing"] []
  g_is_move : mg "is_move" = some (.ref f_is_move)
  F_is_move : Fun K "is_move" "is_move" s_is_move f_is_move d_is_move
  k_is_move : PySem.W.keepIn K (.ref f_is_move) = true
  b_is_move : Binds K d_is_move ["web", "thing"] []
  g_check_purse : mg "check_purse" = some (.ref f_check_purse)
  F_check_purse : Fun K "check_purse" "check_purse" s_check_purse f_check_purse d_check_purse
  k_check_purse : PySem.W.keepIn K (.ref f_check_purse) = true
  b_check_purse : Binds K d_check_purse ["web", "purse"] []
  g_check_wish : mg "check_wish" = some (.ref f_check_wish)
  F_check_wish : Fun K "check_wish" "check_wish" s_check_wish f_check_wish d_check_wish
  k_check_wish : PySem.W.keepIn K (.ref f_check_wish) = true
  b_check_wish : Binds K d_check_wish ["web", "wish"] []
  g_stall_led : mg "stall_led" = some (.ref f_stall_led)
  F_stall_led : Fun K "stall_led" "stall_led" s_stall_led f_stall_led d_stall_led
  k_stall_led : PySem.W.keepIn K (.ref f_stall_led) = true
  b_stall_led : Binds K d_stall_led ["stall", "amount"] []
  g_stall_behind : mg "stall_behind" = some (.ref f_stall_behind)
  F_stall_behind : Fun K "stall_behind" "stall_behind" s_stall_behind f_stall_behind d_stall_behind
  k_stall_behind : PySem.W.keepIn K (.ref f_stall_behind) = true
  b_stall_behind : Binds K d_stall_behind ["stall", "ware", "amount"] []
  g_stalls_behind : mg "stalls_behind" = some (.ref f_stalls_behind)
  F_stalls_behind : Fun K "stalls_behind" "stalls_behind" s_stalls_behind f_stalls_behind d_stalls_behind
  k_stalls_behind : PySem.W.keepIn K (.ref f_stalls_behind) = true
  b_stalls_behind : Binds K d_stalls_behind ["stalls", "move"] []
  g_deal_fault : mg "deal_fault" = some (.ref f_deal_fault)
  F_deal_fault : Fun K "deal_fault" "deal_fault" s_deal_fault f_deal_fault d_deal_fault
  k_deal_fault : PySem.W.keepIn K (.ref f_deal_fault) = true
  b_deal_fault : Binds K d_deal_fault ["web", "thing"] []
  g_check_deal : mg "check_deal" = some (.ref f_check_deal)
  F_check_deal : Fun K "check_deal" "check_deal" s_check_deal f_check_deal d_check_deal
  k_check_deal : PySem.W.keepIn K (.ref f_check_deal) = true
  b_check_deal : Binds K d_check_deal ["web", "purse", "deal"] []
  g_web_behind : mg "web_behind" = some (.ref f_web_behind)
  F_web_behind : Fun K "web_behind" "web_behind" s_web_behind f_web_behind d_web_behind
  k_web_behind : PySem.W.keepIn K (.ref f_web_behind) = true
  b_web_behind : Binds K d_web_behind ["web", "deal"] []
  g_left_with : mg "left_with" = some (.ref f_left_with)
  F_left_with : Fun K "left_with" "left_with" s_left_with f_left_with d_left_with
  k_left_with : PySem.W.keepIn K (.ref f_left_with) = true
  b_left_with : Binds K d_left_with ["web", "purse", "behind"] []
  g_played : mg "played" = some (.ref f_played)
  F_played : Fun K "played" "played" s_played f_played d_played
  k_played : PySem.W.keepIn K (.ref f_played) = true
  b_played : Binds K d_played ["web", "purse", "deal"] []
  g_owes : mg "owes" = some (.ref f_owes)
  F_owes : Fun K "owes" "owes" s_owes f_owes d_owes
  k_owes : PySem.W.keepIn K (.ref f_owes) = true
  b_owes : Binds K d_owes ["web", "purse", "deal"] []
  g_is_deal : mg "is_deal" = some (.ref f_is_deal)
  F_is_deal : Fun K "is_deal" "is_deal" s_is_deal f_is_deal d_is_deal
  k_is_deal : PySem.W.keepIn K (.ref f_is_deal) = true
  b_is_deal : Binds K d_is_deal ["web", "purse", "wish", "thing"] []
  g_stands_alike : mg "stands_alike" = some (.ref f_stands_alike)
  F_stands_alike : Fun K "stands_alike" "stands_alike" s_stands_alike f_stands_alike d_stands_alike
  k_stands_alike : PySem.W.keepIn K (.ref f_stands_alike) = true
  b_stands_alike : Binds K d_stands_alike ["one", "other"] []
  g_check_alike : mg "check_alike" = some (.ref f_check_alike)
  F_check_alike : Fun K "check_alike" "check_alike" s_check_alike f_check_alike d_check_alike
  k_check_alike : PySem.W.keepIn K (.ref f_check_alike) = true
  b_check_alike : Binds K d_check_alike ["one_web", "other_web"] []
  g_change_of : mg "change_of" = some (.ref f_change_of)
  F_change_of : Fun K "change_of" "change_of" s_change_of f_change_of d_change_of
  k_change_of : PySem.W.keepIn K (.ref f_change_of) = true
  b_change_of : Binds K d_change_of ["one_web", "other_web"] []
  g_l_deck : mg "_law_deck" = some (.ref f_l_deck)
  F_l_deck : Fun K "_law_deck" "_law_deck" s_l_deck f_l_deck d_l_deck
  k_l_deck : PySem.W.keepIn K (.ref f_l_deck) = true
  b_l_deck : Binds K d_l_deck ["_law_script"] []
  g_l_pick : mg "_law_pick" = some (.ref f_l_pick)
  F_l_pick : Fun K "_law_pick" "_law_pick" s_l_pick f_l_pick d_l_pick
  k_l_pick : PySem.W.keepIn K (.ref f_l_pick) = true
  b_l_pick : Binds K d_l_pick ["_law_deck_here", "_law_many"] []
  g_l_fold : mg "_law_fold" = some (.ref f_l_fold)
  F_l_fold : Fun K "_law_fold" "_law_fold" s_l_fold f_l_fold d_l_fold
  k_l_fold : PySem.W.keepIn K (.ref f_l_fold) = true
  b_l_fold : Binds K d_l_fold ["_law_script"] []
  g_l_divisor : mg "_law_divisor" = some (.ref f_l_divisor)
  F_l_divisor : Fun K "_law_divisor" "_law_divisor" s_l_divisor f_l_divisor d_l_divisor
  k_l_divisor : PySem.W.keepIn K (.ref f_l_divisor) = true
  b_l_divisor : Binds K d_l_divisor ["_law_one", "_law_other"] []
  g_l_made : mg "_law_made" = some (.ref f_l_made)
  F_l_made : Fun K "_law_made" "_law_made" s_l_made f_l_made d_l_made
  k_l_made : PySem.W.keepIn K (.ref f_l_made) = true
  b_l_made : Binds K d_l_made ["_law_top", "_law_bottom"] []
  g_l_amount : mg "_law_amount" = some (.ref f_l_amount)
  F_l_amount : Fun K "_law_amount" "_law_amount" s_l_amount f_l_amount d_l_amount
  k_l_amount : PySem.W.keepIn K (.ref f_l_amount) = true
  b_l_amount : Binds K d_l_amount ["_law_deck_here"] []
  g_l_stall : mg "_law_stall" = some (.ref f_l_stall)
  F_l_stall : Fun K "_law_stall" "_law_stall" s_l_stall f_l_stall d_l_stall
  k_l_stall : PySem.W.keepIn K (.ref f_l_stall) = true
  b_l_stall : Binds K d_l_stall ["_law_deck_here", "_law_wares"] []
  g_l_deep : mg "_law_deep" = some (.ref f_l_deep)
  F_l_deep : Fun K "_law_deep" "_law_deep" s_l_deep f_l_deep d_l_deep
  k_l_deep : PySem.W.keepIn K (.ref f_l_deep) = true
  b_l_deep : Binds K d_l_deep ["_law_deck_here"] []
  g_l_odd : mg "_law_odd" = some (.ref f_l_odd)
  F_l_odd : Fun K "_law_odd" "_law_odd" s_l_odd f_l_odd d_l_odd
  k_l_odd : PySem.W.keepIn K (.ref f_l_odd) = true
  b_l_odd : Binds K d_l_odd ["_law_deck_here", "_law_web"] []
  g_l_row : mg "_law_row" = some (.ref f_l_row)
  F_l_row : Fun K "_law_row" "_law_row" s_l_row f_l_row d_l_row
  k_l_row : PySem.W.keepIn K (.ref f_l_row) = true
  b_l_row : Binds K d_l_row ["_law_deck_here", "_law_web"] []
  g_l_bad_row : mg "_law_bad_row" = some (.ref f_l_bad_row)
  F_l_bad_row : Fun K "_law_bad_row" "_law_bad_row" s_l_bad_row f_l_bad_row d_l_bad_row
  k_l_bad_row : PySem.W.keepIn K (.ref f_l_bad_row) = true
  b_l_bad_row : Binds K d_l_bad_row ["_law_deck_here", "_law_web"] []
  g_l_move : mg "_law_move" = some (.ref f_l_move)
  F_l_move : Fun K "_law_move" "_law_move" s_l_move f_l_move d_l_move
  k_l_move : PySem.W.keepIn K (.ref f_l_move) = true
  b_l_move : Binds K d_l_move ["_law_deck_here", "_law_web"] []
  g_l_bad_deal : mg "_law_bad_deal" = some (.ref f_l_bad_deal)
  F_l_bad_deal : Fun K "_law_bad_deal" "_law_bad_deal" s_l_bad_deal f_l_bad_deal d_l_bad_deal
  k_l_bad_deal : PySem.W.keepIn K (.ref f_l_bad_deal) = true
  b_l_bad_deal : Binds K d_l_bad_deal ["_law_deck_here", "_law_web"] []
  g_l_is_some : mg "_law_is_some" = some (.ref f_l_is_some)
  F_l_is_some : Fun K "_law_is_some" "_law_is_some" s_l_is_some f_l_is_some d_l_is_some
  k_l_is_some : PySem.W.keepIn K (.ref f_l_is_some) = true
  b_l_is_some : Binds K d_l_is_some ["_law_thing", "_law_least"] []
  g_l_is_row : mg "_law_is_row" = some (.ref f_l_is_row)
  F_l_is_row : Fun K "_law_is_row" "_law_is_row" s_l_is_row f_l_is_row d_l_is_row
  k_l_is_row : PySem.W.keepIn K (.ref f_l_is_row) = true
  b_l_is_row : Binds K d_l_is_row ["_law_web", "_law_thing"] []
  g_l_is_below : mg "_law_is_below" = some (.ref f_l_is_below)
  F_l_is_below : Fun K "_law_is_below" "_law_is_below" s_l_is_below f_l_is_below d_l_is_below
  k_l_is_below : PySem.W.keepIn K (.ref f_l_is_below) = true
  b_l_is_below : Binds K d_l_is_below ["_law_thing", "_law_many"] []
  g_l_is_move : mg "_law_is_move" = some (.ref f_l_is_move)
  F_l_is_move : Fun K "_law_is_move" "_law_is_move" s_l_is_move f_l_is_move d_l_is_move
  k_l_is_move : PySem.W.keepIn K (.ref f_l_is_move) = true
  b_l_is_move : Binds K d_l_is_move ["_law_web", "_law_thing"] []
  g_l_due : mg "_law_due" = some (.ref f_l_due)
  F_l_due : Fun K "_law_due" "_law_due" s_l_due f_l_due d_l_due
  k_l_due : PySem.W.keepIn K (.ref f_l_due) = true
  b_l_due : Binds K d_l_due ["_law_web", "_law_purse", "_law_deal"] []
  g_l_answer : mg "_law_answer" = some (.ref f_l_answer)
  F_l_answer : Fun K "_law_answer" "_law_answer" s_l_answer f_l_answer d_l_answer
  k_l_answer : PySem.W.keepIn K (.ref f_l_answer) = true
  b_l_answer : Binds K d_l_answer ["_law_is_played", "_law_web", "_law_purse", "_law_deal"] []
  g_l_word : mg "_law_word" = some (.ref f_l_word)
  F_l_word : Fun K "_law_word" "_law_word" s_l_word f_l_word d_l_word
  k_l_word : PySem.W.keepIn K (.ref f_l_word) = true
  b_l_word : Binds K d_l_word ["_law_web", "_law_purse", "_law_wish", "_law_deal"] []
  g_l_word_is_due : mg "_law_word_is_due" = some (.ref f_l_word_is_due)
  F_l_word_is_due : Fun K "_law_word_is_due" "_law_word_is_due" s_l_word_is_due f_l_word_is_due d_l_word_is_due
  k_l_word_is_due : PySem.W.keepIn K (.ref f_l_word_is_due) = true
  b_l_word_is_due : Binds K d_l_word_is_due ["_law_web", "_law_purse", "_law_wish", "_law_deal"] []
  g_law : mg "law" = some (.ref f_law)
  F_law : Fun K "law" "law" s_law f_law d_law
  k_law : PySem.W.keepIn K (.ref f_law) = true
  b_law : Binds K d_law ["_law_script"] []
  F_BadDeal_init : Fun K "__init__" "BadDeal.__init__" s_BadDeal_init f_BadDeal_init d_BadDeal_init
  b_BadDeal_init : Binds K d_BadDeal_init ["self", "index"] []
  F_Web_init : Fun K "__init__" "Web.__init__" s_Web_init f_Web_init d_Web_init
  b_Web_init : Binds K d_Web_init ["self", "wares", "stalls"] []
  F_Web_eq : Fun K "__eq__" "Web.__eq__" s_Web_eq f_Web_eq d_Web_eq
  b_Web_eq : Binds K d_Web_eq ["self", "other"] []
  i_Web_eq : PySem.W.findIn K (.ref c_Web) "__eq__" = some (some (.ref f_Web_eq))
  fn_Web_eq : PySem.W.isFn K (.ref f_Web_eq) = true
  ne_Web : PySem.W.findIn K (.ref c_Web) "__ne__" = some (some (.builtin "object.__ne__"))
end My
/-! the steps of a reading, one after another; side conditions come last -/
local macro_rules | `(tactic| walk_at "hp") => `(tactic| (repeat (first | (with_reducible assumption) | (with_reducible exact L2.upd_same) | (refine (L2.upd_ne (by first | assumption | (apply Ne.symm; assumption))).trans ?_))))
local macro_rules | `(tactic| walk_at "sd") => `(tactic| first | assumption | decide | omega | (exact My.cpow_of (by decide)) | (exact My.cdivx (b := 64) (by decide) (by decide) (by decide)) | (exact My.cdivx (by omega) (by assumption) (by decide)))
local macro_rules | `(tactic| walk_at "rX") => `(tactic| fail)
local macro_rules | `(tactic| walk_at "rV") => `(tactic| first
  | (with_reducible refine My.rd_C ?_)
  | ((with_reducible refine' My.rd_var ?k1 ?_); (case k1 => rfl))
  | (with_reducible refine My.rd_op ?_) | (with_reducible refine My.rd_cons ?_) | (with_reducible refine My.rd_nil ?_) | (with_reducible refine My.rd_CB ?_) | (with_reducible refine My.rd_call ?_)
  | (with_reducible refine My.rd_rI0 ?_)
  | (with_reducible refine My.rd_rI ?_ (by walk_at "sd"))
  | (with_reducible refine My.rd_rI ?_ ?_)
  | ((with_reducible refine' My.rd_ixL ?k1 ?k2 ?_); (case k1 => walk_at "hp"); (case k2 => rfl))
  | ((with_reducible refine' My.rd_ixT ?k1 ?k2 ?_); (case k1 => walk_at "hp"); (case k2 => rfl))
  | ((with_reducible refine' My.rd_ixTp ?k1 ?k3 ?k2 ?_); (case k1 => walk_at "tp"); (case k2 => rfl); (case k3 => rfl))
  | (with_reducible refine My.rd_un ?_) | (with_reducible refine My.rd_rU ?_)
  | (with_reducible refine My.rd_eqI ?_) | (with_reducible refine My.rd_neI ?_) | (with_reducible refine My.rd_eqB ?_) | (with_reducible refine My.rd_neB ?_) | (with_reducible refine My.rd_eqS ?_) | (with_reducible refine My.rd_neS ?_)
  | (with_reducible refine My.rd_gcd ?_) | (with_reducible refine My.rd_bits ?_)
  | ((with_reducible refine' My.rd_lenL ?_ ?k1); (case k1 => walk_at "hp"))
  | ((with_reducible refine' My.rd_lenT ?_ ?k1); (case k1 => walk_at "hp"))
  | ((with_reducible refine' My.rd_lenTp ?_ ?k1 ?k3); (case k1 => walk_at "tp"); (case k3 => rfl))
  | (with_reducible refine My.rd_int ?_) | (with_reducible refine My.rd_abs ?_) | (with_reducible refine My.rd_min ?_) | (with_reducible refine My.rd_intB ?_)
  | (with_reducible refine ⟨_, rfl, ?_⟩)
  | (with_reducible refine My.rd_len ?_ rfl)
  | (with_reducible refine My.rd_tup ?_) | (with_reducible refine My.rd_lst ?_)
  | (with_reducible refine My.isi_int_int ?_) | (with_reducible refine My.isi_int_bool ?_) | (with_reducible refine My.isi_bl_bool ?_)
  | ((with_reducible refine' My.isi_tup_tup ?k1 ?_); (case k1 => walk_at "hp"))
  | ((with_reducible refine' My.isi_tp ?k1 ?k3 ?_); (case k1 => walk_at "tp"); (case k3 => rfl))
  | (with_reducible refine My.rd_isBl ?_))
local macro_rules | `(tactic| walk_at "rS") => `(tactic| first
  | (with_reducible refine My.rd_seq ?_) | (with_reducible refine My.rd_next ?_) | (with_reducible refine My.rd_asg ?_) | (with_reducible refine My.rd_gName ?_) | (with_reducible refine My.rd_ret ?_)
  | (with_reducible refine My.rd_ifS ?_) | (with_reducible refine My.rd_test ?_) | (with_reducible refine My.rd_B ?_) | (with_reducible refine My.rd_not ?_) | (with_reducible refine My.rd_and ?_) | (with_reducible refine My.rd_or ?_)
  | (with_reducible refine My.rd_andV ?_) | (with_reducible refine My.rd_orV ?_) | (with_reducible refine My.rd_notV ?_) | (with_reducible refine My.rd_ifE ?_) | (with_reducible refine My.rd_chain ?_)
  | (with_reducible refine My.rd_gSub ?_) | ((with_reducible refine' My.rd_setL ?k1 ?k2 ?_); (case k1 => walk_at "hp"); (case k2 => rfl))
  | ((with_reducible refine' My.rd_gTup ?k1 ?k2 ?_); (case k1 => walk_at "hp"); (case k2 => rfl)) | ((with_reducible refine' My.rd_gTp ?k1 ?k3 ?k2 ?_); (case k1 => walk_at "tp"); (case k2 => rfl); (case k3 => rfl)) | (with_reducible refine My.rd_gCons ?_) | (with_reducible refine My.rd_gNil ?_)
  | (with_reducible refine My.rd_drop ?_) | (with_reducible refine My.rd_for ?_) | (with_reducible refine My.rd_rng1 ?_) | (with_reducible refine My.rd_itL ?_) | (with_reducible refine My.rd_itT ?_)
  | (with_reducible refine My.rd_sl ?_) | (with_reducible refine My.rd_part ?_) | (with_reducible refine My.rd_nopart ?_) | (with_reducible refine My.rd_bm ?_) | (with_reducible refine My.rd_yes ?_) | (with_reducible refine My.rd_lc ?_)
  | (with_reducible refine My.ite_nt ?_) | (with_reducible refine My.ite_nf ?_)
  | (with_reducible refine L2.iteF ?_) | (with_reducible refine L2.iteT ?_))
local macro_rules | `(tactic| walk_at "dc") => `(tactic| first | (with_reducible assumption) | ((with_reducible show _ = _); rfl) | omega | decide)
local macro_rules | `(tactic| walk_at "rI") => `(tactic| first
  | ((with_reducible refine' My.if_T ?k1 ?_); (case k1 => walk_at "dc"))
  | ((with_reducible refine' My.if_F ?k1 ?_); (case k1 => walk_at "dc"))
  | ((with_reducible refine' My.if_nF ?k1 ?_); (case k1 => walk_at "dc"))
  | ((with_reducible refine' My.if_nT ?k1 ?_); (case k1 => walk_at "dc")))
local macro_rules | `(tactic| walk_at "r") => `(tactic| (repeat (first | (walk_at "rV") | (walk_at "rS") | (walk_at "rI") | (walk_at "rX"))))
local macro_rules | `(tactic| walk_at "if") => `(tactic| first | (with_reducible refine My.if_dec (fun h => ?_) (fun h => ?_)) | (with_reducible refine My.if_ndec (fun h => ?_) (fun h => ?_)))
local macro_rules | `(tactic| walk_at "st") => `(tactic| (set_option pp.maxSteps 150 in trace_state))
local macro_rules | `(tactic| walk_at "rX") => `(tactic| first | (with_reducible refine My.rd_callS ?_) | (with_reducible refine My.rd_newK ?_) | (with_reducible refine My.rd_raise1 ?_) | (with_reducible refine My.rd_x1 ?_) | (with_reducible refine My.rd_fldS ?_) | (with_reducible refine My.rd_fld ?_) | (with_reducible refine My.rd_make ?_) | (with_reducible refine My.rd_enum ?_) | (with_reducible refine My.rd_enumX ?_) | (with_reducible refine My.rd_ost ?_) | (with_reducible refine My.rd_xf ?_) | (with_reducible refine My.isi_int_tup ?_))
local macro_rules | `(tactic| walk_at "sm") => `(tactic| first | (with_reducible assumption) | (with_reducible exact L2.Same.refl _) | ((with_reducible refine L2.Same.trans ?_ (by with_reducible assumption)); walk_at "sm"))
local macro_rules | `(tactic| walk_at "tp") => `(tactic| first | (with_reducible assumption) | ((with_reducible refine My.Tp.same ?_ (by with_reducible assumption)); walk_at "sm"))
local macro_rules | `(tactic| walk_at "hp") => `(tactic| ((with_reducible refine My.at_same ?_ (by with_reducible assumption)); walk_at "sm"))
local macro_rules | `(tactic| walk_at "kp") => `(tactic| first | (with_reducible assumption) | ((with_reducible refine My.IsF.same ?_ (by with_reducible assumption)); walk_at "sm") | ((with_reducible refine My.IsSt.same ?_ (by with_reducible assumption)); walk_at "sm") | ((with_reducible refine My.IsWeb.same ?_ (by with_reducible assumption)); walk_at "sm") | ((with_reducible refine My.IsMv.same ?_ (by with_reducible assumption)); walk_at "sm") | ((with_reducible refine My.Sts.same ?_ (by with_reducible assumption)); walk_at "sm") | ((with_reducible refine My.Tp.same ?_ (by with_reducible assumption)); walk_at "sm") | ((with_reducible refine My.at_same ?_ (by with_reducible assumption)); walk_at "sm"))
namespace My
open PySem PySem.Spec PyProof.Rows L2
section
variable {P : Program} {w : World} {K : PySem.W.Frag} {mg : Str → Option Value} {base : Heap} {f_is_integer f_is_row f_is_fraction f_is_amount f_is_some f_are_amounts f_added f_negated f_lessened f_multiplied f_divided f_squared f_summed f_lies_below f_is_stall f_hold_of f_stalls_of f_kept_of f_held f_is_index f_is_move f_check_purse f_check_wish f_stall_led f_stall_behind f_stalls_behind f_deal_fault f_check_deal f_web_behind f_left_with f_played f_owes f_is_deal f_stands_alike f_check_alike f_change_of f_l_deck f_l_pick f_l_fold f_l_divisor f_l_made f_l_amount f_l_stall f_l_deep f_l_odd f_l_row f_l_bad_row f_l_move f_l_bad_deal f_l_is_some f_l_is_row f_l_is_below f_l_is_move f_l_due f_l_answer f_l_word f_l_word_is_due f_law f_BadDeal_init f_Web_init f_Web_eq c_BadPurse c_BadWish c_BadDeal c_Web c_ZERO : Addr} {d_is_integer d_is_row d_is_fraction d_is_amount d_is_some d_are_amounts d_added d_negated d_lessened d_multiplied d_divided d_squared d_summed d_lies_below d_is_stall d_hold_of d_stalls_of d_kept_of d_held d_is_index d_is_move d_check_purse d_check_wish d_stall_led d_stall_behind d_stalls_behind d_deal_fault d_check_deal d_web_behind d_left_with d_played d_owes d_is_deal d_stands_alike d_check_alike d_change_of d_l_deck d_l_pick d_l_fold d_l_divisor d_l_made d_l_amount d_l_stall d_l_deep d_l_odd d_l_row d_l_bad_row d_l_move d_l_bad_deal d_l_is_some d_l_is_row d_l_is_below d_l_is_move d_l_due d_l_answer d_l_word d_l_word_is_due d_law d_BadDeal_init d_Web_init d_Web_eq : FuncData}
def sp_pick (M : Nat) : Sp := fun vs H Q _ => ∃ (D C : Addr) (many : Int) (c : Nat), vs = [.ref D, .int many] ∧ (0 < many ∧ many.natAbs < 2 ^ 64) ∧ Deck M D C H c ∧ c ≤ 2 ^ 40 ∧
  ∀ H' r, Fw D H H' → Deck M D C H' (c + 1) → 0 ≤ r → r < many → Q (.int r) H'
theorem ok_pick {M : Nat} (hM : 64 ≤ M) (hM2 : M ≤ 1048576) (T : Txt K mg f_is_integer f_is_row f_is_fraction f_is_amount f_is_some f_are_amounts f_added f_negated f_lessened f_multiplied f_divided f_squared f_summed f_lies_below f_is_stall f_hold_of f_stalls_of f_kept_of f_held f_is_index f_is_move f_check_purse f_check_wish f_stall_led f_stall_behind f_stalls_behind f_deal_fault f_check_deal f_web_behind f_left_with f_played f_owes f_is_deal f_stands_alike f_check_alike f_change_of f_l_deck f_l_pick f_l_fold f_l_divisor f_l_made f_l_amount f_l_stall f_l_deep f_l_odd f_l_row f_l_bad_row f_l_move f_l_bad_deal f_l_is_some f_l_is_row f_l_is_below f_l_is_move f_l_due f_l_answer f_l_word f_l_word_is_due f_law f_BadDeal_init f_Web_init f_Web_eq c_BadPurse c_BadWish c_BadDeal c_Web c_ZERO d_is_integer d_is_row d_is_fraction d_is_amount d_is_some d_are_amounts d_added d_negated d_lessened d_multiplied d_divided d_squared d_summed d_lies_below d_is_stall d_hold_of d_stalls_of d_kept_of d_held d_is_index d_is_move d_check_purse d_check_wish d_stall_led d_stall_behind d_stalls_behind d_deal_fault d_check_deal d_web_behind d_left_with d_played d_owes d_is_deal d_stands_alike d_check_alike d_change_of d_l_deck d_l_pick d_l_fold d_l_divisor d_l_made d_l_amount d_l_stall d_l_deep d_l_odd d_l_row d_l_bad_row d_l_move d_l_bad_deal d_l_is_some d_l_is_row d_l_is_below d_l_is_move d_l_due d_l_answer d_l_word d_l_word_is_due d_law d_BadDeal_init d_Web_init d_Web_eq) : FnOk P w K mg base CX0 1 f_l_pick d_l_pick ["_law_deck_here", "_law_many"] (sp_pick M) := by
  refine T.F_l_pick.ok sc_l_pick (fun vs H Q E h => ?_) (fun cdv A outer s H vs Q E hr h => ?_)
  · obtain ⟨D, C, many, c, rfl, _⟩ := h
    rfl
  · obtain ⟨D, C, many, c, rfl, ⟨hm0, hm1⟩, ⟨cells, pl, rest, cnt, hCD, hD, hC, hlen, hb, ⟨hr0, hr1⟩, hc0, hc1⟩, hc, q⟩ := h
    have cd : ∀ i : Int, CDivX i many := fun i => cdivx (by omega) hm1 (by decide)
    refine ⟨_, (pss_cons (ps_asg (pe_op op_add (pe_ix ix_list (pv 0) pe_int (fun _ _ => rfl)) pe_int) (pg_sub (pv 0) pe_int set_list))
      (pss_cons (ps_if (pt_cmpR op_gt (pe_ix ix_list (pv 0) pe_int (fun _ _ => rfl)) pe_int (nomark _))
        (pss_cons (ps_set (i := 2) sc_l_pick.nd rfl (by first | exact Or.inl rfl | exact Or.inr rfl) (pe_op op_mod (pe_callTy call_intN (by rfl) T.z_int (by decide +kernel) (pa_cons (pe_ix ix_list (pv 0) pe_int (fun _ _ => rfl)) pa_nil)) (pv 1)))
          (pss_cons (ps_asg (pe_op op_fdivX (pe_callTy call_intN (by rfl) T.z_int (by decide +kernel) (pa_cons (pe_ix ix_list (pv 0) pe_int (fun _ _ => rfl)) pa_nil)) (pv 1)) (pg_sub (pv 0) pe_int set_list))
          (pss_one (ps_ret (pv 2)))))
        pss_nil)
      (pss_cons (ps_set (i := 3) sc_l_pick.nd rfl (by first | exact Or.inl rfl | exact Or.inr rfl) (pe_ix ix_list (pv 0) pe_int (fun _ _ => rfl)))
      (pss_cons (ps_set (i := 4) sc_l_pick.nd rfl (by first | exact Or.inl rfl | exact Or.inr rfl) pe_int)
      (pss_cons (ps_if (pt_cmpR op_gt (pe_callB call_lenN (by rfl) T.z_len (by decide +kernel) (pa_cons (pv 3) pa_nil)) pe_int (nomark _))
        (pss_one (ps_set (i := 4) sc_l_pick.nd rfl (by first | exact Or.inl rfl | exact Or.inr rfl) (pe_ix ix_list (pv 3) (pe_op op_mod (pe_callTy call_intN (by rfl) T.z_int (by decide +kernel) (pa_cons (pe_ix ix_list (pv 0) pe_int (fun _ _ => rfl)) pa_nil)) (pe_callB call_lenN (by rfl) T.z_len (by decide +kernel) (pa_cons (pv 3) pa_nil))) (fun _ _ => rfl))))
        pss_nil)
      (pss_cons (ps_asg (pe_op op_add (pe_ix ix_list (pv 0) pe_int (fun _ _ => rfl)) pe_int) (pg_sub (pv 0) pe_int set_list))
      (pss_cons (ps_if (PW.pt (pw_and (pt_cmpR op_ge (pv 4) (pe_op op_pow pe_int pe_int) (nomark _)) (pw_and1 (pt_cmpR op_le (pe_ix ix_list (pv 0) pe_int (fun _ _ => rfl)) (pe_callB call_lenN (by rfl) T.z_len (by decide +kernel) (pa_cons (pv 3) pa_nil)) (nomark _)))))
        (pss_cons (ps_asg (pe_op op_fdivX (pe_callTy call_intN (by rfl) T.z_int (by decide +kernel) (pa_cons (pv 4) pa_nil)) (pv 1)) (pg_sub (pv 0) pe_int set_list))
          (pss_one (ps_ret (pe_op op_mod (pe_callTy call_intN (by rfl) T.z_int (by decide +kernel) (pa_cons (pv 4) pa_nil)) (pv 1)))))
        pss_nil)
      (pss_cons (ps_set (i := 5) sc_l_pick.nd rfl (by first | exact Or.inl rfl | exact Or.inr rfl) (pe_op op_mod (pe_op op_mulX (pe_callTy call_intN (by rfl) T.z_int (by decide +kernel) (pa_cons (pe_op op_add (pe_op op_add (pv 4) (pe_op op_mulX pe_int (pe_ix ix_list (pv 0) pe_int (fun _ _ => rfl)))) pe_int) pa_nil)) pe_int) pe_int))
      (pss_cons (ps_set (i := 5) sc_l_pick.nd rfl (by first | exact Or.inl rfl | exact Or.inr rfl) (pe_op op_mod (pe_op op_mulX (pv 5) (pe_op op_add (pe_op op_fdivX (pv 5) pe_int) pe_int)) pe_int))
      (pss_cons (ps_set (i := 5) sc_l_pick.nd rfl (by first | exact Or.inl rfl | exact Or.inr rfl) (pe_op op_mod (pe_op op_mulX (pv 5) (pe_op op_add (pe_op op_fdivX (pv 5) pe_int) pe_int)) pe_int))
      (pss_one (ps_ret (pe_op op_mod (pv 5) (pv 1)))))))))))))), ?_⟩
    walk_at "r"
    walk_at "if"
    · walk_at "r"
      refine q _ _ (fw_upd.trans fw_upd) ?_ (mod_rng _ hm0).1 (mod_rng _ hm0).2
      exact ⟨cells, pl, rest.fdiv many, cnt + 1, hCD, upd_same, by walk_at "hp", hlen, hb, div_small hr0 hr1 hm0, by omega, by omega⟩
    · walk_at "r"
      have hcl : 0 < (cells.map V.int).length → ∃ z, z ∈ cells ∧ atI (cells.map V.int) (pl % ((cells.map V.int).length : Nat)) = some (.int z) := fun h => at_ints (mod_rng _ (by omega)).1 (mod_rng _ (by omega)).2
      have hz0 : (0 : Int).natAbs < 2 ^ M := Nat.two_pow_pos M
      walk_at "if"
      · obtain ⟨z, hz, ez⟩ := hcl (by omega)
        have hz0 := hb z hz
        walk_at "r"
        refine ⟨_, _, _, .int z, rfl, rfl, SqL.of ?_, ez, ?_⟩
        · walk_at "hp"
        walk_at "r"
        walk_at "if"
        · walk_at "r"
          walk_at "if"
          · walk_at "r"
            have t18 := ten18
            refine q _ _ ((fw_upd.trans fw_upd).trans fw_upd) ?_ (mod_rng _ hm0).1 (mod_rng _ hm0).2
            exact ⟨cells, pl + 1, z.fdiv many, cnt + 1, hCD, upd_same, by walk_at "hp", hlen, hb, div_small (by omega) hz0 hm0, by omega, by omega⟩
          · walk_at "r"
            · refine q _ _ (fw_upd.trans fw_upd) ?_ (mod_rng _ hm0).1 (mod_rng _ hm0).2
              exact ⟨cells, pl + 1, rest, cnt + 1, hCD, upd_same, by walk_at "hp", hlen, hb, ⟨hr0, hr1⟩, by omega, by omega⟩
            · exact pick_mul2 _ (by decide) (by decide) (by decide) (by decide)
            · exact pick_mul2 _ (by decide) (by decide) (by decide) (by decide)
            · exact cmul_big (pw_big hz0 hM hc0 hc1 hc) (by decide) (by omega)
            · exact cmul_small (by decide) (by omega)
        · walk_at "r"
          · refine q _ _ (fw_upd.trans fw_upd) ?_ (mod_rng _ hm0).1 (mod_rng _ hm0).2
            exact ⟨cells, pl + 1, rest, cnt + 1, hCD, upd_same, by walk_at "hp", hlen, hb, ⟨hr0, hr1⟩, by omega, by omega⟩
          · exact pick_mul2 _ (by decide) (by decide) (by decide) (by decide)
          · exact pick_mul2 _ (by decide) (by decide) (by decide) (by decide)
          · exact cmul_big (pw_big hz0 hM hc0 hc1 hc) (by decide) (by omega)
          · exact cmul_small (by decide) (by omega)
      · walk_at "r"
        · refine q _ _ (fw_upd.trans fw_upd) ?_ (mod_rng _ hm0).1 (mod_rng _ hm0).2
          exact ⟨cells, pl + 1, rest, cnt + 1, hCD, upd_same, by walk_at "hp", hlen, hb, ⟨hr0, hr1⟩, by omega, by omega⟩
        · exact pick_mul2 _ (by decide) (by decide) (by decide) (by decide)
        · exact pick_mul2 _ (by decide) (by decide) (by decide) (by decide)
        · exact cmul_big (pw_big hz0 hM hc0 hc1 hc) (by decide) (by omega)
        · exact cmul_small (by decide) (by omega)
end
end My
namespace My
open PySem PySem.Spec PyProof.Rows L2
section
variable {P : Program} {w : World} {K : PySem.W.Frag} {mg : Str → Option Value} {base : Heap} {f_is_integer f_is_row f_is_fraction f_is_amount f_is_some f_are_amounts f_added f_negated f_lessened f_multiplied f_divided f_squared f_summed f_lies_below f_is_stall f_hold_of f_stalls_of f_kept_of f_held f_is_index f_is_move f_check_purse f_check_wish f_stall_led f_stall_behind f_stalls_behind f_deal_fault f_check_deal f_web_behind f_left_with f_played f_owes f_is_deal f_stands_alike f_check_alike f_change_of f_l_deck f_l_pick f_l_fold f_l_divisor f_l_made f_l_amount f_l_stall f_l_deep f_l_odd f_l_row f_l_bad_row f_l_move f_l_bad_deal f_l_is_some f_l_is_row f_l_is_below f_l_is_move f_l_due f_l_answer f_l_word f_l_word_is_due f_law f_BadDeal_init f_Web_init f_Web_eq c_BadPurse c_BadWish c_BadDeal c_Web c_ZERO : Addr} {d_is_integer d_is_row d_is_fraction d_is_amount d_is_some d_are_amounts d_added d_negated d_lessened d_multiplied d_divided d_squared d_summed d_lies_below d_is_stall d_hold_of d_stalls_of d_kept_of d_held d_is_index d_is_move d_check_purse d_check_wish d_stall_led d_stall_behind d_stalls_behind d_deal_fault d_check_deal d_web_behind d_left_with d_played d_owes d_is_deal d_stands_alike d_check_alike d_change_of d_l_deck d_l_pick d_l_fold d_l_divisor d_l_made d_l_amount d_l_stall d_l_deep d_l_odd d_l_row d_l_bad_row d_l_move d_l_bad_deal d_l_is_some d_l_is_row d_l_is_below d_l_is_move d_l_due d_l_answer d_l_word d_l_word_is_due d_law d_BadDeal_init d_Web_init d_Web_eq : FuncData}
def sp_deck (K : PySem.W.Frag) : Sp := fun vs H Q _ => ∃ (a : Addr) (ns : List Int), vs = [.ref a] ∧ SqL K H a (ns.map V.int) ∧ ns.length ≤ 63 ∧ (∀ z ∈ ns, Builtin.Int.intBits z ≤ 1048576) ∧
  ∀ H' D C, Same H H' → Deck 1048576 D C H' 0 → Q (.ref D) H'
theorem ok_l_deck (T : Txt K mg f_is_integer f_is_row f_is_fraction f_is_amount f_is_some f_are_amounts f_added f_negated f_lessened f_multiplied f_divided f_squared f_summed f_lies_below f_is_stall f_hold_of f_stalls_of f_kept_of f_held f_is_index f_is_move f_check_purse f_check_wish f_stall_led f_stall_behind f_stalls_behind f_deal_fault f_check_deal f_web_behind f_left_with f_played f_owes f_is_deal f_stands_alike f_check_alike f_change_of f_l_deck f_l_pick f_l_fold f_l_divisor f_l_made f_l_amount f_l_stall f_l_deep f_l_odd f_l_row f_l_bad_row f_l_move f_l_bad_deal f_l_is_some f_l_is_row f_l_is_below f_l_is_move f_l_due f_l_answer f_l_word f_l_word_is_due f_law f_BadDeal_init f_Web_init f_Web_eq c_BadPurse c_BadWish c_BadDeal c_Web c_ZERO d_is_integer d_is_row d_is_fraction d_is_amount d_is_some d_are_amounts d_added d_negated d_lessened d_multiplied d_divided d_squared d_summed d_lies_below d_is_stall d_hold_of d_stalls_of d_kept_of d_held d_is_index d_is_move d_check_purse d_check_wish d_stall_led d_stall_behind d_stalls_behind d_deal_fault d_check_deal d_web_behind d_left_with d_played d_owes d_is_deal d_stands_alike d_check_alike d_change_of d_l_deck d_l_pick d_l_fold d_l_divisor d_l_made d_l_amount d_l_stall d_l_deep d_l_odd d_l_row d_l_bad_row d_l_move d_l_bad_deal d_l_is_some d_l_is_row d_l_is_below d_l_is_move d_l_due d_l_answer d_l_word d_l_word_is_due d_law d_BadDeal_init d_Web_init d_Web_eq) : FnOk P w K mg base CX0 1 f_l_deck d_l_deck ["_law_script"] (sp_deck K) := by
  refine T.F_l_deck.ok sc_l_deck (fun vs H Q E h => ?_) (fun cdv A outer s H vs Q E hr h => ?_)
  · obtain ⟨a, ns, rfl, _⟩ := h
    rfl
  · obtain ⟨a, ns, rfl, hS, hl, hb, q⟩ := h
    refine ⟨_, (pss_one (ps_ret (pe_lst (pa_cons (pe_lc (own := [("_law_cell", 1)]) (g := gName 1) rfl sc_l_deck.nd (pi_list (pe_slice sl_list (pv 0) po_none (po_some pe_int))) (blkOk_by (own := [("_law_cell", 1)]) (N := N_l_deck) (sc := defScope s_l_deck) (by decide +kernel)) (fun _ _ _ _ _ => (pg_name (i := 1) sc_l_deck.nd rfl (by first | exact Or.inl rfl | exact Or.inr rfl))) (fun _ _ _ _ _ => pts_nil) (fun _ _ _ _ _ => (pe_callTy call_intN (by rfl) T.z_int (by decide +kernel) (pa_cons (pv 1) pa_nil)))) (pa_cons pe_int (pa_cons pe_int (pa_cons pe_int pa_nil))))))), ?_⟩
    walk_at "r"
    refine rd_slL hS (fun p np => ?_)
    refine ⟨_, rfl, ⟨_, .of upd_same⟩, fun D nD => ?_⟩
    have hDp : D ≠ p := fun e => by
      rw [e, upd_same] at nD
      cases nD
    have hcut : cutV (ns.map V.int) none (some 63) = ns.map V.int := cut_all (n := 63) (by rw [List.length_map]; exact hl)
    refine lc_list (K := K) (a := p) (xs := ns.map V.int) (fun i H' => Same H H' ∧ H' p = some (.lst (ns.map V.int)) ∧ H' D = some (.lst ((ns.take i).map V.int))) ?_ ?_ ?_ ?_
    · refine ⟨(same_upd np).trans (same_upd nD), ?_, upd_same⟩
      rw [upd_ne hDp.symm, upd_same, hcut]
    · intro i H' _ h
      exact .of h.2.1
    · rintro i x H' hx ⟨s1, s2, s3⟩
      obtain ⟨z, rfl, hz, et⟩ := take_succ_map hx
      walk_at "r"
      refine ⟨rfl, ?_⟩
      walk_at "r"
      refine ⟨_, s3, ?_, fun b o e => ?_, ?_, ?_⟩
      · rw [List.length_map, List.length_take]
        exact Nat.lt_of_le_of_lt (Nat.min_le_right _ _) (small1000 (by omega))
      · have nb : b ≠ D := fun e' => by
          rw [e', (same_upd np).free nD] at e
          cases e
        rw [upd_ne nb]
        exact s1 b o e
      · rw [upd_ne hDp.symm]
        exact s2
      · rw [upd_same, et]
    · rintro H' ⟨s1, s2, s3⟩
      have hlen : (ns.map V.int).length = ns.length := List.length_map ..
      rw [hlen, List.take_of_length_le (Nat.le_refl _)] at s3
      walk_at "r"
      intro D' nD'
      have hDD : D ≠ D' := ne_of_none s3 nD'
      refine q _ _ _ (s1.trans (same_upd nD')) ⟨ns, 0, 0, 0, hDD, upd_same, ?_, hl, fun z hz => bits_lt (hb z hz), ⟨by decide, Nat.two_pow_pos _⟩, by decide, by decide⟩
      rw [upd_ne hDD]
      exact s3
def sp_divisor : Sp := fun vs H Q _ => ∃ a b : Int, vs = [.int a, .int b] ∧ b.natAbs < 2 ^ 20000 ∧ Q (.int (a.natAbs.gcd b.natAbs : Nat)) H
theorem ok_l_divisor (T : Txt K mg f_is_integer f_is_row f_is_fraction f_is_amount f_is_some f_are_amounts f_added f_negated f_lessened f_multiplied f_divided f_squared f_summed f_lies_below f_is_stall f_hold_of f_stalls_of f_kept_of f_held f_is_index f_is_move f_check_purse f_check_wish f_stall_led f_stall_behind f_stalls_behind f_deal_fault f_check_deal f_web_behind f_left_with f_played f_owes f_is_deal f_stands_alike f_check_alike f_change_of f_l_deck f_l_pick f_l_fold f_l_divisor f_l_made f_l_amount f_l_stall f_l_deep f_l_odd f_l_row f_l_bad_row f_l_move f_l_bad_deal f_l_is_some f_l_is_row f_l_is_below f_l_is_move f_l_due f_l_answer f_l_word f_l_word_is_due f_law f_BadDeal_init f_Web_init f_Web_eq c_BadPurse c_BadWish c_BadDeal c_Web c_ZERO d_is_integer d_is_row d_is_fraction d_is_amount d_is_some d_are_amounts d_added d_negated d_lessened d_multiplied d_divided d_squared d_summed d_lies_below d_is_stall d_hold_of d_stalls_of d_kept_of d_held d_is_index d_is_move d_check_purse d_check_wish d_stall_led d_stall_behind d_stalls_behind d_deal_fault d_check_deal d_web_behind d_left_with d_played d_owes d_is_deal d_stands_alike d_check_alike d_change_of d_l_deck d_l_pick d_l_fold d_l_divisor d_l_made d_l_amount d_l_stall d_l_deep d_l_odd d_l_row d_l_bad_row d_l_move d_l_bad_deal d_l_is_some d_l_is_row d_l_is_below d_l_is_move d_l_due d_l_answer d_l_word d_l_word_is_due d_law d_BadDeal_init d_Web_init d_Web_eq) : FnOk P w K mg base CX0 1 f_l_divisor d_l_divisor ["_law_one", "_law_other"] sp_divisor := by
  refine T.F_l_divisor.ok sc_l_divisor (fun vs H Q E h => ?_) (fun cdv A outer s H vs Q E hr h => ?_)
  · obtain ⟨a, b, rfl, _⟩ := h
    rfl
  · obtain ⟨a, b, rfl, hb, q⟩ := h
    have hbits : Builtin.Int.intBits (b.natAbs : Nat) ≤ 20000 := by
      have h := PyProof.Rows.intBits_le (a := (b.natAbs : Int)) (by rw [Int.natAbs_natCast]; exact hb)
      exact h
    have hlt := bits_lt (z := (b.natAbs : Int)) (Nat.le_refl _)
    rw [Int.natAbs_natCast] at hlt
    refine ⟨_, (pss_cons (ps_set (i := 0) sc_l_divisor.nd rfl (by first | exact Or.inl rfl | exact Or.inr rfl) (pe_callB call_absN (by rfl) T.z_abs (by decide +kernel) (pa_cons (pv 0) pa_nil)))
      (pss_cons (ps_set (i := 1) sc_l_divisor.nd rfl (by first | exact Or.inl rfl | exact Or.inr rfl) (pe_callB call_absN (by rfl) T.z_abs (by decide +kernel) (pa_cons (pv 1) pa_nil)))
      (pss_cons (ps_for PassesOwn.never rfl (pi_range1 (by rfl) T.z_range (pa_cons (pe_op op_add (pe_op op_mulX pe_int (pe_bits (pv 1))) pe_int) pa_nil)) (pg_name (i := 2) sc_l_divisor.nd rfl (by first | exact Or.inl rfl | exact Or.inr rfl))
        (pss_cons (ps_if (pt_cmpR op_eq (pv 1) pe_int (nomark _))
            (pss_one (ps_ret (pv 0)))
            pss_nil)
          (pss_cons (ps_set (i := 3) sc_l_divisor.nd rfl (by first | exact Or.inl rfl | exact Or.inr rfl) (pe_op op_mod (pe_callTy call_intN (by rfl) T.z_int (by decide +kernel) (pa_cons (pv 0) pa_nil)) (pv 1)))
          (pss_cons (ps_set (i := 0) sc_l_divisor.nd rfl (by first | exact Or.inl rfl | exact Or.inr rfl) (pv 1))
          (pss_one (ps_set (i := 1) sc_l_divisor.nd rfl (by first | exact Or.inl rfl | exact Or.inr rfl) (pv 3)))))))
      (pss_one (ps_ret (pv 0)))))), ?_⟩
    walk_at "r"
    · refine ⟨by omega, by omega, ?_⟩
      generalize Builtin.Int.intBits (b.natAbs : Int) = k at *
      have hN : (2 * (k : Int) + 2).toNat = 2 * k + 2 := by omega
      rw [hN]
      refine for_range (lo := 0) (n := 2 * k + 2) (fun i σ H' => ∃ (x y : Nat) (t r : Option V), σ = [some (.int x), some (.int y), t, r] ∧ H' = H ∧ Euc (a.natAbs.gcd b.natAbs) b.natAbs i x y) ?_ ?_ ?_
      · exact ⟨a.natAbs, b.natAbs, none, none, rfl, rfl, ⟨rfl, by simp, fun h => absurd rfl h⟩⟩
      · rintro i σ H' hi ⟨x, y, t, r, rfl, rfl, e⟩
        walk_at "r"
        walk_at "if"
        · rename_i hy
          have hy0 : y = 0 := by omega
          have g := e.g
          rw [hy0, Nat.gcd_zero_right] at g
          walk_at "r"
          rw [g]
          exact q
        · rename_i hy
          walk_at "r"
          exact ⟨y, x % y, _, _, rfl, rfl, e.step (by omega)⟩
      · rintro σ H' ⟨x, y, t, r, rfl, rfl, e⟩
        obtain ⟨_, hx⟩ := e.done hlt
        walk_at "r"
        rw [hx]
        exact q
    · exact cmul_small (by decide) (by omega)
end
end My
namespace My
open PySem PySem.Spec PyProof.Rows L2
variable {K : PySem.W.Frag}
section
variable {P : Program} {w : World} {K : PySem.W.Frag} {mg : Str → Option Value} {base : Heap} {f_is_integer f_is_row f_is_fraction f_is_amount f_is_some f_are_amounts f_added f_negated f_lessened f_multiplied f_divided f_squared f_summed f_lies_below f_is_stall f_hold_of f_stalls_of f_kept_of f_held f_is_index f_is_move f_check_purse f_check_wish f_stall_led f_stall_behind f_stalls_behind f_deal_fault f_check_deal f_web_behind f_left_with f_played f_owes f_is_deal f_stands_alike f_check_alike f_change_of f_l_deck f_l_pick f_l_fold f_l_divisor f_l_made f_l_amount f_l_stall f_l_deep f_l_odd f_l_row f_l_bad_row f_l_move f_l_bad_deal f_l_is_some f_l_is_row f_l_is_below f_l_is_move f_l_due f_l_answer f_l_word f_l_word_is_due f_law f_BadDeal_init f_Web_init f_Web_eq c_BadPurse c_BadWish c_BadDeal c_Web c_ZERO : Addr} {d_is_integer d_is_row d_is_fraction d_is_amount d_is_some d_are_amounts d_added d_negated d_lessened d_multiplied d_divided d_squared d_summed d_lies_below d_is_stall d_hold_of d_stalls_of d_kept_of d_held d_is_index d_is_move d_check_purse d_check_wish d_stall_led d_stall_behind d_stalls_behind d_deal_fault d_check_deal d_web_behind d_left_with d_played d_owes d_is_deal d_stands_alike d_check_alike d_change_of d_l_deck d_l_pick d_l_fold d_l_divisor d_l_made d_l_amount d_l_stall d_l_deep d_l_odd d_l_row d_l_bad_row d_l_move d_l_bad_deal d_l_is_some d_l_is_row d_l_is_below d_l_is_move d_l_due d_l_answer d_l_word d_l_word_is_due d_law d_BadDeal_init d_Web_init d_Web_eq : FuncData}
/-- two fractions in, one out -/
def sp_two (K : PySem.W.Frag) (f : Rat → Rat → Rat) (C : Rat → Rat → Prop) : Sp := fun vs H Q _ => ∃ x y r s, vs = [x, y] ∧ IsF K H x r ∧ IsF K H y s ∧ Bd 4000 r ∧ Bd 4000 s ∧ C r s ∧ ∀ H' v, Same H H' → IsF K H' v (f r s) → Q v H'
def sp_added (K : PySem.W.Frag) : Sp := sp_two K (· + ·) fun _ _ => True
theorem ok_added (T : Txt K mg f_is_integer f_is_row f_is_fraction f_is_amount f_is_some f_are_amounts f_added f_negated f_lessened f_multiplied f_divided f_squared f_summed f_lies_below f_is_stall f_hold_of f_stalls_of f_kept_of f_held f_is_index f_is_move f_check_purse f_check_wish f_stall_led f_stall_behind f_stalls_behind f_deal_fault f_check_deal f_web_behind f_left_with f_played f_owes f_is_deal f_stands_alike f_check_alike f_change_of f_l_deck f_l_pick f_l_fold f_l_divisor f_l_made f_l_amount f_l_stall f_l_deep f_l_odd f_l_row f_l_bad_row f_l_move f_l_bad_deal f_l_is_some f_l_is_row f_l_is_below f_l_is_move f_l_due f_l_answer f_l_word f_l_word_is_due f_law f_BadDeal_init f_Web_init f_Web_eq c_BadPurse c_BadWish c_BadDeal c_Web c_ZERO d_is_integer d_is_row d_is_fraction d_is_amount d_is_some d_are_amounts d_added d_negated d_lessened d_multiplied d_divided d_squared d_summed d_lies_below d_is_stall d_hold_of d_stalls_of d_kept_of d_held d_is_index d_is_move d_check_purse d_check_wish d_stall_led d_stall_behind d_stalls_behind d_deal_fault d_check_deal d_web_behind d_left_with d_played d_owes d_is_deal d_stands_alike d_check_alike d_change_of d_l_deck d_l_pick d_l_fold d_l_divisor d_l_made d_l_amount d_l_stall d_l_deep d_l_odd d_l_row d_l_bad_row d_l_move d_l_bad_deal d_l_is_some d_l_is_row d_l_is_below d_l_is_move d_l_due d_l_answer d_l_word d_l_word_is_due d_law d_BadDeal_init d_Web_init d_Web_eq) : FnOk P w K mg base CX0 1 f_added d_added ["one", "other"] (sp_added K) := by
  refine T.F_added.ok sc_added (fun vs H Q E h => ?_) (fun cdv A outer s H vs Q E hr h => ?_)
  · obtain ⟨x, y, r, s, rfl, _⟩ := h
    rfl
  · obtain ⟨x, y, r, s, rfl, ⟨p1, rfl, h1⟩, ⟨p2, rfl, h2⟩, b1, b2, -, q⟩ := h
    obtain ⟨m1, m2, m3, m4, m5, m6, m7⟩ := added_math b1 b2 _ _ _ rfl rfl rfl
    refine ⟨_, (pss_cons (ps_set (i := 2) sc_added.nd rfl (by first | exact Or.inl rfl | exact Or.inr rfl) (pe_callBfun cr_gcd (by rfl) T.m_gcd (pa_cons (pe_ix ix_tup (pv 0) pe_int (fun _ _ => rfl)) (pa_cons (pe_ix ix_tup (pv 1) pe_int (fun _ _ => rfl)) pa_nil))))
      (pss_cons (ps_set (i := 3) sc_added.nd rfl (by first | exact Or.inl rfl | exact Or.inr rfl) (pe_op op_fdivX (pe_ix ix_tup (pv 0) pe_int (fun _ _ => rfl)) (pv 2)))
      (pss_cons (ps_set (i := 4) sc_added.nd rfl (by first | exact Or.inl rfl | exact Or.inr rfl) (pe_op op_add (pe_op op_mulX (pe_ix ix_tup (pv 0) pe_int (fun _ _ => rfl)) (pe_op op_fdivX (pe_ix ix_tup (pv 1) pe_int (fun _ _ => rfl)) (pv 2))) (pe_op op_mulX (pe_ix ix_tup (pv 1) pe_int (fun _ _ => rfl)) (pv 3))))
      (pss_cons (ps_set (i := 5) sc_added.nd rfl (by first | exact Or.inl rfl | exact Or.inr rfl) (pe_callBfun cr_gcd (by rfl) T.m_gcd (pa_cons (pv 4) (pa_cons (pv 2) pa_nil))))
      (pss_one (ps_ret (pe_tup (pa_cons (pe_op op_fdivX (pv 4) (pv 5)) (pa_cons (pe_op op_mulX (pv 3) (pe_op op_fdivX (pe_ix ix_tup (pv 1) pe_int (fun _ _ => rfl)) (pv 5))) pa_nil))))))))), ?_⟩
    walk_at "r"
    · intro p np
      exact q _ _ (same_upd np) (isF_new m6 m7)
    all_goals first | assumption | exact m1 _ | exact m4 _
def sp_multiplied (K : PySem.W.Frag) : Sp := sp_two K (· * ·) fun _ _ => True
theorem ok_multiplied (T : Txt K mg f_is_integer f_is_row f_is_fraction f_is_amount f_is_some f_are_amounts f_added f_negated f_lessened f_multiplied f_divided f_squared f_summed f_lies_below f_is_stall f_hold_of f_stalls_of f_kept_of f_held f_is_index f_is_move f_check_purse f_check_wish f_stall_led f_stall_behind f_stalls_behind f_deal_fault f_check_deal f_web_behind f_left_with f_played f_owes f_is_deal f_stands_alike f_check_alike f_change_of f_l_deck f_l_pick f_l_fold f_l_divisor f_l_made f_l_amount f_l_stall f_l_deep f_l_odd f_l_row f_l_bad_row f_l_move f_l_bad_deal f_l_is_some f_l_is_row f_l_is_below f_l_is_move f_l_due f_l_answer f_l_word f_l_word_is_due f_law f_BadDeal_init f_Web_init f_Web_eq c_BadPurse c_BadWish c_BadDeal c_Web c_ZERO d_is_integer d_is_row d_is_fraction d_is_amount d_is_some d_are_amounts d_added d_negated d_lessened d_multiplied d_divided d_squared d_summed d_lies_below d_is_stall d_hold_of d_stalls_of d_kept_of d_held d_is_index d_is_move d_check_purse d_check_wish d_stall_led d_stall_behind d_stalls_behind d_deal_fault d_check_deal d_web_behind d_left_with d_played d_owes d_is_deal d_stands_alike d_check_alike d_change_of d_l_deck d_l_pick d_l_fold d_l_divisor d_l_made d_l_amount d_l_stall d_l_deep d_l_odd d_l_row d_l_bad_row d_l_move d_l_bad_deal d_l_is_some d_l_is_row d_l_is_below d_l_is_move d_l_due d_l_answer d_l_word d_l_word_is_due d_law d_BadDeal_init d_Web_init d_Web_eq) : FnOk P w K mg base CX0 1 f_multiplied d_multiplied ["one", "other"] (sp_multiplied K) := by
  refine T.F_multiplied.ok sc_multiplied (fun vs H Q E h => ?_) (fun cdv A outer s H vs Q E hr h => ?_)
  · obtain ⟨x, y, r, s, rfl, _⟩ := h
    rfl
  · obtain ⟨x, y, r, s, rfl, ⟨p1, rfl, h1⟩, ⟨p2, rfl, h2⟩, b1, b2, -, q⟩ := h
    obtain ⟨m1, m2, m3, m4, m5, m6⟩ := mul_math b1 b2 _ _ rfl rfl
    refine ⟨_, (pss_cons (ps_set (i := 2) sc_multiplied.nd rfl (by first | exact Or.inl rfl | exact Or.inr rfl) (pe_callBfun cr_gcd (by rfl) T.m_gcd (pa_cons (pe_ix ix_tup (pv 0) pe_int (fun _ _ => rfl)) (pa_cons (pe_ix ix_tup (pv 1) pe_int (fun _ _ => rfl)) pa_nil))))
      (pss_cons (ps_set (i := 3) sc_multiplied.nd rfl (by first | exact Or.inl rfl | exact Or.inr rfl) (pe_callBfun cr_gcd (by rfl) T.m_gcd (pa_cons (pe_ix ix_tup (pv 1) pe_int (fun _ _ => rfl)) (pa_cons (pe_ix ix_tup (pv 0) pe_int (fun _ _ => rfl)) pa_nil))))
      (pss_one (ps_ret (pe_tup (pa_cons (pe_op op_mulX (pe_op op_fdivX (pe_ix ix_tup (pv 0) pe_int (fun _ _ => rfl)) (pv 2)) (pe_op op_fdivX (pe_ix ix_tup (pv 1) pe_int (fun _ _ => rfl)) (pv 3))) (pa_cons (pe_op op_mulX (pe_op op_fdivX (pe_ix ix_tup (pv 0) pe_int (fun _ _ => rfl)) (pv 3)) (pe_op op_fdivX (pe_ix ix_tup (pv 1) pe_int (fun _ _ => rfl)) (pv 2))) pa_nil))))))), ?_⟩
    walk_at "r"
    · intro p np
      exact q _ _ (same_upd np) (isF_new m5 m6)
    all_goals first | assumption | exact m1 _ | exact m2 _
def sp_negated (K : PySem.W.Frag) : Sp := fun vs H Q _ => ∃ x r, vs = [x] ∧ IsF K H x r ∧ ∀ H' v, Same H H' → IsF K H' v (-r) → Q v H'
theorem ok_negated (T : Txt K mg f_is_integer f_is_row f_is_fraction f_is_amount f_is_some f_are_amounts f_added f_negated f_lessened f_multiplied f_divided f_squared f_summed f_lies_below f_is_stall f_hold_of f_stalls_of f_kept_of f_held f_is_index f_is_move f_check_purse f_check_wish f_stall_led f_stall_behind f_stalls_behind f_deal_fault f_check_deal f_web_behind f_left_with f_played f_owes f_is_deal f_stands_alike f_check_alike f_change_of f_l_deck f_l_pick f_l_fold f_l_divisor f_l_made f_l_amount f_l_stall f_l_deep f_l_odd f_l_row f_l_bad_row f_l_move f_l_bad_deal f_l_is_some f_l_is_row f_l_is_below f_l_is_move f_l_due f_l_answer f_l_word f_l_word_is_due f_law f_BadDeal_init f_Web_init f_Web_eq c_BadPurse c_BadWish c_BadDeal c_Web c_ZERO d_is_integer d_is_row d_is_fraction d_is_amount d_is_some d_are_amounts d_added d_negated d_lessened d_multiplied d_divided d_squared d_summed d_lies_below d_is_stall d_hold_of d_stalls_of d_kept_of d_held d_is_index d_is_move d_check_purse d_check_wish d_stall_led d_stall_behind d_stalls_behind d_deal_fault d_check_deal d_web_behind d_left_with d_played d_owes d_is_deal d_stands_alike d_check_alike d_change_of d_l_deck d_l_pick d_l_fold d_l_divisor d_l_made d_l_amount d_l_stall d_l_deep d_l_odd d_l_row d_l_bad_row d_l_move d_l_bad_deal d_l_is_some d_l_is_row d_l_is_below d_l_is_move d_l_due d_l_answer d_l_word d_l_word_is_due d_law d_BadDeal_init d_Web_init d_Web_eq) : FnOk P w K mg base CX0 1 f_negated d_negated ["one"] (sp_negated K) := by
  refine T.F_negated.ok sc_negated (fun vs H Q E h => ?_) (fun cdv A outer s H vs Q E hr h => ?_)
  · obtain ⟨x, r, rfl, _⟩ := h
    rfl
  · obtain ⟨x, r, rfl, ⟨p1, rfl, h1⟩, q⟩ := h
    refine ⟨_, (pss_one (ps_ret (pe_tup (pa_cons (pe_un un_neg (pe_ix ix_tup (pv 0) pe_int (fun _ _ => rfl))) (pa_cons (pe_ix ix_tup (pv 0) pe_int (fun _ _ => rfl)) pa_nil))))), ?_⟩
    walk_at "r"
    intro p np
    exact q _ _ (same_upd np) (isF_new rfl rfl)
def sp_lessened (K : PySem.W.Frag) : Sp := sp_two K (· - ·) fun _ _ => True
theorem ok_lessened (T : Txt K mg f_is_integer f_is_row f_is_fraction f_is_amount f_is_some f_are_amounts f_added f_negated f_lessened f_multiplied f_divided f_squared f_summed f_lies_below f_is_stall f_hold_of f_stalls_of f_kept_of f_held f_is_index f_is_move f_check_purse f_check_wish f_stall_led f_stall_behind f_stalls_behind f_deal_fault f_check_deal f_web_behind f_left_with f_played f_owes f_is_deal f_stands_alike f_check_alike f_change_of f_l_deck f_l_pick f_l_fold f_l_divisor f_l_made f_l_amount f_l_stall f_l_deep f_l_odd f_l_row f_l_bad_row f_l_move f_l_bad_deal f_l_is_some f_l_is_row f_l_is_below f_l_is_move f_l_due f_l_answer f_l_word f_l_word_is_due f_law f_BadDeal_init f_Web_init f_Web_eq c_BadPurse c_BadWish c_BadDeal c_Web c_ZERO d_is_integer d_is_row d_is_fraction d_is_amount d_is_some d_are_amounts d_added d_negated d_lessened d_multiplied d_divided d_squared d_summed d_lies_below d_is_stall d_hold_of d_stalls_of d_kept_of d_held d_is_index d_is_move d_check_purse d_check_wish d_stall_led d_stall_behind d_stalls_behind d_deal_fault d_check_deal d_web_behind d_left_with d_played d_owes d_is_deal d_stands_alike d_check_alike d_change_of d_l_deck d_l_pick d_l_fold d_l_divisor d_l_made d_l_amount d_l_stall d_l_deep d_l_odd d_l_row d_l_bad_row d_l_move d_l_bad_deal d_l_is_some d_l_is_row d_l_is_below d_l_is_move d_l_due d_l_answer d_l_word d_l_word_is_due d_law d_BadDeal_init d_Web_init d_Web_eq) : FnOk P w K mg base CX0 2 f_lessened d_lessened ["one", "other"] (sp_lessened K) := by
  have G_negated : FnOk P w K mg base CX0 1 f_negated d_negated ["one"] (sp_negated K) := ok_negated T
  have G_added : FnOk P w K mg base CX0 1 f_added d_added ["one", "other"] (sp_added K) := ok_added T
  refine T.F_lessened.ok sc_lessened (fun vs H Q E h => ?_) (fun cdv A outer s H vs Q E hr h => ?_)
  · obtain ⟨x, y, r, s, rfl, _⟩ := h
    rfl
  · obtain ⟨x, y, r, s, rfl, h1, h2, b1, b2, -, q⟩ := h
    refine ⟨_, (pss_one (ps_ret (pe_call G_added (hr.mono (by decide)) (by rfl) T.g_added T.k_added T.b_added .nil pass0 (pa_cons (pv 0) (pa_cons (pe_call G_negated (hr.mono (by decide)) (by rfl) T.g_negated T.k_negated T.b_negated .nil pass0 (pa_cons (pv 1) pa_nil)) pa_nil))))), ?_⟩
    walk_at "r"
    refine ⟨_, _, rfl, h2, fun H1 v s1 hv => ?_⟩
    walk_at "r"
    refine ⟨_, _, _, _, rfl, h1.same s1, hv, b1, b2.neg, trivial, fun H2 u s2 hu => ?_⟩
    exact q _ _ (s1.trans s2) (by show IsF K H2 u (r - s); rw [Rat.sub_eq_add_neg]; exact hu)
def sp_divided (K : PySem.W.Frag) : Sp := sp_two K (· / ·) fun _ s => s ≠ 0
theorem ok_divided (T : Txt K mg f_is_integer f_is_row f_is_fraction f_is_amount f_is_some f_are_amounts f_added f_negated f_lessened f_multiplied f_divided f_squared f_summed f_lies_below f_is_stall f_hold_of f_stalls_of f_kept_of f_held f_is_index f_is_move f_check_purse f_check_wish f_stall_led f_stall_behind f_stalls_behind f_deal_fault f_check_deal f_web_behind f_left_with f_played f_owes f_is_deal f_stands_alike f_check_alike f_change_of f_l_deck f_l_pick f_l_fold f_l_divisor f_l_made f_l_amount f_l_stall f_l_deep f_l_odd f_l_row f_l_bad_row f_l_move f_l_bad_deal f_l_is_some f_l_is_row f_l_is_below f_l_is_move f_l_due f_l_answer f_l_word f_l_word_is_due f_law f_BadDeal_init f_Web_init f_Web_eq c_BadPurse c_BadWish c_BadDeal c_Web c_ZERO d_is_integer d_is_row d_is_fraction d_is_amount d_is_some d_are_amounts d_added d_negated d_lessened d_multiplied d_divided d_squared d_summed d_lies_below d_is_stall d_hold_of d_stalls_of d_kept_of d_held d_is_index d_is_move d_check_purse d_check_wish d_stall_led d_stall_behind d_stalls_behind d_deal_fault d_check_deal d_web_behind d_left_with d_played d_owes d_is_deal d_stands_alike d_check_alike d_change_of d_l_deck d_l_pick d_l_fold d_l_divisor d_l_made d_l_amount d_l_stall d_l_deep d_l_odd d_l_row d_l_bad_row d_l_move d_l_bad_deal d_l_is_some d_l_is_row d_l_is_below d_l_is_move d_l_due d_l_answer d_l_word d_l_word_is_due d_law d_BadDeal_init d_Web_init d_Web_eq) : FnOk P w K mg base CX0 2 f_divided d_divided ["one", "other"] (sp_divided K) := by
  have G_multiplied : FnOk P w K mg base CX0 1 f_multiplied d_multiplied ["one", "other"] (sp_multiplied K) := ok_multiplied T
  refine T.F_divided.ok sc_divided (fun vs H Q E h => ?_) (fun cdv A outer s H vs Q E hr h => ?_)
  · obtain ⟨x, y, r, s, rfl, _⟩ := h
    rfl
  · obtain ⟨x, y, r, s, rfl, ⟨p1, rfl, h1⟩, ⟨p2, rfl, h2⟩, b1, b2, hz, q⟩ := h
    obtain ⟨i1, i2⟩ := inv_num hz
    refine ⟨_, (pss_cons (ps_if (pt_cmpR op_lt (pe_ix ix_tup (pv 1) pe_int (fun _ _ => rfl)) pe_int (nomark _))
        (pss_one (ps_ret (pe_call G_multiplied (hr.mono (by decide)) (by rfl) T.g_multiplied T.k_multiplied T.b_multiplied .nil pass0 (pa_cons (pv 0) (pa_cons (pe_tup (pa_cons (pe_un un_neg (pe_ix ix_tup (pv 1) pe_int (fun _ _ => rfl))) (pa_cons (pe_un un_neg (pe_ix ix_tup (pv 1) pe_int (fun _ _ => rfl))) pa_nil))) pa_nil)))))
        pss_nil)
      (pss_one (ps_ret (pe_call G_multiplied (hr.mono (by decide)) (by rfl) T.g_multiplied T.k_multiplied T.b_multiplied .nil pass0 (pa_cons (pv 0) (pa_cons (pe_tup (pa_cons (pe_ix ix_tup (pv 1) pe_int (fun _ _ => rfl)) (pa_cons (pe_ix ix_tup (pv 1) pe_int (fun _ _ => rfl)) pa_nil))) pa_nil)))))), ?_⟩
    walk_at "r"
    walk_at "if"
    · rename_i hn
      rw [if_pos hn] at i1 i2
      walk_at "r"
      intro p np
      walk_at "r"
      refine ⟨_, _, r, s⁻¹, rfl, ⟨p1, rfl, h1.same (same_upd np)⟩, isF_new i1.symm i2.symm, b1, b2.inv hz, trivial, fun H2 u s2 hu => ?_⟩
      exact q _ _ ((same_upd np).trans s2) hu
    · rename_i hn
      rw [if_neg hn] at i1 i2
      walk_at "r"
      intro p np
      walk_at "r"
      refine ⟨_, _, r, s⁻¹, rfl, ⟨p1, rfl, h1.same (same_upd np)⟩, isF_new i1.symm i2.symm, b1, b2.inv hz, trivial, fun H2 u s2 hu => ?_⟩
      exact q _ _ ((same_upd np).trans s2) hu
end
end My
namespace My
open PySem PySem.Spec PyProof.Rows L2
variable {K : PySem.W.Frag}
section
variable {P : Program} {w : World} {K : PySem.W.Frag} {mg : Str → Option Value} {base : Heap} {f_is_integer f_is_row f_is_fraction f_is_amount f_is_some f_are_amounts f_added f_negated f_lessened f_multiplied f_divided f_squared f_summed f_lies_below f_is_stall f_hold_of f_stalls_of f_kept_of f_held f_is_index f_is_move f_check_purse f_check_wish f_stall_led f_stall_behind f_stalls_behind f_deal_fault f_check_deal f_web_behind f_left_with f_played f_owes f_is_deal f_stands_alike f_check_alike f_change_of f_l_deck f_l_pick f_l_fold f_l_divisor f_l_made f_l_amount f_l_stall f_l_deep f_l_odd f_l_row f_l_bad_row f_l_move f_l_bad_deal f_l_is_some f_l_is_row f_l_is_below f_l_is_move f_l_due f_l_answer f_l_word f_l_word_is_due f_law f_BadDeal_init f_Web_init f_Web_eq c_BadPurse c_BadWish c_BadDeal c_Web c_ZERO : Addr} {d_is_integer d_is_row d_is_fraction d_is_amount d_is_some d_are_amounts d_added d_negated d_lessened d_multiplied d_divided d_squared d_summed d_lies_below d_is_stall d_hold_of d_stalls_of d_kept_of d_held d_is_index d_is_move d_check_purse d_check_wish d_stall_led d_stall_behind d_stalls_behind d_deal_fault d_check_deal d_web_behind d_left_with d_played d_owes d_is_deal d_stands_alike d_check_alike d_change_of d_l_deck d_l_pick d_l_fold d_l_divisor d_l_made d_l_amount d_l_stall d_l_deep d_l_odd d_l_row d_l_bad_row d_l_move d_l_bad_deal d_l_is_some d_l_is_row d_l_is_below d_l_is_move d_l_due d_l_answer d_l_word d_l_word_is_due d_law d_BadDeal_init d_Web_init d_Web_eq : FuncData}
def sp_is_integer : Sp := fun vs H Q _ => ∃ i : Int, vs = [.int i] ∧ Q (.bl true) H
theorem ok_is_integer (T : Txt K mg f_is_integer f_is_row f_is_fraction f_is_amount f_is_some f_are_amounts f_added f_negated f_lessened f_multiplied f_divided f_squared f_summed f_lies_below f_is_stall f_hold_of f_stalls_of f_kept_of f_held f_is_index f_is_move f_check_purse f_check_wish f_stall_led f_stall_behind f_stalls_behind f_deal_fault f_check_deal f_web_behind f_left_with f_played f_owes f_is_deal f_stands_alike f_check_alike f_change_of f_l_deck f_l_pick f_l_fold f_l_divisor f_l_made f_l_amount f_l_stall f_l_deep f_l_odd f_l_row f_l_bad_row f_l_move f_l_bad_deal f_l_is_some f_l_is_row f_l_is_below f_l_is_move f_l_due f_l_answer f_l_word f_l_word_is_due f_law f_BadDeal_init f_Web_init f_Web_eq c_BadPurse c_BadWish c_BadDeal c_Web c_ZERO d_is_integer d_is_row d_is_fraction d_is_amount d_is_some d_are_amounts d_added d_negated d_lessened d_multiplied d_divided d_squared d_summed d_lies_below d_is_stall d_hold_of d_stalls_of d_kept_of d_held d_is_index d_is_move d_check_purse d_check_wish d_stall_led d_stall_behind d_stalls_behind d_deal_fault d_check_deal d_web_behind d_left_with d_played d_owes d_is_deal d_stands_alike d_check_alike d_change_of d_l_deck d_l_pick d_l_fold d_l_divisor d_l_made d_l_amount d_l_stall d_l_deep d_l_odd d_l_row d_l_bad_row d_l_move d_l_bad_deal d_l_is_some d_l_is_row d_l_is_below d_l_is_move d_l_due d_l_answer d_l_word d_l_word_is_due d_law d_BadDeal_init d_Web_init d_Web_eq) : FnOk P w K mg base CX0 1 f_is_integer d_is_integer ["thing"] sp_is_integer := by
  refine T.F_is_integer.ok sc_is_integer (fun vs H Q E h => ?_) (fun cdv A outer s H vs Q E hr h => ?_)
  · obtain ⟨i, rfl, _⟩ := h
    rfl
  · obtain ⟨i, rfl, q⟩ := h
    refine ⟨_, (pss_one (ps_ret (pe_and (pe_callB call_isi (by rfl) T.z_isinstance (by decide +kernel) (pa_cons (pv 0) (pa_cons (pe_bltn (v := .ty "int") (u := .type "int") (by rfl) T.z_int (by decide +kernel) rfl) pa_nil))) (pe_one (pe_not (pe_callB call_isi (by rfl) T.z_isinstance (by decide +kernel) (pa_cons (pv 0) (pa_cons (pe_bltn (v := .ty "bool") (u := .type "bool") (by rfl) T.z_bool (by decide +kernel) rfl) pa_nil)))))))), ?_⟩
    walk_at "r"
    exact q
def sp_is_fraction (K : PySem.W.Frag) : Sp := fun vs H Q _ => ∃ v r, vs = [v] ∧ IsF K H v r ∧ Q (.bl true) H
theorem ok_is_fraction (T : Txt K mg f_is_integer f_is_row f_is_fraction f_is_amount f_is_some f_are_amounts f_added f_negated f_lessened f_multiplied f_divided f_squared f_summed f_lies_below f_is_stall f_hold_of f_stalls_of f_kept_of f_held f_is_index f_is_move f_check_purse f_check_wish f_stall_led f_stall_behind f_stalls_behind f_deal_fault f_check_deal f_web_behind f_left_with f_played f_owes f_is_deal f_stands_alike f_check_alike f_change_of f_l_deck f_l_pick f_l_fold f_l_divisor f_l_made f_l_amount f_l_stall f_l_deep f_l_odd f_l_row f_l_bad_row f_l_move f_l_bad_deal f_l_is_some f_l_is_row f_l_is_below f_l_is_move f_l_due f_l_answer f_l_word f_l_word_is_due f_law f_BadDeal_init f_Web_init f_Web_eq c_BadPurse c_BadWish c_BadDeal c_Web c_ZERO d_is_integer d_is_row d_is_fraction d_is_amount d_is_some d_are_amounts d_added d_negated d_lessened d_multiplied d_divided d_squared d_summed d_lies_below d_is_stall d_hold_of d_stalls_of d_kept_of d_held d_is_index d_is_move d_check_purse d_check_wish d_stall_led d_stall_behind d_stalls_behind d_deal_fault d_check_deal d_web_behind d_left_with d_played d_owes d_is_deal d_stands_alike d_check_alike d_change_of d_l_deck d_l_pick d_l_fold d_l_divisor d_l_made d_l_amount d_l_stall d_l_deep d_l_odd d_l_row d_l_bad_row d_l_move d_l_bad_deal d_l_is_some d_l_is_row d_l_is_below d_l_is_move d_l_due d_l_answer d_l_word d_l_word_is_due d_law d_BadDeal_init d_Web_init d_Web_eq) : FnOk P w K mg base CX0 2 f_is_fraction d_is_fraction ["thing"] (sp_is_fraction K) := by
  have G_is_integer : FnOk P w K mg base CX0 1 f_is_integer d_is_integer ["thing"] sp_is_integer := ok_is_integer T
  refine T.F_is_fraction.ok sc_is_fraction (fun vs H Q E h => ?_) (fun cdv A outer s H vs Q E hr h => ?_)
  · obtain ⟨v, r, rfl, _⟩ := h
    rfl
  · obtain ⟨v, r, rfl, ⟨p, rfl, hp⟩, q⟩ := h
    refine ⟨_, (pss_cons (ps_if (PW.pt (pw_or (pt_not (pt_val (pe_callB call_isi (by rfl) T.z_isinstance (by decide +kernel) (pa_cons (pv 0) (pa_cons (pe_bltn (v := .ty "tuple") (u := .type "tuple") (by rfl) T.z_tuple (by decide +kernel) rfl) pa_nil))))) (pw_or1 (pt_cmpR op_ne (pe_callB call_lenN (by rfl) T.z_len (by decide +kernel) (pa_cons (pv 0) pa_nil)) pe_int (nomark _)))))
        (pss_one (ps_ret pe_bl))
        pss_nil)
      (pss_cons (ps_asg (pv 0) (pg_tup rfl (pgs_cons (pg_name (i := 1) sc_is_fraction.nd rfl (by first | exact Or.inl rfl | exact Or.inr rfl)) (pgs_cons (pg_name (i := 2) sc_is_fraction.nd rfl (by first | exact Or.inl rfl | exact Or.inr rfl)) pgs_nil))))
      (pss_cons (ps_if (PW.pt (pw_or (pt_not (pt_val (pe_call G_is_integer (hr.mono (by decide)) (by rfl) T.g_is_integer T.k_is_integer T.b_is_integer .nil pass0 (pa_cons (pv 1) pa_nil)))) (pw_or1 (pt_not (pt_val (pe_call G_is_integer (hr.mono (by decide)) (by rfl) T.g_is_integer T.k_is_integer T.b_is_integer .nil pass0 (pa_cons (pv 2) pa_nil)))))))
        (pss_one (ps_ret pe_bl))
        pss_nil)
      (pss_one (ps_ret (pe_and (pe_cmpR op_ge (pv 2) pe_int (nomark _)) (pe_one (pe_cmpR op_eq (pe_callBfun cr_gcd (by rfl) T.m_gcd (pa_cons (pv 1) (pa_cons (pv 2) pa_nil))) pe_int (nomark _))))))))), ?_⟩
    walk_at "r"
    refine ⟨_, rfl, ?_⟩
    walk_at "r"
    refine ⟨_, rfl, ?_⟩
    walk_at "r"
    have h1 := den_pos r
    have h2 := gcd_den r
    walk_at "r"
    rw [Int.natAbs_natCast, h2]
    exact q
end
end My
namespace My
open PySem PySem.Spec PyProof.Rows L2
variable {K : PySem.W.Frag}
theorem num_pos' {r : Rat} (h : 0 < r) : 0 < r.num := by
  rw [Rat.lt_iff] at h
  simpa using h
theorem sq_num (s : Rat) : (s * s).num = s.num * s.num ∧ (s * s).den = s.den * s.den := by
  obtain ⟨h1, h2⟩ := mul_form s s 1 1 (gcd_den s).symm (gcd_den s).symm
  rw [h1, h2]
  simp
section
variable {P : Program} {w : World} {K : PySem.W.Frag} {mg : Str → Option Value} {base : Heap} {f_is_integer f_is_row f_is_fraction f_is_amount f_is_some f_are_amounts f_added f_negated f_lessened f_multiplied f_divided f_squared f_summed f_lies_below f_is_stall f_hold_of f_stalls_of f_kept_of f_held f_is_index f_is_move f_check_purse f_check_wish f_stall_led f_stall_behind f_stalls_behind f_deal_fault f_check_deal f_web_behind f_left_with f_played f_owes f_is_deal f_stands_alike f_check_alike f_change_of f_l_deck f_l_pick f_l_fold f_l_divisor f_l_made f_l_amount f_l_stall f_l_deep f_l_odd f_l_row f_l_bad_row f_l_move f_l_bad_deal f_l_is_some f_l_is_row f_l_is_below f_l_is_move f_l_due f_l_answer f_l_word f_l_word_is_due f_law f_BadDeal_init f_Web_init f_Web_eq c_BadPurse c_BadWish c_BadDeal c_Web c_ZERO : Addr} {d_is_integer d_is_row d_is_fraction d_is_amount d_is_some d_are_amounts d_added d_negated d_lessened d_multiplied d_divided d_squared d_summed d_lies_below d_is_stall d_hold_of d_stalls_of d_kept_of d_held d_is_index d_is_move d_check_purse d_check_wish d_stall_led d_stall_behind d_stalls_behind d_deal_fault d_check_deal d_web_behind d_left_with d_played d_owes d_is_deal d_stands_alike d_check_alike d_change_of d_l_deck d_l_pick d_l_fold d_l_divisor d_l_made d_l_amount d_l_stall d_l_deep d_l_odd d_l_row d_l_bad_row d_l_move d_l_bad_deal d_l_is_some d_l_is_row d_l_is_below d_l_is_move d_l_due d_l_answer d_l_word d_l_word_is_due d_law d_BadDeal_init d_Web_init d_Web_eq : FuncData}
def sp_is_some (K : PySem.W.Frag) : Sp := fun vs H Q _ => ∃ v r, vs = [v] ∧ IsF K H v r ∧ 0 < r ∧ Q (.bl true) H
theorem ok_is_some (T : Txt K mg f_is_integer f_is_row f_is_fraction f_is_amount f_is_some f_are_amounts f_added f_negated f_lessened f_multiplied f_divided f_squared f_summed f_lies_below f_is_stall f_hold_of f_stalls_of f_kept_of f_held f_is_index f_is_move f_check_purse f_check_wish f_stall_led f_stall_behind f_stalls_behind f_deal_fault f_check_deal f_web_behind f_left_with f_played f_owes f_is_deal f_stands_alike f_check_alike f_change_of f_l_deck f_l_pick f_l_fold f_l_divisor f_l_made f_l_amount f_l_stall f_l_deep f_l_odd f_l_row f_l_bad_row f_l_move f_l_bad_deal f_l_is_some f_l_is_row f_l_is_below f_l_is_move f_l_due f_l_answer f_l_word f_l_word_is_due f_law f_BadDeal_init f_Web_init f_Web_eq c_BadPurse c_BadWish c_BadDeal c_Web c_ZERO d_is_integer d_is_row d_is_fraction d_is_amount d_is_some d_are_amounts d_added d_negated d_lessened d_multiplied d_divided d_squared d_summed d_lies_below d_is_stall d_hold_of d_stalls_of d_kept_of d_held d_is_index d_is_move d_check_purse d_check_wish d_stall_led d_stall_behind d_stalls_behind d_deal_fault d_check_deal d_web_behind d_left_with d_played d_owes d_is_deal d_stands_alike d_check_alike d_change_of d_l_deck d_l_pick d_l_fold d_l_divisor d_l_made d_l_amount d_l_stall d_l_deep d_l_odd d_l_row d_l_bad_row d_l_move d_l_bad_deal d_l_is_some d_l_is_row d_l_is_below d_l_is_move d_l_due d_l_answer d_l_word d_l_word_is_due d_law d_BadDeal_init d_Web_init d_Web_eq) : FnOk P w K mg base CX0 3 f_is_some d_is_some ["thing"] (sp_is_some K) := by
  have G_is_fraction : FnOk P w K mg base CX0 2 f_is_fraction d_is_fraction ["thing"] (sp_is_fraction K) := ok_is_fraction T
  refine T.F_is_some.ok sc_is_some (fun vs H Q E h => ?_) (fun cdv A outer s H vs Q E hr h => ?_)
  · obtain ⟨v, r, rfl, _⟩ := h
    rfl
  · obtain ⟨v, r, rfl, h, r0, q⟩ := h
    obtain ⟨p, rfl, hp⟩ := id h
    have hn := num_pos' r0
    refine ⟨_, (pss_one (ps_ret (pe_and (pe_call G_is_fraction (hr.mono (by decide)) (by rfl) T.g_is_fraction T.k_is_fraction T.b_is_fraction .nil pass0 (pa_cons (pv 0) pa_nil)) (pe_one (pe_cmpR op_gt (pe_ix ix_tup (pv 0) pe_int (fun _ _ => rfl)) pe_int (nomark _)))))), ?_⟩
    walk_at "r"
    refine ⟨_, _, rfl, h, ?_⟩
    walk_at "r"
    rw [decide_eq_true hn]
    exact q
def sp_squared (K : PySem.W.Frag) : Sp := fun vs H Q _ => ∃ v r, vs = [v] ∧ IsF K H v r ∧ Bd 4000 r ∧ ∀ H' u, Same H H' → IsF K H' u (r * r) → Q u H'
theorem ok_squared (T : Txt K mg f_is_integer f_is_row f_is_fraction f_is_amount f_is_some f_are_amounts f_added f_negated f_lessened f_multiplied f_divided f_squared f_summed f_lies_below f_is_stall f_hold_of f_stalls_of f_kept_of f_held f_is_index f_is_move f_check_purse f_check_wish f_stall_led f_stall_behind f_stalls_behind f_deal_fault f_check_deal f_web_behind f_left_with f_played f_owes f_is_deal f_stands_alike f_check_alike f_change_of f_l_deck f_l_pick f_l_fold f_l_divisor f_l_made f_l_amount f_l_stall f_l_deep f_l_odd f_l_row f_l_bad_row f_l_move f_l_bad_deal f_l_is_some f_l_is_row f_l_is_below f_l_is_move f_l_due f_l_answer f_l_word f_l_word_is_due f_law f_BadDeal_init f_Web_init f_Web_eq c_BadPurse c_BadWish c_BadDeal c_Web c_ZERO d_is_integer d_is_row d_is_fraction d_is_amount d_is_some d_are_amounts d_added d_negated d_lessened d_multiplied d_divided d_squared d_summed d_lies_below d_is_stall d_hold_of d_stalls_of d_kept_of d_held d_is_index d_is_move d_check_purse d_check_wish d_stall_led d_stall_behind d_stalls_behind d_deal_fault d_check_deal d_web_behind d_left_with d_played d_owes d_is_deal d_stands_alike d_check_alike d_change_of d_l_deck d_l_pick d_l_fold d_l_divisor d_l_made d_l_amount d_l_stall d_l_deep d_l_odd d_l_row d_l_bad_row d_l_move d_l_bad_deal d_l_is_some d_l_is_row d_l_is_below d_l_is_move d_l_due d_l_answer d_l_word d_l_word_is_due d_law d_BadDeal_init d_Web_init d_Web_eq) : FnOk P w K mg base CX0 1 f_squared d_squared ["one"] (sp_squared K) := by
  refine T.F_squared.ok sc_squared (fun vs H Q E h => ?_) (fun cdv A outer s H vs Q E hr h => ?_)
  · obtain ⟨v, r, rfl, _⟩ := h
    rfl
  · obtain ⟨v, r, rfl, ⟨p, rfl, hp⟩, b, q⟩ := h
    obtain ⟨e1, e2⟩ := sq_num r
    refine ⟨_, (pss_one (ps_ret (pe_tup (pa_cons (pe_op op_mulX (pe_ix ix_tup (pv 0) pe_int (fun _ _ => rfl)) (pe_ix ix_tup (pv 0) pe_int (fun _ _ => rfl))) (pa_cons (pe_op op_mulX (pe_ix ix_tup (pv 0) pe_int (fun _ _ => rfl)) (pe_ix ix_tup (pv 0) pe_int (fun _ _ => rfl))) pa_nil))))), ?_⟩
    walk_at "r"
    · intro p2 n2
      exact q _ _ (same_upd n2) (isF_new e1 (by rw [e2, Int.natCast_mul]))
    · exact cmx (by rw [Int.natAbs_natCast]; exact p46 b.2) (by rw [Int.natAbs_natCast]; exact p46 b.2)
    · exact cmx (p46 b.1) (p46 b.1)
def sp_is_stall (K : PySem.W.Frag) : Sp := fun vs H Q _ => ∃ (n : Nat) (x : V) (s : Stl), vs = [.int (n : Nat), x] ∧ IsSt K H x s ∧ OkSt n s ∧ BdSt 4000 s ∧ ∀ H', Same H H' → Q (.bl true) H'
theorem ok_is_stall (T : Txt K mg f_is_integer f_is_row f_is_fraction f_is_amount f_is_some f_are_amounts f_added f_negated f_lessened f_multiplied f_divided f_squared f_summed f_lies_below f_is_stall f_hold_of f_stalls_of f_kept_of f_held f_is_index f_is_move f_check_purse f_check_wish f_stall_led f_stall_behind f_stalls_behind f_deal_fault f_check_deal f_web_behind f_left_with f_played f_owes f_is_deal f_stands_alike f_check_alike f_change_of f_l_deck f_l_pick f_l_fold f_l_divisor f_l_made f_l_amount f_l_stall f_l_deep f_l_odd f_l_row f_l_bad_row f_l_move f_l_bad_deal f_l_is_some f_l_is_row f_l_is_below f_l_is_move f_l_due f_l_answer f_l_word f_l_word_is_due f_law f_BadDeal_init f_Web_init f_Web_eq c_BadPurse c_BadWish c_BadDeal c_Web c_ZERO d_is_integer d_is_row d_is_fraction d_is_amount d_is_some d_are_amounts d_added d_negated d_lessened d_multiplied d_divided d_squared d_summed d_lies_below d_is_stall d_hold_of d_stalls_of d_kept_of d_held d_is_index d_is_move d_check_purse d_check_wish d_stall_led d_stall_behind d_stalls_behind d_deal_fault d_check_deal d_web_behind d_left_with d_played d_owes d_is_deal d_stands_alike d_check_alike d_change_of d_l_deck d_l_pick d_l_fold d_l_divisor d_l_made d_l_amount d_l_stall d_l_deep d_l_odd d_l_row d_l_bad_row d_l_move d_l_bad_deal d_l_is_some d_l_is_row d_l_is_below d_l_is_move d_l_due d_l_answer d_l_word d_l_word_is_due d_law d_BadDeal_init d_Web_init d_Web_eq) : FnOk P w K mg base CX0 4 f_is_stall d_is_stall ["wares", "thing"] (sp_is_stall K) := by
  have G_is_integer : FnOk P w K mg base CX0 1 f_is_integer d_is_integer ["thing"] sp_is_integer := ok_is_integer T
  have G_is_some : FnOk P w K mg base CX0 3 f_is_some d_is_some ["thing"] (sp_is_some K) := ok_is_some T
  have G_multiplied : FnOk P w K mg base CX0 1 f_multiplied d_multiplied ["one", "other"] (sp_multiplied K) := ok_multiplied T
  have G_squared : FnOk P w K mg base CX0 1 f_squared d_squared ["one"] (sp_squared K) := ok_squared T
  refine T.F_is_stall.ok sc_is_stall (fun vs H Q E h => ?_) (fun cdv A outer s H vs Q E hr h => ?_)
  · obtain ⟨n, x, s, rfl, _⟩ := h
    rfl
  · obtain ⟨n, x, s, rfl, ⟨p, va, vb, vr, rfl, hp, ha, hb, hr'⟩, ok, bd, q⟩ := h
    have hu := ok.u
    have hv := ok.v
    have hne := ok.ne
    refine ⟨_, (pss_cons (ps_if (PW.pt (pw_or (pt_not (pt_val (pe_callB call_isi (by rfl) T.z_isinstance (by decide +kernel) (pa_cons (pv 1) (pa_cons (pe_bltn (v := .ty "tuple") (u := .type "tuple") (by rfl) T.z_tuple (by decide +kernel) rfl) pa_nil))))) (pw_or1 (pt_cmpR op_ne (pe_callB call_lenN (by rfl) T.z_len (by decide +kernel) (pa_cons (pv 1) pa_nil)) pe_int (nomark _)))))
        (pss_one (ps_ret pe_bl))
        pss_nil)
      (pss_cons (ps_asg (pv 1) (pg_tup rfl (pgs_cons (pg_name (i := 2) sc_is_stall.nd rfl (by first | exact Or.inl rfl | exact Or.inr rfl)) (pgs_cons (pg_name (i := 3) sc_is_stall.nd rfl (by first | exact Or.inl rfl | exact Or.inr rfl)) (pgs_cons (pg_name (i := 4) sc_is_stall.nd rfl (by first | exact Or.inl rfl | exact Or.inr rfl)) (pgs_cons (pg_name (i := 5) sc_is_stall.nd rfl (by first | exact Or.inl rfl | exact Or.inr rfl)) (pgs_cons (pg_name (i := 6) sc_is_stall.nd rfl (by first | exact Or.inl rfl | exact Or.inr rfl)) pgs_nil)))))))
      (pss_cons (ps_for PassesOwn.never rfl (pi_tup (pe_tup (pa_cons (pv 2) (pa_cons (pv 3) pa_nil)))) (pg_name (i := 7) sc_is_stall.nd rfl (by first | exact Or.inl rfl | exact Or.inr rfl))
        (pss_one (ps_if (PW.pt (pw_or (pt_not (pt_val (pe_call G_is_integer (hr.mono (by decide)) (by rfl) T.g_is_integer T.k_is_integer T.b_is_integer .nil pass0 (pa_cons (pv 7) pa_nil)))) (pw_or1 (pt_not (pt_chain op_le op_lt pe_int (pv 7) (pv 0))))))
            (pss_one (ps_ret pe_bl))
            pss_nil)))
      (pss_cons (ps_if (PW.pt (pw_or (pt_cmpR op_eq (pv 2) (pv 3) (nomark _)) (pw_or1 (pt_not (PW.pt (pw_and (pt_val (pe_call G_is_some (hr.mono (by decide)) (by rfl) T.g_is_some T.k_is_some T.b_is_some .nil pass0 (pa_cons (pv 4) pa_nil))) (pw_and (pt_val (pe_call G_is_some (hr.mono (by decide)) (by rfl) T.g_is_some T.k_is_some T.b_is_some .nil pass0 (pa_cons (pv 5) pa_nil))) (pw_and1 (pt_val (pe_call G_is_some (hr.mono (by decide)) (by rfl) T.g_is_some T.k_is_some T.b_is_some .nil pass0 (pa_cons (pv 6) pa_nil)))))))))))
        (pss_one (ps_ret pe_bl))
        pss_nil)
      (pss_one (ps_ret (pe_cmpR (op_eqD hr.units) (pe_call G_multiplied (hr.mono (by decide)) (by rfl) T.g_multiplied T.k_multiplied T.b_multiplied .nil pass0 (pa_cons (pv 4) (pa_cons (pv 5) pa_nil))) (pe_call G_squared (hr.mono (by decide)) (by rfl) T.g_squared T.k_squared T.b_squared .nil pass0 (pa_cons (pv 6) pa_nil)) (nomark _)))))))), ?_⟩
    walk_at "r"
    intro t nt
    have sm := same_upd (o := .tup [V.int (s.u : Nat), .int (s.v : Nat)]) nt
    have ht : upd H t (.tup [V.int (s.u : Nat), .int (s.v : Nat)]) t = some (.tup [V.int (s.u : Nat), .int (s.v : Nat)]) := upd_same
    generalize upd H t (.tup [V.int (s.u : Nat), .int (s.v : Nat)]) = H1 at *
    have ha := ha.same sm
    have hb := hb.same sm
    have hr' := hr'.same sm
    refine ⟨_, rfl, ⟨_, .of ht⟩, ?_⟩
    refine for_tup (K := K) (a := t) (xs := [V.int (s.u : Nat), .int (s.v : Nat)]) (fun i σ H' => ∃ t7, σ = [some (.int (n : Nat)), some (.ref p), some (.int (s.u : Nat)), some (.int (s.v : Nat)), some va, some vb, some vr, t7] ∧ H' = H1) ⟨_, rfl, rfl⟩ ?_ ?_ ?_
    · rintro i σ H' _ ⟨t7, rfl, rfl⟩
      exact .of ht
    · rintro i z σ H' hz ⟨t7, rfl, rfl⟩
      obtain ⟨k, rfl, hk⟩ : ∃ k : Nat, z = .int (k : Nat) ∧ k < n := by
        match i, hz with
        | 0, hz => exact ⟨_, (Option.some.inj hz).symm, hu⟩
        | 1, hz => exact ⟨_, (Option.some.inj hz).symm, hv⟩
      walk_at "r"
      refine ⟨_, rfl, ?_⟩
      walk_at "r"
      exact rfl
    · rintro σ H' ⟨t7, rfl, rfl⟩
      walk_at "r"
      refine ⟨_, _, rfl, ha, ok.a, ?_⟩
      walk_at "r"
      refine ⟨_, _, rfl, hb, ok.b, ?_⟩
      walk_at "r"
      refine ⟨_, _, rfl, hr', ok.r, ?_⟩
      walk_at "r"
      refine ⟨_, _, _, _, rfl, ha, hb, bd.a, bd.b, trivial, fun H2 x1 s1 h1 => ?_⟩
      walk_at "r"
      refine ⟨_, _, rfl, hr'.same s1, bd.r, fun H3 x2 s2 h2 => ?_⟩
      walk_at "r"
      refine eqF (h1.same s2) h2 ?_
      rw [decide_eq_true ok.e]
      exact q _ ((sm.trans s1).trans s2)
def sp_is_row : Sp := fun vs H Q _ => ∃ L xs, vs = [.ref L] ∧ (H L = some (.lst xs) ∨ H L = some (.tup xs)) ∧ ∀ H', Same H H' → Q (.bl true) H'
theorem ok_is_row (T : Txt K mg f_is_integer f_is_row f_is_fraction f_is_amount f_is_some f_are_amounts f_added f_negated f_lessened f_multiplied f_divided f_squared f_summed f_lies_below f_is_stall f_hold_of f_stalls_of f_kept_of f_held f_is_index f_is_move f_check_purse f_check_wish f_stall_led f_stall_behind f_stalls_behind f_deal_fault f_check_deal f_web_behind f_left_with f_played f_owes f_is_deal f_stands_alike f_check_alike f_change_of f_l_deck f_l_pick f_l_fold f_l_divisor f_l_made f_l_amount f_l_stall f_l_deep f_l_odd f_l_row f_l_bad_row f_l_move f_l_bad_deal f_l_is_some f_l_is_row f_l_is_below f_l_is_move f_l_due f_l_answer f_l_word f_l_word_is_due f_law f_BadDeal_init f_Web_init f_Web_eq c_BadPurse c_BadWish c_BadDeal c_Web c_ZERO d_is_integer d_is_row d_is_fraction d_is_amount d_is_some d_are_amounts d_added d_negated d_lessened d_multiplied d_divided d_squared d_summed d_lies_below d_is_stall d_hold_of d_stalls_of d_kept_of d_held d_is_index d_is_move d_check_purse d_check_wish d_stall_led d_stall_behind d_stalls_behind d_deal_fault d_check_deal d_web_behind d_left_with d_played d_owes d_is_deal d_stands_alike d_check_alike d_change_of d_l_deck d_l_pick d_l_fold d_l_divisor d_l_made d_l_amount d_l_stall d_l_deep d_l_odd d_l_row d_l_bad_row d_l_move d_l_bad_deal d_l_is_some d_l_is_row d_l_is_below d_l_is_move d_l_due d_l_answer d_l_word d_l_word_is_due d_law d_BadDeal_init d_Web_init d_Web_eq) : FnOk P w K mg base CX0 1 f_is_row d_is_row ["thing"] sp_is_row := by
  refine T.F_is_row.ok sc_is_row (fun vs H Q E h => ?_) (fun cdv A outer s H vs Q E hr h => ?_)
  · obtain ⟨L, xs, rfl, _⟩ := h
    rfl
  · obtain ⟨L, xs, rfl, h, q⟩ := h
    refine ⟨_, (pss_one (ps_ret (pe_callB call_isiT (by rfl) T.z_isinstance (by decide +kernel) (pa_cons (pv 0) (pa_cons (pe_tup (pa_cons (pe_bltn (v := .ty "list") (u := .type "list") (by rfl) T.z_list (by decide +kernel) rfl) (pa_cons (pe_bltn (v := .ty "tuple") (u := .type "tuple") (by rfl) T.z_tuple (by decide +kernel) rfl) pa_nil))) pa_nil))))), ?_⟩
    walk_at "r"
    intro p np
    walk_at "r"
    rcases h with h | h
    · refine ⟨_, _, _, _, _, true, rfl, upd_same, .cons (.ty _) (.cons (.ty _) .nil), .base (.lst (same_upd np _ _ h)), kitAny_cons (b := true) (kit_ty (by decide +kernel)) (fun z => Bool.noConfusion z) (fun _ => rfl), ?_⟩
      exact q _ (same_upd np)
    · refine ⟨_, _, _, _, _, true, rfl, upd_same, .cons (.ty _) (.cons (.ty _) .nil), .base (.tup (same_upd np _ _ h)), kitAny_cons (b := false) (kit_ty (by decide +kernel)) (fun _ => kitAny_cons (b := true) (kit_ty (by decide +kernel)) (fun z => Bool.noConfusion z) (fun _ => rfl)) (fun z => Bool.noConfusion z), ?_⟩
      exact q _ (same_upd np)
end
end My
namespace My
open PySem PySem.Spec PyProof.Rows L2
variable {K : PySem.W.Frag}
section
variable {P : Program} {w : World} {K : PySem.W.Frag} {mg : Str → Option Value} {base : Heap} {f_is_integer f_is_row f_is_fraction f_is_amount f_is_some f_are_amounts f_added f_negated f_lessened f_multiplied f_divided f_squared f_summed f_lies_below f_is_stall f_hold_of f_stalls_of f_kept_of f_held f_is_index f_is_move f_check_purse f_check_wish f_stall_led f_stall_behind f_stalls_behind f_deal_fault f_check_deal f_web_behind f_left_with f_played f_owes f_is_deal f_stands_alike f_check_alike f_change_of f_l_deck f_l_pick f_l_fold f_l_divisor f_l_made f_l_amount f_l_stall f_l_deep f_l_odd f_l_row f_l_bad_row f_l_move f_l_bad_deal f_l_is_some f_l_is_row f_l_is_below f_l_is_move f_l_due f_l_answer f_l_word f_l_word_is_due f_law f_BadDeal_init f_Web_init f_Web_eq c_BadPurse c_BadWish c_BadDeal c_Web c_ZERO : Addr} {d_is_integer d_is_row d_is_fraction d_is_amount d_is_some d_are_amounts d_added d_negated d_lessened d_multiplied d_divided d_squared d_summed d_lies_below d_is_stall d_hold_of d_stalls_of d_kept_of d_held d_is_index d_is_move d_check_purse d_check_wish d_stall_led d_stall_behind d_stalls_behind d_deal_fault d_check_deal d_web_behind d_left_with d_played d_owes d_is_deal d_stands_alike d_check_alike d_change_of d_l_deck d_l_pick d_l_fold d_l_divisor d_l_made d_l_amount d_l_stall d_l_deep d_l_odd d_l_row d_l_bad_row d_l_move d_l_bad_deal d_l_is_some d_l_is_row d_l_is_below d_l_is_move d_l_due d_l_answer d_l_word d_l_word_is_due d_law d_BadDeal_init d_Web_init d_Web_eq : FuncData}
/-- what Web(n, stalls) makes of right stalls -/
def sp_web (K : PySem.W.Frag) (C : Addr) : Sp := fun vs H Q _ => ∃ (p dx L : Addr) (n : Nat) (xs : List V) (ss : List Stl), vs = [.ref p, .int (n : Nat), .ref L] ∧ H p = some (.ins C dx []) ∧ (H L = some (.lst xs) ∨ H L = some (.tup xs)) ∧ 1 ≤ n ∧ n ≤ 8 ∧ xs.length ≤ 16 ∧
  Sts K H xs ss ∧ (∀ s ∈ ss, OkSt n s ∧ BdSt 4000 s) ∧ ∀ H', IsWeb K C H' (.ref p) n ss → (∀ b o, H b = some o → b ≠ p → H' b = some o) → Q .non H'
theorem ok_Web_init (T : Txt K mg f_is_integer f_is_row f_is_fraction f_is_amount f_is_some f_are_amounts f_added f_negated f_lessened f_multiplied f_divided f_squared f_summed f_lies_below f_is_stall f_hold_of f_stalls_of f_kept_of f_held f_is_index f_is_move f_check_purse f_check_wish f_stall_led f_stall_behind f_stalls_behind f_deal_fault f_check_deal f_web_behind f_left_with f_played f_owes f_is_deal f_stands_alike f_check_alike f_change_of f_l_deck f_l_pick f_l_fold f_l_divisor f_l_made f_l_amount f_l_stall f_l_deep f_l_odd f_l_row f_l_bad_row f_l_move f_l_bad_deal f_l_is_some f_l_is_row f_l_is_below f_l_is_move f_l_due f_l_answer f_l_word f_l_word_is_due f_law f_BadDeal_init f_Web_init f_Web_eq c_BadPurse c_BadWish c_BadDeal c_Web c_ZERO d_is_integer d_is_row d_is_fraction d_is_amount d_is_some d_are_amounts d_added d_negated d_lessened d_multiplied d_divided d_squared d_summed d_lies_below d_is_stall d_hold_of d_stalls_of d_kept_of d_held d_is_index d_is_move d_check_purse d_check_wish d_stall_led d_stall_behind d_stalls_behind d_deal_fault d_check_deal d_web_behind d_left_with d_played d_owes d_is_deal d_stands_alike d_check_alike d_change_of d_l_deck d_l_pick d_l_fold d_l_divisor d_l_made d_l_amount d_l_stall d_l_deep d_l_odd d_l_row d_l_bad_row d_l_move d_l_bad_deal d_l_is_some d_l_is_row d_l_is_below d_l_is_move d_l_due d_l_answer d_l_word d_l_word_is_due d_law d_BadDeal_init d_Web_init d_Web_eq) : FnOk P w K mg base CX0 5 f_Web_init d_Web_init ["self", "wares", "stalls"] (sp_web K c_Web) := by
  have G_is_integer : FnOk P w K mg base CX0 1 f_is_integer d_is_integer ["thing"] sp_is_integer := ok_is_integer T
  have G_is_row : FnOk P w K mg base CX0 1 f_is_row d_is_row ["thing"] sp_is_row := ok_is_row T
  have G_is_stall : FnOk P w K mg base CX0 4 f_is_stall d_is_stall ["wares", "thing"] (sp_is_stall K) := ok_is_stall T
  refine T.F_Web_init.ok sc_Web_init (fun vs H Q E h => ?_) (fun cdv A outer s H vs Q E hr h => ?_)
  · obtain ⟨p, dx, L, n, xs, ss, rfl, _⟩ := h
    rfl
  · obtain ⟨p, dx, L, n, xs, ss, rfl, hp, hL, hn1, hn8, hlen, hss, hok, q⟩ := h
    refine ⟨_, (pss_cons (ps_if (PW.pt (pw_or (pt_not (pt_val (pe_call G_is_integer (hr.mono (by decide)) (by rfl) T.g_is_integer T.k_is_integer T.b_is_integer .nil pass0 (pa_cons (pv 1) pa_nil)))) (pw_or1 (pt_not (pt_chain op_le op_le pe_int (pv 1) (C8.pe_gc (by rfl) T.v_MOST_WARES))))))
        (pss_one ps_never)
        pss_nil)
      (pss_cons (ps_if (PW.pt (pw_or (pt_not (pt_val (pe_call G_is_row (hr.mono (by decide)) (by rfl) T.g_is_row T.k_is_row T.b_is_row .nil pass0 (pa_cons (pv 2) pa_nil)))) (pw_or1 (pt_cmpR op_gt (pe_callB call_lenN (by rfl) T.z_len (by decide +kernel) (pa_cons (pv 2) pa_nil)) (C8.pe_gc (by rfl) T.v_MOST_STALLS) (nomark _)))))
        (pss_one ps_never)
        pss_nil)
      (pss_cons (ps_for PassesOwn.never rfl (pi_enumX (by rfl) T.z_enumerate (pa_cons (pv 2) pa_nil)) (pg_tup rfl (pgs_cons (pg_name (i := 3) sc_Web_init.nd rfl (by first | exact Or.inl rfl | exact Or.inr rfl)) (pgs_cons (pg_name (i := 4) sc_Web_init.nd rfl (by first | exact Or.inl rfl | exact Or.inr rfl)) pgs_nil)))
        (pss_one (ps_if (pt_not (pt_val (pe_call G_is_stall (hr.mono (by decide)) (by rfl) T.g_is_stall T.k_is_stall T.b_is_stall .nil pass0 (pa_cons (pv 1) (pa_cons (pv 4) pa_nil)))))
            (pss_one ps_never)
            pss_nil)))
      (pss_cons (ps_fld (pv 0) (pv 1) rfl)
      (pss_one (ps_fld (pv 0) (pe_callTy call_tuple_of (by rfl) T.z_tuple (by decide +kernel) (pa_cons (pv 2) pa_nil)) rfl)))))), ?_⟩
    walk_at "r"
    refine ⟨_, rfl, ?_⟩
    walk_at "r"
    refine ⟨_, _, rfl, hL, fun H1 s1 => ?_⟩
    have hL1 : H1 L = some (.lst xs) ∨ H1 L = some (.tup xs) := hL.imp (fun h => s1 _ _ h) fun h => s1 _ _ h
    have hSq : ∀ {H2 : Hp}, Same H1 H2 → SqL K H2 L xs ∨ SqT K H2 L xs := fun f => hL1.imp (fun h => .of (f _ _ h)) fun h => .of (f _ _ h)
    walk_at "r"
    refine ⟨L, xs, rfl, hSq (Same.refl _), ?_⟩
    walk_at "r"
    refine ⟨L, xs, rfl, ?_⟩
    have nL : L ≠ p := fun z => by
      rw [z, hp] at hL
      rcases hL with z | z <;> cases z
    rcases hL1 with h | h
    · refine .inl ⟨.of h, ?_⟩
      refine for_enum (K := K) (a := L) (xs := xs) (fun i σ H' => ∃ t3 t4, σ = [some (.ref p), some (.int (n : Nat)), some (.ref L), t3, t4] ∧ Same H1 H') ⟨_, _, rfl, Same.refl _⟩ ?_ ?_ ?_
      · rintro i σ H' _ ⟨t3, t4, rfl, s'⟩
        exact .of (s' _ _ h)
      · rintro i x T2 σ H' hx ⟨t3, t4, rfl, s'⟩ nT
        obtain ⟨s0, hs0, hst⟩ := hss.at hx
        have sm := same_upd (o := .tup [.int (i : Nat), x]) nT
        obtain ⟨ok0, bd0⟩ := hok _ (List.mem_of_getElem? hs0)
        walk_at "r"
        refine ⟨n, x, s0, rfl, hst.same ((s1.trans s').trans sm), ok0, bd0, fun H3 s3 => ?_⟩
        walk_at "r"
        exact ⟨_, _, rfl, (s'.trans sm).trans s3⟩
      · rintro σ H2 ⟨t3, t4, rfl, s'⟩
        have hp2 := s' _ _ (s1 _ _ hp)
        have hL2 := s' _ _ h
        have k2 := s1.trans s'
        walk_at "r"
        refine ⟨_, _, _, _, rfl, hp2, T.w_Web.it.cl, T.n_Web_wares, (by decide), ?_⟩
        walk_at "r"
        refine ⟨_, _, rfl, .inl ⟨.of ((upd_ne nL).trans hL2), fun l nl => ?_⟩⟩
        have hlp : l ≠ p := fun z => by
          rw [z, upd_same] at nl
          cases nl
        have nl2 : H2 l = none := by
          rw [upd_ne hlp] at nl
          exact nl
        walk_at "r"
        refine ⟨_, _, _, _, rfl, (upd_ne (Ne.symm hlp)).trans upd_same, T.w_Web.it.cl, T.n_Web_stalls, (by show 1 < 1000; decide), ?_⟩
        have keep : ∀ b o, H b = some o → b ≠ p → upd (upd (upd H2 p (.ins c_Web dx (putF "wares" (.int (n : Nat)) []))) l (.tup xs)) p (.ins c_Web dx (putF "stalls" (.ref l) (putF "wares" (.int (n : Nat)) []))) b = some o := fun b o hb hbp => by
          have hbl : b ≠ l := fun z => by
            rw [← z, k2 _ _ hb] at nl2
            cases nl2
          rw [upd_ne hbp, upd_ne hbl, upd_ne hbp]
          exact k2 _ _ hb
        refine q _ ⟨p, dx, l, xs, rfl, by rw [upd_same, wF_new], (upd_ne hlp).trans upd_same, hss.ts fun b ys hb => keep b _ hb ?_⟩ keep
        intro z
        rw [z, hp] at hb
        cases hb
    · refine .inr ⟨.of h, ?_⟩
      refine for_enumT (K := K) (a := L) (xs := xs) (fun i σ H' => ∃ t3 t4, σ = [some (.ref p), some (.int (n : Nat)), some (.ref L), t3, t4] ∧ Same H1 H') ⟨_, _, rfl, Same.refl _⟩ ?_ ?_ ?_
      · rintro i σ H' _ ⟨t3, t4, rfl, s'⟩
        exact .of (s' _ _ h)
      · rintro i x T2 σ H' hx ⟨t3, t4, rfl, s'⟩ nT
        obtain ⟨s0, hs0, hst⟩ := hss.at hx
        have sm := same_upd (o := .tup [.int (i : Nat), x]) nT
        obtain ⟨ok0, bd0⟩ := hok _ (List.mem_of_getElem? hs0)
        walk_at "r"
        refine ⟨n, x, s0, rfl, hst.same ((s1.trans s').trans sm), ok0, bd0, fun H3 s3 => ?_⟩
        walk_at "r"
        exact ⟨_, _, rfl, (s'.trans sm).trans s3⟩
      · rintro σ H2 ⟨t3, t4, rfl, s'⟩
        have hp2 := s' _ _ (s1 _ _ hp)
        have hL2 := s' _ _ h
        have k2 := s1.trans s'
        walk_at "r"
        refine ⟨_, _, _, _, rfl, hp2, T.w_Web.it.cl, T.n_Web_wares, (by decide), ?_⟩
        walk_at "r"
        refine ⟨_, _, rfl, .inr ⟨.of ((upd_ne nL).trans hL2), ?_⟩⟩
        walk_at "r"
        refine ⟨_, _, _, _, rfl, upd_same, T.w_Web.it.cl, T.n_Web_stalls, (by show 1 < 1000; decide), ?_⟩
        have keep : ∀ b o, H b = some o → b ≠ p → upd (upd H2 p (.ins c_Web dx (putF "wares" (.int (n : Nat)) []))) p (.ins c_Web dx (putF "stalls" (.ref L) (putF "wares" (.int (n : Nat)) []))) b = some o := fun b o hb hbp => by
          rw [upd_ne hbp, upd_ne hbp]
          exact k2 _ _ hb
        refine q _ ⟨p, dx, L, xs, rfl, by rw [upd_same, wF_new], (upd_ne nL).trans ((upd_ne nL).trans hL2), hss.ts fun b ys hb => keep b _ hb ?_⟩ keep
        intro z
        rw [z, hp] at hb
        cases hb
end
end My
namespace My
open PySem PySem.Spec PyProof.Rows L2
variable {K : PySem.W.Frag}
theorem sq_pos {r : Rat} (h : 0 < r) : 0 < r * r := Rat.mul_pos h h
theorem ne_of_pos {r : Rat} (h : 0 < r) : r ≠ 0 := fun z => by
  rw [z] at h
  exact absurd h (by decide)
section
variable {P : Program} {w : World} {K : PySem.W.Frag} {mg : Str → Option Value} {base : Heap} {f_is_integer f_is_row f_is_fraction f_is_amount f_is_some f_are_amounts f_added f_negated f_lessened f_multiplied f_divided f_squared f_summed f_lies_below f_is_stall f_hold_of f_stalls_of f_kept_of f_held f_is_index f_is_move f_check_purse f_check_wish f_stall_led f_stall_behind f_stalls_behind f_deal_fault f_check_deal f_web_behind f_left_with f_played f_owes f_is_deal f_stands_alike f_check_alike f_change_of f_l_deck f_l_pick f_l_fold f_l_divisor f_l_made f_l_amount f_l_stall f_l_deep f_l_odd f_l_row f_l_bad_row f_l_move f_l_bad_deal f_l_is_some f_l_is_row f_l_is_below f_l_is_move f_l_due f_l_answer f_l_word f_l_word_is_due f_law f_BadDeal_init f_Web_init f_Web_eq c_BadPurse c_BadWish c_BadDeal c_Web c_ZERO : Addr} {d_is_integer d_is_row d_is_fraction d_is_amount d_is_some d_are_amounts d_added d_negated d_lessened d_multiplied d_divided d_squared d_summed d_lies_below d_is_stall d_hold_of d_stalls_of d_kept_of d_held d_is_index d_is_move d_check_purse d_check_wish d_stall_led d_stall_behind d_stalls_behind d_deal_fault d_check_deal d_web_behind d_left_with d_played d_owes d_is_deal d_stands_alike d_check_alike d_change_of d_l_deck d_l_pick d_l_fold d_l_divisor d_l_made d_l_amount d_l_stall d_l_deep d_l_odd d_l_row d_l_bad_row d_l_move d_l_bad_deal d_l_is_some d_l_is_row d_l_is_below d_l_is_move d_l_due d_l_answer d_l_word d_l_word_is_due d_law d_BadDeal_init d_Web_init d_Web_eq : FuncData}
def sp_stall_led (K : PySem.W.Frag) : Sp := fun vs H Q _ => ∃ v s vx x, vs = [v, vx] ∧ IsSt K H v s ∧ IsF K H vx x ∧ Bd 1900 s.r ∧ Bd 3900 x ∧ 0 < x ∧ ∀ H' u, Same H H' → IsSt K H' u (s.first x) → Q u H'
theorem ok_stall_led (T : Txt K mg f_is_integer f_is_row f_is_fraction f_is_amount f_is_some f_are_amounts f_added f_negated f_lessened f_multiplied f_divided f_squared f_summed f_lies_below f_is_stall f_hold_of f_stalls_of f_kept_of f_held f_is_index f_is_move f_check_purse f_check_wish f_stall_led f_stall_behind f_stalls_behind f_deal_fault f_check_deal f_web_behind f_left_with f_played f_owes f_is_deal f_stands_alike f_check_alike f_change_of f_l_deck f_l_pick f_l_fold f_l_divisor f_l_made f_l_amount f_l_stall f_l_deep f_l_odd f_l_row f_l_bad_row f_l_move f_l_bad_deal f_l_is_some f_l_is_row f_l_is_below f_l_is_move f_l_due f_l_answer f_l_word f_l_word_is_due f_law f_BadDeal_init f_Web_init f_Web_eq c_BadPurse c_BadWish c_BadDeal c_Web c_ZERO d_is_integer d_is_row d_is_fraction d_is_amount d_is_some d_are_amounts d_added d_negated d_lessened d_multiplied d_divided d_squared d_summed d_lies_below d_is_stall d_hold_of d_stalls_of d_kept_of d_held d_is_index d_is_move d_check_purse d_check_wish d_stall_led d_stall_behind d_stalls_behind d_deal_fault d_check_deal d_web_behind d_left_with d_played d_owes d_is_deal d_stands_alike d_check_alike d_change_of d_l_deck d_l_pick d_l_fold d_l_divisor d_l_made d_l_amount d_l_stall d_l_deep d_l_odd d_l_row d_l_bad_row d_l_move d_l_bad_deal d_l_is_some d_l_is_row d_l_is_below d_l_is_move d_l_due d_l_answer d_l_word d_l_word_is_due d_law d_BadDeal_init d_Web_init d_Web_eq) : FnOk P w K mg base CX0 3 f_stall_led d_stall_led ["stall", "amount"] (sp_stall_led K) := by
  have G_squared : FnOk P w K mg base CX0 1 f_squared d_squared ["one"] (sp_squared K) := ok_squared T
  have G_divided : FnOk P w K mg base CX0 2 f_divided d_divided ["one", "other"] (sp_divided K) := ok_divided T
  refine T.F_stall_led.ok sc_stall_led (fun vs H Q E h => ?_) (fun cdv A outer s H vs Q E hr h => ?_)
  · obtain ⟨v, s, vx, x, rfl, _⟩ := h
    rfl
  · obtain ⟨v, s, vx, x, rfl, ⟨p, va, vb, vr, rfl, hp, ha, hb, hr'⟩, hx, br, bx, x0, q⟩ := h
    refine ⟨_, (pss_one (ps_ret (pe_tup (pa_cons (pe_ix ix_tup (pv 0) pe_int (fun _ _ => rfl)) (pa_cons (pe_ix ix_tup (pv 0) pe_int (fun _ _ => rfl)) (pa_cons (pv 1) (pa_cons (pe_call G_divided (hr.mono (by decide)) (by rfl) T.g_divided T.k_divided T.b_divided .nil pass0 (pa_cons (pe_call G_squared (hr.mono (by decide)) (by rfl) T.g_squared T.k_squared T.b_squared .nil pass0 (pa_cons (pe_ix ix_tup (pv 0) pe_int (fun _ _ => rfl)) pa_nil)) (pa_cons (pv 1) pa_nil))) (pa_cons (pe_ix ix_tup (pv 0) pe_int (fun _ _ => rfl)) pa_nil)))))))), ?_⟩
    walk_at "r"
    refine ⟨_, _, rfl, hr', br.mono (by decide), fun H1 u1 s1 h1 => ?_⟩
    walk_at "r"
    refine ⟨_, _, _, _, rfl, h1, hx.same s1, (br.mul br).mono (by decide), bx.mono (by decide), ne_of_pos x0, fun H2 u2 s2 h2 => ?_⟩
    have hp := s2 _ _ (s1 _ _ hp)
    walk_at "r"
    intro p3 n3
    have sm := same_upd (o := .tup [V.int (s.u : Nat), .int (s.v : Nat), vx, u2, vr]) n3
    exact q _ _ ((s1.trans s2).trans sm) ⟨p3, vx, u2, vr, rfl, upd_same, ((hx.same s1).same s2).same sm, h2.same sm, ((hr'.same s1).same s2).same sm⟩
def sp_behind (K : PySem.W.Frag) : Sp := fun vs H Q _ => ∃ (v : V) (s : Stl) (wn : Nat) (vx : V) (x : Rat), vs = [v, .int (wn : Nat), vx] ∧ IsSt K H v s ∧ IsF K H vx x ∧ BdSt 1900 s ∧ Bd 1900 x ∧ 0 < s.a ∧ 0 < s.b ∧ 0 < x ∧ ∀ H' u, Same H H' → IsSt K H' u (s.behind wn x) → Q u H'
theorem ok_stall_behind (T : Txt K mg f_is_integer f_is_row f_is_fraction f_is_amount f_is_some f_are_amounts f_added f_negated f_lessened f_multiplied f_divided f_squared f_summed f_lies_below f_is_stall f_hold_of f_stalls_of f_kept_of f_held f_is_index f_is_move f_check_purse f_check_wish f_stall_led f_stall_behind f_stalls_behind f_deal_fault f_check_deal f_web_behind f_left_with f_played f_owes f_is_deal f_stands_alike f_check_alike f_change_of f_l_deck f_l_pick f_l_fold f_l_divisor f_l_made f_l_amount f_l_stall f_l_deep f_l_odd f_l_row f_l_bad_row f_l_move f_l_bad_deal f_l_is_some f_l_is_row f_l_is_below f_l_is_move f_l_due f_l_answer f_l_word f_l_word_is_due f_law f_BadDeal_init f_Web_init f_Web_eq c_BadPurse c_BadWish c_BadDeal c_Web c_ZERO d_is_integer d_is_row d_is_fraction d_is_amount d_is_some d_are_amounts d_added d_negated d_lessened d_multiplied d_divided d_squared d_summed d_lies_below d_is_stall d_hold_of d_stalls_of d_kept_of d_held d_is_index d_is_move d_check_purse d_check_wish d_stall_led d_stall_behind d_stalls_behind d_deal_fault d_check_deal d_web_behind d_left_with d_played d_owes d_is_deal d_stands_alike d_check_alike d_change_of d_l_deck d_l_pick d_l_fold d_l_divisor d_l_made d_l_amount d_l_stall d_l_deep d_l_odd d_l_row d_l_bad_row d_l_move d_l_bad_deal d_l_is_some d_l_is_row d_l_is_below d_l_is_move d_l_due d_l_answer d_l_word d_l_word_is_due d_law d_BadDeal_init d_Web_init d_Web_eq) : FnOk P w K mg base CX0 4 f_stall_behind d_stall_behind ["stall", "ware", "amount"] (sp_behind K) := by
  have G_squared : FnOk P w K mg base CX0 1 f_squared d_squared ["one"] (sp_squared K) := ok_squared T
  have G_divided : FnOk P w K mg base CX0 2 f_divided d_divided ["one", "other"] (sp_divided K) := ok_divided T
  have G_added : FnOk P w K mg base CX0 1 f_added d_added ["one", "other"] (sp_added K) := ok_added T
  have G_stall_led : FnOk P w K mg base CX0 3 f_stall_led d_stall_led ["stall", "amount"] (sp_stall_led K) := ok_stall_led T
  refine T.F_stall_behind.ok sc_stall_behind (fun vs H Q E h => ?_) (fun cdv A outer s H vs Q E hr h => ?_)
  · obtain ⟨v, s, wn, vx, x, rfl, _⟩ := h
    rfl
  · obtain ⟨v, s, wn, vx, x, rfl, hst, hx, bs, bx, a0, b0, x0, q⟩ := h
    obtain ⟨p, va, vb, vr, rfl, hp, ha, hb, hr'⟩ := id hst
    refine ⟨_, (pss_cons (ps_asg (pv 0) (pg_tup rfl (pgs_cons (pg_name (i := 3) sc_stall_behind.nd rfl (by first | exact Or.inl rfl | exact Or.inr rfl)) (pgs_cons (pg_name (i := 4) sc_stall_behind.nd rfl (by first | exact Or.inl rfl | exact Or.inr rfl)) (pgs_cons (pg_name (i := 5) sc_stall_behind.nd rfl (by first | exact Or.inl rfl | exact Or.inr rfl)) (pgs_cons (pg_name (i := 6) sc_stall_behind.nd rfl (by first | exact Or.inl rfl | exact Or.inr rfl)) (pgs_cons (pg_name (i := 7) sc_stall_behind.nd rfl (by first | exact Or.inl rfl | exact Or.inr rfl)) pgs_nil)))))))
      (pss_cons (ps_if (pt_cmpR op_eq (pv 1) (pv 3) (nomark _))
        (pss_one (ps_ret (pe_call G_stall_led (hr.mono (by decide)) (by rfl) T.g_stall_led T.k_stall_led T.b_stall_led .nil pass0 (pa_cons (pv 0) (pa_cons (pe_call G_added (hr.mono (by decide)) (by rfl) T.g_added T.k_added T.b_added .nil pass0 (pa_cons (pv 5) (pa_cons (pv 2) pa_nil))) pa_nil)))))
        pss_nil)
      (pss_cons (ps_set (i := 8) sc_stall_behind.nd rfl (by first | exact Or.inl rfl | exact Or.inr rfl) (pe_call G_added (hr.mono (by decide)) (by rfl) T.g_added T.k_added T.b_added .nil pass0 (pa_cons (pv 6) (pa_cons (pv 2) pa_nil))))
      (pss_one (ps_ret (pe_tup (pa_cons (pv 3) (pa_cons (pv 4) (pa_cons (pe_call G_divided (hr.mono (by decide)) (by rfl) T.g_divided T.k_divided T.b_divided .nil pass0 (pa_cons (pe_call G_squared (hr.mono (by decide)) (by rfl) T.g_squared T.k_squared T.b_squared .nil pass0 (pa_cons (pv 7) pa_nil)) (pa_cons (pv 8) pa_nil))) (pa_cons (pv 8) (pa_cons (pv 7) pa_nil))))))))))), ?_⟩
    walk_at "r"
    walk_at "if"
    · rename_i e
      have e' : wn = s.u := by omega
      rw [show s.behind wn x = s.first (s.a + x) from if_pos e'] at q
      walk_at "r"
      refine ⟨_, _, _, _, rfl, ha, hx, bs.a.mono (by decide), bx.mono (by decide), trivial, fun H1 u1 s1 h1 => ?_⟩
      walk_at "r"
      exact ⟨_, s, _, _, rfl, hst.same s1, h1, bs.r, (bs.a.add bx).mono (by decide), by grind, fun H2 u2 s2 h2 => q _ _ (s1.trans s2) h2⟩
    · rename_i e
      have e' : ¬ wn = s.u := by omega
      rw [show s.behind wn x = s.secnd (s.b + x) from if_neg e'] at q
      walk_at "r"
      refine ⟨_, _, _, _, rfl, hb, hx, bs.b.mono (by decide), bx.mono (by decide), trivial, fun H1 u1 s1 h1 => ?_⟩
      walk_at "r"
      refine ⟨_, _, rfl, hr'.same s1, bs.r.mono (by decide), fun H2 u2 s2 h2 => ?_⟩
      walk_at "r"
      refine ⟨_, _, _, _, rfl, h2, h1.same s2, (bs.r.mul bs.r).mono (by decide), (bs.b.add bx).mono (by decide), ne_of_pos (by grind), fun H3 u3 s3 h3 => ?_⟩
      walk_at "r"
      intro p4 n4
      have sm := same_upd (o := .tup [V.int (s.u : Nat), .int (s.v : Nat), u3, u1, vr]) n4
      exact q _ _ (((s1.trans s2).trans s3).trans sm) ⟨p4, u3, u1, vr, rfl, upd_same, h3.same sm, ((h1.same s2).same s3).same sm, (((hr'.same s1).same s2).same s3).same sm⟩
end
end My
namespace My
open PySem PySem.Spec PyProof.Rows L2
variable {K : PySem.W.Frag}
theorem at_some {xs : List V} {i : Nat} {x : V} (h : xs[i]? = some x) : atI xs (i : Int) = some x := atI_nat h
theorem in_pair {u v w : Nat} (h : w = u ∨ w = v) : inV (.int (w : Nat)) [V.int (u : Nat), .int (v : Nat)] = true := by
  rcases h with rfl | rfl <;> simp [inV, eqV]
section
variable {P : Program} {w : World} {K : PySem.W.Frag} {mg : Str → Option Value} {base : Heap} {f_is_integer f_is_row f_is_fraction f_is_amount f_is_some f_are_amounts f_added f_negated f_lessened f_multiplied f_divided f_squared f_summed f_lies_below f_is_stall f_hold_of f_stalls_of f_kept_of f_held f_is_index f_is_move f_check_purse f_check_wish f_stall_led f_stall_behind f_stalls_behind f_deal_fault f_check_deal f_web_behind f_left_with f_played f_owes f_is_deal f_stands_alike f_check_alike f_change_of f_l_deck f_l_pick f_l_fold f_l_divisor f_l_made f_l_amount f_l_stall f_l_deep f_l_odd f_l_row f_l_bad_row f_l_move f_l_bad_deal f_l_is_some f_l_is_row f_l_is_below f_l_is_move f_l_due f_l_answer f_l_word f_l_word_is_due f_law f_BadDeal_init f_Web_init f_Web_eq c_BadPurse c_BadWish c_BadDeal c_Web c_ZERO : Addr} {d_is_integer d_is_row d_is_fraction d_is_amount d_is_some d_are_amounts d_added d_negated d_lessened d_multiplied d_divided d_squared d_summed d_lies_below d_is_stall d_hold_of d_stalls_of d_kept_of d_held d_is_index d_is_move d_check_purse d_check_wish d_stall_led d_stall_behind d_stalls_behind d_deal_fault d_check_deal d_web_behind d_left_with d_played d_owes d_is_deal d_stands_alike d_check_alike d_change_of d_l_deck d_l_pick d_l_fold d_l_divisor d_l_made d_l_amount d_l_stall d_l_deep d_l_odd d_l_row d_l_bad_row d_l_move d_l_bad_deal d_l_is_some d_l_is_row d_l_is_below d_l_is_move d_l_due d_l_answer d_l_word d_l_word_is_due d_law d_BadDeal_init d_Web_init d_Web_eq : FuncData}
def sp_is_index (K : PySem.W.Frag) (C : Addr) : Sp := fun vs H Q _ => ∃ (x : V) (n : Nat) (ss : List Stl) (i : Nat), vs = [x, .int (i : Nat)] ∧ IsWeb K C H x n ss ∧ i < ss.length ∧ Q (.bl true) H
theorem ok_is_index (T : Txt K mg f_is_integer f_is_row f_is_fraction f_is_amount f_is_some f_are_amounts f_added f_negated f_lessened f_multiplied f_divided f_squared f_summed f_lies_below f_is_stall f_hold_of f_stalls_of f_kept_of f_held f_is_index f_is_move f_check_purse f_check_wish f_stall_led f_stall_behind f_stalls_behind f_deal_fault f_check_deal f_web_behind f_left_with f_played f_owes f_is_deal f_stands_alike f_check_alike f_change_of f_l_deck f_l_pick f_l_fold f_l_divisor f_l_made f_l_amount f_l_stall f_l_deep f_l_odd f_l_row f_l_bad_row f_l_move f_l_bad_deal f_l_is_some f_l_is_row f_l_is_below f_l_is_move f_l_due f_l_answer f_l_word f_l_word_is_due f_law f_BadDeal_init f_Web_init f_Web_eq c_BadPurse c_BadWish c_BadDeal c_Web c_ZERO d_is_integer d_is_row d_is_fraction d_is_amount d_is_some d_are_amounts d_added d_negated d_lessened d_multiplied d_divided d_squared d_summed d_lies_below d_is_stall d_hold_of d_stalls_of d_kept_of d_held d_is_index d_is_move d_check_purse d_check_wish d_stall_led d_stall_behind d_stalls_behind d_deal_fault d_check_deal d_web_behind d_left_with d_played d_owes d_is_deal d_stands_alike d_check_alike d_change_of d_l_deck d_l_pick d_l_fold d_l_divisor d_l_made d_l_amount d_l_stall d_l_deep d_l_odd d_l_row d_l_bad_row d_l_move d_l_bad_deal d_l_is_some d_l_is_row d_l_is_below d_l_is_move d_l_due d_l_answer d_l_word d_l_word_is_due d_law d_BadDeal_init d_Web_init d_Web_eq) : FnOk P w K mg base CX0 2 f_is_index d_is_index ["web", "thing"] (sp_is_index K c_Web) := by
  have G_is_integer : FnOk P w K mg base CX0 1 f_is_integer d_is_integer ["thing"] sp_is_integer := ok_is_integer T
  refine T.F_is_index.ok sc_is_index (fun vs H Q E h => ?_) (fun cdv A outer s H vs Q E hr h => ?_)
  · obtain ⟨x, n, ss, i, rfl, _⟩ := h
    rfl
  · obtain ⟨x, n, ss, i, rfl, ⟨p, dx, t, xs, rfl, hp, ht, hss⟩, hi, q⟩ := h
    have hl := hss.len
    refine ⟨_, (pss_one (ps_ret (pe_and (pe_call G_is_integer (hr.mono (by decide)) (by rfl) T.g_is_integer T.k_is_integer T.b_is_integer .nil pass0 (pa_cons (pv 1) pa_nil)) (pe_one (pe_chain op_le op_lt pe_int (pv 1) (pe_callB call_lenN (by rfl) T.z_len (by decide +kernel) (pa_cons (pe_fld (pv 0) rfl) pa_nil))))))), ?_⟩
    walk_at "r"
    refine ⟨_, rfl, ?_⟩
    walk_at "r"
    refine ⟨_, _, _, _, _, rfl, hp, T.w_Web.it.cl, T.n_Web_stalls, wF_stalls _ _, ?_⟩
    walk_at "r"
    rw [decide_eq_true (by omega)]
    exact q
def sp_is_move (K : PySem.W.Frag) (C : Addr) : Sp := fun vs H Q _ => ∃ (x mv : V) (n : Nat) (ss : List Stl) (i wn : Nat) (s : Stl) (y : Rat), vs = [x, mv] ∧ IsWeb K C H x n ss ∧ IsMv K H mv i wn y ∧ ss[i]? = some s ∧ (wn = s.u ∨ wn = s.v) ∧ 0 < y ∧ ∀ H', Same H H' → Q (.bl true) H'
theorem ok_is_move (T : Txt K mg f_is_integer f_is_row f_is_fraction f_is_amount f_is_some f_are_amounts f_added f_negated f_lessened f_multiplied f_divided f_squared f_summed f_lies_below f_is_stall f_hold_of f_stalls_of f_kept_of f_held f_is_index f_is_move f_check_purse f_check_wish f_stall_led f_stall_behind f_stalls_behind f_deal_fault f_check_deal f_web_behind f_left_with f_played f_owes f_is_deal f_stands_alike f_check_alike f_change_of f_l_deck f_l_pick f_l_fold f_l_divisor f_l_made f_l_amount f_l_stall f_l_deep f_l_odd f_l_row f_l_bad_row f_l_move f_l_bad_deal f_l_is_some f_l_is_row f_l_is_below f_l_is_move f_l_due f_l_answer f_l_word f_l_word_is_due f_law f_BadDeal_init f_Web_init f_Web_eq c_BadPurse c_BadWish c_BadDeal c_Web c_ZERO d_is_integer d_is_row d_is_fraction d_is_amount d_is_some d_are_amounts d_added d_negated d_lessened d_multiplied d_divided d_squared d_summed d_lies_below d_is_stall d_hold_of d_stalls_of d_kept_of d_held d_is_index d_is_move d_check_purse d_check_wish d_stall_led d_stall_behind d_stalls_behind d_deal_fault d_check_deal d_web_behind d_left_with d_played d_owes d_is_deal d_stands_alike d_check_alike d_change_of d_l_deck d_l_pick d_l_fold d_l_divisor d_l_made d_l_amount d_l_stall d_l_deep d_l_odd d_l_row d_l_bad_row d_l_move d_l_bad_deal d_l_is_some d_l_is_row d_l_is_below d_l_is_move d_l_due d_l_answer d_l_word d_l_word_is_due d_law d_BadDeal_init d_Web_init d_Web_eq) : FnOk P w K mg base CX0 4 f_is_move d_is_move ["web", "thing"] (sp_is_move K c_Web) := by
  have G_is_integer : FnOk P w K mg base CX0 1 f_is_integer d_is_integer ["thing"] sp_is_integer := ok_is_integer T
  have G_is_some : FnOk P w K mg base CX0 3 f_is_some d_is_some ["thing"] (sp_is_some K) := ok_is_some T
  have G_is_index : FnOk P w K mg base CX0 2 f_is_index d_is_index ["web", "thing"] (sp_is_index K c_Web) := ok_is_index T
  refine T.F_is_move.ok sc_is_move (fun vs H Q E h => ?_) (fun cdv A outer s H vs Q E hr h => ?_)
  · obtain ⟨x, mv, n, ss, i, wn, s, y, rfl, _⟩ := h
    rfl
  · obtain ⟨x, mv, n, ss, i, wn, s, y, rfl, hw, ⟨pm, vx, rfl, hm, hy⟩, hi, hwn, y0, q⟩ := h
    have hil : i < ss.length := (List.getElem?_eq_some_iff.mp hi).1
    obtain ⟨p, dx, t, xs, rfl, hp, ht, hss⟩ := id hw
    obtain ⟨z, hz, ⟨pz, va, vb, vr, rfl, hpz, _⟩⟩ := hss.get hi
    refine ⟨_, (pss_cons (ps_if (PW.pt (pw_or (pt_not (pt_val (pe_callB call_isi (by rfl) T.z_isinstance (by decide +kernel) (pa_cons (pv 1) (pa_cons (pe_bltn (v := .ty "tuple") (u := .type "tuple") (by rfl) T.z_tuple (by decide +kernel) rfl) pa_nil))))) (pw_or1 (pt_cmpR op_ne (pe_callB call_lenN (by rfl) T.z_len (by decide +kernel) (pa_cons (pv 1) pa_nil)) pe_int (nomark _)))))
        (pss_one (ps_ret pe_bl))
        pss_nil)
      (pss_cons (ps_asg (pv 1) (pg_tup rfl (pgs_cons (pg_name (i := 2) sc_is_move.nd rfl (by first | exact Or.inl rfl | exact Or.inr rfl)) (pgs_cons (pg_name (i := 3) sc_is_move.nd rfl (by first | exact Or.inl rfl | exact Or.inr rfl)) (pgs_cons (pg_name (i := 4) sc_is_move.nd rfl (by first | exact Or.inl rfl | exact Or.inr rfl)) pgs_nil)))))
      (pss_cons (ps_if (PW.pt (pw_or (pt_not (pt_val (pe_call G_is_index (hr.mono (by decide)) (by rfl) T.g_is_index T.k_is_index T.b_is_index .nil pass0 (pa_cons (pv 0) (pa_cons (pv 2) pa_nil))))) (pw_or1 (pt_not (pt_val (pe_call G_is_integer (hr.mono (by decide)) (by rfl) T.g_is_integer T.k_is_integer T.b_is_integer .nil pass0 (pa_cons (pv 3) pa_nil)))))))
        (pss_one (ps_ret pe_bl))
        pss_nil)
      (pss_one (ps_ret (pe_and (pe_cmpR op_in_seq (pv 3) (pe_slice sl_tup (pe_ix ix_tup (pe_fld (pv 0) rfl) (pv 2) (fun _ _ => rfl)) po_none (po_some pe_int)) (by rfl)) (pe_one (pe_call G_is_some (hr.mono (by decide)) (by rfl) T.g_is_some T.k_is_some T.b_is_some .nil pass0 (pa_cons (pv 4) pa_nil))))))))), ?_⟩
    walk_at "r"
    refine ⟨_, n, ss, i, rfl, hw, hil, ?_⟩
    walk_at "r"
    refine ⟨_, rfl, ?_⟩
    walk_at "r"
    refine ⟨_, _, _, _, _, rfl, hp, T.w_Web.it.cl, T.n_Web_stalls, wF_stalls _ _, ?_⟩
    walk_at "r"
    refine rd_ixT ht (at_some hz) ?_
    walk_at "r"
    refine ⟨_, _, rfl, .of hpz, (by show ¬ (HT.sIx 5 0 none = 0 ∧ HT.sIx 5 5 (some 2) = 5); decide), fun p2 n2 => ?_⟩
    have sm := same_upd (o := .tup (cutV [V.int (s.u : Nat), .int (s.v : Nat), va, vb, vr] none (some 2))) n2
    refine ⟨_, _, rfl, .inr (.of upd_same), rfl, rfl, ?_⟩
    rw [show cutV [V.int (s.u : Nat), .int (s.v : Nat), va, vb, vr] none (some 2) = [V.int (s.u : Nat), .int (s.v : Nat)] from rfl, in_pair hwn, if_neg Bool.false_ne_true]
    walk_at "r"
    refine ⟨_, _, rfl, hy.same sm, y0, ?_⟩
    exact q _ sm
end
end My
namespace My
open PySem PySem.Spec PyProof.Rows L2
variable {K : PySem.W.Frag}
theorem mul_div_self {k x : Rat} (h : x ≠ 0) : x * (k / x) = k := by
  rw [Rat.div_def, ← Rat.mul_assoc, Rat.mul_comm x k, Rat.mul_assoc, Rat.mul_inv_cancel x h, Rat.mul_one]
theorem div_pos' {k x : Rat} (h : 0 < k) (hx : 0 < x) : 0 < k / x := by
  rw [Rat.div_def]
  exact Rat.mul_pos h (Rat.inv_pos.mpr hx)
theorem behind_ok {n : Nat} {s : Stl} (h : OkSt n s) (wn : Nat) {y : Rat} (y0 : 0 < y) : OkSt n (s.behind wn y) := by
  have a0 := h.a
  have b0 := h.b
  have rr := sq_pos h.r
  unfold Stl.behind
  split
  · have p : 0 < s.a + y := by grind
    exact ⟨h.u, h.v, h.ne, p, div_pos' rr p, h.r, mul_div_self (ne_of_pos p)⟩
  · have p : 0 < s.b + y := by grind
    exact ⟨h.u, h.v, h.ne, div_pos' rr p, p, h.r, (Rat.mul_comm _ _).trans (mul_div_self (ne_of_pos p))⟩
theorem behind_bd {k l : Nat} {n : Nat} {s : Stl} (hs : OkSt n s) (h : BdSt k s) (wn : Nat) {y : Rat} (y0 : 0 < y) (b : Bd l y) : BdSt (3 * k + l + 1) (s.behind wn y) := by
  have a0 := hs.a
  have b0 := hs.b
  unfold Stl.behind
  split
  · have p : 0 < s.a + y := by grind
    exact ⟨(h.a.add b).mono (by omega), ((h.r.mul h.r).div (ne_of_pos p) (h.a.add b)).mono (by omega), h.r.mono (by omega)⟩
  · have p : 0 < s.b + y := by grind
    exact ⟨((h.r.mul h.r).div (ne_of_pos p) (h.b.add b)).mono (by omega), (h.b.add b).mono (by omega), h.r.mono (by omega)⟩
theorem Sts.set {H : Hp} {xs : List V} {ss : List Stl} {v : V} {s : Stl} (h : Sts K H xs ss) (hv : IsSt K H v s) (i : Nat) : Sts K H (xs.set i v) (ss.set i s) := by
  unfold Sts at *
  induction h generalizing i with
  | nil => exact .nil
  | cons h t ih =>
    cases i with
    | zero => exact .cons hv t
    | succ i => exact .cons h (ih i)
theorem set_parts {xs : List V} {i : Nat} {v : V} (h : i < xs.length) : cutV xs none (some (i : Int)) ++ [v] ++ cutV xs (some ((i : Int) + 1)) none = xs.set i v := by
  have e : ((i : Int) + 1) = ((i + 1 : Nat) : Int) := by omega
  rw [e]
  unfold cutV
  rw [HT.sIx_none, HT.sIx_none, HT.sIx_nat, HT.sIx_nat, List.set_eq_take_append_cons_drop, if_pos h]
  have m1 : min i xs.length = i := by omega
  have m2 : min (i + 1) xs.length = i + 1 := by omega
  rw [m1, m2]
  simp
  exact List.take_of_length_le (by simp)
theorem rd_catA {K : PySem.W.Frag} {H : Hp} {a b : Addr} {xs ys : List V} {Q : VK} (ha : H a = some (.tup xs)) (hb : H b = some (.tup ys)) (hl : xs.length + ys.length ≤ sizeLine)
    (q : ∀ p H', Same H H' → H' p = some (.tup (xs ++ ys)) → Q (.ref p) H') : rCatA K (.ref a) (.ref b) H Q := by
  refine ⟨a, b, xs, ys, rfl, rfl, .of ha, .of hb, hl, fun e => ?_, fun _ e => ?_, fun _ _ p np => q p _ (same_upd np) upd_same⟩
  · subst e
    exact q b H (Same.refl _) hb
  · subst e
    exact q a H (Same.refl _) (by rw [List.append_nil]; exact ha)
theorem rd_slT {K : PySem.W.Frag} {H : Hp} {a : Addr} {xs : List V} {lo hi : Option Int} {Q : VK} (ha : H a = some (.tup xs)) (hw : ¬ (HT.sIx xs.length 0 lo = 0 ∧ HT.sIx xs.length xs.length hi = xs.length))
    (q : ∀ p H', Same H H' → H' p = some (.tup (cutV xs lo hi)) → Q (.ref p) H') : rSlT K (.ref a) lo hi H Q := ⟨a, xs, rfl, .of ha, hw, fun p np => q p _ (same_upd np) upd_same⟩
/-- a web within its bounds -/
structure OkW (n k : Nat) (ss : List Stl) : Prop where
  n1 : 1 ≤ n
  n8 : n ≤ 8
  len : ss.length ≤ 16
  ok : ∀ s ∈ ss, OkSt n s ∧ BdSt k s
theorem OkW.set {n k : Nat} {ss : List Stl} (h : OkW n k ss) {s : Stl} (h1 : OkSt n s) (h2 : BdSt k s) (i : Nat) : OkW n k (ss.set i s) :=
  ⟨h.n1, h.n8, by rw [List.length_set]; exact h.len, fun t ht => by
    rcases List.mem_or_eq_of_mem_set ht with z | z
    · exact h.ok t z
    · subst z
      exact ⟨h1, h2⟩⟩
theorem BdSt.mono {k l : Nat} {s : Stl} (h : BdSt k s) (hl : k ≤ l) : BdSt l s := ⟨h.a.mono hl, h.b.mono hl, h.r.mono hl⟩
theorem OkW.mono {n k l : Nat} {ss : List Stl} (h : OkW n k ss) (hl : k ≤ l) : OkW n l ss := ⟨h.n1, h.n8, h.len, fun s hs => ⟨(h.ok s hs).1, (h.ok s hs).2.mono hl⟩⟩
end My
namespace My
open PySem PySem.Spec PyProof.Rows L2
variable {K : PySem.W.Frag}
def Stl.hold (s : Stl) (w : Nat) : Rat := if w = s.u then s.a else s.b
def Stl.at (s : Stl) (w : Nat) : Bool := decide (w = s.u) || decide (w = s.v)
def at_ (ss : List Stl) (w : Nat) : List Stl := ss.filter (·.at w)
def sumR (l : List Rat) : Rat := l.foldl (· + ·) 0
def heldAt (ss : List Stl) (w : Nat) : Rat := sumR ((at_ ss w).map (·.hold w))
def heldAll (n : Nat) (ss : List Stl) : List Rat := (List.range n).map (heldAt ss)
def Fs (K : PySem.W.Frag) (H : Hp) (ys : List V) (rs : List Rat) : Prop := Paired (IsF K H) ys rs
def IsFs (K : PySem.W.Frag) (H : Hp) (x : V) (rs : List Rat) : Prop := ∃ t ys, x = .ref t ∧ H t = some (.tup ys) ∧ Fs K H ys rs
theorem Fs.same {H H' : Hp} {ys : List V} {rs : List Rat} (s : Same H H') (h : Fs K H ys rs) : Fs K H' ys rs := Paired.mapP h fun _ _ h => h.same s
theorem IsFs.same {H H' : Hp} {x : V} {rs : List Rat} (s : Same H H') (h : IsFs K H x rs) : IsFs K H' x rs := by
  obtain ⟨t, ys, e, h1, h2⟩ := h
  exact ⟨t, ys, e, s _ _ h1, h2.same s⟩
theorem Fs.len {H : Hp} {ys : List V} {rs : List Rat} (h : Fs K H ys rs) : ys.length = rs.length := Paired.length h
theorem Paired.at {α : Type} {F : V → α → Prop} {xs : List V} {as : List α} (h : Paired F xs as) : ∀ {i : Nat} {x : V}, xs[i]? = some x → ∃ a, as[i]? = some a ∧ F x a := by
  induction h with
  | nil =>
    intro i x e
    simp at e
  | cons h t ih =>
    intro i x e
    match i with
    | 0 =>
      simp at e
      subst e
      exact ⟨_, rfl, h⟩
    | i + 1 => exact ih (by simpa using e)
theorem Paired.get' {α : Type} {F : V → α → Prop} {xs : List V} {as : List α} (h : Paired F xs as) : ∀ {i : Nat} {a : α}, as[i]? = some a → ∃ x, xs[i]? = some x ∧ F x a := by
  induction h with
  | nil =>
    intro i x e
    simp at e
  | cons h t ih =>
    intro i x e
    match i with
    | 0 =>
      simp at e
      subst e
      exact ⟨_, rfl, h⟩
    | i + 1 => exact ih (by simpa using e)
theorem stl_at_in (s : Stl) (w : Nat) : inV (.int (w : Nat)) [V.int (s.u : Nat), .int (s.v : Nat)] = s.at w := by
  have e : ∀ k : Nat, eqV (.int (k : Nat)) (.int (w : Nat)) = decide (w = k) := fun k => by
    rw [Bool.eq_iff_iff]
    simp [eqV]
    omega
  show (eqV _ _ || (eqV _ _ || false)) = _
  rw [e, e, Bool.or_false]
  rfl
/-- bounds of sums -/
theorem sumR_snoc (l : List Rat) (r : Rat) : sumR (l ++ [r]) = sumR l + r := by
  unfold sumR
  rw [List.foldl_append]
  rfl
theorem bd_zero {k : Nat} (h : 0 < k) : Bd k 0 := ⟨Nat.two_pow_pos k, Nat.one_lt_two_pow (by omega)⟩
/-- sizes of sums, each item with its own bits -/
def BR (rs : List Rat) (M : Nat) : Prop := ∃ ks : List Nat, Paired (fun r k => Bd k r) rs ks ∧ 1 + (ks.map (· + 1)).sum ≤ M
theorem fold_bd {rs : List Rat} {ks : List Nat} (h : Paired (fun r k => Bd k r) rs ks) : ∀ (a : Rat) (A : Nat), Bd A a → Bd (A + (ks.map (· + 1)).sum) (rs.foldl (· + ·) a) := by
  induction h with
  | nil =>
    intro a A ha
    exact ha
  | cons h t ih =>
    intro a A ha
    refine (ih _ _ (ha.add h)).mono ?_
    rw [List.map_cons, List.sum_cons]
    omega
theorem BR.sum {rs : List Rat} {M : Nat} (h : BR rs M) : Bd M (sumR rs) := by
  obtain ⟨ks, h, hm⟩ := h
  exact (fold_bd h 0 1 (bd_zero (by decide))).mono hm
theorem BR.take {rs : List Rat} {M : Nat} (h : BR rs M) (i : Nat) : BR (rs.take i) M := by
  obtain ⟨ks, h, hm⟩ := h
  refine ⟨ks.take i, ?_, Nat.le_trans (Nat.add_le_add_left ?_ 1) hm⟩
  · clear hm
    induction h generalizing i with
    | nil => cases i <;> exact .nil
    | cons h t ih =>
      cases i with
      | zero => exact .nil
      | succ i => exact .cons h (ih i)
  · clear hm h
    induction ks generalizing i with
    | nil => simp
    | cons k ks ih =>
      cases i with
      | zero => simp
      | succ i =>
        rw [List.take_succ_cons, List.map_cons, List.map_cons, List.sum_cons, List.sum_cons]
        have := ih i
        omega
theorem BR.mem {rs : List Rat} {M : Nat} (h : BR rs M) {r : Rat} (hr : r ∈ rs) : Bd M r := by
  obtain ⟨ks, h, hm⟩ := h
  induction h generalizing M with
  | nil => simp at hr
  | cons h t ih =>
    rw [List.map_cons, List.sum_cons] at hm
    rcases List.mem_cons.mp hr with rfl | hr
    · exact h.mono (by omega)
    · exact ih hr (by omega)
theorem take_at {α : Type} {l : List α} {i : Nat} {a : α} (h : l[i]? = some a) : l.take (i + 1) = l.take i ++ [a] := by
  rw [List.take_add_one, h]
  rfl
theorem IsF.c0 {p : Addr} {H : Hp} (h : SqT K (fun _ => none) p [.int 0, .int 1]) : IsF K H (.ref p) 0 := ⟨p, rfl, .inr h⟩
theorem hold_bd {k : Nat} {s : Stl} (h : BdSt k s) (w : Nat) : Bd k (s.hold w) := by
  unfold Stl.hold
  split
  · exact h.a
  · exact h.b
/-- sizes of stalls, each with its own bits -/
def BL (ss : List Stl) (M : Nat) : Prop := ∃ ks : List Nat, Paired (fun s k => BdSt k s) ss ks ∧ 1 + (ks.map (· + 1)).sum ≤ M
theorem BL.mono {ss : List Stl} {M N : Nat} (h : BL ss M) (l : M ≤ N) : BL ss N := h.imp fun _ h => ⟨h.1, Nat.le_trans h.2 l⟩
theorem bl_of {k : Nat} {ss : List Stl} (h16 : ss.length ≤ 16) (h : ∀ s ∈ ss, BdSt k s) : BL ss (16 * (k + 1) + 1) := by
  refine ⟨ss.map fun _ => k, ?_, ?_⟩
  · clear h16
    induction ss with
    | nil => exact .nil
    | cons s ss ih => exact .cons (h s (by simp)) (ih fun t ht => h t (by simp [ht]))
  · have e : ((ss.map fun _ => k).map (· + 1)).sum = ss.length * (k + 1) := by
      clear h h16
      induction ss with
      | nil => simp
      | cons s ss ih =>
        rw [List.map_cons, List.map_cons, List.sum_cons, ih, List.length_cons, Nat.add_mul]
        omega
    rw [e]
    have := Nat.mul_le_mul_right (k + 1) h16
    omega
theorem BL.at {ss : List Stl} {M : Nat} (h : BL ss M) (w : Nat) : BR ((at_ ss w).map (·.hold w)) M := by
  obtain ⟨ks, h, hm⟩ := h
  have key : ∃ js : List Nat, Paired (fun r k => Bd k r) ((at_ ss w).map (·.hold w)) js ∧ (js.map (· + 1)).sum ≤ (ks.map (· + 1)).sum := by
    clear hm
    induction h with
    | nil => exact ⟨[], .nil, Nat.le_refl _⟩
    | @cons s k ss ks h t ih =>
      obtain ⟨js, h1, h2⟩ := ih
      unfold at_ at *
      rw [List.filter_cons]
      split
      · refine ⟨k :: js, .cons (hold_bd h w) h1, ?_⟩
        rw [List.map_cons, List.map_cons, List.sum_cons, List.sum_cons]
        omega
      · refine ⟨js, h1, ?_⟩
        rw [List.map_cons, List.sum_cons]
        omega
  obtain ⟨js, h1, h2⟩ := key
  exact ⟨js, h1, by omega⟩
theorem BL.held {ss : List Stl} {M : Nat} (h : BL ss M) (w : Nat) : Bd M (heldAt ss w) := (h.at w).sum
theorem upTo_bind {α β : Type} (g : α → Option β) : ∀ l : List α, upTo (fun i => (l[i]?).bind g) l.length = l.filterMap g
  | [] => rfl
  | a :: l => by
    have ih := upTo_bind g l
    unfold upTo at *
    rw [List.length_cons, List.range_succ_eq_map, List.filterMap_cons, List.filterMap_map]
    have e : ((fun i => ((a :: l)[i]?).bind g) ∘ Nat.succ) = fun i => (l[i]?).bind g := rfl
    rw [e, ih, List.filterMap_cons]
    rfl
theorem upTo_filter (p : Stl → Bool) (ss : List Stl) : upTo (fun i => (ss[i]?).filter p) ss.length = ss.filter p := by
  have e : (fun i : Nat => (ss[i]?).filter p) = fun i : Nat => (ss[i]?).bind (Option.guard p) := by
    funext i
    cases ss[i]? <;> simp [Option.filter, Option.guard]
  rw [e, upTo_bind, List.filterMap_eq_filter]
theorem upTo_map {α : Type} {n : Nat} (g : Nat → α) : upTo (fun i => some (g i)) n = (List.range n).map g := by
  unfold upTo
  induction List.range n with
  | nil => rfl
  | cons x l ih => simp [ih]
theorem upTo_list {α β : Type} (l : List α) (g : α → β) : upTo (fun i => (l[i]?).map g) l.length = l.map g := by
  have e : (fun i : Nat => (l[i]?).map g) = fun i : Nat => (l[i]?).bind (fun a => some (g a)) := by
    funext i
    cases l[i]? <;> rfl
  rw [e, upTo_bind]
  exact congrFun (List.filterMap_eq_map (f := g)) l
section
variable {P : Program} {w : World} {K : PySem.W.Frag} {mg : Str → Option Value} {base : Heap} {f_is_integer f_is_row f_is_fraction f_is_amount f_is_some f_are_amounts f_added f_negated f_lessened f_multiplied f_divided f_squared f_summed f_lies_below f_is_stall f_hold_of f_stalls_of f_kept_of f_held f_is_index f_is_move f_check_purse f_check_wish f_stall_led f_stall_behind f_stalls_behind f_deal_fault f_check_deal f_web_behind f_left_with f_played f_owes f_is_deal f_stands_alike f_check_alike f_change_of f_l_deck f_l_pick f_l_fold f_l_divisor f_l_made f_l_amount f_l_stall f_l_deep f_l_odd f_l_row f_l_bad_row f_l_move f_l_bad_deal f_l_is_some f_l_is_row f_l_is_below f_l_is_move f_l_due f_l_answer f_l_word f_l_word_is_due f_law f_BadDeal_init f_Web_init f_Web_eq c_BadPurse c_BadWish c_BadDeal c_Web c_ZERO : Addr} {d_is_integer d_is_row d_is_fraction d_is_amount d_is_some d_are_amounts d_added d_negated d_lessened d_multiplied d_divided d_squared d_summed d_lies_below d_is_stall d_hold_of d_stalls_of d_kept_of d_held d_is_index d_is_move d_check_purse d_check_wish d_stall_led d_stall_behind d_stalls_behind d_deal_fault d_check_deal d_web_behind d_left_with d_played d_owes d_is_deal d_stands_alike d_check_alike d_change_of d_l_deck d_l_pick d_l_fold d_l_divisor d_l_made d_l_amount d_l_stall d_l_deep d_l_odd d_l_row d_l_bad_row d_l_move d_l_bad_deal d_l_is_some d_l_is_row d_l_is_below d_l_is_move d_l_due d_l_answer d_l_word d_l_word_is_due d_law d_BadDeal_init d_Web_init d_Web_eq : FuncData}
def sp_summed (K : PySem.W.Frag) : Sp := fun vs H Q _ => ∃ (L : Addr) (ys : List V) (rs : List Rat) (M : Nat), vs = [.ref L] ∧ H L = some (.lst ys) ∧ Fs K H ys rs ∧ BR rs M ∧ M ≤ 4000 ∧ ∀ H' v, Same H H' → IsF K H' v (sumR rs) → Q v H'
theorem ok_summed (T : Txt K mg f_is_integer f_is_row f_is_fraction f_is_amount f_is_some f_are_amounts f_added f_negated f_lessened f_multiplied f_divided f_squared f_summed f_lies_below f_is_stall f_hold_of f_stalls_of f_kept_of f_held f_is_index f_is_move f_check_purse f_check_wish f_stall_led f_stall_behind f_stalls_behind f_deal_fault f_check_deal f_web_behind f_left_with f_played f_owes f_is_deal f_stands_alike f_check_alike f_change_of f_l_deck f_l_pick f_l_fold f_l_divisor f_l_made f_l_amount f_l_stall f_l_deep f_l_odd f_l_row f_l_bad_row f_l_move f_l_bad_deal f_l_is_some f_l_is_row f_l_is_below f_l_is_move f_l_due f_l_answer f_l_word f_l_word_is_due f_law f_BadDeal_init f_Web_init f_Web_eq c_BadPurse c_BadWish c_BadDeal c_Web c_ZERO d_is_integer d_is_row d_is_fraction d_is_amount d_is_some d_are_amounts d_added d_negated d_lessened d_multiplied d_divided d_squared d_summed d_lies_below d_is_stall d_hold_of d_stalls_of d_kept_of d_held d_is_index d_is_move d_check_purse d_check_wish d_stall_led d_stall_behind d_stalls_behind d_deal_fault d_check_deal d_web_behind d_left_with d_played d_owes d_is_deal d_stands_alike d_check_alike d_change_of d_l_deck d_l_pick d_l_fold d_l_divisor d_l_made d_l_amount d_l_stall d_l_deep d_l_odd d_l_row d_l_bad_row d_l_move d_l_bad_deal d_l_is_some d_l_is_row d_l_is_below d_l_is_move d_l_due d_l_answer d_l_word d_l_word_is_due d_law d_BadDeal_init d_Web_init d_Web_eq) : FnOk P w K mg base CX0 2 f_summed d_summed ["fractions"] (sp_summed K) := by
  have G_added : FnOk P w K mg base CX0 1 f_added d_added ["one", "other"] (sp_added K) := ok_added T
  refine T.F_summed.ok sc_summed (fun vs H Q E h => ?_) (fun cdv A outer s H vs Q E hr h => ?_)
  · obtain ⟨L, ys, rs, k, rfl, _⟩ := h
    rfl
  · obtain ⟨L, ys, rs, k, rfl, hL, hf, hb, hk, q⟩ := h
    have hl := hf.len
    refine ⟨_, (pss_cons (ps_set (i := 1) sc_summed.nd rfl (by first | exact Or.inl rfl | exact Or.inr rfl) (pe_glob (v := .ref c_ZERO) (by rfl) T.v_ZERO rfl))
      (pss_cons (ps_for PassesOwn.never rfl (pi_list (pv 0)) (pg_name (i := 2) sc_summed.nd rfl (by first | exact Or.inl rfl | exact Or.inr rfl))
        (pss_one (ps_set (i := 1) sc_summed.nd rfl (by first | exact Or.inl rfl | exact Or.inr rfl) (pe_call G_added (hr.mono (by decide)) (by rfl) T.g_added T.k_added T.b_added .nil pass0 (pa_cons (pv 1) (pa_cons (pv 2) pa_nil))))))
      (pss_one (ps_ret (pv 1))))), ?_⟩
    walk_at "r"
    refine ⟨⟨_, .of hL⟩, ?_⟩
    refine for_list (K := K) (a := L) (xs := ys) (fun i σ H' => ∃ (tot : V) (t2 : Option V), σ = [some (.ref L), some tot, t2] ∧ Same H H' ∧ IsF K H' tot (sumR (rs.take i))) ⟨_, _, rfl, Same.refl _, .c0 T.t_ZERO⟩ ?_ ?_ ?_
    · rintro i σ H' _ ⟨tot, t2, rfl, s1, _⟩
      exact .of (s1 _ _ hL)
    · rintro i x σ H' hx ⟨tot, t2, rfl, s1, ht⟩
      obtain ⟨r, hr', hxr⟩ := Paired.at hf hx
      have b1 : Bd 4000 (sumR (rs.take i)) := (hb.take i).sum.mono hk
      have b2 : Bd 4000 r := (hb.mem (List.mem_of_getElem? hr')).mono hk
      walk_at "r"
      refine ⟨_, _, _, _, rfl, ht, hxr.same s1, b1, b2, trivial, fun H2 v s2 hv => ?_⟩
      walk_at "r"
      refine ⟨_, _, rfl, s1.trans s2, ?_⟩
      rw [take_at hr', sumR_snoc]
      exact hv
    · rintro σ H' ⟨tot, t2, rfl, s1, ht⟩
      rw [hl, List.take_length] at ht
      walk_at "r"
      exact q _ _ s1 ht
def sp_hold_of (K : PySem.W.Frag) : Sp := fun vs H Q _ => ∃ (v : V) (s : Stl) (wn : Nat), vs = [v, .int (wn : Nat)] ∧ IsSt K H v s ∧ ∀ x, IsF K H x (s.hold wn) → Q x H
theorem ok_hold_of (T : Txt K mg f_is_integer f_is_row f_is_fraction f_is_amount f_is_some f_are_amounts f_added f_negated f_lessened f_multiplied f_divided f_squared f_summed f_lies_below f_is_stall f_hold_of f_stalls_of f_kept_of f_held f_is_index f_is_move f_check_purse f_check_wish f_stall_led f_stall_behind f_stalls_behind f_deal_fault f_check_deal f_web_behind f_left_with f_played f_owes f_is_deal f_stands_alike f_check_alike f_change_of f_l_deck f_l_pick f_l_fold f_l_divisor f_l_made f_l_amount f_l_stall f_l_deep f_l_odd f_l_row f_l_bad_row f_l_move f_l_bad_deal f_l_is_some f_l_is_row f_l_is_below f_l_is_move f_l_due f_l_answer f_l_word f_l_word_is_due f_law f_BadDeal_init f_Web_init f_Web_eq c_BadPurse c_BadWish c_BadDeal c_Web c_ZERO d_is_integer d_is_row d_is_fraction d_is_amount d_is_some d_are_amounts d_added d_negated d_lessened d_multiplied d_divided d_squared d_summed d_lies_below d_is_stall d_hold_of d_stalls_of d_kept_of d_held d_is_index d_is_move d_check_purse d_check_wish d_stall_led d_stall_behind d_stalls_behind d_deal_fault d_check_deal d_web_behind d_left_with d_played d_owes d_is_deal d_stands_alike d_check_alike d_change_of d_l_deck d_l_pick d_l_fold d_l_divisor d_l_made d_l_amount d_l_stall d_l_deep d_l_odd d_l_row d_l_bad_row d_l_move d_l_bad_deal d_l_is_some d_l_is_row d_l_is_below d_l_is_move d_l_due d_l_answer d_l_word d_l_word_is_due d_law d_BadDeal_init d_Web_init d_Web_eq) : FnOk P w K mg base CX0 1 f_hold_of d_hold_of ["stall", "ware"] (sp_hold_of K) := by
  refine T.F_hold_of.ok sc_hold_of (fun vs H Q E h => ?_) (fun cdv A outer s H vs Q E hr h => ?_)
  · obtain ⟨v, s, wn, rfl, _⟩ := h
    rfl
  · obtain ⟨v, s, wn, rfl, ⟨p, va, vb, vr, rfl, hp, ha, hb, hr'⟩, q⟩ := h
    refine ⟨_, (pss_cons (ps_if (pt_cmpR op_eq (pv 1) (pe_ix ix_tup (pv 0) pe_int (fun _ _ => rfl)) (nomark _))
        (pss_one (ps_ret (pe_ix ix_tup (pv 0) pe_int (fun _ _ => rfl))))
        pss_nil)
      (pss_one (ps_ret (pe_ix ix_tup (pv 0) pe_int (fun _ _ => rfl))))), ?_⟩
    walk_at "r"
    walk_at "if"
    · rename_i e
      rw [show s.hold wn = s.a from if_pos (by omega)] at q
      walk_at "r"
      exact q _ ha
    · rename_i e
      rw [show s.hold wn = s.b from if_neg (by omega)] at q
      walk_at "r"
      exact q _ hb
def sp_stalls_of (K : PySem.W.Frag) : Sp := fun vs H Q _ => ∃ (t : Addr) (xs : List V) (ss : List Stl) (wn : Nat), vs = [.int (wn : Nat), .ref t] ∧ H t = some (.tup xs) ∧ Sts K H xs ss ∧ ss.length ≤ 16 ∧
  ∀ H' L ys, Same H H' → H' L = some (.lst ys) → Sts K H' ys (at_ ss wn) → Q (.ref L) H'
theorem ok_stalls_of (T : Txt K mg f_is_integer f_is_row f_is_fraction f_is_amount f_is_some f_are_amounts f_added f_negated f_lessened f_multiplied f_divided f_squared f_summed f_lies_below f_is_stall f_hold_of f_stalls_of f_kept_of f_held f_is_index f_is_move f_check_purse f_check_wish f_stall_led f_stall_behind f_stalls_behind f_deal_fault f_check_deal f_web_behind f_left_with f_played f_owes f_is_deal f_stands_alike f_check_alike f_change_of f_l_deck f_l_pick f_l_fold f_l_divisor f_l_made f_l_amount f_l_stall f_l_deep f_l_odd f_l_row f_l_bad_row f_l_move f_l_bad_deal f_l_is_some f_l_is_row f_l_is_below f_l_is_move f_l_due f_l_answer f_l_word f_l_word_is_due f_law f_BadDeal_init f_Web_init f_Web_eq c_BadPurse c_BadWish c_BadDeal c_Web c_ZERO d_is_integer d_is_row d_is_fraction d_is_amount d_is_some d_are_amounts d_added d_negated d_lessened d_multiplied d_divided d_squared d_summed d_lies_below d_is_stall d_hold_of d_stalls_of d_kept_of d_held d_is_index d_is_move d_check_purse d_check_wish d_stall_led d_stall_behind d_stalls_behind d_deal_fault d_check_deal d_web_behind d_left_with d_played d_owes d_is_deal d_stands_alike d_check_alike d_change_of d_l_deck d_l_pick d_l_fold d_l_divisor d_l_made d_l_amount d_l_stall d_l_deep d_l_odd d_l_row d_l_bad_row d_l_move d_l_bad_deal d_l_is_some d_l_is_row d_l_is_below d_l_is_move d_l_due d_l_answer d_l_word d_l_word_is_due d_law d_BadDeal_init d_Web_init d_Web_eq) : FnOk P w K mg base CX0 1 f_stalls_of d_stalls_of ["ware", "stalls"] (sp_stalls_of K) := by
  refine T.F_stalls_of.ok sc_stalls_of (fun vs H Q E h => ?_) (fun cdv A outer s H vs Q E hr h => ?_)
  · obtain ⟨t, xs, ss, wn, rfl, _⟩ := h
    rfl
  · obtain ⟨t, xs, ss, wn, rfl, ht, hss, h16, q⟩ := h
    have hl := hss.len
    refine ⟨_, (pss_one (ps_ret (pe_lc (own := [("stall", 2)]) (g := gName 2) rfl sc_stalls_of.nd (pi_tup (pv 1)) (blkOk_by (own := [("stall", 2)]) (N := N_stalls_of) (sc := defScope s_stalls_of) (by decide +kernel)) (fun _ _ _ _ _ => (pg_name (i := 2) sc_stalls_of.nd rfl (by first | exact Or.inl rfl | exact Or.inr rfl))) (fun _ _ _ _ _ => (pts_one (pt_cmpR (My.op_inK (K := K) (by rfl)) (pv 0) (pe_slice (My.sl_tupK (K := K) (by rfl)) (pv 2) po_none (po_some pe_int)) (by rfl)))) (fun _ _ _ _ _ => (pv 2))))), ?_⟩
    walk_at "r"
    refine ⟨⟨_, .of ht⟩, fun L nL => ?_⟩
    refine lc_tupP (R := IsSt K) (fun _ _ _ _ f h => h.ts f) (f := fun i => (ss[i]?).filter (·.at wn)) nL (by omega) (.of ht) (fun i x hx H' Q' N s1 hy hn => ?_) fun H' hlst => ?_
    · obtain ⟨s, hs, hst⟩ := hss.at hx
      have hst := hst.same s1
      obtain ⟨p, va, vb, vr, rfl, hp, _⟩ := id hst
      walk_at "r"
      refine ⟨rfl, ?_⟩
      walk_at "r"
      refine rd_slT hp (show ¬ (HT.sIx 5 0 none = 0 ∧ HT.sIx 5 5 (some 2) = 5) by decide) fun p1 H2 s2 h2 => ?_
      have h2 : H2 p1 = some (.tup [V.int (s.u : Nat), .int (s.v : Nat)]) := h2
      refine ⟨_, _, rfl, .inr (.of h2), rfl, rfl, ?_⟩
      refine ⟨_, rfl, ?_⟩
      rw [if_neg Bool.false_ne_true, stl_at_in]
      cases e : s.at wn
      · exact hn _ (by simp [hs, Option.filter, e]) s2
      · walk_at "r"
        exact hy s _ _ (by simp [hs, Option.filter, e]) s2 (hst.same s2)
    · obtain ⟨s1, ys, hL, hys⟩ := hlst
      rw [hl, upTo_filter] at hys
      exact q _ _ _ s1 hL hys
def sp_kept_of (K : PySem.W.Frag) : Sp := fun vs H Q _ => ∃ (t : Addr) (xs : List V) (ss : List Stl) (wn M : Nat), vs = [.int (wn : Nat), .ref t] ∧ H t = some (.tup xs) ∧ Sts K H xs ss ∧ ss.length ≤ 16 ∧ BL ss M ∧ M ≤ 4000 ∧
  ∀ H' v, Same H H' → IsF K H' v (heldAt ss wn) → Q v H'
theorem ok_kept_of (T : Txt K mg f_is_integer f_is_row f_is_fraction f_is_amount f_is_some f_are_amounts f_added f_negated f_lessened f_multiplied f_divided f_squared f_summed f_lies_below f_is_stall f_hold_of f_stalls_of f_kept_of f_held f_is_index f_is_move f_check_purse f_check_wish f_stall_led f_stall_behind f_stalls_behind f_deal_fault f_check_deal f_web_behind f_left_with f_played f_owes f_is_deal f_stands_alike f_check_alike f_change_of f_l_deck f_l_pick f_l_fold f_l_divisor f_l_made f_l_amount f_l_stall f_l_deep f_l_odd f_l_row f_l_bad_row f_l_move f_l_bad_deal f_l_is_some f_l_is_row f_l_is_below f_l_is_move f_l_due f_l_answer f_l_word f_l_word_is_due f_law f_BadDeal_init f_Web_init f_Web_eq c_BadPurse c_BadWish c_BadDeal c_Web c_ZERO d_is_integer d_is_row d_is_fraction d_is_amount d_is_some d_are_amounts d_added d_negated d_lessened d_multiplied d_divided d_squared d_summed d_lies_below d_is_stall d_hold_of d_stalls_of d_kept_of d_held d_is_index d_is_move d_check_purse d_check_wish d_stall_led d_stall_behind d_stalls_behind d_deal_fault d_check_deal d_web_behind d_left_with d_played d_owes d_is_deal d_stands_alike d_check_alike d_change_of d_l_deck d_l_pick d_l_fold d_l_divisor d_l_made d_l_amount d_l_stall d_l_deep d_l_odd d_l_row d_l_bad_row d_l_move d_l_bad_deal d_l_is_some d_l_is_row d_l_is_below d_l_is_move d_l_due d_l_answer d_l_word d_l_word_is_due d_law d_BadDeal_init d_Web_init d_Web_eq) : FnOk P w K mg base CX0 3 f_kept_of d_kept_of ["ware", "stalls"] (sp_kept_of K) := by
  have G_summed : FnOk P w K mg base CX0 2 f_summed d_summed ["fractions"] (sp_summed K) := ok_summed T
  have G_hold_of : FnOk P w K mg base CX0 1 f_hold_of d_hold_of ["stall", "ware"] (sp_hold_of K) := ok_hold_of T
  have G_stalls_of : FnOk P w K mg base CX0 1 f_stalls_of d_stalls_of ["ware", "stalls"] (sp_stalls_of K) := ok_stalls_of T
  refine T.F_kept_of.ok sc_kept_of (fun vs H Q E h => ?_) (fun cdv A outer s H vs Q E hr h => ?_)
  · obtain ⟨t, xs, ss, wn, k, rfl, _⟩ := h
    rfl
  · obtain ⟨t, xs, ss, wn, k, rfl, ht, hss, h16, hb, hk, q⟩ := h
    refine ⟨_, (pss_one (ps_ret (pe_call G_summed (hr.mono (by decide)) (by rfl) T.g_summed T.k_summed T.b_summed .nil pass0 (pa_cons (pe_lc (own := [("stall", 2)]) (g := gName 2) rfl sc_kept_of.nd (pi_list (pe_call G_stalls_of (hr.mono (by decide)) (by rfl) T.g_stalls_of T.k_stalls_of T.b_stalls_of .nil pass0 (pa_cons (pv 0) (pa_cons (pv 1) pa_nil)))) (blkOk_by (own := [("stall", 2)]) (N := N_kept_of) (sc := defScope s_kept_of) (by decide +kernel)) (fun _ _ _ _ _ => (pg_name (i := 2) sc_kept_of.nd rfl (by first | exact Or.inl rfl | exact Or.inr rfl))) (fun _ _ _ _ _ => pts_nil) (fun _ _ _ _ _ => (pe_call G_hold_of (hr.mono (by decide)) (by rfl) T.g_hold_of T.k_hold_of T.b_hold_of .nil pass0 (pa_cons (pv 2) (pa_cons (pv 0) pa_nil))))) pa_nil)))), ?_⟩
    walk_at "r"
    refine ⟨_, _, ss, wn, rfl, ht, hss, h16, fun H1 L ys s1 hL hys => ?_⟩
    have hl := hys.len
    have hle : (at_ ss wn).length ≤ ss.length := List.length_filter_le _ _
    walk_at "r"
    refine ⟨⟨_, .of hL⟩, fun D nD => ?_⟩
    refine lc_listP (R := IsF K) (fun _ _ _ _ f h => h.ts f) (f := fun i => ((at_ ss wn)[i]?).map (·.hold wn)) nD (by omega) (.of hL) (fun i x hx H' Q' N s2 hy hn => ?_) fun H' hlst => ?_
    · obtain ⟨st, hs, hst⟩ := hys.at hx
      have hst := hst.same s2
      walk_at "r"
      refine ⟨rfl, ?_⟩
      walk_at "r"
      exact ⟨_, st, wn, rfl, hst, fun x hxx => hy (st.hold wn) _ _ (by simp [hs]) (Same.refl _) hxx⟩
    · obtain ⟨s2, zs, hD, hzs⟩ := hlst
      rw [hl, upTo_list] at hzs
      walk_at "r"
      exact ⟨D, zs, _, k, rfl, hD, hzs, hb.at wn, hk, fun H3 v s3 hv => q _ _ ((s1.trans s2).trans s3) hv⟩
def sp_held (K : PySem.W.Frag) (C : Addr) : Sp := fun vs H Q _ => ∃ (x : V) (n : Nat) (ss : List Stl) (M : Nat), vs = [x] ∧ IsWeb K C H x n ss ∧ n ≤ 8 ∧ ss.length ≤ 16 ∧ BL ss M ∧ M ≤ 4000 ∧ ∀ H' v, Same H H' → IsFs K H' v (heldAll n ss) → Q v H'
theorem ok_held (T : Txt K mg f_is_integer f_is_row f_is_fraction f_is_amount f_is_some f_are_amounts f_added f_negated f_lessened f_multiplied f_divided f_squared f_summed f_lies_below f_is_stall f_hold_of f_stalls_of f_kept_of f_held f_is_index f_is_move f_check_purse f_check_wish f_stall_led f_stall_behind f_stalls_behind f_deal_fault f_check_deal f_web_behind f_left_with f_played f_owes f_is_deal f_stands_alike f_check_alike f_change_of f_l_deck f_l_pick f_l_fold f_l_divisor f_l_made f_l_amount f_l_stall f_l_deep f_l_odd f_l_row f_l_bad_row f_l_move f_l_bad_deal f_l_is_some f_l_is_row f_l_is_below f_l_is_move f_l_due f_l_answer f_l_word f_l_word_is_due f_law f_BadDeal_init f_Web_init f_Web_eq c_BadPurse c_BadWish c_BadDeal c_Web c_ZERO d_is_integer d_is_row d_is_fraction d_is_amount d_is_some d_are_amounts d_added d_negated d_lessened d_multiplied d_divided d_squared d_summed d_lies_below d_is_stall d_hold_of d_stalls_of d_kept_of d_held d_is_index d_is_move d_check_purse d_check_wish d_stall_led d_stall_behind d_stalls_behind d_deal_fault d_check_deal d_web_behind d_left_with d_played d_owes d_is_deal d_stands_alike d_check_alike d_change_of d_l_deck d_l_pick d_l_fold d_l_divisor d_l_made d_l_amount d_l_stall d_l_deep d_l_odd d_l_row d_l_bad_row d_l_move d_l_bad_deal d_l_is_some d_l_is_row d_l_is_below d_l_is_move d_l_due d_l_answer d_l_word d_l_word_is_due d_law d_BadDeal_init d_Web_init d_Web_eq) : FnOk P w K mg base CX0 4 f_held d_held ["web"] (sp_held K c_Web) := by
  have G_kept_of : FnOk P w K mg base CX0 3 f_kept_of d_kept_of ["ware", "stalls"] (sp_kept_of K) := ok_kept_of T
  refine T.F_held.ok sc_held (fun vs H Q E h => ?_) (fun cdv A outer s H vs Q E hr h => ?_)
  · obtain ⟨x, n, ss, k, rfl, _⟩ := h
    rfl
  · obtain ⟨x, n, ss, k, rfl, ⟨p, dx, t, xs, rfl, hp, ht, hss⟩, n8, l16, hb, hk, q⟩ := h
    refine ⟨_, (pss_one (ps_ret (pe_callTy call_tuple_of (by rfl) T.z_tuple (by decide +kernel) (pa_cons (pe_lc (own := [("ware", 1)]) (g := gName 1) rfl sc_held.nd (pi_range1 (by rfl) T.z_range (pa_cons (pe_fld (pv 0) rfl) pa_nil)) (blkOk_by (own := [("ware", 1)]) (N := N_held) (sc := defScope s_held) (by decide +kernel)) (fun _ _ _ _ _ => (pg_name (i := 1) sc_held.nd rfl (by first | exact Or.inl rfl | exact Or.inr rfl))) (fun _ _ _ _ _ => pts_nil) (fun _ _ _ _ _ => (pe_call G_kept_of (hr.mono (by decide)) (by rfl) T.g_kept_of T.k_kept_of T.b_kept_of .nil pass0 (pa_cons (pv 1) (pa_cons (My.pe_fldK (K := K) (by rfl) (pv 0) rfl) pa_nil))))) pa_nil)))), ?_⟩
    walk_at "r"
    refine ⟨_, _, _, _, _, rfl, hp, T.w_Web.it.cl, T.n_Web_wares, wF_wares _ _, ?_⟩
    walk_at "r"
    refine ⟨by omega, by omega, fun D nD => ?_⟩
    refine lc_rangeP (R := IsF K) (fun _ _ _ _ f h => h.ts f) (f := fun i => some (heldAt ss i)) nD (by omega) (fun i hi H' Q' N s1 hy hn => ?_) fun H' hlst => ?_
    · walk_at "r"
      refine ⟨rfl, ?_⟩
      walk_at "r"
      refine ⟨_, _, _, _, _, rfl, s1 _ _ hp, T.w_Web.it.cl, T.n_Web_stalls, wF_stalls _ _, ?_⟩
      walk_at "r"
      exact ⟨t, xs, ss, i, k, by simp, s1 _ _ ht, hss.same s1, l16, hb, hk, fun H2 v s2 hv => hy _ _ _ rfl s2 hv⟩
    · obtain ⟨s1, ys, hD, hys⟩ := hlst
      rw [show ((n : Nat) : Int).toNat = n from rfl, upTo_map] at hys
      walk_at "r"
      refine ⟨_, _, rfl, .inl ⟨.of hD, fun l nl => ?_⟩⟩
      have sl := same_upd (o := .tup ys) nl
      exact q _ _ (s1.trans sl) ⟨l, ys, rfl, upd_same, Fs.same sl hys⟩
end
end My
namespace My
open PySem PySem.Spec PyProof.Rows L2
variable {K : PySem.W.Frag}
/-! ### webs compared -/
instance decStl : DecidableEq Stl := fun s t => decidable_of_decidable_of_iff (p := s.u = t.u ∧ s.v = t.v ∧ s.a = t.a ∧ s.b = t.b ∧ s.r = t.r) (by
  obtain ⟨u, v, a, b, r⟩ := s
  obtain ⟨u', v', a', b', r'⟩ := t
  simp only [Stl.mk.injEq])
def stD (s : Stl) : PyData := .tuple [.int (s.u : Nat), .int (s.v : Nat), frD s.a, frD s.b, frD s.r]
theorem stD_eqv (s t : Stl) : PyData.eqv (stD s) (stD t) = decide (s = t) := by
  have e : PyData.eqv (stD s) (stD t) = (decide ((s.u : Int) = t.u) && (decide ((s.v : Int) = t.v) && (decide (s.a = t.a) && (decide (s.b = t.b) && decide (s.r = t.r))))) := by
    unfold stD
    rw [PyData.eqv, PyData.eqvAll, PyData.eqvAll, PyData.eqvAll, PyData.eqvAll, PyData.eqvAll, PyData.eqvAll, frD_eqv, frD_eqv, frD_eqv]
    simp only [PyData.eqv, Bool.and_true, Bool.beq_eq_decide_eq]
  rw [e, Bool.eq_iff_iff]
  simp only [Bool.and_eq_true, decide_eq_true_eq]
  obtain ⟨u, v, a, b, r⟩ := s
  obtain ⟨u', v', a', b', r'⟩ := t
  simp only [Stl.mk.injEq]
  constructor <;> rintro ⟨h1, h2, h3, h4, h5⟩ <;> exact ⟨by omega, by omega, h3, h4, h5⟩
theorem sts_eqv : ∀ ss tt : List Stl, PyData.eqvAll (ss.map stD) (tt.map stD) = decide (ss = tt)
  | [], [] => rfl
  | [], _ :: _ => rfl
  | _ :: _, [] => rfl
  | s :: ss, t :: tt => by
    show (PyData.eqv (stD s) (stD t) && PyData.eqvAll (ss.map stD) (tt.map stD)) = _
    rw [stD_eqv, sts_eqv ss tt, Bool.eq_iff_iff]
    simp
theorem sts_lay : ∀ ss : List Stl, PyData.canLayAll0 (ss.map stD) = true ∧ PyData.depthAll (ss.map stD) ≤ 2
  | [] => ⟨rfl, by decide⟩
  | s :: ss => by
    obtain ⟨h1, h2⟩ := sts_lay ss
    refine ⟨?_, ?_⟩
    · show (PyData.canLay0 (stD s) && PyData.canLayAll0 (ss.map stD)) = true
      rw [h1]
      rfl
    · show max (PyData.depth (stD s)) (PyData.depthAll (ss.map stD)) ≤ 2
      have : PyData.depth (stD s) = 2 := rfl
      omega
theorem sts_shaped (ss : List Stl) : SeqAt.shaped (.tuple (ss.map stD)) = true := by
  obtain ⟨h1, h2⟩ := sts_lay ss
  unfold SeqAt.shaped
  rw [Bool.and_eq_true]
  refine ⟨h1, decide_eq_true ?_⟩
  show PyData.depthAll (ss.map stD) + 1 ≤ 64
  omega
theorem IsSt.dp {K : PySem.W.Frag} {H : Hp} {x : V} {s : Stl} (h : IsSt K H x s) : Dp K H x (stD s) := by
  obtain ⟨p, va, vb, vr, rfl, h, a, b, r⟩ := h
  exact .tup (.of h) (.cons (.int _) (.cons (.int _) (.cons a.dp (.cons b.dp (.cons r.dp .nil)))))
theorem Sts.dp {K : PySem.W.Frag} {H : Hp} {t : Addr} {xs : List V} {ss : List Stl} (h : Sts K H xs ss) (ht : H t = some (.tup xs)) : Dp K H (.ref t) (.tuple (ss.map stD)) := by
  refine .tup (.of ht) ?_
  clear ht
  unfold Sts at h
  induction h with
  | nil => exact .nil
  | cons h t ih => exact .cons h.dp ih
end My
namespace My
open PySem PySem.Spec PyProof.Rows L2
/-! ### x != y of instances with an own == and no own != -/
section
variable {prog : Program} {w : World} {A : Around} {E : Value → Shared → Prop} {s : Shared} {K : PySem.W.Frag} {x y C f : Addr} {ox : Obj} {od : Option Obj}
theorem boundB {name : Str} {id B : String} {args : List Value} {Q : Option Value → Shared → Prop} (X : K.In s.heap) (I : PySem.W.InstAt s.heap x ox C od) (hs : PySem.W.findIn K (.ref C) name = some (some (.builtin id))) (S : Slot B name id)
    (h : wpAny (model prog w) A (call (.builtin id) (.ref x :: args)) (fun v => Q (some v)) E s) : wpAny (model prog w) A (callSpecialIfBound? (.ref x) name args) Q E s := by
  have fin : wpAny (model prog w) A (do let v ← call (.builtin id) ([.ref x] ++ args); pure (some v)) Q E s := wpAny_bind (wpAny_mono h (fun v s' q => wpAny_pure q) fun _ _ q => q)
  simp only [callSpecialIfBound?, bindSpecialIfBound?]
  refine wpAny_holding (wpAny_bind (wpAny_bind (wpAny_bind (I.type.here ((PySem.W.looks_findIn X hs).here ?_)))))
  simp only [S.bind]
  refine wpAny_bind (wpAny_askSetting (wpAny_ite ?_))
  split
  · exact wpAny_bind (wpAny_pure (wpAny_pure fin))
  · exact wpAny_tryCatch (wpAny_bind (wpAny_pure (wpAny_pure fin)))
theorem neBody {Q : Fin → Shared → Prop} (hu : A.units < cLine) (X : K.In s.heap) (I : PySem.W.InstAt s.heap x ox C od) (hs : PySem.W.findIn K (.ref C) "__eq__" = some (some (.ref f))) (hf : PySem.W.isFn K (.ref f) = true)
    (h : wpAny (model prog w) A (call (.ref f) [.ref x, .ref y]) (fun v s' => ∃ b, v = .bool b ∧ Q (.done (.ret (.bool (!b)))) s') E s) : wpAny (model prog w) A (Builtin.«object.__ne__» ⟨[.ref x, .ref y], []⟩) Q E s := by
  unfold Builtin.«object.__ne__»
  have step : wpAny (model prog w) A (callSpecialIfBound? (.ref x) (Str.ofString "__eq__") [.ref y]) (fun r s' => ∃ b, r = some (.bool b) ∧ Q (.done (.ret (.bool (!b)))) s') E s :=
    PySem.W.ifBound_K X I hs hf (wpAny_mono h (fun v s' q => by obtain ⟨b, rfl, q⟩ := q; exact ⟨b, rfl, q⟩) fun _ _ q => q)
  repeat (first
    | with_reducible refine wpAny_cRoomFor hu ?_
    | (refine wpAny_bind (m := callSpecialIfBound? (.ref x) (Str.ofString "__eq__") [.ref y]) (wpAny_mono step (fun r s' q => ?_) fun _ _ q => q); obtain ⟨b, rfl, q⟩ := q)
    | exact q
    | (refine wpAny_bind (m := truthy (.bool _)) (wpAny_truthy_bool ?_))
    | wp_step)
theorem tryNe {Q : Option Value → Shared → Prop} (hu : A.units + 1 < cLine) (X : K.In s.heap) (I : PySem.W.InstAt s.heap x ox C od) (hne : PySem.W.findIn K (.ref C) "__ne__" = some (some (.builtin "object.__ne__"))) (hm : PySem.W.mroIn K C (.type "object") = some true)
    (hs : PySem.W.findIn K (.ref C) "__eq__" = some (some (.ref f))) (hf : PySem.W.isFn K (.ref f) = true)
    (h : wpAny (model prog w) A.in1 (call (.ref f) [.ref x, .ref y]) (fun v s' => ∃ b, v = .bool b ∧ Q (some (.bool (!b))) s') E s) : wpAny (model prog w) A (tryCompare (.ref x) "__ne__" (.ref y)) Q E s := by
  simp only [tryCompare]
  refine wpAny_bind (boundB X I hne F.cmp_object.ne (wpAny_call (codeAny_call_builtin F.cmp_object.ne.plain F.cmpEntry_ne (PySem.W.check_slot F.cmpKind_ne F.cmpSplit_ne (I.type.andThen (PySem.W.looks_mroIn X hm)) (F.cmpArgs_ne _ _) (neBody (A := A.in1) (by
    show A.units + 1 < cLine
    exact hu) X I hs hf (wpAny_mono h (fun v s' q => ?_) fun _ _ q => q))))))
  obtain ⟨b, rfl, q⟩ := q
  first
    | exact ⟨b, rfl, ⟨_, rfl, wpAny_pure q⟩⟩
    | exact ⟨b, rfl, wpAny_pure q⟩
    | exact ⟨b, rfl, wpAny_pure (wpAny_pure q)⟩
theorem richNe {oy : Obj} {ody : Option Obj} {Q : Value → Shared → Prop} (hu : A.units + 1 < cLine) (X : K.In s.heap) (I : PySem.W.InstAt s.heap x ox C od) (J : PySem.W.InstAt s.heap y oy C ody) (hne : PySem.W.findIn K (.ref C) "__ne__" = some (some (.builtin "object.__ne__"))) (hm : PySem.W.mroIn K C (.type "object") = some true)
    (hs : PySem.W.findIn K (.ref C) "__eq__" = some (some (.ref f))) (hf : PySem.W.isFn K (.ref f) = true)
    (h : wpAny (model prog w) A.in1 (call (.ref f) [.ref x, .ref y]) (fun v s' => ∃ b, v = .bool b ∧ Q (.bool (!b)) s') E s) : wpAny (model prog w) A (richCompare .NotEq (.ref x) (.ref y)) Q E s := by
  unfold richCompare
  simp only [oneThing_ref]
  refine wpAny_holding (wpAny_bind (wpAny_cRoomFor (Nat.lt_of_succ_lt hu) ?_))
  rw [cmpInfo_NotEq]
  refine wpAny_bind (I.type.here (wpAny_bind (J.type.here ?_)))
  rw [show (Value.ref C != Value.ref C) = false by simp]
  simp only [Bool.false_eq_true, if_false]
  refine wpAny_bind (wpAny_pure ?_)
  refine wpAny_bind (tryNe hu X I hne hm hs hf (wpAny_mono h (fun v s' q => ?_) fun _ _ q => q))
  obtain ⟨b, rfl, q⟩ := q
  exact ⟨b, rfl, wpAny_pure q⟩
end
/-- x != y, both instances of C; R what the two must be, for any answer of the own == -/
def spEqB (R : Addr → Addr → Hp → Bool → Prop) : Sp := fun vs H Q _ => ∃ a b r, vs = [.ref a, .ref b] ∧ R a b H r ∧ Q (.bl r) H
def rNeI (C : Addr) (R : Addr → Addr → Hp → Bool → Prop) : R2 := fun x y H Q => ∃ a b dx dy fs gs r, x = .ref a ∧ y = .ref b ∧ H a = some (.ins C dx fs) ∧ H b = some (.ins C dy gs) ∧ R a b H r ∧ Q (.bl (!r)) H
theorem op_neI {X : Cx} {n : Nat} {C f : Addr} {fd : FuncData} {ps : List Str} {R : Addr → Addr → Hp → Bool → Prop} (F : FnOk X.prog X.w X.K X.mg X.base CX0 n f fd ps (spEqB R)) (hr : Room (n + 1) X.A)
    (hne : PySem.W.findIn X.K (.ref C) "__ne__" = some (some (.builtin "object.__ne__"))) (hm : PySem.W.mroIn X.K C (.type "object") = some true) (hs : PySem.W.findIn X.K (.ref C) "__eq__" = some (some (.ref f))) (hf : PySem.W.isFn X.K (.ref f) = true) (hb : Binds X.K fd ps []) :
    OpR X (compareOp .NotEq) (rNeI C R) := by
  intro pins s σ H x y v u Q I rx ry hq
  obtain ⟨a, b, dx, dy, fs, gs, r, rfl, rfl, ha, hb', hR, q⟩ := hq
  cases rx
  cases ry
  obtain ⟨mA, J, _⟩ := ins_get I.hok ha
  obtain ⟨mB, J', _⟩ := ins_get I.hok hb'
  obtain ⟨od, J, _⟩ := J.look
  obtain ⟨od', J', _⟩ := J'.look
  show wpAny (model X.prog X.w) X.A (richCompare .NotEq (.ref a) (.ref b)) (EP X pins σ Q) X.xe s
  refine richNe ?_ I.kIn J J' hne hm hs hf ?_
  · have := hr.un
    omega
  have hsp : spEqB R [.ref a, .ref b] H (fun v H' => v = .bl r ∧ H' = H) E0 := ⟨a, b, r, rfl, hR, rfl, rfl⟩
  have e0 : Env0 X.prog X.w X.K X.mg X.base X.A.in1 X.stack s H := I.env0.in1
  have hl := F.len _ _ _ _ hsp
  have r2 : Vals [V.ref a, V.ref b] [Value.ref a, Value.ref b] := .cons rfl (.cons rfl .nil)
  refine wpAny_call (codeAny_mono (F.run X.A.in1 X.stack s H ⟨[.ref a, .ref b], []⟩ [.ref a, .ref b] [.ref a, .ref b] _ E0 hr.in1 e0 (by
    have := hb s [.ref a, .ref b] I.kIn (by simpa using hl)
    simpa using this) r2 hsp) fun z s' hz => ?_)
  cases z with
  | error e => exact False.elim hz
  | ok fl =>
    cases fl with
    | ret w' =>
      obtain ⟨z, H', I', rz, ez, ex⟩ := I.after hz
      subst ez
      subst ex
      cases rz
      exact ⟨r, rfl, .bl (!r), H', I', rfl, q⟩
    | next => exact False.elim hz
    | brk => exact False.elim hz
    | cont => exact False.elim hz
/-- x == y of such instances, for any answer of the own == -/
def rEqI (C : Addr) (R : Addr → Addr → Hp → Bool → Prop) : R2 := fun x y H Q => ∃ a b dx dy fs gs r, x = .ref a ∧ y = .ref b ∧ H a = some (.ins C dx fs) ∧ H b = some (.ins C dy gs) ∧ R a b H r ∧ Q (.bl r) H
theorem op_eqI {X : Cx} {n : Nat} {C f : Addr} {fd : FuncData} {ps : List Str} {R : Addr → Addr → Hp → Bool → Prop} (F : FnOk X.prog X.w X.K X.mg X.base CX0 n f fd ps (spEqB R)) (hr : Room (n + 1) X.A)
    (hs : PySem.W.findIn X.K (.ref C) "__eq__" = some (some (.ref f))) (hf : PySem.W.isFn X.K (.ref f) = true) (hb : Binds X.K fd ps []) : OpR X (compareOp .Eq) (rEqI C R) := by
  intro pins s σ H x y v u Q I rx ry hq
  obtain ⟨a, b, dx, dy, fs, gs, r, rfl, rfl, ha, hb', hR, q⟩ := hq
  cases rx
  cases ry
  obtain ⟨mA, J, _⟩ := ins_get I.hok ha
  obtain ⟨mB, J', _⟩ := ins_get I.hok hb'
  obtain ⟨od, J, _⟩ := J.look
  obtain ⟨od', J', _⟩ := J'.look
  obtain ⟨m, hF⟩ := I.fr
  show wpAny (model X.prog X.w) X.A (richCompare .Eq (.ref a) (.ref b)) (EP X pins σ Q) X.xe s
  refine PySem.W.cmp_K (op := .Eq) (tb := .ref C) hr.units0 hF I.ok.mod.kin J J'.type (by simp [PySem.W.notFirst]) hs hf ?_
  have hsp : spEqB R [.ref a, .ref b] H (fun v H' => v = .bl r ∧ H' = H) E0 := ⟨a, b, r, rfl, hR, rfl, rfl⟩
  have hl := F.len _ _ _ _ hsp
  have r2 : Vals [V.ref a, V.ref b] [Value.ref a, Value.ref b] := .cons rfl (.cons rfl .nil)
  refine wpAny_call (codeAny_mono (F.run X.A X.stack s H ⟨[.ref a, .ref b], []⟩ [.ref a, .ref b] [.ref a, .ref b] _ E0 (hr.mono (Nat.le_succ n)) I.env0 (by
    have := hb s [.ref a, .ref b] I.kIn (by simpa using hl)
    simpa using this) r2 hsp) fun z s' hz => ?_)
  cases z with
  | error e => exact False.elim hz
  | ok fl =>
    cases fl with
    | ret w' =>
      obtain ⟨z, H', I', rz, ez, ex⟩ := I.after hz
      subst ez
      subst ex
      cases rz
      exact ⟨.bl r, H', I', rfl, q⟩
    | next => exact False.elim hz
    | brk => exact False.elim hz
    | cont => exact False.elim hz
end My
namespace My
open PySem PySem.Spec PyProof.Rows L2
variable {K : PySem.W.Frag}
theorem kit_self {K : PySem.W.Frag} {t : Value} : PySem.W.kitOne K t t = some true := by
  unfold PySem.W.kitOne
  simp
section
variable {P : Program} {w : World} {K : PySem.W.Frag} {mg : Str → Option Value} {base : Heap} {f_is_integer f_is_row f_is_fraction f_is_amount f_is_some f_are_amounts f_added f_negated f_lessened f_multiplied f_divided f_squared f_summed f_lies_below f_is_stall f_hold_of f_stalls_of f_kept_of f_held f_is_index f_is_move f_check_purse f_check_wish f_stall_led f_stall_behind f_stalls_behind f_deal_fault f_check_deal f_web_behind f_left_with f_played f_owes f_is_deal f_stands_alike f_check_alike f_change_of f_l_deck f_l_pick f_l_fold f_l_divisor f_l_made f_l_amount f_l_stall f_l_deep f_l_odd f_l_row f_l_bad_row f_l_move f_l_bad_deal f_l_is_some f_l_is_row f_l_is_below f_l_is_move f_l_due f_l_answer f_l_word f_l_word_is_due f_law f_BadDeal_init f_Web_init f_Web_eq c_BadPurse c_BadWish c_BadDeal c_Web c_ZERO : Addr} {d_is_integer d_is_row d_is_fraction d_is_amount d_is_some d_are_amounts d_added d_negated d_lessened d_multiplied d_divided d_squared d_summed d_lies_below d_is_stall d_hold_of d_stalls_of d_kept_of d_held d_is_index d_is_move d_check_purse d_check_wish d_stall_led d_stall_behind d_stalls_behind d_deal_fault d_check_deal d_web_behind d_left_with d_played d_owes d_is_deal d_stands_alike d_check_alike d_change_of d_l_deck d_l_pick d_l_fold d_l_divisor d_l_made d_l_amount d_l_stall d_l_deep d_l_odd d_l_row d_l_bad_row d_l_move d_l_bad_deal d_l_is_some d_l_is_row d_l_is_below d_l_is_move d_l_due d_l_answer d_l_word d_l_word_is_due d_law d_BadDeal_init d_Web_init d_Web_eq : FuncData}
def sp_weq (K : PySem.W.Frag) (C : Addr) : Sp := fun vs H Q _ => ∃ (x y : V) (n m : Nat) (ss tt : List Stl), vs = [x, y] ∧ IsWeb K C H x n ss ∧ IsWeb K C H y m tt ∧ Q (.bl (decide (n = m) && decide (ss = tt))) H
theorem ok_Web_eq (T : Txt K mg f_is_integer f_is_row f_is_fraction f_is_amount f_is_some f_are_amounts f_added f_negated f_lessened f_multiplied f_divided f_squared f_summed f_lies_below f_is_stall f_hold_of f_stalls_of f_kept_of f_held f_is_index f_is_move f_check_purse f_check_wish f_stall_led f_stall_behind f_stalls_behind f_deal_fault f_check_deal f_web_behind f_left_with f_played f_owes f_is_deal f_stands_alike f_check_alike f_change_of f_l_deck f_l_pick f_l_fold f_l_divisor f_l_made f_l_amount f_l_stall f_l_deep f_l_odd f_l_row f_l_bad_row f_l_move f_l_bad_deal f_l_is_some f_l_is_row f_l_is_below f_l_is_move f_l_due f_l_answer f_l_word f_l_word_is_due f_law f_BadDeal_init f_Web_init f_Web_eq c_BadPurse c_BadWish c_BadDeal c_Web c_ZERO d_is_integer d_is_row d_is_fraction d_is_amount d_is_some d_are_amounts d_added d_negated d_lessened d_multiplied d_divided d_squared d_summed d_lies_below d_is_stall d_hold_of d_stalls_of d_kept_of d_held d_is_index d_is_move d_check_purse d_check_wish d_stall_led d_stall_behind d_stalls_behind d_deal_fault d_check_deal d_web_behind d_left_with d_played d_owes d_is_deal d_stands_alike d_check_alike d_change_of d_l_deck d_l_pick d_l_fold d_l_divisor d_l_made d_l_amount d_l_stall d_l_deep d_l_odd d_l_row d_l_bad_row d_l_move d_l_bad_deal d_l_is_some d_l_is_row d_l_is_below d_l_is_move d_l_due d_l_answer d_l_word d_l_word_is_due d_law d_BadDeal_init d_Web_init d_Web_eq) : FnOk P w K mg base CX0 1 f_Web_eq d_Web_eq ["self", "other"] (sp_weq K c_Web) := by
  refine T.F_Web_eq.ok sc_Web_eq (fun vs H Q E h => ?_) (fun cdv A outer s H vs Q E hr h => ?_)
  · obtain ⟨x, y, n, m, ss, tt, rfl, _⟩ := h
    rfl
  · obtain ⟨x, y, n, m, ss, tt, rfl, ⟨p, dx, t, xs, rfl, hp, ht, hss⟩, ⟨p2, dx2, t2, xs2, rfl, hp2, ht2, hss2⟩, q⟩ := h
    refine ⟨_, (pss_one (ps_ret (pe_and (pe_callB call_isi (by rfl) T.z_isinstance (by decide +kernel) (pa_cons (pv 1) (pa_cons (pe_glob (v := .ref c_Web) (by rfl) T.w_Web.g rfl) pa_nil))) (pe_and (pe_cmpR op_eq (pe_fld (pv 0) rfl) (pe_fld (pv 1) rfl) (nomark _)) (pe_one (pe_cmpR (op_eqD hr.units) (pe_fld (pv 0) rfl) (pe_fld (pv 1) rfl) (nomark _))))))), ?_⟩
    walk_at "r"
    refine ⟨_, _, _, _, _, rfl, .own _, .base (.ins hp2 T.w_Web.it.cl T.w_Web.it.ha T.w_Web.it.hn T.w_Web.it.ht T.w_Web.it.mo), kit_self, ?_⟩
    walk_at "r"
    refine ⟨_, _, _, _, _, rfl, hp, T.w_Web.it.cl, T.n_Web_wares, wF_wares _ _, ?_⟩
    walk_at "r"
    refine ⟨_, _, _, _, _, rfl, hp2, T.w_Web.it.cl, T.n_Web_wares, wF_wares _ _, ?_⟩
    walk_at "r"
    have e1 : decide (((n : Nat) : Int) = (m : Nat)) = decide (n = m) := by
      rw [Bool.eq_iff_iff, decide_eq_true_eq, decide_eq_true_eq]
      omega
    by_cases e : n = m
    · have e2 : ((n : Nat) : Int) = (m : Nat) := by omega
      rw [decide_eq_true e, Bool.true_and] at q
      rw [decide_eq_true e2]
      walk_at "r"
      refine ⟨_, _, _, _, _, rfl, hp, T.w_Web.it.cl, T.n_Web_stalls, wF_stalls _ _, ?_⟩
      walk_at "r"
      refine ⟨_, _, _, _, _, rfl, hp2, T.w_Web.it.cl, T.n_Web_stalls, wF_stalls _ _, ?_⟩
      refine ⟨_, _, hss.dp ht, hss2.dp ht2, sts_shaped _, sts_shaped _, ?_⟩
      rw [show PyData.eqv (.tuple (ss.map stD)) (.tuple (tt.map stD)) = decide (ss = tt) from sts_eqv ss tt]
      exact q
    · have e2 : ¬ ((n : Nat) : Int) = (m : Nat) := by omega
      rw [decide_eq_false e, Bool.false_and] at q
      rw [decide_eq_false e2]
      walk_at "r"
      exact q
/-- two webs that are equal -/
def RWeb (K : PySem.W.Frag) (C : Addr) : Addr → Addr → Hp → Prop := fun a b H => ∃ n ss, IsWeb K C H (.ref a) n ss ∧ IsWeb K C H (.ref b) n ss
theorem ok_Web_eqR (T : Txt K mg f_is_integer f_is_row f_is_fraction f_is_amount f_is_some f_are_amounts f_added f_negated f_lessened f_multiplied f_divided f_squared f_summed f_lies_below f_is_stall f_hold_of f_stalls_of f_kept_of f_held f_is_index f_is_move f_check_purse f_check_wish f_stall_led f_stall_behind f_stalls_behind f_deal_fault f_check_deal f_web_behind f_left_with f_played f_owes f_is_deal f_stands_alike f_check_alike f_change_of f_l_deck f_l_pick f_l_fold f_l_divisor f_l_made f_l_amount f_l_stall f_l_deep f_l_odd f_l_row f_l_bad_row f_l_move f_l_bad_deal f_l_is_some f_l_is_row f_l_is_below f_l_is_move f_l_due f_l_answer f_l_word f_l_word_is_due f_law f_BadDeal_init f_Web_init f_Web_eq c_BadPurse c_BadWish c_BadDeal c_Web c_ZERO d_is_integer d_is_row d_is_fraction d_is_amount d_is_some d_are_amounts d_added d_negated d_lessened d_multiplied d_divided d_squared d_summed d_lies_below d_is_stall d_hold_of d_stalls_of d_kept_of d_held d_is_index d_is_move d_check_purse d_check_wish d_stall_led d_stall_behind d_stalls_behind d_deal_fault d_check_deal d_web_behind d_left_with d_played d_owes d_is_deal d_stands_alike d_check_alike d_change_of d_l_deck d_l_pick d_l_fold d_l_divisor d_l_made d_l_amount d_l_stall d_l_deep d_l_odd d_l_row d_l_bad_row d_l_move d_l_bad_deal d_l_is_some d_l_is_row d_l_is_below d_l_is_move d_l_due d_l_answer d_l_word d_l_word_is_due d_law d_BadDeal_init d_Web_init d_Web_eq) : FnOk P w K mg base CX0 1 f_Web_eq d_Web_eq ["self", "other"] (spEq (RWeb K c_Web)) :=
  (ok_Web_eq T).imp fun vs H Q E h => by
    obtain ⟨a, b, rfl, ⟨n, ss, h1, h2⟩, q⟩ := h
    refine ⟨_, _, n, n, ss, ss, rfl, h1, h2, ?_⟩
    rw [decide_eq_true rfl, decide_eq_true rfl]
    exact q H Ext.rfl'
theorem rc_web {X : Cx} (T : Txt X.K X.mg f_is_integer f_is_row f_is_fraction f_is_amount f_is_some f_are_amounts f_added f_negated f_lessened f_multiplied f_divided f_squared f_summed f_lies_below f_is_stall f_hold_of f_stalls_of f_kept_of f_held f_is_index f_is_move f_check_purse f_check_wish f_stall_led f_stall_behind f_stalls_behind f_deal_fault f_check_deal f_web_behind f_left_with f_played f_owes f_is_deal f_stands_alike f_check_alike f_change_of f_l_deck f_l_pick f_l_fold f_l_divisor f_l_made f_l_amount f_l_stall f_l_deep f_l_odd f_l_row f_l_bad_row f_l_move f_l_bad_deal f_l_is_some f_l_is_row f_l_is_below f_l_is_move f_l_due f_l_answer f_l_word f_l_word_is_due f_law f_BadDeal_init f_Web_init f_Web_eq c_BadPurse c_BadWish c_BadDeal c_Web c_ZERO d_is_integer d_is_row d_is_fraction d_is_amount d_is_some d_are_amounts d_added d_negated d_lessened d_multiplied d_divided d_squared d_summed d_lies_below d_is_stall d_hold_of d_stalls_of d_kept_of d_held d_is_index d_is_move d_check_purse d_check_wish d_stall_led d_stall_behind d_stalls_behind d_deal_fault d_check_deal d_web_behind d_left_with d_played d_owes d_is_deal d_stands_alike d_check_alike d_change_of d_l_deck d_l_pick d_l_fold d_l_divisor d_l_made d_l_amount d_l_stall d_l_deep d_l_odd d_l_row d_l_bad_row d_l_move d_l_bad_deal d_l_is_some d_l_is_row d_l_is_below d_l_is_move d_l_due d_l_answer d_l_word d_l_word_is_due d_law d_BadDeal_init d_Web_init d_Web_eq) : RcG X 1 (DIns c_Web (RWeb X.K c_Web)) :=
  rcG_ins (E := E0) (ok_Web_eqR T) T.i_Web_eq T.fn_Web_eq T.b_Web_eq pass0
/-- what the own == answers of two webs -/
def BWeb (K : PySem.W.Frag) (C : Addr) : Addr → Addr → Hp → Bool → Prop := fun a b H r => ∃ n m ss tt, IsWeb K C H (.ref a) n ss ∧ IsWeb K C H (.ref b) m tt ∧ r = (decide (n = m) && decide (ss = tt))
theorem ok_Web_eq_B (T : Txt K mg f_is_integer f_is_row f_is_fraction f_is_amount f_is_some f_are_amounts f_added f_negated f_lessened f_multiplied f_divided f_squared f_summed f_lies_below f_is_stall f_hold_of f_stalls_of f_kept_of f_held f_is_index f_is_move f_check_purse f_check_wish f_stall_led f_stall_behind f_stalls_behind f_deal_fault f_check_deal f_web_behind f_left_with f_played f_owes f_is_deal f_stands_alike f_check_alike f_change_of f_l_deck f_l_pick f_l_fold f_l_divisor f_l_made f_l_amount f_l_stall f_l_deep f_l_odd f_l_row f_l_bad_row f_l_move f_l_bad_deal f_l_is_some f_l_is_row f_l_is_below f_l_is_move f_l_due f_l_answer f_l_word f_l_word_is_due f_law f_BadDeal_init f_Web_init f_Web_eq c_BadPurse c_BadWish c_BadDeal c_Web c_ZERO d_is_integer d_is_row d_is_fraction d_is_amount d_is_some d_are_amounts d_added d_negated d_lessened d_multiplied d_divided d_squared d_summed d_lies_below d_is_stall d_hold_of d_stalls_of d_kept_of d_held d_is_index d_is_move d_check_purse d_check_wish d_stall_led d_stall_behind d_stalls_behind d_deal_fault d_check_deal d_web_behind d_left_with d_played d_owes d_is_deal d_stands_alike d_check_alike d_change_of d_l_deck d_l_pick d_l_fold d_l_divisor d_l_made d_l_amount d_l_stall d_l_deep d_l_odd d_l_row d_l_bad_row d_l_move d_l_bad_deal d_l_is_some d_l_is_row d_l_is_below d_l_is_move d_l_due d_l_answer d_l_word d_l_word_is_due d_law d_BadDeal_init d_Web_init d_Web_eq) : FnOk P w K mg base CX0 1 f_Web_eq d_Web_eq ["self", "other"] (spEqB (BWeb K c_Web)) :=
  (ok_Web_eq T).imp fun vs H Q E h => by
    obtain ⟨a, b, r, rfl, ⟨n, m, ss, tt, h1, h2, rfl⟩, q⟩ := h
    exact ⟨_, _, n, m, ss, tt, rfl, h1, h2, q⟩
end
end My
namespace My
open PySem PySem.Spec PyProof.Rows L2
variable {K : PySem.W.Frag}
theorem rd_zipA {ta : TA} {σ : L2.St} {H : Hp} {R : It → Hp → Prop} (h : ta σ H fun vs H1 => ∃ a b xs ys, vs = [.ref a, .ref b] ∧ ((SqL K H1 a xs ∧ SqL K H1 b ys ∧ R (Itz K a b) H1) ∨ (SqT K H1 a xs ∧ SqT K H1 b ys ∧ R (RZ.ItzT K a b) H1))) : RZ.iZipA K ta σ H R := h
theorem lt_num (r t : Rat) : (r.num * (t.den : Int) < t.num * (r.den : Int)) ↔ r < t := by
  rw [Rat.lt_iff]
structure Mv where
  i : Nat
  w : Nat
  x : Rat
def IsM (K : PySem.W.Frag) (H : Hp) (v : V) (m : Mv) : Prop := IsMv K H v m.i m.w m.x
theorem IsMv.ts {H H' : Hp} {v : V} {i w : Nat} {x : Rat} (f : Tps H H') (h : IsMv K H v i w x) : IsMv K H' v i w x := by
  obtain ⟨p, vx, e, h, a⟩ := h
  exact ⟨p, vx, e, f _ _ h, a.ts f⟩
def IsMs (K : PySem.W.Frag) (H : Hp) (x : V) (ms : List Mv) : Prop := ∃ L ys, x = .ref L ∧ H L = some (.lst ys) ∧ Paired (IsM K H) ys ms
structure Alk (ss tt : List Stl) : Prop where
  len : ss.length = tt.length
  at_ : ∀ {i : Nat} {s t : Stl}, ss[i]? = some s → tt[i]? = some t → s.u = t.u ∧ s.v = t.v ∧ s.r = t.r
def mvTo (i : Nat) (s : Stl) (x : Rat) : Mv := if s.a < x then ⟨i, s.u, x - s.a⟩ else ⟨i, s.v, (s.first x).b - s.b⟩
def btw (ss tt : List Stl) (i : Nat) : Option Mv := match ss[i]?, tt[i]? with
  | some s, some t => if s = t then none else some (mvTo i s t.a)
  | _, _ => none
def diff (n : Nat) (ss tt : List Stl) : List Rat := (List.range n).map fun w => heldAt ss w - heldAt tt w
theorem first_ok {n : Nat} {s : Stl} (h : OkSt n s) {y : Rat} (y0 : 0 < y) : OkSt n (s.first y) :=
  ⟨h.u, h.v, h.ne, y0, div_pos' (sq_pos h.r) y0, h.r, mul_div_self (ne_of_pos y0)⟩
theorem first_bd {k l : Nat} {s : Stl} (h : BdSt k s) {y : Rat} (y0 : 0 < y) (b : Bd l y) : BdSt (2 * k + l) (s.first y) :=
  ⟨b.mono (by omega), ((h.r.mul h.r).div (ne_of_pos y0) b).mono (by omega), h.r.mono (by omega)⟩
def pairD (u v : Nat) : PyData := .tuple [.int (u : Nat), .int (v : Nat)]
theorem pairD_dp {H : Hp} {p : Addr} {u v : Nat} (h : H p = some (.tup [V.int (u : Nat), .int (v : Nat)])) : Dp K H (.ref p) (pairD u v) := .tup (.of h) (.cons (.int _) (.cons (.int _) .nil))
theorem pairD_eqv (u v : Nat) : PyData.eqv (pairD u v) (pairD u v) = true := by simp [pairD, PyData.eqv, PyData.eqvAll]
section
variable {P : Program} {w : World} {K : PySem.W.Frag} {mg : Str → Option Value} {base : Heap} {f_is_integer f_is_row f_is_fraction f_is_amount f_is_some f_are_amounts f_added f_negated f_lessened f_multiplied f_divided f_squared f_summed f_lies_below f_is_stall f_hold_of f_stalls_of f_kept_of f_held f_is_index f_is_move f_check_purse f_check_wish f_stall_led f_stall_behind f_stalls_behind f_deal_fault f_check_deal f_web_behind f_left_with f_played f_owes f_is_deal f_stands_alike f_check_alike f_change_of f_l_deck f_l_pick f_l_fold f_l_divisor f_l_made f_l_amount f_l_stall f_l_deep f_l_odd f_l_row f_l_bad_row f_l_move f_l_bad_deal f_l_is_some f_l_is_row f_l_is_below f_l_is_move f_l_due f_l_answer f_l_word f_l_word_is_due f_law f_BadDeal_init f_Web_init f_Web_eq c_BadPurse c_BadWish c_BadDeal c_Web c_ZERO : Addr} {d_is_integer d_is_row d_is_fraction d_is_amount d_is_some d_are_amounts d_added d_negated d_lessened d_multiplied d_divided d_squared d_summed d_lies_below d_is_stall d_hold_of d_stalls_of d_kept_of d_held d_is_index d_is_move d_check_purse d_check_wish d_stall_led d_stall_behind d_stalls_behind d_deal_fault d_check_deal d_web_behind d_left_with d_played d_owes d_is_deal d_stands_alike d_check_alike d_change_of d_l_deck d_l_pick d_l_fold d_l_divisor d_l_made d_l_amount d_l_stall d_l_deep d_l_odd d_l_row d_l_bad_row d_l_move d_l_bad_deal d_l_is_some d_l_is_row d_l_is_below d_l_is_move d_l_due d_l_answer d_l_word d_l_word_is_due d_law d_BadDeal_init d_Web_init d_Web_eq : FuncData}
def sp_stands (K : PySem.W.Frag) : Sp := fun vs H Q _ => ∃ (v u : V) (s t : Stl), vs = [v, u] ∧ IsSt K H v s ∧ IsSt K H u t ∧ (s.u = t.u ∧ s.v = t.v ∧ s.r = t.r) ∧ ∀ H', Same H H' → Q (.bl true) H'
theorem ok_stands_alike (T : Txt K mg f_is_integer f_is_row f_is_fraction f_is_amount f_is_some f_are_amounts f_added f_negated f_lessened f_multiplied f_divided f_squared f_summed f_lies_below f_is_stall f_hold_of f_stalls_of f_kept_of f_held f_is_index f_is_move f_check_purse f_check_wish f_stall_led f_stall_behind f_stalls_behind f_deal_fault f_check_deal f_web_behind f_left_with f_played f_owes f_is_deal f_stands_alike f_check_alike f_change_of f_l_deck f_l_pick f_l_fold f_l_divisor f_l_made f_l_amount f_l_stall f_l_deep f_l_odd f_l_row f_l_bad_row f_l_move f_l_bad_deal f_l_is_some f_l_is_row f_l_is_below f_l_is_move f_l_due f_l_answer f_l_word f_l_word_is_due f_law f_BadDeal_init f_Web_init f_Web_eq c_BadPurse c_BadWish c_BadDeal c_Web c_ZERO d_is_integer d_is_row d_is_fraction d_is_amount d_is_some d_are_amounts d_added d_negated d_lessened d_multiplied d_divided d_squared d_summed d_lies_below d_is_stall d_hold_of d_stalls_of d_kept_of d_held d_is_index d_is_move d_check_purse d_check_wish d_stall_led d_stall_behind d_stalls_behind d_deal_fault d_check_deal d_web_behind d_left_with d_played d_owes d_is_deal d_stands_alike d_check_alike d_change_of d_l_deck d_l_pick d_l_fold d_l_divisor d_l_made d_l_amount d_l_stall d_l_deep d_l_odd d_l_row d_l_bad_row d_l_move d_l_bad_deal d_l_is_some d_l_is_row d_l_is_below d_l_is_move d_l_due d_l_answer d_l_word d_l_word_is_due d_law d_BadDeal_init d_Web_init d_Web_eq) : FnOk P w K mg base CX0 1 f_stands_alike d_stands_alike ["one", "other"] (sp_stands K) := by
  refine T.F_stands_alike.ok sc_stands_alike (fun vs H Q E h => ?_) (fun cdv A outer sh H vs Q E hr h => ?_)
  · obtain ⟨v, u, s, t, rfl, _⟩ := h
    rfl
  · obtain ⟨v, u, s, t, rfl, ⟨p, va, vb, vr, rfl, hp, ha, hb, hr'⟩, ⟨p2, va2, vb2, vr2, rfl, hp2, ha2, hb2, hr2⟩, ⟨e1, e2, e3⟩, q⟩ := h
    rw [← e1, ← e2] at hp2
    rw [← e3] at hr2
    refine ⟨_, (pss_one (ps_ret (pe_and (pe_cmpR (op_eqD hr.units) (pe_slice sl_tup (pv 0) po_none (po_some pe_int)) (pe_slice sl_tup (pv 1) po_none (po_some pe_int)) (nomark _)) (pe_one (pe_cmpR (op_eqD hr.units) (pe_ix ix_tup (pv 0) pe_int (fun _ _ => rfl)) (pe_ix ix_tup (pv 1) pe_int (fun _ _ => rfl)) (nomark _)))))), ?_⟩
    walk_at "r"
    refine rd_slT hp (show ¬ (HT.sIx 5 0 none = 0 ∧ HT.sIx 5 5 (some 2) = 5) by decide) fun p3 H3 s3 h3 => ?_
    have h3 : H3 p3 = some (.tup [V.int (s.u : Nat), .int (s.v : Nat)]) := h3
    walk_at "r"
    refine rd_slT (s3 _ _ hp2) (show ¬ (HT.sIx 5 0 none = 0 ∧ HT.sIx 5 5 (some 2) = 5) by decide) fun p4 H4 s4 h4 => ?_
    have h4 : H4 p4 = some (.tup [V.int (s.u : Nat), .int (s.v : Nat)]) := h4
    refine ⟨_, _, pairD_dp (s4 _ _ h3), pairD_dp h4, rfl, rfl, ?_⟩
    rw [pairD_eqv]
    walk_at "r"
    refine eqF (K := K) (by walk_at "kp") (by walk_at "kp") ?_
    rw [decide_eq_true rfl]
    exact q _ (s3.trans s4)
def sp_check_alike (K : PySem.W.Frag) (C : Addr) : Sp := fun vs H Q _ => ∃ (x y : V) (n : Nat) (ss tt : List Stl), vs = [x, y] ∧ IsWeb K C H x n ss ∧ IsWeb K C H y n tt ∧ Alk ss tt ∧ ∀ H', Same H H' → Q .non H'
theorem ok_check_alike (T : Txt K mg f_is_integer f_is_row f_is_fraction f_is_amount f_is_some f_are_amounts f_added f_negated f_lessened f_multiplied f_divided f_squared f_summed f_lies_below f_is_stall f_hold_of f_stalls_of f_kept_of f_held f_is_index f_is_move f_check_purse f_check_wish f_stall_led f_stall_behind f_stalls_behind f_deal_fault f_check_deal f_web_behind f_left_with f_played f_owes f_is_deal f_stands_alike f_check_alike f_change_of f_l_deck f_l_pick f_l_fold f_l_divisor f_l_made f_l_amount f_l_stall f_l_deep f_l_odd f_l_row f_l_bad_row f_l_move f_l_bad_deal f_l_is_some f_l_is_row f_l_is_below f_l_is_move f_l_due f_l_answer f_l_word f_l_word_is_due f_law f_BadDeal_init f_Web_init f_Web_eq c_BadPurse c_BadWish c_BadDeal c_Web c_ZERO d_is_integer d_is_row d_is_fraction d_is_amount d_is_some d_are_amounts d_added d_negated d_lessened d_multiplied d_divided d_squared d_summed d_lies_below d_is_stall d_hold_of d_stalls_of d_kept_of d_held d_is_index d_is_move d_check_purse d_check_wish d_stall_led d_stall_behind d_stalls_behind d_deal_fault d_check_deal d_web_behind d_left_with d_played d_owes d_is_deal d_stands_alike d_check_alike d_change_of d_l_deck d_l_pick d_l_fold d_l_divisor d_l_made d_l_amount d_l_stall d_l_deep d_l_odd d_l_row d_l_bad_row d_l_move d_l_bad_deal d_l_is_some d_l_is_row d_l_is_below d_l_is_move d_l_due d_l_answer d_l_word d_l_word_is_due d_law d_BadDeal_init d_Web_init d_Web_eq) : FnOk P w K mg base CX0 3 f_check_alike d_check_alike ["one_web", "other_web"] (sp_check_alike K c_Web) := by
  have G_stands_alike : FnOk P w K mg base CX0 1 f_stands_alike d_stands_alike ["one", "other"] (sp_stands K) := ok_stands_alike T
  refine T.F_check_alike.ok sc_check_alike (fun vs H Q E h => ?_) (fun cdv A outer sh H vs Q E hr h => ?_)
  · obtain ⟨x, y, n, ss, tt, rfl, _⟩ := h
    rfl
  · obtain ⟨x, y, n, ss, tt, rfl, ⟨p, dx, t, xs, rfl, hp, ht, hss⟩, ⟨p2, dx2, t2, xs2, rfl, hp2, ht2, hss2⟩, al, q⟩ := h
    have l1 := hss.len
    have l2 := hss2.len
    have l3 := al.len
    refine ⟨_, (pss_cons (ps_if (PW.pt (pw_or (pt_cmpR op_ne (pe_fld (pv 0) rfl) (pe_fld (pv 1) rfl) (nomark _)) (pw_or1 (pt_cmpR op_ne (pe_callB call_lenN (by rfl) T.z_len (by decide +kernel) (pa_cons (pe_fld (pv 0) rfl) pa_nil)) (pe_callB call_lenN (by rfl) T.z_len (by decide +kernel) (pa_cons (pe_fld (pv 1) rfl) pa_nil)) (nomark _)))))
        (pss_one ps_never)
        pss_nil)
      (pss_one (ps_for PassesOwn.never rfl (RZ.pi_zipA (by rfl) T.z_zip (pa_cons (pe_fld (pv 0) rfl) (pa_cons (pe_fld (pv 1) rfl) pa_nil))) (pg_tup rfl (pgs_cons (pg_name (i := 2) sc_check_alike.nd rfl (by first | exact Or.inl rfl | exact Or.inr rfl)) (pgs_cons (pg_name (i := 3) sc_check_alike.nd rfl (by first | exact Or.inl rfl | exact Or.inr rfl)) pgs_nil)))
        (pss_one (ps_if (pt_not (pt_val (pe_call G_stands_alike (hr.mono (by decide)) (by rfl) T.g_stands_alike T.k_stands_alike T.b_stands_alike .nil pass0 (pa_cons (pv 2) (pa_cons (pv 3) pa_nil)))))
            (pss_one ps_never)
            pss_nil))))), ?_⟩
    walk_at "r"
    refine ⟨_, _, _, _, _, rfl, hp, T.w_Web.it.cl, T.n_Web_wares, wF_wares _ _, ?_⟩
    walk_at "r"
    refine ⟨_, _, _, _, _, rfl, hp2, T.w_Web.it.cl, T.n_Web_wares, wF_wares _ _, ?_⟩
    walk_at "r"
    refine ⟨_, _, _, _, _, rfl, hp, T.w_Web.it.cl, T.n_Web_stalls, wF_stalls _ _, ?_⟩
    walk_at "r"
    refine ⟨_, _, _, _, _, rfl, hp2, T.w_Web.it.cl, T.n_Web_stalls, wF_stalls _ _, ?_⟩
    walk_at "r"
    refine rd_zipA ?_
    walk_at "r"
    refine ⟨_, _, _, _, _, rfl, hp, T.w_Web.it.cl, T.n_Web_stalls, wF_stalls _ _, ?_⟩
    walk_at "r"
    refine ⟨_, _, _, _, _, rfl, hp2, T.w_Web.it.cl, T.n_Web_stalls, wF_stalls _ _, ?_⟩
    walk_at "r"
    refine ⟨_, _, xs, xs2, rfl, .inr ⟨.of ht, .of ht2, ?_⟩⟩
    refine RZ.for_zipT (K := K) (a := t) (b := t2) (xs := xs) (ys := xs2) (by omega) (fun i σ H' => ∃ (t3 t4 : Option V), σ = [some (.ref p), some (.ref p2), t3, t4] ∧ Same H H') ⟨_, _, rfl, Same.refl _⟩ ?_ ?_ ?_
    · rintro i σ H' ⟨t3, t4, rfl, s1⟩
      exact ⟨.of (s1 _ _ ht), .of (s1 _ _ ht2)⟩
    · rintro i v u T2 σ H' hv hu ⟨t3, t4, rfl, s1⟩ nT
      obtain ⟨s, hs, hst⟩ := hss.at hv
      obtain ⟨s', hs', hst'⟩ := hss2.at hu
      have sm := same_upd (o := .tup [v, u]) nT
      walk_at "r"
      refine ⟨v, u, s, s', rfl, (hst.same s1).same sm, (hst'.same s1).same sm, al.at_ hs hs', fun H3 s3 => ?_⟩
      walk_at "r"
      exact ⟨_, _, rfl, (s1.trans sm).trans s3⟩
    · rintro σ H' ⟨t3, t4, rfl, s1⟩
      walk_at "r"
      exact q _ s1
def sp_change_of (K : PySem.W.Frag) (C : Addr) : Sp := fun vs H Q _ => ∃ (x y : V) (n : Nat) (ss tt : List Stl) (M N : Nat), vs = [x, y] ∧ IsWeb K C H x n ss ∧ IsWeb K C H y n tt ∧ Alk ss tt ∧ n ≤ 8 ∧ ss.length ≤ 16 ∧ BL ss M ∧ BL tt N ∧ M ≤ 4000 ∧ N ≤ 4000 ∧ ∀ H' v, Same H H' → IsFs K H' v (diff n ss tt) → Q v H'
theorem ok_change_of (T : Txt K mg f_is_integer f_is_row f_is_fraction f_is_amount f_is_some f_are_amounts f_added f_negated f_lessened f_multiplied f_divided f_squared f_summed f_lies_below f_is_stall f_hold_of f_stalls_of f_kept_of f_held f_is_index f_is_move f_check_purse f_check_wish f_stall_led f_stall_behind f_stalls_behind f_deal_fault f_check_deal f_web_behind f_left_with f_played f_owes f_is_deal f_stands_alike f_check_alike f_change_of f_l_deck f_l_pick f_l_fold f_l_divisor f_l_made f_l_amount f_l_stall f_l_deep f_l_odd f_l_row f_l_bad_row f_l_move f_l_bad_deal f_l_is_some f_l_is_row f_l_is_below f_l_is_move f_l_due f_l_answer f_l_word f_l_word_is_due f_law f_BadDeal_init f_Web_init f_Web_eq c_BadPurse c_BadWish c_BadDeal c_Web c_ZERO d_is_integer d_is_row d_is_fraction d_is_amount d_is_some d_are_amounts d_added d_negated d_lessened d_multiplied d_divided d_squared d_summed d_lies_below d_is_stall d_hold_of d_stalls_of d_kept_of d_held d_is_index d_is_move d_check_purse d_check_wish d_stall_led d_stall_behind d_stalls_behind d_deal_fault d_check_deal d_web_behind d_left_with d_played d_owes d_is_deal d_stands_alike d_check_alike d_change_of d_l_deck d_l_pick d_l_fold d_l_divisor d_l_made d_l_amount d_l_stall d_l_deep d_l_odd d_l_row d_l_bad_row d_l_move d_l_bad_deal d_l_is_some d_l_is_row d_l_is_below d_l_is_move d_l_due d_l_answer d_l_word d_l_word_is_due d_law d_BadDeal_init d_Web_init d_Web_eq) : FnOk P w K mg base CX0 5 f_change_of d_change_of ["one_web", "other_web"] (sp_change_of K c_Web) := by
  have G_check_alike : FnOk P w K mg base CX0 3 f_check_alike d_check_alike ["one_web", "other_web"] (sp_check_alike K c_Web) := ok_check_alike T
  have G_held : FnOk P w K mg base CX0 4 f_held d_held ["web"] (sp_held K c_Web) := ok_held T
  have G_lessened : FnOk P w K mg base CX0 2 f_lessened d_lessened ["one", "other"] (sp_lessened K) := ok_lessened T
  refine T.F_change_of.ok sc_change_of (fun vs H Q E h => ?_) (fun cdv A outer sh H vs Q E hr h => ?_)
  · obtain ⟨x, y, n, ss, tt, M, N0, rfl, _⟩ := h
    rfl
  · obtain ⟨x, y, n, ss, tt, M, N0, rfl, hx, hy, al, n8, l16, ok1, ok2, hM, hN, q⟩ := h
    have l16' : tt.length ≤ 16 := al.len ▸ l16
    refine ⟨_, (pss_cons (ps_expr (pe_call G_check_alike (hr.mono (by decide)) (by rfl) T.g_check_alike T.k_check_alike T.b_check_alike .nil pass0 (pa_cons (pv 0) (pa_cons (pv 1) pa_nil))))
      (pss_cons (ps_set (i := 2) sc_change_of.nd rfl (by first | exact Or.inl rfl | exact Or.inr rfl) (pe_call G_held (hr.mono (by decide)) (by rfl) T.g_held T.k_held T.b_held .nil pass0 (pa_cons (pv 0) pa_nil)))
      (pss_cons (ps_set (i := 3) sc_change_of.nd rfl (by first | exact Or.inl rfl | exact Or.inr rfl) (pe_call G_held (hr.mono (by decide)) (by rfl) T.g_held T.k_held T.b_held .nil pass0 (pa_cons (pv 1) pa_nil)))
      (pss_one (ps_ret (pe_callTy call_tuple_of (by rfl) T.z_tuple (by decide +kernel) (pa_cons (pe_lc (own := [("ware", 4)]) (g := gName 4) rfl sc_change_of.nd (pi_range1 (by rfl) T.z_range (pa_cons (pe_fld (pv 0) rfl) pa_nil)) (blkOk_by (own := [("ware", 4)]) (N := N_change_of) (sc := defScope s_change_of) (by decide +kernel)) (fun _ _ _ _ _ => (pg_name (i := 4) sc_change_of.nd rfl (by first | exact Or.inl rfl | exact Or.inr rfl))) (fun _ _ _ _ _ => pts_nil) (fun _ _ _ _ _ => (pe_call G_lessened (hr.mono (by decide)) (by rfl) T.g_lessened T.k_lessened T.b_lessened .nil pass0 (pa_cons (pe_ix (My.ix_tupK (K := K) (by rfl)) (pv 2) (pv 4) (fun _ _ => rfl)) (pa_cons (pe_ix (My.ix_tupK (K := K) (by rfl)) (pv 3) (pv 4) (fun _ _ => rfl)) pa_nil))))) pa_nil))))))), ?_⟩
    walk_at "r"
    refine ⟨x, y, n, ss, tt, rfl, hx, hy, al, fun H1 s1 => ?_⟩
    walk_at "r"
    refine ⟨x, n, ss, M, rfl, by walk_at "kp", n8, l16, ok1, hM, fun H2 v2 s2 h2 => ?_⟩
    walk_at "r"
    refine ⟨y, n, tt, N0, rfl, by walk_at "kp", n8, l16', ok2, hN, fun H3 v3 s3 h3 => ?_⟩
    obtain ⟨t2, ys2, rfl, ht2, hf2⟩ := h2.same s3
    obtain ⟨t3, ys3, rfl, ht3, hf3⟩ := id h3
    obtain ⟨p, dx, t, xs, rfl, hp, ht, hss⟩ := ((hx.same s1).same s2).same s3
    walk_at "r"
    refine ⟨_, _, _, _, _, rfl, hp, T.w_Web.it.cl, T.n_Web_wares, wF_wares _ _, ?_⟩
    walk_at "r"
    refine ⟨by omega, by omega, fun D nD => ?_⟩
    refine lc_rangeP (R := IsF K) (fun _ _ _ _ f h => h.ts f) (f := fun i => some (heldAt ss i - heldAt tt i)) nD (by omega) (fun i hi H' Q' N s4 hq hn => ?_) fun H' hlst => ?_
    · have hi : i < n := hi
      obtain ⟨a, ha, fa⟩ := Paired.get' hf2 (i := i) (a := heldAt ss i) (by simp [heldAll, hi])
      obtain ⟨b, hb, fb⟩ := Paired.get' hf3 (i := i) (a := heldAt tt i) (by simp [heldAll, hi])
      walk_at "r"
      refine ⟨rfl, ?_⟩
      walk_at "r"
      refine rd_ixT (s4 _ _ ht2) (by simpa using at_some ha) ?_
      walk_at "r"
      refine rd_ixT (s4 _ _ ht3) (by simpa using at_some hb) ?_
      walk_at "r"
      refine ⟨_, _, _, _, rfl, fa.same s4, fb.same s4, (ok1.held i).mono hM, (ok2.held i).mono hN, trivial, fun H5 v s5 hv => hq _ _ _ rfl s5 hv⟩
    · obtain ⟨s4, ys, hD, hys⟩ := hlst
      rw [show ((n : Nat) : Int).toNat = n from rfl, upTo_map] at hys
      walk_at "r"
      refine ⟨_, _, rfl, .inl ⟨.of hD, fun l nl => ?_⟩⟩
      have sl := same_upd (o := .tup ys) nl
      exact q _ _ ((((s1.trans s2).trans s3).trans s4).trans sl) ⟨l, ys, rfl, upd_same, Fs.same sl hys⟩
end
end My
namespace My
open PySem PySem.Spec PyProof.Rows L2
variable {K : PySem.W.Frag}
section
variable {P : Program} {w : World} {K : PySem.W.Frag} {mg : Str → Option Value} {base : Heap} {f_is_integer f_is_row f_is_fraction f_is_amount f_is_some f_are_amounts f_added f_negated f_lessened f_multiplied f_divided f_squared f_summed f_lies_below f_is_stall f_hold_of f_stalls_of f_kept_of f_held f_is_index f_is_move f_check_purse f_check_wish f_stall_led f_stall_behind f_stalls_behind f_deal_fault f_check_deal f_web_behind f_left_with f_played f_owes f_is_deal f_stands_alike f_check_alike f_change_of f_l_deck f_l_pick f_l_fold f_l_divisor f_l_made f_l_amount f_l_stall f_l_deep f_l_odd f_l_row f_l_bad_row f_l_move f_l_bad_deal f_l_is_some f_l_is_row f_l_is_below f_l_is_move f_l_due f_l_answer f_l_word f_l_word_is_due f_law f_BadDeal_init f_Web_init f_Web_eq c_BadPurse c_BadWish c_BadDeal c_Web c_ZERO : Addr} {d_is_integer d_is_row d_is_fraction d_is_amount d_is_some d_are_amounts d_added d_negated d_lessened d_multiplied d_divided d_squared d_summed d_lies_below d_is_stall d_hold_of d_stalls_of d_kept_of d_held d_is_index d_is_move d_check_purse d_check_wish d_stall_led d_stall_behind d_stalls_behind d_deal_fault d_check_deal d_web_behind d_left_with d_played d_owes d_is_deal d_stands_alike d_check_alike d_change_of d_l_deck d_l_pick d_l_fold d_l_divisor d_l_made d_l_amount d_l_stall d_l_deep d_l_odd d_l_row d_l_bad_row d_l_move d_l_bad_deal d_l_is_some d_l_is_row d_l_is_below d_l_is_move d_l_due d_l_answer d_l_word d_l_word_is_due d_law d_BadDeal_init d_Web_init d_Web_eq : FuncData}
def sp_below (K : PySem.W.Frag) : Sp := fun vs H Q _ => ∃ x y r t, vs = [x, y] ∧ IsF K H x r ∧ IsF K H y t ∧ Bd 4000 r ∧ Bd 4000 t ∧ Q (.bl (decide (r < t))) H
theorem ok_lies_below (T : Txt K mg f_is_integer f_is_row f_is_fraction f_is_amount f_is_some f_are_amounts f_added f_negated f_lessened f_multiplied f_divided f_squared f_summed f_lies_below f_is_stall f_hold_of f_stalls_of f_kept_of f_held f_is_index f_is_move f_check_purse f_check_wish f_stall_led f_stall_behind f_stalls_behind f_deal_fault f_check_deal f_web_behind f_left_with f_played f_owes f_is_deal f_stands_alike f_check_alike f_change_of f_l_deck f_l_pick f_l_fold f_l_divisor f_l_made f_l_amount f_l_stall f_l_deep f_l_odd f_l_row f_l_bad_row f_l_move f_l_bad_deal f_l_is_some f_l_is_row f_l_is_below f_l_is_move f_l_due f_l_answer f_l_word f_l_word_is_due f_law f_BadDeal_init f_Web_init f_Web_eq c_BadPurse c_BadWish c_BadDeal c_Web c_ZERO d_is_integer d_is_row d_is_fraction d_is_amount d_is_some d_are_amounts d_added d_negated d_lessened d_multiplied d_divided d_squared d_summed d_lies_below d_is_stall d_hold_of d_stalls_of d_kept_of d_held d_is_index d_is_move d_check_purse d_check_wish d_stall_led d_stall_behind d_stalls_behind d_deal_fault d_check_deal d_web_behind d_left_with d_played d_owes d_is_deal d_stands_alike d_check_alike d_change_of d_l_deck d_l_pick d_l_fold d_l_divisor d_l_made d_l_amount d_l_stall d_l_deep d_l_odd d_l_row d_l_bad_row d_l_move d_l_bad_deal d_l_is_some d_l_is_row d_l_is_below d_l_is_move d_l_due d_l_answer d_l_word d_l_word_is_due d_law d_BadDeal_init d_Web_init d_Web_eq) : FnOk P w K mg base CX0 1 f_lies_below d_lies_below ["one", "other"] (sp_below K) := by
  refine T.F_lies_below.ok sc_lies_below (fun vs H Q E h => ?_) (fun cdv A outer s H vs Q E hr h => ?_)
  · obtain ⟨x, y, r, t, rfl, _⟩ := h
    rfl
  · obtain ⟨x, y, r, t, rfl, ⟨p1, rfl, h1⟩, ⟨p2, rfl, h2⟩, b1, b2, q⟩ := h
    refine ⟨_, (pss_one (ps_ret (pe_cmpR op_lt (pe_op op_mulX (pe_ix ix_tup (pv 0) pe_int (fun _ _ => rfl)) (pe_ix ix_tup (pv 1) pe_int (fun _ _ => rfl))) (pe_op op_mulX (pe_ix ix_tup (pv 1) pe_int (fun _ _ => rfl)) (pe_ix ix_tup (pv 0) pe_int (fun _ _ => rfl))) (nomark _)))), ?_⟩
    walk_at "r"
    · rw [show decide (r.num * (t.den : Int) < t.num * (r.den : Int)) = decide (r < t) by rw [Bool.eq_iff_iff]; simp only [decide_eq_true_eq]; exact lt_num r t]
      exact q
    · exact cmx (p46 b2.1) (by rw [Int.natAbs_natCast]; exact p46 b1.2)
    · exact cmx (p46 b1.1) (by rw [Int.natAbs_natCast]; exact p46 b2.2)
end
end My
namespace My
open PySem PySem.Spec PyProof.Rows L2
variable {K : PySem.W.Frag}
section
variable {P : Program} {w : World} {K : PySem.W.Frag} {mg : Str → Option Value} {base : Heap} {f_is_integer f_is_row f_is_fraction f_is_amount f_is_some f_are_amounts f_added f_negated f_lessened f_multiplied f_divided f_squared f_summed f_lies_below f_is_stall f_hold_of f_stalls_of f_kept_of f_held f_is_index f_is_move f_check_purse f_check_wish f_stall_led f_stall_behind f_stalls_behind f_deal_fault f_check_deal f_web_behind f_left_with f_played f_owes f_is_deal f_stands_alike f_check_alike f_change_of f_l_deck f_l_pick f_l_fold f_l_divisor f_l_made f_l_amount f_l_stall f_l_deep f_l_odd f_l_row f_l_bad_row f_l_move f_l_bad_deal f_l_is_some f_l_is_row f_l_is_below f_l_is_move f_l_due f_l_answer f_l_word f_l_word_is_due f_law f_BadDeal_init f_Web_init f_Web_eq c_BadPurse c_BadWish c_BadDeal c_Web c_ZERO : Addr} {d_is_integer d_is_row d_is_fraction d_is_amount d_is_some d_are_amounts d_added d_negated d_lessened d_multiplied d_divided d_squared d_summed d_lies_below d_is_stall d_hold_of d_stalls_of d_kept_of d_held d_is_index d_is_move d_check_purse d_check_wish d_stall_led d_stall_behind d_stalls_behind d_deal_fault d_check_deal d_web_behind d_left_with d_played d_owes d_is_deal d_stands_alike d_check_alike d_change_of d_l_deck d_l_pick d_l_fold d_l_divisor d_l_made d_l_amount d_l_stall d_l_deep d_l_odd d_l_row d_l_bad_row d_l_move d_l_bad_deal d_l_is_some d_l_is_row d_l_is_below d_l_is_move d_l_due d_l_answer d_l_word d_l_word_is_due d_law d_BadDeal_init d_Web_init d_Web_eq : FuncData}
def sp_stalls_behind (K : PySem.W.Frag) : Sp := fun vs H Q _ => ∃ (t : Addr) (mv : V) (xs : List V) (ss : List Stl) (i wn : Nat) (s : Stl) (y : Rat), vs = [.ref t, mv] ∧ H t = some (.tup xs) ∧ Sts K H xs ss ∧ IsMv K H mv i wn y ∧ ss[i]? = some s ∧ ss.length ≤ 16 ∧ 0 < s.a ∧ 0 < s.b ∧ 0 < y ∧ BdSt 1900 s ∧ Bd 1900 y ∧
  ∀ H' t' xs', Same H H' → H' t' = some (.tup xs') → Sts K H' xs' (ss.set i (s.behind wn y)) → Q (.ref t') H'
theorem ok_stalls_behind (T : Txt K mg f_is_integer f_is_row f_is_fraction f_is_amount f_is_some f_are_amounts f_added f_negated f_lessened f_multiplied f_divided f_squared f_summed f_lies_below f_is_stall f_hold_of f_stalls_of f_kept_of f_held f_is_index f_is_move f_check_purse f_check_wish f_stall_led f_stall_behind f_stalls_behind f_deal_fault f_check_deal f_web_behind f_left_with f_played f_owes f_is_deal f_stands_alike f_check_alike f_change_of f_l_deck f_l_pick f_l_fold f_l_divisor f_l_made f_l_amount f_l_stall f_l_deep f_l_odd f_l_row f_l_bad_row f_l_move f_l_bad_deal f_l_is_some f_l_is_row f_l_is_below f_l_is_move f_l_due f_l_answer f_l_word f_l_word_is_due f_law f_BadDeal_init f_Web_init f_Web_eq c_BadPurse c_BadWish c_BadDeal c_Web c_ZERO d_is_integer d_is_row d_is_fraction d_is_amount d_is_some d_are_amounts d_added d_negated d_lessened d_multiplied d_divided d_squared d_summed d_lies_below d_is_stall d_hold_of d_stalls_of d_kept_of d_held d_is_index d_is_move d_check_purse d_check_wish d_stall_led d_stall_behind d_stalls_behind d_deal_fault d_check_deal d_web_behind d_left_with d_played d_owes d_is_deal d_stands_alike d_check_alike d_change_of d_l_deck d_l_pick d_l_fold d_l_divisor d_l_made d_l_amount d_l_stall d_l_deep d_l_odd d_l_row d_l_bad_row d_l_move d_l_bad_deal d_l_is_some d_l_is_row d_l_is_below d_l_is_move d_l_due d_l_answer d_l_word d_l_word_is_due d_law d_BadDeal_init d_Web_init d_Web_eq) : FnOk P w K mg base CX0 5 f_stalls_behind d_stalls_behind ["stalls", "move"] (sp_stalls_behind K) := by
  have G_stall_behind : FnOk P w K mg base CX0 4 f_stall_behind d_stall_behind ["stall", "ware", "amount"] (sp_behind K) := ok_stall_behind T
  refine T.F_stalls_behind.ok sc_stalls_behind (fun vs H Q E h => ?_) (fun cdv A outer s H vs Q E hr h => ?_)
  · obtain ⟨t, mv, xs, ss, i, wn, s, y, rfl, _⟩ := h
    rfl
  · obtain ⟨t, mv, xs, ss, i, wn, s, y, rfl, ht, hss, hmv, hi, l16, a0, b0, y0, bs, by', q⟩ := h
    obtain ⟨pm, vx, rfl, hm, hy⟩ := hmv
    have hl := hss.len
    have hil : i < ss.length := (List.getElem?_eq_some_iff.mp hi).1
    obtain ⟨z, hz, hst⟩ := hss.get hi
    refine ⟨_, (pss_cons (ps_asg (pv 1) (pg_tup rfl (pgs_cons (pg_name (i := 2) sc_stalls_behind.nd rfl (by first | exact Or.inl rfl | exact Or.inr rfl)) (pgs_cons (pg_name (i := 3) sc_stalls_behind.nd rfl (by first | exact Or.inl rfl | exact Or.inr rfl)) (pgs_cons (pg_name (i := 4) sc_stalls_behind.nd rfl (by first | exact Or.inl rfl | exact Or.inr rfl)) pgs_nil)))))
      (pss_one (ps_ret (pe_op op_catA (pe_op op_catA (pe_slice sl_tup (pv 0) po_none (po_some (pv 2))) (pe_tup (pa_cons (pe_call G_stall_behind (hr.mono (by decide)) (by rfl) T.g_stall_behind T.k_stall_behind T.b_stall_behind .nil pass0 (pa_cons (pe_ix ix_tup (pv 0) (pv 2) (fun _ _ => rfl)) (pa_cons (pv 3) (pa_cons (pv 4) pa_nil)))) pa_nil))) (pe_slice sl_tup (pv 0) (po_some (pe_op op_add (pv 2) pe_int)) po_none))))), ?_⟩
    walk_at "r"
    refine rd_slT ht (by rw [HT.sIx_none, HT.sIx_nat]; omega) fun p1 H1 s1 h1 => ?_
    have ht1 := s1 _ _ ht
    walk_at "r"
    refine rd_ixT ht1 (at_some hz) ?_
    walk_at "r"
    refine ⟨z, s, wn, vx, y, rfl, hst.same s1, hy.same s1, bs, by', a0, b0, y0, fun H2 u s2 hu => ?_⟩
    walk_at "r"
    intro p3 n3
    have s3 : Same H2 _ := same_upd (o := .tup [u]) n3
    have k3 := s2.trans s3
    refine rd_catA (k3 _ _ h1) upd_same (by
      have := cutV_length xs none (some (i : Int))
      show (cutV xs none (some (i : Int))).length + 1 ≤ sizeLine
      rw [sizeLine_eq]
      omega) fun p4 H4 s4 h4 => ?_
    have k4 := (s1.trans k3).trans s4
    have ht4 := k4 _ _ ht
    walk_at "r"
    refine rd_slT ht4 (by
      rw [show ((i : Int) + 1) = ((i + 1 : Nat) : Int) by omega, HT.sIx_nat]
      omega) fun p5 H5 s5 h5 => ?_
    refine rd_catA (s5 _ _ h4) h5 (by
      have a1 := cutV_length xs none (some (i : Int))
      have a2 := cutV_length xs (some ((i : Int) + 1)) none
      rw [List.length_append, sizeLine_eq]
      show _ + 1 + _ ≤ _
      omega) fun p6 H6 s6 h6 => ?_
    rw [set_parts (by omega)] at h6
    have k6 := s5.trans s6
    exact q _ _ _ (k4.trans k6) h6 ((hss.same (k4.trans k6)).set (((hu.same s3).same s4).same k6) i)
end
end My
namespace My
open PySem PySem.Spec PyProof.Rows L2
variable {K : PySem.W.Frag}
theorem behind_u (s : Stl) (wn : Nat) (y : Rat) : (s.behind wn y).u = s.u := by
  unfold Stl.behind
  split <;> rfl
theorem behind_v (s : Stl) (wn : Nat) (y : Rat) : (s.behind wn y).v = s.v := by
  unfold Stl.behind
  split <;> rfl
theorem behind_two (s : Stl) (wn : Nat) (y z : Rat) : (s.behind wn y).behind wn z = s.behind wn (y + z) := by
  unfold Stl.behind
  by_cases e : wn = s.u
  · simp only [e, if_true, Stl.first, Rat.add_assoc]
  · simp only [e, if_false, Stl.secnd, Rat.add_assoc]
theorem out_two (s : Stl) (wn : Nat) (y z : Rat) : s.out (s.behind wn y) wn + (s.behind wn y).out ((s.behind wn y).behind wn z) wn = s.out (s.behind wn (y + z)) wn := by
  rw [behind_two]
  by_cases e : wn = s.u
  · unfold Stl.out
    rw [behind_u, if_pos e, if_pos e, if_pos e]
    grind
  · unfold Stl.out
    rw [behind_u, if_neg e, if_neg e, if_neg e]
    grind
theorem out_bd {k l wn : Nat} {s t : Stl} (h1 : BdSt k s) (h2 : BdSt l t) : Bd (k + l + 1) (s.out t wn) := by
  unfold Stl.out
  split
  · exact h1.b.sub h2.b
  · exact h1.a.sub h2.a
theorem set_at {ss : List Stl} {i : Nat} {s b : Stl} (h : ss[i]? = some s) : (ss.set i b)[i]? = some b := by
  rw [List.getElem?_set_self (List.getElem?_eq_some_iff.mp h).1]
theorem set_back {ss : List Stl} {i : Nat} {s : Stl} (h : ss[i]? = some s) : ss.set i s = ss := by
  refine List.ext_getElem? fun j => ?_
  rw [List.getElem?_set]
  split
  · rename_i e
    subst e
    rw [h, if_pos (List.getElem?_eq_some_iff.mp h).1]
  · rfl
/-- a move that may be made -/
def Vm (ss : List Stl) (m : Mv) : Prop := ∃ s, ss[m.i]? = some s ∧ (m.w = s.u ∨ m.w = s.v) ∧ 0 < m.x
/-- moves played one behind another, within bounds -/
inductive Plays (n : Nat) : List Stl → List Mv → List Stl → Prop
  | nil {ss : List Stl} : Plays n ss [] ss
  | cons {ss tt : List Stl} {m : Mv} {ms : List Mv} {s : Stl} (h : ss[m.i]? = some s) (hw : m.w = s.u ∨ m.w = s.v) (x0 : 0 < m.x) (bs : BdSt 1900 s) (bx : Bd 1900 m.x) (hb : BdSt 4000 (s.behind m.w m.x))
      (t : Plays n (ss.set m.i (s.behind m.w m.x)) ms tt) : Plays n ss (m :: ms) tt
theorem alk_refl (ss : List Stl) : Alk ss ss := ⟨rfl, fun h1 h2 => by
  rw [h1] at h2
  cases h2
  exact ⟨rfl, rfl, rfl⟩⟩
theorem behind_r (s : Stl) (wn : Nat) (y : Rat) : (s.behind wn y).r = s.r := by
  unfold Stl.behind
  split <;> rfl
theorem alk_trans {ss tt uu : List Stl} (a : Alk ss tt) (b : Alk tt uu) : Alk ss uu := ⟨a.len.trans b.len, fun {i s u} h1 h2 => by
  have l := a.len
  have hi := (List.getElem?_eq_some_iff.mp h1).1
  have h3 : tt[i]? = some (tt[i]'(by omega)) := List.getElem?_eq_getElem (by omega)
  obtain ⟨a1, a2, a3⟩ := a.at_ h1 h3
  obtain ⟨b1, b2, b3⟩ := b.at_ h3 h2
  exact ⟨a1.trans b1, a2.trans b2, a3.trans b3⟩⟩
theorem alk_set {ss : List Stl} {i : Nat} {s t : Stl} (h : ss[i]? = some s) (e : s.u = t.u ∧ s.v = t.v ∧ s.r = t.r) : Alk ss (ss.set i t) := ⟨by rw [List.length_set], fun {j a b} h1 h2 => by
  rw [List.getElem?_set] at h2
  split at h2
  · rename_i c
    subst c
    rw [h] at h1
    cases h1
    split at h2
    · cases h2
      exact e
    · cases h2
  · rw [h1] at h2
    cases h2
    exact ⟨rfl, rfl, rfl⟩⟩
theorem alk_behind (s : Stl) (w : Nat) (x : Rat) : s.u = (s.behind w x).u ∧ s.v = (s.behind w x).v ∧ s.r = (s.behind w x).r := ⟨by rw [behind_u], by rw [behind_v], by rw [behind_r]⟩
theorem Plays.alk {n : Nat} {ss tt : List Stl} {ms : List Mv} (h : Plays n ss ms tt) : Alk ss tt := by
  induction h with
  | nil => exact alk_refl _
  | cons h hw x0 bs bx hb t ih => exact alk_trans (alk_set h (alk_behind _ _ _)) ih
theorem vm_alk {ss tt : List Stl} (a : Alk ss tt) {m : Mv} (h : Vm tt m) : Vm ss m := by
  obtain ⟨t, h1, h2, h3⟩ := h
  have l := a.len
  have hi := (List.getElem?_eq_some_iff.mp h1).1
  have h4 : ss[m.i]? = some (ss[m.i]'(by omega)) := List.getElem?_eq_getElem (by omega)
  obtain ⟨a1, a2, _⟩ := a.at_ h4 h1
  exact ⟨_, h4, by rw [a1, a2]; exact h2, h3⟩
theorem Plays.vm {n : Nat} {ss tt : List Stl} {ms : List Mv} (h : Plays n ss ms tt) : ∀ m ∈ ms, Vm ss m := by
  induction h with
  | nil =>
    intro m hm
    simp at hm
  | cons h hw x0 bs bx hb t ih =>
    intro m hm
    rcases List.mem_cons.mp hm with rfl | hm
    · exact ⟨_, h, hw, x0⟩
    · exact vm_alk (alk_set h (alk_behind _ _ _)) (ih m hm)
theorem Plays.ok {n : Nat} {ss tt : List Stl} {ms : List Mv} (h : Plays n ss ms tt) : (∀ s ∈ ss, OkSt n s) → ∀ s ∈ tt, OkSt n s := by
  induction h with
  | nil => exact id
  | cons h hw x0 bs bx hb t ih =>
    intro ok
    refine ih fun s hs => ?_
    rcases List.mem_or_eq_of_mem_set hs with z | z
    · exact ok s z
    · rw [z]
      exact behind_ok (ok _ (List.mem_of_getElem? h)) _ x0
theorem Plays.bd {n : Nat} {ss tt : List Stl} {ms : List Mv} (h : Plays n ss ms tt) : (∀ s ∈ ss, BdSt 4000 s) → ∀ s ∈ tt, BdSt 4000 s := by
  induction h with
  | nil => exact id
  | cons h hw x0 bs bx hb t ih =>
    intro ok
    refine ih fun s hs => ?_
    rcases List.mem_or_eq_of_mem_set hs with z | z
    · exact ok s z
    · rw [z]
      exact hb
/-- what the customer has behind it -/
def hasAt (n : Nat) (rs : List Rat) (ss tt : List Stl) : List Rat := (List.range n).map fun w => rs.getD w 0 + (heldAt ss w - heldAt tt w)
theorem bools_of {bs : List V} {l : List Bool} (h : Paired (fun (v : V) (b : Bool) => v = .bl b) bs l) : bs = l.map V.bl := by
  induction h with
  | nil => rfl
  | cons h t ih => rw [h, ih]; rfl
theorem all_true (l : List Bool) (h : ∀ b ∈ l, b = true) : l.all id = true := by
  rw [List.all_eq_true]
  exact h
section
variable {P : Program} {w : World} {K : PySem.W.Frag} {mg : Str → Option Value} {base : Heap} {f_is_integer f_is_row f_is_fraction f_is_amount f_is_some f_are_amounts f_added f_negated f_lessened f_multiplied f_divided f_squared f_summed f_lies_below f_is_stall f_hold_of f_stalls_of f_kept_of f_held f_is_index f_is_move f_check_purse f_check_wish f_stall_led f_stall_behind f_stalls_behind f_deal_fault f_check_deal f_web_behind f_left_with f_played f_owes f_is_deal f_stands_alike f_check_alike f_change_of f_l_deck f_l_pick f_l_fold f_l_divisor f_l_made f_l_amount f_l_stall f_l_deep f_l_odd f_l_row f_l_bad_row f_l_move f_l_bad_deal f_l_is_some f_l_is_row f_l_is_below f_l_is_move f_l_due f_l_answer f_l_word f_l_word_is_due f_law f_BadDeal_init f_Web_init f_Web_eq c_BadPurse c_BadWish c_BadDeal c_Web c_ZERO : Addr} {d_is_integer d_is_row d_is_fraction d_is_amount d_is_some d_are_amounts d_added d_negated d_lessened d_multiplied d_divided d_squared d_summed d_lies_below d_is_stall d_hold_of d_stalls_of d_kept_of d_held d_is_index d_is_move d_check_purse d_check_wish d_stall_led d_stall_behind d_stalls_behind d_deal_fault d_check_deal d_web_behind d_left_with d_played d_owes d_is_deal d_stands_alike d_check_alike d_change_of d_l_deck d_l_pick d_l_fold d_l_divisor d_l_made d_l_amount d_l_stall d_l_deep d_l_odd d_l_row d_l_bad_row d_l_move d_l_bad_deal d_l_is_some d_l_is_row d_l_is_below d_l_is_move d_l_due d_l_answer d_l_word d_l_word_is_due d_law d_BadDeal_init d_Web_init d_Web_eq : FuncData}
def sp_is_amount (K : PySem.W.Frag) : Sp := fun vs H Q _ => ∃ v r, vs = [v] ∧ IsF K H v r ∧ 0 ≤ r ∧ Q (.bl true) H
theorem ok_is_amount (T : Txt K mg f_is_integer f_is_row f_is_fraction f_is_amount f_is_some f_are_amounts f_added f_negated f_lessened f_multiplied f_divided f_squared f_summed f_lies_below f_is_stall f_hold_of f_stalls_of f_kept_of f_held f_is_index f_is_move f_check_purse f_check_wish f_stall_led f_stall_behind f_stalls_behind f_deal_fault f_check_deal f_web_behind f_left_with f_played f_owes f_is_deal f_stands_alike f_check_alike f_change_of f_l_deck f_l_pick f_l_fold f_l_divisor f_l_made f_l_amount f_l_stall f_l_deep f_l_odd f_l_row f_l_bad_row f_l_move f_l_bad_deal f_l_is_some f_l_is_row f_l_is_below f_l_is_move f_l_due f_l_answer f_l_word f_l_word_is_due f_law f_BadDeal_init f_Web_init f_Web_eq c_BadPurse c_BadWish c_BadDeal c_Web c_ZERO d_is_integer d_is_row d_is_fraction d_is_amount d_is_some d_are_amounts d_added d_negated d_lessened d_multiplied d_divided d_squared d_summed d_lies_below d_is_stall d_hold_of d_stalls_of d_kept_of d_held d_is_index d_is_move d_check_purse d_check_wish d_stall_led d_stall_behind d_stalls_behind d_deal_fault d_check_deal d_web_behind d_left_with d_played d_owes d_is_deal d_stands_alike d_check_alike d_change_of d_l_deck d_l_pick d_l_fold d_l_divisor d_l_made d_l_amount d_l_stall d_l_deep d_l_odd d_l_row d_l_bad_row d_l_move d_l_bad_deal d_l_is_some d_l_is_row d_l_is_below d_l_is_move d_l_due d_l_answer d_l_word d_l_word_is_due d_law d_BadDeal_init d_Web_init d_Web_eq) : FnOk P w K mg base CX0 3 f_is_amount d_is_amount ["thing"] (sp_is_amount K) := by
  have G_is_fraction : FnOk P w K mg base CX0 2 f_is_fraction d_is_fraction ["thing"] (sp_is_fraction K) := ok_is_fraction T
  refine T.F_is_amount.ok sc_is_amount (fun vs H Q E h => ?_) (fun cdv A outer s H vs Q E hr h => ?_)
  · obtain ⟨v, r, rfl, _⟩ := h
    rfl
  · obtain ⟨v, r, rfl, h, r0, q⟩ := h
    obtain ⟨p, rfl, hp⟩ := id h
    have hn : 0 ≤ r.num := Rat.num_nonneg.mpr r0
    refine ⟨_, (pss_one (ps_ret (pe_and (pe_call G_is_fraction (hr.mono (by decide)) (by rfl) T.g_is_fraction T.k_is_fraction T.b_is_fraction .nil pass0 (pa_cons (pv 0) pa_nil)) (pe_one (pe_cmpR op_ge (pe_ix ix_tup (pv 0) pe_int (fun _ _ => rfl)) pe_int (nomark _)))))), ?_⟩
    walk_at "r"
    refine ⟨_, _, rfl, h, ?_⟩
    walk_at "r"
    rw [decide_eq_true (show r.num ≥ 0 from hn)]
    exact q
def sp_are_amounts (K : PySem.W.Frag) : Sp := fun vs H Q _ => ∃ (L : Addr) (ys : List V) (rs : List Rat), vs = [.ref L, .int (rs.length : Nat)] ∧ Sq K H L ys ∧ Fs K H ys rs ∧ (∀ r ∈ rs, 0 ≤ r) ∧ rs.length ≤ 16 ∧ ∀ H', Same H H' → Q (.bl true) H'
theorem ok_are_amounts (T : Txt K mg f_is_integer f_is_row f_is_fraction f_is_amount f_is_some f_are_amounts f_added f_negated f_lessened f_multiplied f_divided f_squared f_summed f_lies_below f_is_stall f_hold_of f_stalls_of f_kept_of f_held f_is_index f_is_move f_check_purse f_check_wish f_stall_led f_stall_behind f_stalls_behind f_deal_fault f_check_deal f_web_behind f_left_with f_played f_owes f_is_deal f_stands_alike f_check_alike f_change_of f_l_deck f_l_pick f_l_fold f_l_divisor f_l_made f_l_amount f_l_stall f_l_deep f_l_odd f_l_row f_l_bad_row f_l_move f_l_bad_deal f_l_is_some f_l_is_row f_l_is_below f_l_is_move f_l_due f_l_answer f_l_word f_l_word_is_due f_law f_BadDeal_init f_Web_init f_Web_eq c_BadPurse c_BadWish c_BadDeal c_Web c_ZERO d_is_integer d_is_row d_is_fraction d_is_amount d_is_some d_are_amounts d_added d_negated d_lessened d_multiplied d_divided d_squared d_summed d_lies_below d_is_stall d_hold_of d_stalls_of d_kept_of d_held d_is_index d_is_move d_check_purse d_check_wish d_stall_led d_stall_behind d_stalls_behind d_deal_fault d_check_deal d_web_behind d_left_with d_played d_owes d_is_deal d_stands_alike d_check_alike d_change_of d_l_deck d_l_pick d_l_fold d_l_divisor d_l_made d_l_amount d_l_stall d_l_deep d_l_odd d_l_row d_l_bad_row d_l_move d_l_bad_deal d_l_is_some d_l_is_row d_l_is_below d_l_is_move d_l_due d_l_answer d_l_word d_l_word_is_due d_law d_BadDeal_init d_Web_init d_Web_eq) : FnOk P w K mg base CX0 4 f_are_amounts d_are_amounts ["things", "number"] (sp_are_amounts K) := by
  have G_is_amount : FnOk P w K mg base CX0 3 f_is_amount d_is_amount ["thing"] (sp_is_amount K) := ok_is_amount T
  refine T.F_are_amounts.ok sc_are_amounts (fun vs H Q E h => ?_) (fun cdv A outer s H vs Q E hr h => ?_)
  · obtain ⟨L, ys, rs, rfl, _⟩ := h
    rfl
  · obtain ⟨L, ys, rs, rfl, hL, hf, h0, h16, q⟩ := h
    have hl := hf.len
    refine ⟨_, (pss_one (ps_ret (pe_and (pe_cmpR op_eq (pe_callB call_lenN (by rfl) T.z_len (by decide +kernel) (pa_cons (pv 0) pa_nil)) (pv 1) (nomark _)) (pe_one (pe_callB (cr_all rfl) (by rfl) T.z_all (by decide +kernel) (pa_cons (pe_lc (own := [("thing", 2)]) (g := gName 2) rfl sc_are_amounts.nd (My.pi_seqA (pv 0)) (blkOk_by (own := [("thing", 2)]) (N := N_are_amounts) (sc := defScope s_are_amounts) (by decide +kernel)) (fun _ _ _ _ _ => (pg_name (i := 2) sc_are_amounts.nd rfl (by first | exact Or.inl rfl | exact Or.inr rfl))) (fun _ _ _ _ _ => pts_nil) (fun _ _ _ _ _ => (pe_call G_is_amount (hr.mono (by decide)) (by rfl) T.g_is_amount T.k_is_amount T.b_is_amount .nil pass0 (pa_cons (pv 2) pa_nil)))) pa_nil)))))), ?_⟩
    walk_at "r"
    refine ⟨L, ys, rfl, hL, ?_⟩
    walk_at "r"
    refine rd_seqA ?_
    walk_at "r"
    refine lc_seqA (R := fun H v (b : Bool) => v = .bl b) (fun _ _ _ _ _ h => h) (f := fun _ => some true) (by omega) hL (fun i x hx H' Q' N s1 hy hn => ?_) (fun D H' hlst => ?_) rfl
    · obtain ⟨r, hr', hx2⟩ := Paired.at hf hx
      walk_at "r"
      refine ⟨rfl, ?_⟩
      walk_at "r"
      exact ⟨_, r, rfl, hx2.same s1, h0 r (List.mem_of_getElem? hr'), hy true _ _ rfl (Same.refl _) rfl⟩
    · obtain ⟨s1, bs, hD, hbs⟩ := hlst
      rw [upTo_map] at hbs
      have e := bools_of hbs
      subst e
      walk_at "r"
      refine ⟨D, _, rfl, .of hD, ?_⟩
      rw [all_true _ (by simp)]
      exact q _ s1
def IsRow (K : PySem.W.Frag) (H : Hp) (x : V) (rs : List Rat) : Prop := ∃ L ys, x = .ref L ∧ (H L = some (.lst ys) ∨ H L = some (.tup ys)) ∧ Fs K H ys rs
theorem IsRow.same {H H' : Hp} {x : V} {rs : List Rat} (s : Same H H') (h : IsRow K H x rs) : IsRow K H' x rs := by
  obtain ⟨L, ys, e, h1, h2⟩ := h
  exact ⟨L, ys, e, h1.imp (fun h => s _ _ h) (fun h => s _ _ h), h2.same s⟩
theorem sq_or {H : Hp} {L : Addr} {ys : List V} (h : H L = some (.lst ys) ∨ H L = some (.tup ys)) : Sq K H L ys := h.imp .of .of
def sp_check_purse (K : PySem.W.Frag) (C : Addr) : Sp := fun vs H Q _ => ∃ (x p : V) (n : Nat) (ss : List Stl) (rs : List Rat), vs = [x, p] ∧ IsWeb K C H x n ss ∧ IsRow K H p rs ∧ rs.length = n ∧ n ≤ 8 ∧ (∀ r ∈ rs, 0 ≤ r) ∧ ∀ H', Same H H' → Q .non H'
theorem ok_check_purse (T : Txt K mg f_is_integer f_is_row f_is_fraction f_is_amount f_is_some f_are_amounts f_added f_negated f_lessened f_multiplied f_divided f_squared f_summed f_lies_below f_is_stall f_hold_of f_stalls_of f_kept_of f_held f_is_index f_is_move f_check_purse f_check_wish f_stall_led f_stall_behind f_stalls_behind f_deal_fault f_check_deal f_web_behind f_left_with f_played f_owes f_is_deal f_stands_alike f_check_alike f_change_of f_l_deck f_l_pick f_l_fold f_l_divisor f_l_made f_l_amount f_l_stall f_l_deep f_l_odd f_l_row f_l_bad_row f_l_move f_l_bad_deal f_l_is_some f_l_is_row f_l_is_below f_l_is_move f_l_due f_l_answer f_l_word f_l_word_is_due f_law f_BadDeal_init f_Web_init f_Web_eq c_BadPurse c_BadWish c_BadDeal c_Web c_ZERO d_is_integer d_is_row d_is_fraction d_is_amount d_is_some d_are_amounts d_added d_negated d_lessened d_multiplied d_divided d_squared d_summed d_lies_below d_is_stall d_hold_of d_stalls_of d_kept_of d_held d_is_index d_is_move d_check_purse d_check_wish d_stall_led d_stall_behind d_stalls_behind d_deal_fault d_check_deal d_web_behind d_left_with d_played d_owes d_is_deal d_stands_alike d_check_alike d_change_of d_l_deck d_l_pick d_l_fold d_l_divisor d_l_made d_l_amount d_l_stall d_l_deep d_l_odd d_l_row d_l_bad_row d_l_move d_l_bad_deal d_l_is_some d_l_is_row d_l_is_below d_l_is_move d_l_due d_l_answer d_l_word d_l_word_is_due d_law d_BadDeal_init d_Web_init d_Web_eq) : FnOk P w K mg base CX0 5 f_check_purse d_check_purse ["web", "purse"] (sp_check_purse K c_Web) := by
  have G_is_row : FnOk P w K mg base CX0 1 f_is_row d_is_row ["thing"] sp_is_row := ok_is_row T
  have G_are_amounts : FnOk P w K mg base CX0 4 f_are_amounts d_are_amounts ["things", "number"] (sp_are_amounts K) := ok_are_amounts T
  refine T.F_check_purse.ok sc_check_purse (fun vs H Q E h => ?_) (fun cdv A outer s H vs Q E hr h => ?_)
  · obtain ⟨x, p, n, ss, rs, rfl, _⟩ := h
    rfl
  · obtain ⟨x, p, n, ss, rs, rfl, hw, ⟨L, ys, rfl, hL, hf⟩, hn, n8, h0, q⟩ := h
    refine ⟨_, (pss_one (ps_if (PW.pt (pw_or (pt_not (pt_val (pe_call G_is_row (hr.mono (by decide)) (by rfl) T.g_is_row T.k_is_row T.b_is_row .nil pass0 (pa_cons (pv 1) pa_nil)))) (pw_or1 (pt_not (pt_val (pe_call G_are_amounts (hr.mono (by decide)) (by rfl) T.g_are_amounts T.k_are_amounts T.b_are_amounts .nil pass0 (pa_cons (pv 1) (pa_cons (pe_fld (pv 0) rfl) pa_nil))))))))
        (pss_one ps_never)
        pss_nil)), ?_⟩
    walk_at "r"
    refine ⟨L, ys, rfl, hL, fun H1 s1 => ?_⟩
    obtain ⟨px, dx, t, xs, rfl, hp, ht, hss⟩ := hw.same s1
    walk_at "r"
    refine ⟨_, _, _, _, _, rfl, hp, T.w_Web.it.cl, T.n_Web_wares, wF_wares _ _, ?_⟩
    walk_at "r"
    refine ⟨L, ys, rs, by rw [hn]; rfl, (sq_or hL).same s1, hf.same s1, h0, by omega, fun H2 s2 => ?_⟩
    walk_at "r"
    exact q _ (s1.trans s2)
def IsDl (K : PySem.W.Frag) (H : Hp) (x : V) (ms : List Mv) : Prop := ∃ L ys, x = .ref L ∧ (H L = some (.lst ys) ∨ H L = some (.tup ys)) ∧ Paired (IsM K H) ys ms
theorem IsM.same {H H' : Hp} {v : V} {m : Mv} (s : Same H H') (h : IsM K H v m) : IsM K H' v m := IsMv.same s h
theorem IsDl.same {H H' : Hp} {x : V} {ms : List Mv} (s : Same H H') (h : IsDl K H x ms) : IsDl K H' x ms := by
  obtain ⟨L, ys, e, h1, h2⟩ := h
  exact ⟨L, ys, e, h1.imp (fun h => s _ _ h) (fun h => s _ _ h), Paired.mapP h2 fun _ _ h => h.same s⟩
def sp_deal_fault (K : PySem.W.Frag) (C : Addr) : Sp := fun vs H Q _ => ∃ (x d : V) (n : Nat) (ss : List Stl) (ms : List Mv), vs = [x, d] ∧ IsWeb K C H x n ss ∧ IsDl K H d ms ∧ ms.length ≤ 200 ∧ (∀ m ∈ ms, Vm ss m) ∧ ∀ H', Same H H' → Q .non H'
theorem ok_deal_fault (T : Txt K mg f_is_integer f_is_row f_is_fraction f_is_amount f_is_some f_are_amounts f_added f_negated f_lessened f_multiplied f_divided f_squared f_summed f_lies_below f_is_stall f_hold_of f_stalls_of f_kept_of f_held f_is_index f_is_move f_check_purse f_check_wish f_stall_led f_stall_behind f_stalls_behind f_deal_fault f_check_deal f_web_behind f_left_with f_played f_owes f_is_deal f_stands_alike f_check_alike f_change_of f_l_deck f_l_pick f_l_fold f_l_divisor f_l_made f_l_amount f_l_stall f_l_deep f_l_odd f_l_row f_l_bad_row f_l_move f_l_bad_deal f_l_is_some f_l_is_row f_l_is_below f_l_is_move f_l_due f_l_answer f_l_word f_l_word_is_due f_law f_BadDeal_init f_Web_init f_Web_eq c_BadPurse c_BadWish c_BadDeal c_Web c_ZERO d_is_integer d_is_row d_is_fraction d_is_amount d_is_some d_are_amounts d_added d_negated d_lessened d_multiplied d_divided d_squared d_summed d_lies_below d_is_stall d_hold_of d_stalls_of d_kept_of d_held d_is_index d_is_move d_check_purse d_check_wish d_stall_led d_stall_behind d_stalls_behind d_deal_fault d_check_deal d_web_behind d_left_with d_played d_owes d_is_deal d_stands_alike d_check_alike d_change_of d_l_deck d_l_pick d_l_fold d_l_divisor d_l_made d_l_amount d_l_stall d_l_deep d_l_odd d_l_row d_l_bad_row d_l_move d_l_bad_deal d_l_is_some d_l_is_row d_l_is_below d_l_is_move d_l_due d_l_answer d_l_word d_l_word_is_due d_law d_BadDeal_init d_Web_init d_Web_eq) : FnOk P w K mg base CX0 5 f_deal_fault d_deal_fault ["web", "thing"] (sp_deal_fault K c_Web) := by
  have G_is_row : FnOk P w K mg base CX0 1 f_is_row d_is_row ["thing"] sp_is_row := ok_is_row T
  have G_is_move : FnOk P w K mg base CX0 4 f_is_move d_is_move ["web", "thing"] (sp_is_move K c_Web) := ok_is_move T
  refine T.F_deal_fault.ok sc_deal_fault (fun vs H Q E h => ?_) (fun cdv A outer s H vs Q E hr h => ?_)
  · obtain ⟨x, d, n, ss, ms, rfl, _⟩ := h
    rfl
  · obtain ⟨x, d, n, ss, ms, rfl, hw, ⟨L, ys, rfl, hL, hms⟩, h200, hv, q⟩ := h
    have hl := Paired.length hms
    refine ⟨_, (pss_cons (ps_if (PW.pt (pw_or (pt_not (pt_val (pe_call G_is_row (hr.mono (by decide)) (by rfl) T.g_is_row T.k_is_row T.b_is_row .nil pass0 (pa_cons (pv 1) pa_nil)))) (pw_or1 (pt_cmpR op_gt (pe_callB call_lenN (by rfl) T.z_len (by decide +kernel) (pa_cons (pv 1) pa_nil)) (C8.pe_gc (by rfl) T.v_MOST_MOVES) (nomark _)))))
        (pss_one (ps_ret (pe_un un_neg pe_int)))
        pss_nil)
      (pss_cons (ps_for PassesOwn.never rfl (pi_enumX (by rfl) T.z_enumerate (pa_cons (pv 1) pa_nil)) (pg_tup rfl (pgs_cons (pg_name (i := 2) sc_deal_fault.nd rfl (by first | exact Or.inl rfl | exact Or.inr rfl)) (pgs_cons (pg_name (i := 3) sc_deal_fault.nd rfl (by first | exact Or.inl rfl | exact Or.inr rfl)) pgs_nil)))
        (pss_one (ps_if (pt_not (pt_val (pe_call G_is_move (hr.mono (by decide)) (by rfl) T.g_is_move T.k_is_move T.b_is_move .nil pass0 (pa_cons (pv 0) (pa_cons (pv 3) pa_nil)))))
            (pss_one (ps_ret (pv 2)))
            pss_nil)))
      (pss_one (ps_ret pe_non)))), ?_⟩
    walk_at "r"
    refine ⟨L, ys, rfl, hL, fun H1 s1 => ?_⟩
    have hL1 := hL.imp (fun h => s1 _ _ h) (fun h => s1 _ _ h)
    walk_at "r"
    refine ⟨L, ys, rfl, sq_or hL1, ?_⟩
    walk_at "r"
    have step : ∀ (i : Nat) (v : V) (T2 : Addr) (σ : L2.St) (H' : Hp), ys[i]? = some v → (∃ t2 t3, σ = [some x, some (.ref L), t2, t3] ∧ Same H1 H') → H' T2 = none → True := fun _ _ _ _ _ _ _ _ => trivial
    refine ⟨L, ys, rfl, ?_⟩
    rcases hL1 with hL1 | hL1
    · refine .inl ⟨.of hL1, ?_⟩
      refine for_enum (K := K) (a := L) (xs := ys) (fun i σ H' => ∃ t2 t3, σ = [some x, some (.ref L), t2, t3] ∧ Same H1 H') ⟨_, _, rfl, Same.refl _⟩ ?_ ?_ ?_
      · rintro i σ H' _ ⟨t2, t3, rfl, s2⟩
        exact .of (s2 _ _ hL1)
      · rintro i v T2 σ H' hx ⟨t2, t3, rfl, s2⟩ nT
        obtain ⟨m, hm, hmv⟩ := Paired.at hms hx
        have sm := same_upd (o := .tup [.int (i : Nat), v]) nT
        obtain ⟨st, g1, g2, g3⟩ := hv m (List.mem_of_getElem? hm)
        walk_at "r"
        refine ⟨x, v, n, ss, m.i, m.w, st, m.x, rfl, hw.same ((s1.trans s2).trans sm), hmv.same ((s1.trans s2).trans sm), g1, g2, g3, fun H3 s3 => ?_⟩
        walk_at "r"
        exact ⟨_, _, rfl, (s2.trans sm).trans s3⟩
      · rintro σ H' ⟨t2, t3, rfl, s2⟩
        walk_at "r"
        exact q _ (s1.trans s2)
    · refine .inr ⟨.of hL1, ?_⟩
      refine for_enumT (K := K) (a := L) (xs := ys) (fun i σ H' => ∃ t2 t3, σ = [some x, some (.ref L), t2, t3] ∧ Same H1 H') ⟨_, _, rfl, Same.refl _⟩ ?_ ?_ ?_
      · rintro i σ H' _ ⟨t2, t3, rfl, s2⟩
        exact .of (s2 _ _ hL1)
      · rintro i v T2 σ H' hx ⟨t2, t3, rfl, s2⟩ nT
        obtain ⟨m, hm, hmv⟩ := Paired.at hms hx
        have sm := same_upd (o := .tup [.int (i : Nat), v]) nT
        obtain ⟨st, g1, g2, g3⟩ := hv m (List.mem_of_getElem? hm)
        walk_at "r"
        refine ⟨x, v, n, ss, m.i, m.w, st, m.x, rfl, hw.same ((s1.trans s2).trans sm), hmv.same ((s1.trans s2).trans sm), g1, g2, g3, fun H3 s3 => ?_⟩
        walk_at "r"
        exact ⟨_, _, rfl, (s2.trans sm).trans s3⟩
      · rintro σ H' ⟨t2, t3, rfl, s2⟩
        walk_at "r"
        exact q _ (s1.trans s2)
def sp_check_deal (K : PySem.W.Frag) (C : Addr) : Sp := fun vs H Q _ => ∃ (x p d : V) (n : Nat) (ss : List Stl) (rs : List Rat) (ms : List Mv), vs = [x, p, d] ∧ IsWeb K C H x n ss ∧ IsRow K H p rs ∧ rs.length = n ∧ n ≤ 8 ∧ (∀ r ∈ rs, 0 ≤ r) ∧ IsDl K H d ms ∧ ms.length ≤ 200 ∧ (∀ m ∈ ms, Vm ss m) ∧ ∀ H', Same H H' → Q .non H'
theorem ok_check_deal (T : Txt K mg f_is_integer f_is_row f_is_fraction f_is_amount f_is_some f_are_amounts f_added f_negated f_lessened f_multiplied f_divided f_squared f_summed f_lies_below f_is_stall f_hold_of f_stalls_of f_kept_of f_held f_is_index f_is_move f_check_purse f_check_wish f_stall_led f_stall_behind f_stalls_behind f_deal_fault f_check_deal f_web_behind f_left_with f_played f_owes f_is_deal f_stands_alike f_check_alike f_change_of f_l_deck f_l_pick f_l_fold f_l_divisor f_l_made f_l_amount f_l_stall f_l_deep f_l_odd f_l_row f_l_bad_row f_l_move f_l_bad_deal f_l_is_some f_l_is_row f_l_is_below f_l_is_move f_l_due f_l_answer f_l_word f_l_word_is_due f_law f_BadDeal_init f_Web_init f_Web_eq c_BadPurse c_BadWish c_BadDeal c_Web c_ZERO d_is_integer d_is_row d_is_fraction d_is_amount d_is_some d_are_amounts d_added d_negated d_lessened d_multiplied d_divided d_squared d_summed d_lies_below d_is_stall d_hold_of d_stalls_of d_kept_of d_held d_is_index d_is_move d_check_purse d_check_wish d_stall_led d_stall_behind d_stalls_behind d_deal_fault d_check_deal d_web_behind d_left_with d_played d_owes d_is_deal d_stands_alike d_check_alike d_change_of d_l_deck d_l_pick d_l_fold d_l_divisor d_l_made d_l_amount d_l_stall d_l_deep d_l_odd d_l_row d_l_bad_row d_l_move d_l_bad_deal d_l_is_some d_l_is_row d_l_is_below d_l_is_move d_l_due d_l_answer d_l_word d_l_word_is_due d_law d_BadDeal_init d_Web_init d_Web_eq) : FnOk P w K mg base CX0 6 f_check_deal d_check_deal ["web", "purse", "deal"] (sp_check_deal K c_Web) := by
  have G_check_purse : FnOk P w K mg base CX0 5 f_check_purse d_check_purse ["web", "purse"] (sp_check_purse K c_Web) := ok_check_purse T
  have G_deal_fault : FnOk P w K mg base CX0 5 f_deal_fault d_deal_fault ["web", "thing"] (sp_deal_fault K c_Web) := ok_deal_fault T
  refine T.F_check_deal.ok sc_check_deal (fun vs H Q E h => ?_) (fun cdv A outer s H vs Q E hr h => ?_)
  · obtain ⟨x, p, d, n, ss, rs, ms, rfl, _⟩ := h
    rfl
  · obtain ⟨x, p, d, n, ss, rs, ms, rfl, hw, hp, hn, n8, h0, hd, h200, hv, q⟩ := h
    refine ⟨_, (pss_cons (ps_expr (pe_call G_check_purse (hr.mono (by decide)) (by rfl) T.g_check_purse T.k_check_purse T.b_check_purse .nil pass0 (pa_cons (pv 0) (pa_cons (pv 1) pa_nil))))
      (pss_cons (ps_set (i := 3) sc_check_deal.nd rfl (by first | exact Or.inl rfl | exact Or.inr rfl) (pe_call G_deal_fault (hr.mono (by decide)) (by rfl) T.g_deal_fault T.k_deal_fault T.b_deal_fault .nil pass0 (pa_cons (pv 0) (pa_cons (pv 2) pa_nil))))
      (pss_one (ps_if (pt_cmpR op_notN (pv 3) pe_non (nomark _))
        (pss_one ps_never)
        pss_nil)))), ?_⟩
    walk_at "r"
    refine ⟨x, p, n, ss, rs, rfl, hw, hp, hn, n8, h0, fun H1 s1 => ?_⟩
    walk_at "r"
    refine ⟨x, d, n, ss, ms, rfl, hw.same s1, hd.same s1, h200, hv, fun H2 s2 => ?_⟩
    walk_at "r"
    refine ⟨rfl, ?_⟩
    walk_at "r"
    exact q _ (s1.trans s2)
def sp_web_behind (K : PySem.W.Frag) (C : Addr) : Sp := fun vs H Q _ => ∃ (x d : V) (n : Nat) (ss tt : List Stl) (ms : List Mv), vs = [x, d] ∧ IsWeb K C H x n ss ∧ IsDl K H d ms ∧ Plays n ss ms tt ∧ OkW n 4000 ss ∧ ∀ H' u, Same H H' → IsWeb K C H' u n tt → Q u H'
theorem rd_ixAny {H : Hp} {Q : VK} {p : Addr} {xs : List V} {i : Int} {v : V} (h : H p = some (.lst xs) ∨ H p = some (.tup xs)) (e : atI xs i = some v) (q : Q v H) : rIxA K (.ref p) (.int i) H Q := ⟨p, xs, i, v, rfl, rfl, h.imp .of .of, e, q⟩
theorem ixN_at {n i : Nat} (h : i < n) : ixN n (i : Int) = some i := by
  unfold ixN
  split <;> first | omega | (simp; omega) | simp_all
theorem drop_at {α : Type} {l : List α} {i : Nat} {a : α} (h : l[i]? = some a) : l.drop i = a :: l.drop (i + 1) := by
  obtain ⟨hi, e⟩ := List.getElem?_eq_some_iff.mp h
  rw [← e]
  exact List.drop_eq_getElem_cons hi
theorem ok_web_behind (T : Txt K mg f_is_integer f_is_row f_is_fraction f_is_amount f_is_some f_are_amounts f_added f_negated f_lessened f_multiplied f_divided f_squared f_summed f_lies_below f_is_stall f_hold_of f_stalls_of f_kept_of f_held f_is_index f_is_move f_check_purse f_check_wish f_stall_led f_stall_behind f_stalls_behind f_deal_fault f_check_deal f_web_behind f_left_with f_played f_owes f_is_deal f_stands_alike f_check_alike f_change_of f_l_deck f_l_pick f_l_fold f_l_divisor f_l_made f_l_amount f_l_stall f_l_deep f_l_odd f_l_row f_l_bad_row f_l_move f_l_bad_deal f_l_is_some f_l_is_row f_l_is_below f_l_is_move f_l_due f_l_answer f_l_word f_l_word_is_due f_law f_BadDeal_init f_Web_init f_Web_eq c_BadPurse c_BadWish c_BadDeal c_Web c_ZERO d_is_integer d_is_row d_is_fraction d_is_amount d_is_some d_are_amounts d_added d_negated d_lessened d_multiplied d_divided d_squared d_summed d_lies_below d_is_stall d_hold_of d_stalls_of d_kept_of d_held d_is_index d_is_move d_check_purse d_check_wish d_stall_led d_stall_behind d_stalls_behind d_deal_fault d_check_deal d_web_behind d_left_with d_played d_owes d_is_deal d_stands_alike d_check_alike d_change_of d_l_deck d_l_pick d_l_fold d_l_divisor d_l_made d_l_amount d_l_stall d_l_deep d_l_odd d_l_row d_l_bad_row d_l_move d_l_bad_deal d_l_is_some d_l_is_row d_l_is_below d_l_is_move d_l_due d_l_answer d_l_word d_l_word_is_due d_law d_BadDeal_init d_Web_init d_Web_eq) : FnOk P w K mg base CX0 7 f_web_behind d_web_behind ["web", "deal"] (sp_web_behind K c_Web) := by
  have G_stalls_behind : FnOk P w K mg base CX0 5 f_stalls_behind d_stalls_behind ["stalls", "move"] (sp_stalls_behind K) := ok_stalls_behind T
  have G_Web_init : FnOk P w K mg base CX0 5 f_Web_init d_Web_init ["self", "wares", "stalls"] (sp_web K c_Web) := ok_Web_init T
  refine T.F_web_behind.ok sc_web_behind (fun vs H Q E h => ?_) (fun cdv A outer sh H vs Q E hr h => ?_)
  · obtain ⟨x, d, n, ss, tt, ms, rfl, _⟩ := h
    rfl
  · obtain ⟨x, d, n, ss, tt, ms, rfl, ⟨p, dx, t, xs, rfl, hp, ht, hss⟩, ⟨L, ys, rfl, hL, hms⟩, pl, ok, q⟩ := h
    have hl := Paired.length hms
    refine ⟨_, (pss_cons (ps_set (i := 2) sc_web_behind.nd rfl (by first | exact Or.inl rfl | exact Or.inr rfl) (pe_fld (pv 0) rfl))
      (pss_cons (ps_for PassesOwn.never rfl (My.pi_seqA (pv 1)) (pg_name (i := 3) sc_web_behind.nd rfl (by first | exact Or.inl rfl | exact Or.inr rfl))
        (pss_one (ps_set (i := 2) sc_web_behind.nd rfl (by first | exact Or.inl rfl | exact Or.inr rfl) (pe_call G_stalls_behind (hr.mono (by decide)) (by rfl) T.g_stalls_behind T.k_stalls_behind T.b_stalls_behind .nil pass0 (pa_cons (pv 2) (pa_cons (pv 3) pa_nil))))))
      (pss_one (ps_ret (pe_make T.w_Web.mks G_Web_init (hr.mono (by decide)) (by rfl) T.w_Web.g T.b_Web_init .nil pass0 (pa_cons (pe_fld (pv 0) rfl) (pa_cons (pv 2) pa_nil))))))), ?_⟩
    walk_at "r"
    refine ⟨_, _, _, _, _, rfl, hp, T.w_Web.it.cl, T.n_Web_stalls, wF_stalls _ _, ?_⟩
    walk_at "r"
    refine rd_seqA ?_
    walk_at "r"
    refine for_seqA (xs := ys) (fun i σ H' => ∃ (S : Addr) (t3 : Option V) (zs : List V) (uu : List Stl), σ = [some (.ref p), some (.ref L), some (.ref S), t3] ∧ Same H H' ∧ H' S = some (.tup zs) ∧ Sts K H' zs uu ∧ Plays n uu (ms.drop i) tt ∧ Alk ss uu ∧ (∀ s ∈ uu, OkSt n s ∧ BdSt 4000 s)) (sq_or hL) ?_ ?_ ?_ ?_ rfl
    · exact ⟨t, _, xs, ss, rfl, Same.refl _, ht, hss, pl, alk_refl _, ok.ok⟩
    · rintro i σ H' ⟨S, t3, zs, uu, rfl, s1, _⟩
      exact s1
    · rintro i v σ H' hx ⟨S, t3, zs, uu, rfl, s1, hS, hz, pl, al, okk⟩
      obtain ⟨m, hm, hmv⟩ := Paired.at hms hx
      rw [drop_at hm] at pl
      cases pl with
      | @cons _ _ _ _ s h hw x0 bs bx hb pl =>
        obtain ⟨ok1, b1⟩ := okk s (List.mem_of_getElem? h)
        have ll := al.len
        have l16 := ok.len
        walk_at "r"
        refine ⟨S, v, zs, uu, m.i, m.w, s, m.x, rfl, hS, hz, hmv.same s1, h, by omega, ok1.a, ok1.b, x0, bs, bx, fun H2 S2 zs2 s2 hS2 hz2 => ?_⟩
        walk_at "r"
        refine ⟨_, _, _, _, rfl, s1.trans s2, hS2, hz2, pl, alk_trans al (alk_set h (alk_behind _ _ _)), fun s' hs' => ?_⟩
        rcases List.mem_or_eq_of_mem_set hs' with c | c
        · exact okk s' c
        · rw [c]
          exact ⟨behind_ok ok1 _ x0, hb⟩
    · rintro σ H' ⟨S, t3, zs, uu, rfl, s1, hS, hz, pl, al, okk⟩
      rw [hl, List.drop_length] at pl
      cases pl
      have hp1 := s1 _ _ hp
      have hlz := hz.len
      have l16 := ok.len
      have ll := al.len
      walk_at "r"
      refine ⟨_, _, _, _, _, rfl, hp1, T.w_Web.it.cl, T.n_Web_wares, wF_wares _ _, ?_⟩
      walk_at "r"
      intro x6 dx6 nx nd ne
      have xS := ne_of_none hS nx
      have dS := ne_of_none hS nd
      refine ⟨x6, dx6, S, n, zs, _, rfl, upd_same, .inr ((upd_ne xS).trans ((upd_ne dS).trans hS)), ok.n1, ok.n8, by omega, ?_, okk, fun H6 hweb kp => ⟨rfl, ?_⟩⟩
      · refine hz.ts fun b zs' hb => ?_
        rw [upd_ne (ne_of_none hb nx), upd_ne (ne_of_none hb nd)]
        exact hb
      · exact q _ _ (s1.trans (Same.made nx nd kp)) hweb
def sp_left_with (K : PySem.W.Frag) (C : Addr) : Sp := fun vs H Q _ => ∃ (x p u : V) (n : Nat) (ss tt : List Stl) (rs : List Rat) (M N : Nat), vs = [x, p, u] ∧ IsWeb K C H x n ss ∧ IsRow K H p rs ∧ IsWeb K C H u n tt ∧ rs.length = n ∧ (∀ r ∈ rs, Bd 4000 r) ∧ Alk ss tt ∧ n ≤ 8 ∧ ss.length ≤ 16 ∧ BL ss M ∧ BL tt N ∧ M + N + 1 ≤ 4000 ∧
  ∀ H' v, Same H H' → IsFs K H' v (hasAt n rs ss tt) → Q v H'
theorem ok_left_with (T : Txt K mg f_is_integer f_is_row f_is_fraction f_is_amount f_is_some f_are_amounts f_added f_negated f_lessened f_multiplied f_divided f_squared f_summed f_lies_below f_is_stall f_hold_of f_stalls_of f_kept_of f_held f_is_index f_is_move f_check_purse f_check_wish f_stall_led f_stall_behind f_stalls_behind f_deal_fault f_check_deal f_web_behind f_left_with f_played f_owes f_is_deal f_stands_alike f_check_alike f_change_of f_l_deck f_l_pick f_l_fold f_l_divisor f_l_made f_l_amount f_l_stall f_l_deep f_l_odd f_l_row f_l_bad_row f_l_move f_l_bad_deal f_l_is_some f_l_is_row f_l_is_below f_l_is_move f_l_due f_l_answer f_l_word f_l_word_is_due f_law f_BadDeal_init f_Web_init f_Web_eq c_BadPurse c_BadWish c_BadDeal c_Web c_ZERO d_is_integer d_is_row d_is_fraction d_is_amount d_is_some d_are_amounts d_added d_negated d_lessened d_multiplied d_divided d_squared d_summed d_lies_below d_is_stall d_hold_of d_stalls_of d_kept_of d_held d_is_index d_is_move d_check_purse d_check_wish d_stall_led d_stall_behind d_stalls_behind d_deal_fault d_check_deal d_web_behind d_left_with d_played d_owes d_is_deal d_stands_alike d_check_alike d_change_of d_l_deck d_l_pick d_l_fold d_l_divisor d_l_made d_l_amount d_l_stall d_l_deep d_l_odd d_l_row d_l_bad_row d_l_move d_l_bad_deal d_l_is_some d_l_is_row d_l_is_below d_l_is_move d_l_due d_l_answer d_l_word d_l_word_is_due d_law d_BadDeal_init d_Web_init d_Web_eq) : FnOk P w K mg base CX0 6 f_left_with d_left_with ["web", "purse", "behind"] (sp_left_with K c_Web) := by
  have G_change_of : FnOk P w K mg base CX0 5 f_change_of d_change_of ["one_web", "other_web"] (sp_change_of K c_Web) := ok_change_of T
  have G_added : FnOk P w K mg base CX0 1 f_added d_added ["one", "other"] (sp_added K) := ok_added T
  refine T.F_left_with.ok sc_left_with (fun vs H Q E h => ?_) (fun cdv A outer sh H vs Q E hr h => ?_)
  · obtain ⟨x, p, u, n, ss, tt, rs, M, N0, rfl, _⟩ := h
    rfl
  · obtain ⟨x, p, u, n, ss, tt, rs, M, N0, rfl, hw, hp, hu, hn, h0, al, n8, l16, bM, bN, hk, q⟩ := h
    refine ⟨_, (pss_one (ps_ret (pe_callTy call_tuple_of (by rfl) T.z_tuple (by decide +kernel) (pa_cons (pe_lc (own := [("amount", 3), ("more", 4)]) (g := gTup K 2 (gCons (gName 3) (gCons (gName 4) (gNil)))) rfl sc_left_with.nd (My.pi_zipN (by rfl) T.z_zip (pa_cons (pv 1) (pa_cons (pe_call G_change_of (hr.mono (by decide)) (by rfl) T.g_change_of T.k_change_of T.b_change_of .nil pass0 (pa_cons (pv 0) (pa_cons (pv 2) pa_nil))) pa_nil))) (blkOk_by (own := [("amount", 3), ("more", 4)]) (N := N_left_with) (sc := defScope s_left_with) (by decide +kernel)) (fun _ _ _ _ _ => (pg_tup rfl (pgs_cons (pg_name (i := 3) sc_left_with.nd rfl (by first | exact Or.inl rfl | exact Or.inr rfl)) (pgs_cons (pg_name (i := 4) sc_left_with.nd rfl (by first | exact Or.inl rfl | exact Or.inr rfl)) pgs_nil)))) (fun _ _ _ _ _ => pts_nil) (fun _ _ _ _ _ => (pe_call G_added (hr.mono (by decide)) (by rfl) T.g_added T.k_added T.b_added .nil pass0 (pa_cons (pv 3) (pa_cons (pv 4) pa_nil))))) pa_nil)))), ?_⟩
    walk_at "r"
    refine rd_zipN ?_
    walk_at "r"
    refine ⟨x, u, n, ss, tt, M, N0, rfl, hw, hu, al, n8, l16, bM, bN, by omega, by omega, fun H3 v3 s3 h3 => ?_⟩
    obtain ⟨t3, ys3, rfl, ht3, hf3⟩ := h3
    obtain ⟨Lp, yp, rfl, hLp, hfp⟩ := hp.same s3
    have l3 := hf3.len
    have lp := hfp.len
    have ld : (diff n ss tt).length = n := by simp [diff]
    walk_at "r"
    refine ⟨Lp, t3, yp, ys3, rfl, .of ht3, ?_⟩
    refine lc_zipN (R := IsF K) (fun _ _ _ _ f h => h.ts f) (f := fun i => some (rs.getD i 0 + (heldAt ss i - heldAt tt i))) (by omega) (by omega) (sq_or hLp) (.of ht3) (fun i a b ha hb H' Q' N s4 hq _ T2 nT => ?_) (fun D H' hlst => ?_) rfl
    · obtain ⟨r, hr1, hr2⟩ := Paired.at hfp ha
      obtain ⟨r', hr3, hr4⟩ := Paired.at hf3 hb
      have hi : i < n := by
        have := (List.getElem?_eq_some_iff.mp hr1).1
        omega
      have er : r = rs.getD i 0 := by
        rw [List.getD_eq_getElem?_getD, hr1]
        rfl
      have er' : r' = heldAt ss i - heldAt tt i := by
        simp [diff, hi] at hr3
        exact hr3.symm
      have br : Bd 4000 r := h0 _ (List.mem_of_getElem? hr1)
      have br' : Bd 4000 r' := by
        rw [er']
        exact ((bM.held i).sub (bN.held i)).mono hk
      have sm := same_upd (o := .tup [a, b]) nT
      walk_at "r"
      refine ⟨rfl, ?_⟩
      walk_at "r"
      refine ⟨a, b, r, r', rfl, (hr2.same s4).same sm, (hr4.same s4).same sm, br, br', trivial, fun H5 v s5 hv => ?_⟩
      rw [er, er'] at hv
      exact hq _ _ _ rfl (sm.trans s5) hv
    · obtain ⟨s4, ys, hD, hys⟩ := hlst
      rw [show yp.length = n by omega, upTo_map] at hys
      walk_at "r"
      refine ⟨_, _, rfl, .inl ⟨.of hD, fun l nl => ?_⟩⟩
      have sl := same_upd (o := .tup ys) nl
      exact q _ _ ((s3.trans s4).trans sl) ⟨l, ys, rfl, upd_same, Fs.same sl hys⟩
def IsEnd (K : PySem.W.Frag) (C : Addr) (H : Hp) (v : V) (n : Nat) (tt : List Stl) (rs : List Rat) : Prop := ∃ p u t, v = .ref p ∧ H p = some (.tup [u, t]) ∧ IsWeb K C H u n tt ∧ IsFs K H t rs
def sp_played (K : PySem.W.Frag) (C : Addr) : Sp := fun vs H Q _ => ∃ (x p d : V) (n : Nat) (ss tt : List Stl) (rs : List Rat) (ms : List Mv) (M N : Nat), vs = [x, p, d] ∧ IsWeb K C H x n ss ∧ IsRow K H p rs ∧ rs.length = n ∧ (∀ r ∈ rs, 0 ≤ r ∧ Bd 4000 r) ∧ IsDl K H d ms ∧ ms.length ≤ 200 ∧ Plays n ss ms tt ∧ OkW n 4000 ss ∧ BL ss M ∧ BL tt N ∧ M + N + 1 ≤ 4000 ∧
  ∀ H' v, Same H H' → IsEnd K C H' v n tt (hasAt n rs ss tt) → Q v H'
theorem ok_played (T : Txt K mg f_is_integer f_is_row f_is_fraction f_is_amount f_is_some f_are_amounts f_added f_negated f_lessened f_multiplied f_divided f_squared f_summed f_lies_below f_is_stall f_hold_of f_stalls_of f_kept_of f_held f_is_index f_is_move f_check_purse f_check_wish f_stall_led f_stall_behind f_stalls_behind f_deal_fault f_check_deal f_web_behind f_left_with f_played f_owes f_is_deal f_stands_alike f_check_alike f_change_of f_l_deck f_l_pick f_l_fold f_l_divisor f_l_made f_l_amount f_l_stall f_l_deep f_l_odd f_l_row f_l_bad_row f_l_move f_l_bad_deal f_l_is_some f_l_is_row f_l_is_below f_l_is_move f_l_due f_l_answer f_l_word f_l_word_is_due f_law f_BadDeal_init f_Web_init f_Web_eq c_BadPurse c_BadWish c_BadDeal c_Web c_ZERO d_is_integer d_is_row d_is_fraction d_is_amount d_is_some d_are_amounts d_added d_negated d_lessened d_multiplied d_divided d_squared d_summed d_lies_below d_is_stall d_hold_of d_stalls_of d_kept_of d_held d_is_index d_is_move d_check_purse d_check_wish d_stall_led d_stall_behind d_stalls_behind d_deal_fault d_check_deal d_web_behind d_left_with d_played d_owes d_is_deal d_stands_alike d_check_alike d_change_of d_l_deck d_l_pick d_l_fold d_l_divisor d_l_made d_l_amount d_l_stall d_l_deep d_l_odd d_l_row d_l_bad_row d_l_move d_l_bad_deal d_l_is_some d_l_is_row d_l_is_below d_l_is_move d_l_due d_l_answer d_l_word d_l_word_is_due d_law d_BadDeal_init d_Web_init d_Web_eq) : FnOk P w K mg base CX0 8 f_played d_played ["web", "purse", "deal"] (sp_played K c_Web) := by
  have G_check_deal : FnOk P w K mg base CX0 6 f_check_deal d_check_deal ["web", "purse", "deal"] (sp_check_deal K c_Web) := ok_check_deal T
  have G_web_behind : FnOk P w K mg base CX0 7 f_web_behind d_web_behind ["web", "deal"] (sp_web_behind K c_Web) := ok_web_behind T
  have G_left_with : FnOk P w K mg base CX0 6 f_left_with d_left_with ["web", "purse", "behind"] (sp_left_with K c_Web) := ok_left_with T
  refine T.F_played.ok sc_played (fun vs H Q E h => ?_) (fun cdv A outer sh H vs Q E hr h => ?_)
  · obtain ⟨x, p, d, n, ss, tt, rs, ms, M, N0, rfl, _⟩ := h
    rfl
  · obtain ⟨x, p, d, n, ss, tt, rs, ms, M, N0, rfl, hw, hp, hn, h0, hd, h200, pl, ok1, bM, bN, hk, q⟩ := h
    have n8 := ok1.n8
    refine ⟨_, (pss_cons (ps_expr (pe_call G_check_deal (hr.mono (by decide)) (by rfl) T.g_check_deal T.k_check_deal T.b_check_deal .nil pass0 (pa_cons (pv 0) (pa_cons (pv 1) (pa_cons (pv 2) pa_nil)))))
      (pss_cons (ps_set (i := 3) sc_played.nd rfl (by first | exact Or.inl rfl | exact Or.inr rfl) (pe_call G_web_behind (hr.mono (by decide)) (by rfl) T.g_web_behind T.k_web_behind T.b_web_behind .nil pass0 (pa_cons (pv 0) (pa_cons (pv 2) pa_nil))))
      (pss_one (ps_ret (pe_tup (pa_cons (pv 3) (pa_cons (pe_call G_left_with (hr.mono (by decide)) (by rfl) T.g_left_with T.k_left_with T.b_left_with .nil pass0 (pa_cons (pv 0) (pa_cons (pv 1) (pa_cons (pv 3) pa_nil)))) pa_nil))))))), ?_⟩
    walk_at "r"
    refine ⟨x, p, d, n, ss, rs, ms, rfl, hw, hp, hn, n8, fun r hr => (h0 r hr).1, hd, h200, pl.vm, fun H1 s1 => ?_⟩
    walk_at "r"
    refine ⟨x, d, n, ss, tt, ms, rfl, hw.same s1, hd.same s1, pl, ok1, fun H2 u s2 hu => ?_⟩
    have k2 := s1.trans s2
    walk_at "r"
    refine ⟨x, p, u, n, ss, tt, rs, M, N0, rfl, hw.same k2, hp.same k2, hu, hn, fun r hr => (h0 r hr).2, pl.alk, n8, ok1.len, bM, bN, hk, fun H3 v3 s3 h3 => ?_⟩
    walk_at "r"
    intro p6 n6
    have s6 := same_upd (o := .tup [u, v3]) n6
    refine q _ _ ((k2.trans s3).trans s6) ⟨p6, u, v3, rfl, upd_same, (hu.same s3).same s6, h3.same s6⟩
end
end My
namespace My
open PySem PySem.Spec PyProof.Rows L2
variable {K : PySem.W.Frag}
theorem ten6e : (10 : Int) ^ (6 : Int).toNat = 1000000 := by decide
theorem rat_pos {r : Rat} (h : 0 < r.num) : 0 < r := by
  rw [Rat.lt_iff]
  simpa using h
theorem divInt_pos {t b : Int} (ht : 0 < t) (hb : 0 < b) : 0 < Rat.divInt t b := by
  have h := (rat_cross (n := t) (d := b) (r := Rat.divInt t b) (by omega)).mp rfl
  have hd := den_pos (Rat.divInt t b)
  have h2 : 0 < t * ((Rat.divInt t b).den : Int) := Int.mul_pos ht hd
  rw [h] at h2
  refine rat_pos ?_
  exact Int.pos_of_mul_pos_left h2 hb
theorem divInt_mul' (r t : Rat) : Rat.divInt (r.num * t.num) ((r.den : Int) * t.den) = r * t := by
  rw [← Rat.divInt_mul_divInt, Rat.num_divInt_den, Rat.num_divInt_den]
theorem mul_lt' {a b : Int} {k l : Nat} (h1 : a.natAbs < 2 ^ k) (h2 : b.natAbs < 2 ^ l) : (a * b).natAbs < 2 ^ (k + l) := by
  rw [Int.natAbs_mul]
  exact nat_mul_lt h1 h2
theorem back_root (r f : Rat) (hf : 0 < f) : r * f * Rat.divInt (r.num * f.den) (r.den * f.num) = r * r := by
  have h0 : f.num * f.den ≠ 0 := Int.ne_of_gt (Int.mul_pos (num_pos' hf) (den_pos f))
  rw [← divInt_mul' r f, ← divInt_mul' r r, Rat.divInt_mul_divInt]
  rw [show r.num * f.num * (r.num * f.den) = r.num * r.num * (f.num * f.den) by grind, show (r.den : Int) * f.den * (r.den * f.num) = (r.den : Int) * r.den * (f.num * f.den) by grind]
  exact Rat.divInt_mul_right h0
theorem add_divInt (r t : Rat) : Rat.divInt (r.num * t.den + t.num * r.den) ((r.den : Int) * t.den) = r + t := by
  have h1 := den_pos r
  have h2 := den_pos t
  rw [← Rat.divInt_add_divInt r.num t.num (by omega) (by omega), Rat.num_divInt_den, Rat.num_divInt_den]
theorem sub_divInt (r t : Rat) : Rat.divInt (r.num * t.den - t.num * r.den) ((r.den : Int) * t.den) = r - t := by
  have h1 := den_pos r
  have h2 := den_pos t
  rw [Rat.sub_eq_add_neg, ← add_divInt r (-t)]
  show _ = Rat.divInt (r.num * t.den + -t.num * r.den) _
  rw [Int.neg_mul, ← Int.sub_eq_add_neg]
  rfl
section
variable {P : Program} {w : World} {K : PySem.W.Frag} {mg : Str → Option Value} {base : Heap} {f_is_integer f_is_row f_is_fraction f_is_amount f_is_some f_are_amounts f_added f_negated f_lessened f_multiplied f_divided f_squared f_summed f_lies_below f_is_stall f_hold_of f_stalls_of f_kept_of f_held f_is_index f_is_move f_check_purse f_check_wish f_stall_led f_stall_behind f_stalls_behind f_deal_fault f_check_deal f_web_behind f_left_with f_played f_owes f_is_deal f_stands_alike f_check_alike f_change_of f_l_deck f_l_pick f_l_fold f_l_divisor f_l_made f_l_amount f_l_stall f_l_deep f_l_odd f_l_row f_l_bad_row f_l_move f_l_bad_deal f_l_is_some f_l_is_row f_l_is_below f_l_is_move f_l_due f_l_answer f_l_word f_l_word_is_due f_law f_BadDeal_init f_Web_init f_Web_eq c_BadPurse c_BadWish c_BadDeal c_Web c_ZERO : Addr} {d_is_integer d_is_row d_is_fraction d_is_amount d_is_some d_are_amounts d_added d_negated d_lessened d_multiplied d_divided d_squared d_summed d_lies_below d_is_stall d_hold_of d_stalls_of d_kept_of d_held d_is_index d_is_move d_check_purse d_check_wish d_stall_led d_stall_behind d_stalls_behind d_deal_fault d_check_deal d_web_behind d_left_with d_played d_owes d_is_deal d_stands_alike d_check_alike d_change_of d_l_deck d_l_pick d_l_fold d_l_divisor d_l_made d_l_amount d_l_stall d_l_deep d_l_odd d_l_row d_l_bad_row d_l_move d_l_bad_deal d_l_is_some d_l_is_row d_l_is_below d_l_is_move d_l_due d_l_answer d_l_word d_l_word_is_due d_law d_BadDeal_init d_Web_init d_Web_eq : FuncData}
def sp_made (K : PySem.W.Frag) : Sp := fun vs H Q _ => ∃ n d : Int, vs = [.int n, .int d] ∧ 0 < d ∧ d.natAbs < 2 ^ 8000 ∧ ∀ H' v, Same H H' → IsF K H' v (Rat.divInt n d) → Q v H'
theorem ok_l_made (T : Txt K mg f_is_integer f_is_row f_is_fraction f_is_amount f_is_some f_are_amounts f_added f_negated f_lessened f_multiplied f_divided f_squared f_summed f_lies_below f_is_stall f_hold_of f_stalls_of f_kept_of f_held f_is_index f_is_move f_check_purse f_check_wish f_stall_led f_stall_behind f_stalls_behind f_deal_fault f_check_deal f_web_behind f_left_with f_played f_owes f_is_deal f_stands_alike f_check_alike f_change_of f_l_deck f_l_pick f_l_fold f_l_divisor f_l_made f_l_amount f_l_stall f_l_deep f_l_odd f_l_row f_l_bad_row f_l_move f_l_bad_deal f_l_is_some f_l_is_row f_l_is_below f_l_is_move f_l_due f_l_answer f_l_word f_l_word_is_due f_law f_BadDeal_init f_Web_init f_Web_eq c_BadPurse c_BadWish c_BadDeal c_Web c_ZERO d_is_integer d_is_row d_is_fraction d_is_amount d_is_some d_are_amounts d_added d_negated d_lessened d_multiplied d_divided d_squared d_summed d_lies_below d_is_stall d_hold_of d_stalls_of d_kept_of d_held d_is_index d_is_move d_check_purse d_check_wish d_stall_led d_stall_behind d_stalls_behind d_deal_fault d_check_deal d_web_behind d_left_with d_played d_owes d_is_deal d_stands_alike d_check_alike d_change_of d_l_deck d_l_pick d_l_fold d_l_divisor d_l_made d_l_amount d_l_stall d_l_deep d_l_odd d_l_row d_l_bad_row d_l_move d_l_bad_deal d_l_is_some d_l_is_row d_l_is_below d_l_is_move d_l_due d_l_answer d_l_word d_l_word_is_due d_law d_BadDeal_init d_Web_init d_Web_eq) : FnOk P w K mg base CX0 2 f_l_made d_l_made ["_law_top", "_law_bottom"] (sp_made K) := by
  have G_l_divisor : FnOk P w K mg base CX0 1 f_l_divisor d_l_divisor ["_law_one", "_law_other"] sp_divisor := ok_l_divisor T
  refine T.F_l_made.ok sc_l_made (fun vs H Q E h => ?_) (fun cdv A outer s H vs Q E hr h => ?_)
  · obtain ⟨n, d, rfl, _⟩ := h
    rfl
  · obtain ⟨n, d, rfl, hd, hb, q⟩ := h
    refine ⟨_, (pss_cons (ps_set (i := 2) sc_l_made.nd rfl (by first | exact Or.inl rfl | exact Or.inr rfl) (pe_call G_l_divisor (hr.mono (by decide)) (by rfl) T.g_l_divisor T.k_l_divisor T.b_l_divisor .nil pass0 (pa_cons (pv 0) (pa_cons (pv 1) pa_nil))))
      (pss_one (ps_ret (pe_tup (pa_cons (pe_op op_fdivX (pv 0) (pv 2)) (pa_cons (pe_op op_fdivX (pv 1) (pv 2)) pa_nil)))))), ?_⟩
    walk_at "r"
    refine ⟨_, _, rfl, Nat.lt_of_lt_of_le hb (pow_le (by decide)), ?_⟩
    obtain ⟨m1, m2, m3⟩ := low_math (n := n) hd hb _ rfl
    walk_at "r"
    · intro p np
      exact q _ _ (same_upd np) (isF_new m2 m3)
    all_goals exact m1 _
theorem p20k {n : Nat} (h : n < 2 ^ 3900) : n < 2 ^ 20000 := Nat.lt_of_lt_of_le h (pow_le (by decide))
def sp_two9 (K : PySem.W.Frag) (f : Rat → Rat → Rat) : Sp := fun vs H Q _ => ∃ x y r s, vs = [x, y] ∧ IsF K H x r ∧ IsF K H y s ∧ Bd 3900 r ∧ Bd 3900 s ∧ ∀ H' v, Same H H' → IsF K H' v (f r s) → Q v H'
end
end My
namespace My
open PySem PySem.Spec PyProof.Rows L2
variable {K : PySem.W.Frag}
theorem eq_div_of {h x k : Rat} (hz : h ≠ 0) (e : h * x = k) : x = k / h := by
  rw [← e, Rat.div_def, Rat.mul_comm h x, Rat.mul_assoc, Rat.mul_inv_cancel h hz, Rat.mul_one]
theorem rest_is (r h : Rat) (h0 : 0 < h) : Rat.divInt (r.num * r.num * h.den) ((r.den : Int) * r.den * h.num) = r * r / h := by
  refine eq_div_of (ne_of_pos h0) ?_
  have hn : h.num * h.den ≠ 0 := Int.ne_of_gt (Int.mul_pos (num_pos' h0) (den_pos h))
  have e : h * Rat.divInt (r.num * r.num * h.den) ((r.den : Int) * r.den * h.num) = Rat.divInt h.num h.den * Rat.divInt (r.num * r.num * h.den) ((r.den : Int) * r.den * h.num) := by rw [Rat.num_divInt_den]
  rw [e, Rat.divInt_mul_divInt, ← divInt_mul' r r]
  rw [show h.num * (r.num * r.num * h.den) = r.num * r.num * (h.num * h.den) by grind, show (h.den : Int) * ((r.den : Int) * r.den * h.num) = (r.den : Int) * r.den * (h.num * h.den) by grind]
  exact Rat.divInt_mul_right hn
theorem isi_web {K : PySem.W.Frag} {H : Hp} {Q : VK} {p C dx : Addr} {fs : List (Str × V)} (h : H p = some (.ins C dx fs)) (it : InsT K C) (q : Q (.bl true) H) : rIsi K [.ref p, .ref C] H Q :=
  ⟨_, _, _, _, _, rfl, .own _, .base (.ins h it.cl it.ha it.hn it.ht it.mo), kit_self, q⟩
theorem many_at (b : Bool) : ∃ z : Int, (z = 8 ∨ z = 16) ∧ atI [V.int 8, V.int 16] (if b = true then 1 else 0) = some (.int z) := by
  cases b
  · exact ⟨8, .inl rfl, rfl⟩
  · exact ⟨16, .inr rfl, rfl⟩
theorem sq_fw {K : PySem.W.Frag} {M c : Nat} {D C a : Addr} {H H' : Hp} {ns : List Int} (h : SqL K H a (ns.map V.int)) (d : Deck M D C H c) (f : Fw D H H') : SqL K H' a (ns.map V.int) := by
  obtain ⟨cells, pl, rest, cnt, h0, h1, h2⟩ := d
  rcases h with (h | ⟨o, h⟩) | h
  · exact .inl (.inl (f _ _ (ne_of h h1 (by
      intro z
      cases ns with
      | nil => cases z
      | cons x l => cases z)) h))
  · exact .inl (.inr ⟨o, f _ _ (ne_of h h1 (by intro z; cases z)) h⟩)
  · exact .inr h
/-- the script's list, beside a new list at S -/
def Kept (K : PySem.W.Frag) (S a : Addr) (ns : List Int) (H : Hp) : Prop := (a ≠ S ∧ SqL K H a (ns.map V.int)) ∨ SqL K (fun _ => none) a (ns.map V.int)
theorem Kept.sq {K : PySem.W.Frag} {S a : Addr} {ns : List Int} {H : Hp} (h : Kept K S a ns H) : SqL K H a (ns.map V.int) := by
  rcases h with h | h
  · exact h.2
  · exact Same.seq (fun _ _ h => by cases h) h
theorem kept_new {K : PySem.W.Frag} {S a : Addr} {ns : List Int} {H : Hp} {o : HO} (h : SqL K H a (ns.map V.int)) (n : H S = none) : Kept K S a ns (upd H S o) := by
  have h0 := (same_upd (o := o) n).seq h
  rcases h with (h | ⟨_, h⟩) | h
  · exact .inl ⟨ne_of_none h n, h0⟩
  · exact .inl ⟨ne_of_none h n, h0⟩
  · exact .inr (.inr h)
theorem Kept.fw {K : PySem.W.Frag} {M c : Nat} {D C S a : Addr} {ns : List Int} {H H' : Hp} (h : Kept K S a ns H) (d : Deck M D C H c) (f : Fw D H H') : Kept K S a ns H' :=
  h.imp (fun h => ⟨h.1, sq_fw h.2 d f⟩) id
theorem Kept.put {K : PySem.W.Frag} {S a : Addr} {ns : List Int} {H : Hp} {o : HO} (h : Kept K S a ns H) : Kept K S a ns (upd H S o) := by
  refine h.imp (fun ⟨n, h⟩ => ⟨n, ?_⟩) id
  rcases h with (h | ⟨_, h⟩) | h
  · exact .inl (.inl ((upd_ne n).trans h))
  · exact .inl (.inr ⟨_, (upd_ne n).trans h⟩)
  · exact .inr h
theorem Sts.snoc {H : Hp} {xs : List V} {ss : List Stl} {v : V} {s : Stl} (h : Sts K H xs ss) (hv : IsSt K H v s) : Sts K H (xs ++ [v]) (ss ++ [s]) := by
  unfold Sts at *
  induction h with
  | nil => exact .cons hv .nil
  | cons h t ih => exact .cons h ih
/-- tuples stand when only the deck changes -/
theorem Fw.ts {M c : Nat} {D C : Addr} {H H' : Hp} (f : Fw D H H') (d : Deck M D C H c) : Tps H H' := fun b xs h => by
  obtain ⟨cells, pl, rest, cnt, h0, h1, h2⟩ := d
  exact f _ _ (ne_of h h1 (by intro z; cases z)) h
theorem IsMv.fw {M c : Nat} {D C : Addr} {H H' : Hp} {v : V} {i wn : Nat} {y : Rat} (f : Fw D H H') (d : Deck M D C H c) (h : IsMv K H v i wn y) : IsMv K H' v i wn y := by
  obtain ⟨p, vx, e, h, a⟩ := h
  exact ⟨p, vx, e, f.ts d _ _ h, a.ts (f.ts d)⟩
theorem IsWeb.fw {M c n : Nat} {D C B : Addr} {H H' : Hp} {x : V} {ss : List Stl} (f : Fw D H H') (d : Deck M D C H c) (h : IsWeb K B H x n ss) : IsWeb K B H' x n ss := by
  obtain ⟨p, dx, t, xs, e, h1, h2, h3⟩ := h
  have d' := d
  obtain ⟨cells, pl, rest, cnt, g0, g1, g2⟩ := d'
  exact ⟨p, dx, t, xs, e, f _ _ (ne_of h1 g1 (by intro z; cases z)) h1, f.ts d _ _ h2, h3.ts (f.ts d)⟩
end My
namespace My
open PySem PySem.Spec PyProof.Rows L2
variable {K : PySem.W.Frag}
/-- all but two lists stand -/
def But2 (S N : Addr) (H H' : Hp) : Prop := ∀ b o, b ≠ S → b ≠ N → H b = some o → H' b = some o
def Stl.oth (s : Stl) (w : Nat) : Nat := if w = s.u then s.v else s.u
/-- what the customer has behind a move -/
def pay (rs : List Rat) (s : Stl) (m : Mv) : List Rat :=
  let r1 := rs.set m.w (rs.getD m.w 0 - m.x)
  r1.set (s.oth m.w) (r1.getD (s.oth m.w) 0 + s.out (s.behind m.w m.x) m.w)
theorem Fs.set {H : Hp} {ys : List V} {rs : List Rat} {v : V} {r : Rat} (h : Fs K H ys rs) (hv : IsF K H v r) (i : Nat) : Fs K H (ys.set i v) (rs.set i r) := by
  unfold Fs at *
  induction h generalizing i with
  | nil => exact .nil
  | cons h t ih =>
    cases i with
    | zero => exact .cons hv t
    | succ i => exact .cons h (ih i)
theorem Fs.ts {H H' : Hp} {ys : List V} {rs : List Rat} (f : Tps H H') (h : Fs K H ys rs) : Fs K H' ys rs := Paired.mapP h fun _ _ h => h.ts f
theorem Fs.getD {H : Hp} {ys : List V} {rs : List Rat} (h : Fs K H ys rs) {i : Nat} (hi : i < rs.length) : ∃ v, ys[i]? = some v ∧ IsF K H v (rs.getD i 0) := by
  refine Paired.get' h ?_
  rw [List.getD_eq_getElem?_getD, List.getElem?_eq_getElem hi]
  rfl
theorem getD_mem' {l : List Rat} {i : Nat} (h : i < l.length) : l.getD i 0 ∈ l := by
  rw [List.getD_eq_getElem?_getD, List.getElem?_eq_getElem h]
  exact List.getElem_mem _
theorem rd_bm0 {T : String} {r : V → List V → Hp → VK → Prop} {te : TE} {σ : L2.St} {H : Hp} {Q : VK} (h : te σ H fun x H1 => tyV K T x H1 ∧ r x [] H1 Q) : tBM0 K T r te σ H Q := h
section
variable {P : Program} {w : World} {K : PySem.W.Frag} {mg : Str → Option Value} {base : Heap} {f_is_integer f_is_row f_is_fraction f_is_amount f_is_some f_are_amounts f_added f_negated f_lessened f_multiplied f_divided f_squared f_summed f_lies_below f_is_stall f_hold_of f_stalls_of f_kept_of f_held f_is_index f_is_move f_check_purse f_check_wish f_stall_led f_stall_behind f_stalls_behind f_deal_fault f_check_deal f_web_behind f_left_with f_played f_owes f_is_deal f_stands_alike f_check_alike f_change_of f_l_deck f_l_pick f_l_fold f_l_divisor f_l_made f_l_amount f_l_stall f_l_deep f_l_odd f_l_row f_l_bad_row f_l_move f_l_bad_deal f_l_is_some f_l_is_row f_l_is_below f_l_is_move f_l_due f_l_answer f_l_word f_l_word_is_due f_law f_BadDeal_init f_Web_init f_Web_eq c_BadPurse c_BadWish c_BadDeal c_Web c_ZERO : Addr} {d_is_integer d_is_row d_is_fraction d_is_amount d_is_some d_are_amounts d_added d_negated d_lessened d_multiplied d_divided d_squared d_summed d_lies_below d_is_stall d_hold_of d_stalls_of d_kept_of d_held d_is_index d_is_move d_check_purse d_check_wish d_stall_led d_stall_behind d_stalls_behind d_deal_fault d_check_deal d_web_behind d_left_with d_played d_owes d_is_deal d_stands_alike d_check_alike d_change_of d_l_deck d_l_pick d_l_fold d_l_divisor d_l_made d_l_amount d_l_stall d_l_deep d_l_odd d_l_row d_l_bad_row d_l_move d_l_bad_deal d_l_is_some d_l_is_row d_l_is_below d_l_is_move d_l_due d_l_answer d_l_word d_l_word_is_due d_law d_BadDeal_init d_Web_init d_Web_eq : FuncData}
def sp_lstep (K : PySem.W.Frag) : Sp := fun vs H Q _ => ∃ (S N : Addr) (mv : V) (xs ys : List V) (ss : List Stl) (rs : List Rat) (m : Mv) (s : Stl) (n : Nat), vs = [.ref S, .ref N, mv] ∧ S ≠ N ∧ H S = some (.lst xs) ∧ Sts K H xs ss ∧ H N = some (.lst ys) ∧ Fs K H ys rs ∧ IsM K H mv m ∧ ss[m.i]? = some s ∧ OkSt n s ∧ (m.w = s.u ∨ m.w = s.v) ∧ 0 < m.x ∧
  BdSt 1700 s ∧ Bd 400 s.r ∧ Bd 90 m.x ∧ (∀ r ∈ rs, Bd 1800 r) ∧ Bd 3400 (s.out (s.behind m.w m.x) m.w) ∧ rs.length = n ∧
  ∀ H' xs' ys', But2 S N H H' → H' S = some (.lst xs') → Sts K H' xs' (ss.set m.i (s.behind m.w m.x)) → H' N = some (.lst ys') → Fs K H' ys' (pay rs s m) → Q .non H'
end
end My
namespace My
open PySem PySem.Spec PyProof.Rows L2
variable {K : PySem.W.Frag}
theorem isi_non_tup {H : Hp} {Q : VK} (q : Q (.bl false) H) : rIsi K [.non, .ty "tuple"] H Q := ⟨_, _, _, _, _, rfl, .ty _, .base .non, kit_ty (by decide +kernel), q⟩
theorem isi_tup_lst {H : Hp} {Q : VK} {p : Addr} {xs : List V} (h : H p = some (.tup xs)) (q : Q (.bl false) H) : rIsi K [.ref p, .ty "list"] H Q := ⟨_, _, _, _, _, rfl, .ty _, .base (.tup h), kit_ty (by decide +kernel), q⟩
theorem isi_lst_lst {H : Hp} {Q : VK} {p : Addr} {xs : List V} (h : H p = some (.lst xs)) (q : Q (.bl true) H) : rIsi K [.ref p, .ty "list"] H Q := ⟨_, _, _, _, _, rfl, .ty _, .base (.lst h), kit_ty (by decide +kernel), q⟩
section
variable {P : Program} {w : World} {K : PySem.W.Frag} {mg : Str → Option Value} {base : Heap} {f_is_integer f_is_row f_is_fraction f_is_amount f_is_some f_are_amounts f_added f_negated f_lessened f_multiplied f_divided f_squared f_summed f_lies_below f_is_stall f_hold_of f_stalls_of f_kept_of f_held f_is_index f_is_move f_check_purse f_check_wish f_stall_led f_stall_behind f_stalls_behind f_deal_fault f_check_deal f_web_behind f_left_with f_played f_owes f_is_deal f_stands_alike f_check_alike f_change_of f_l_deck f_l_pick f_l_fold f_l_divisor f_l_made f_l_amount f_l_stall f_l_deep f_l_odd f_l_row f_l_bad_row f_l_move f_l_bad_deal f_l_is_some f_l_is_row f_l_is_below f_l_is_move f_l_due f_l_answer f_l_word f_l_word_is_due f_law f_BadDeal_init f_Web_init f_Web_eq c_BadPurse c_BadWish c_BadDeal c_Web c_ZERO : Addr} {d_is_integer d_is_row d_is_fraction d_is_amount d_is_some d_are_amounts d_added d_negated d_lessened d_multiplied d_divided d_squared d_summed d_lies_below d_is_stall d_hold_of d_stalls_of d_kept_of d_held d_is_index d_is_move d_check_purse d_check_wish d_stall_led d_stall_behind d_stalls_behind d_deal_fault d_check_deal d_web_behind d_left_with d_played d_owes d_is_deal d_stands_alike d_check_alike d_change_of d_l_deck d_l_pick d_l_fold d_l_divisor d_l_made d_l_amount d_l_stall d_l_deep d_l_odd d_l_row d_l_bad_row d_l_move d_l_bad_deal d_l_is_some d_l_is_row d_l_is_below d_l_is_move d_l_due d_l_answer d_l_word d_l_word_is_due d_law d_BadDeal_init d_Web_init d_Web_eq : FuncData}
def sp_check_wish (K : PySem.W.Frag) (C : Addr) : Sp := fun vs H Q _ => ∃ (x p : V) (n : Nat) (ss : List Stl) (rs : List Rat), vs = [x, p] ∧ IsWeb K C H x n ss ∧ IsRow K H p rs ∧ rs.length = n ∧ n ≤ 8 ∧ (∀ r ∈ rs, 0 ≤ r) ∧ ∀ H', Same H H' → Q .non H'
theorem ok_check_wish (T : Txt K mg f_is_integer f_is_row f_is_fraction f_is_amount f_is_some f_are_amounts f_added f_negated f_lessened f_multiplied f_divided f_squared f_summed f_lies_below f_is_stall f_hold_of f_stalls_of f_kept_of f_held f_is_index f_is_move f_check_purse f_check_wish f_stall_led f_stall_behind f_stalls_behind f_deal_fault f_check_deal f_web_behind f_left_with f_played f_owes f_is_deal f_stands_alike f_check_alike f_change_of f_l_deck f_l_pick f_l_fold f_l_divisor f_l_made f_l_amount f_l_stall f_l_deep f_l_odd f_l_row f_l_bad_row f_l_move f_l_bad_deal f_l_is_some f_l_is_row f_l_is_below f_l_is_move f_l_due f_l_answer f_l_word f_l_word_is_due f_law f_BadDeal_init f_Web_init f_Web_eq c_BadPurse c_BadWish c_BadDeal c_Web c_ZERO d_is_integer d_is_row d_is_fraction d_is_amount d_is_some d_are_amounts d_added d_negated d_lessened d_multiplied d_divided d_squared d_summed d_lies_below d_is_stall d_hold_of d_stalls_of d_kept_of d_held d_is_index d_is_move d_check_purse d_check_wish d_stall_led d_stall_behind d_stalls_behind d_deal_fault d_check_deal d_web_behind d_left_with d_played d_owes d_is_deal d_stands_alike d_check_alike d_change_of d_l_deck d_l_pick d_l_fold d_l_divisor d_l_made d_l_amount d_l_stall d_l_deep d_l_odd d_l_row d_l_bad_row d_l_move d_l_bad_deal d_l_is_some d_l_is_row d_l_is_below d_l_is_move d_l_due d_l_answer d_l_word d_l_word_is_due d_law d_BadDeal_init d_Web_init d_Web_eq) : FnOk P w K mg base CX0 5 f_check_wish d_check_wish ["web", "wish"] (sp_check_wish K c_Web) := by
  have G_is_row : FnOk P w K mg base CX0 1 f_is_row d_is_row ["thing"] sp_is_row := ok_is_row T
  have G_are_amounts : FnOk P w K mg base CX0 4 f_are_amounts d_are_amounts ["things", "number"] (sp_are_amounts K) := ok_are_amounts T
  refine T.F_check_wish.ok sc_check_wish (fun vs H Q E h => ?_) (fun cdv A outer s H vs Q E hr h => ?_)
  · obtain ⟨x, p, n, ss, rs, rfl, _⟩ := h
    rfl
  · obtain ⟨x, p, n, ss, rs, rfl, hw, ⟨L, ys, rfl, hL, hf⟩, hn, n8, h0, q⟩ := h
    refine ⟨_, (pss_one (ps_if (PW.pt (pw_or (pt_not (pt_val (pe_call G_is_row (hr.mono (by decide)) (by rfl) T.g_is_row T.k_is_row T.b_is_row .nil pass0 (pa_cons (pv 1) pa_nil)))) (pw_or1 (pt_not (pt_val (pe_call G_are_amounts (hr.mono (by decide)) (by rfl) T.g_are_amounts T.k_are_amounts T.b_are_amounts .nil pass0 (pa_cons (pv 1) (pa_cons (pe_fld (pv 0) rfl) pa_nil))))))))
        (pss_one ps_never)
        pss_nil)), ?_⟩
    walk_at "r"
    refine ⟨L, ys, rfl, hL, fun H1 s1 => ?_⟩
    obtain ⟨px, dx, t, xs, rfl, hp, ht, hss⟩ := hw.same s1
    walk_at "r"
    refine ⟨_, _, _, _, _, rfl, hp, T.w_Web.it.cl, T.n_Web_wares, wF_wares _ _, ?_⟩
    walk_at "r"
    refine ⟨L, ys, rs, by rw [hn]; rfl, (sq_or hL).same s1, hf.same s1, h0, by omega, fun H2 s2 => ?_⟩
    walk_at "r"
    exact q _ (s1.trans s2)
/-- is_move of a right move, or of None -/
def sp_is_moveN (K : PySem.W.Frag) (C : Addr) : Sp := fun vs H Q E => sp_is_move K C vs H Q E ∨ ∃ x, vs = [x, .non] ∧ Q (.bl false) H
theorem ok_is_moveN (T : Txt K mg f_is_integer f_is_row f_is_fraction f_is_amount f_is_some f_are_amounts f_added f_negated f_lessened f_multiplied f_divided f_squared f_summed f_lies_below f_is_stall f_hold_of f_stalls_of f_kept_of f_held f_is_index f_is_move f_check_purse f_check_wish f_stall_led f_stall_behind f_stalls_behind f_deal_fault f_check_deal f_web_behind f_left_with f_played f_owes f_is_deal f_stands_alike f_check_alike f_change_of f_l_deck f_l_pick f_l_fold f_l_divisor f_l_made f_l_amount f_l_stall f_l_deep f_l_odd f_l_row f_l_bad_row f_l_move f_l_bad_deal f_l_is_some f_l_is_row f_l_is_below f_l_is_move f_l_due f_l_answer f_l_word f_l_word_is_due f_law f_BadDeal_init f_Web_init f_Web_eq c_BadPurse c_BadWish c_BadDeal c_Web c_ZERO d_is_integer d_is_row d_is_fraction d_is_amount d_is_some d_are_amounts d_added d_negated d_lessened d_multiplied d_divided d_squared d_summed d_lies_below d_is_stall d_hold_of d_stalls_of d_kept_of d_held d_is_index d_is_move d_check_purse d_check_wish d_stall_led d_stall_behind d_stalls_behind d_deal_fault d_check_deal d_web_behind d_left_with d_played d_owes d_is_deal d_stands_alike d_check_alike d_change_of d_l_deck d_l_pick d_l_fold d_l_divisor d_l_made d_l_amount d_l_stall d_l_deep d_l_odd d_l_row d_l_bad_row d_l_move d_l_bad_deal d_l_is_some d_l_is_row d_l_is_below d_l_is_move d_l_due d_l_answer d_l_word d_l_word_is_due d_law d_BadDeal_init d_Web_init d_Web_eq) : FnOk P w K mg base CX0 4 f_is_move d_is_move ["web", "thing"] (sp_is_moveN K c_Web) := by
  have G_is_integer : FnOk P w K mg base CX0 1 f_is_integer d_is_integer ["thing"] sp_is_integer := ok_is_integer T
  have G_is_some : FnOk P w K mg base CX0 3 f_is_some d_is_some ["thing"] (sp_is_some K) := ok_is_some T
  have G_is_index : FnOk P w K mg base CX0 2 f_is_index d_is_index ["web", "thing"] (sp_is_index K c_Web) := ok_is_index T
  refine T.F_is_move.ok sc_is_move (fun vs H Q E h => ?_) (fun cdv A outer s H vs Q E hr h => ?_)
  · rcases h with ⟨x, mv, n, ss, i, wn, s, y, rfl, _⟩ | ⟨x, rfl, _⟩ <;> rfl
  · refine ⟨_, (pss_cons (ps_if (PW.pt (pw_or (pt_not (pt_val (pe_callB call_isi (by rfl) T.z_isinstance (by decide +kernel) (pa_cons (pv 1) (pa_cons (pe_bltn (v := .ty "tuple") (u := .type "tuple") (by rfl) T.z_tuple (by decide +kernel) rfl) pa_nil))))) (pw_or1 (pt_cmpR op_ne (pe_callB call_lenN (by rfl) T.z_len (by decide +kernel) (pa_cons (pv 1) pa_nil)) pe_int (nomark _)))))
        (pss_one (ps_ret pe_bl))
        pss_nil)
      (pss_cons (ps_asg (pv 1) (pg_tup rfl (pgs_cons (pg_name (i := 2) sc_is_move.nd rfl (by first | exact Or.inl rfl | exact Or.inr rfl)) (pgs_cons (pg_name (i := 3) sc_is_move.nd rfl (by first | exact Or.inl rfl | exact Or.inr rfl)) (pgs_cons (pg_name (i := 4) sc_is_move.nd rfl (by first | exact Or.inl rfl | exact Or.inr rfl)) pgs_nil)))))
      (pss_cons (ps_if (PW.pt (pw_or (pt_not (pt_val (pe_call G_is_index (hr.mono (by decide)) (by rfl) T.g_is_index T.k_is_index T.b_is_index .nil pass0 (pa_cons (pv 0) (pa_cons (pv 2) pa_nil))))) (pw_or1 (pt_not (pt_val (pe_call G_is_integer (hr.mono (by decide)) (by rfl) T.g_is_integer T.k_is_integer T.b_is_integer .nil pass0 (pa_cons (pv 3) pa_nil)))))))
        (pss_one (ps_ret pe_bl))
        pss_nil)
      (pss_one (ps_ret (pe_and (pe_cmpR op_in_seq (pv 3) (pe_slice sl_tup (pe_ix ix_tup (pe_fld (pv 0) rfl) (pv 2) (fun _ _ => rfl)) po_none (po_some pe_int)) (by rfl)) (pe_one (pe_call G_is_some (hr.mono (by decide)) (by rfl) T.g_is_some T.k_is_some T.b_is_some .nil pass0 (pa_cons (pv 4) pa_nil))))))))), ?_⟩
    rcases h with h | ⟨x, rfl, q⟩
    · obtain ⟨x, mv, n, ss, i, wn, s, y, rfl, hw, hmv, hi, hwn, y0, q⟩ := h
      obtain ⟨pm, vx, rfl, hm, hy⟩ := hmv
      have hil : i < ss.length := (List.getElem?_eq_some_iff.mp hi).1
      obtain ⟨p, dx, t, xs, rfl, hp, ht, hss⟩ := id hw
      obtain ⟨z, hz, ⟨pz, va, vb, vr, rfl, hpz, _⟩⟩ := hss.get hi
      walk_at "r"
      refine ⟨_, n, ss, i, rfl, hw, hil, ?_⟩
      walk_at "r"
      refine ⟨_, rfl, ?_⟩
      walk_at "r"
      refine ⟨_, _, _, _, _, rfl, hp, T.w_Web.it.cl, T.n_Web_stalls, wF_stalls _ _, ?_⟩
      walk_at "r"
      refine rd_ixT ht (at_some hz) ?_
      walk_at "r"
      refine ⟨_, _, rfl, .of hpz, (by show ¬ (HT.sIx 5 0 none = 0 ∧ HT.sIx 5 5 (some 2) = 5); decide), fun p2 n2 => ?_⟩
      have sm := same_upd (o := .tup (cutV [V.int (s.u : Nat), .int (s.v : Nat), va, vb, vr] none (some 2))) n2
      refine ⟨_, _, rfl, .inr (.of upd_same), rfl, rfl, ?_⟩
      rw [show cutV [V.int (s.u : Nat), .int (s.v : Nat), va, vb, vr] none (some 2) = [V.int (s.u : Nat), .int (s.v : Nat)] from rfl, in_pair hwn, if_neg Bool.false_ne_true]
      walk_at "r"
      refine ⟨_, _, rfl, hy.same sm, y0, ?_⟩
      exact q _ sm
    · walk_at "r"
      refine isi_non_tup ?_
      walk_at "r"
      exact q
def IsDlN (K : PySem.W.Frag) (H : Hp) (x : V) (ms : List Mv) (bad : Bool) : Prop := ∃ L ys, x = .ref L ∧ (H L = some (.lst (ys ++ if bad then [.non] else [])) ∨ H L = some (.tup (ys ++ if bad then [.non] else []))) ∧ Paired (IsM K H) ys ms
def sp_deal_faultN (K : PySem.W.Frag) (C : Addr) : Sp := fun vs H Q _ => ∃ (x d : V) (n : Nat) (ss : List Stl) (ms : List Mv) (bad : Bool), vs = [x, d] ∧ IsWeb K C H x n ss ∧ IsDlN K H d ms bad ∧ ms.length + (if bad then 1 else 0) ≤ 200 ∧ (∀ m ∈ ms, Vm ss m) ∧ ∀ H', Same H H' → Q (if bad then .int (ms.length : Nat) else .non) H'
theorem ok_deal_faultN (T : Txt K mg f_is_integer f_is_row f_is_fraction f_is_amount f_is_some f_are_amounts f_added f_negated f_lessened f_multiplied f_divided f_squared f_summed f_lies_below f_is_stall f_hold_of f_stalls_of f_kept_of f_held f_is_index f_is_move f_check_purse f_check_wish f_stall_led f_stall_behind f_stalls_behind f_deal_fault f_check_deal f_web_behind f_left_with f_played f_owes f_is_deal f_stands_alike f_check_alike f_change_of f_l_deck f_l_pick f_l_fold f_l_divisor f_l_made f_l_amount f_l_stall f_l_deep f_l_odd f_l_row f_l_bad_row f_l_move f_l_bad_deal f_l_is_some f_l_is_row f_l_is_below f_l_is_move f_l_due f_l_answer f_l_word f_l_word_is_due f_law f_BadDeal_init f_Web_init f_Web_eq c_BadPurse c_BadWish c_BadDeal c_Web c_ZERO d_is_integer d_is_row d_is_fraction d_is_amount d_is_some d_are_amounts d_added d_negated d_lessened d_multiplied d_divided d_squared d_summed d_lies_below d_is_stall d_hold_of d_stalls_of d_kept_of d_held d_is_index d_is_move d_check_purse d_check_wish d_stall_led d_stall_behind d_stalls_behind d_deal_fault d_check_deal d_web_behind d_left_with d_played d_owes d_is_deal d_stands_alike d_check_alike d_change_of d_l_deck d_l_pick d_l_fold d_l_divisor d_l_made d_l_amount d_l_stall d_l_deep d_l_odd d_l_row d_l_bad_row d_l_move d_l_bad_deal d_l_is_some d_l_is_row d_l_is_below d_l_is_move d_l_due d_l_answer d_l_word d_l_word_is_due d_law d_BadDeal_init d_Web_init d_Web_eq) : FnOk P w K mg base CX0 5 f_deal_fault d_deal_fault ["web", "thing"] (sp_deal_faultN K c_Web) := by
  have G_is_row : FnOk P w K mg base CX0 1 f_is_row d_is_row ["thing"] sp_is_row := ok_is_row T
  have G_is_move : FnOk P w K mg base CX0 4 f_is_move d_is_move ["web", "thing"] (sp_is_moveN K c_Web) := ok_is_moveN T
  refine T.F_deal_fault.ok sc_deal_fault (fun vs H Q E h => ?_) (fun cdv A outer s H vs Q E hr h => ?_)
  · obtain ⟨x, d, n, ss, ms, bad, rfl, _⟩ := h
    rfl
  · obtain ⟨x, d, n, ss, ms, bad, rfl, hw, ⟨L, ys, rfl, hL, hms⟩, h200, hv, q⟩ := h
    have hl := Paired.length hms
    have hl2 : (ys ++ if bad = true then [V.non] else []).length ≤ 200 := by
      rw [List.length_append]
      cases bad
      · simp at h200 ⊢
        omega
      · simp at h200 ⊢
        omega
    refine ⟨_, (pss_cons (ps_if (PW.pt (pw_or (pt_not (pt_val (pe_call G_is_row (hr.mono (by decide)) (by rfl) T.g_is_row T.k_is_row T.b_is_row .nil pass0 (pa_cons (pv 1) pa_nil)))) (pw_or1 (pt_cmpR op_gt (pe_callB call_lenN (by rfl) T.z_len (by decide +kernel) (pa_cons (pv 1) pa_nil)) (C8.pe_gc (by rfl) T.v_MOST_MOVES) (nomark _)))))
        (pss_one (ps_ret (pe_un un_neg pe_int)))
        pss_nil)
      (pss_cons (ps_for PassesOwn.never rfl (pi_enumX (by rfl) T.z_enumerate (pa_cons (pv 1) pa_nil)) (pg_tup rfl (pgs_cons (pg_name (i := 2) sc_deal_fault.nd rfl (by first | exact Or.inl rfl | exact Or.inr rfl)) (pgs_cons (pg_name (i := 3) sc_deal_fault.nd rfl (by first | exact Or.inl rfl | exact Or.inr rfl)) pgs_nil)))
        (pss_one (ps_if (pt_not (pt_val (pe_call G_is_move (hr.mono (by decide)) (by rfl) T.g_is_move T.k_is_move T.b_is_move .nil pass0 (pa_cons (pv 0) (pa_cons (pv 3) pa_nil)))))
            (pss_one (ps_ret (pv 2)))
            pss_nil)))
      (pss_one (ps_ret pe_non)))), ?_⟩
    walk_at "r"
    refine ⟨L, _, rfl, hL, fun H1 s1 => ?_⟩
    have hL1 := hL.imp (fun h => s1 _ _ h) (fun h => s1 _ _ h)
    walk_at "r"
    refine ⟨L, _, rfl, sq_or hL1, ?_⟩
    walk_at "r"
    have step : ∀ (i : Nat) (v : V) (T2 : Addr) (H' : Hp), (ys ++ if bad = true then [V.non] else [])[i]? = some v → Same H1 H' → H' T2 = none →
        (∃ m, ms[i]? = some m ∧ IsM K (upd H' T2 (.tup [.int (i : Nat), v])) v m) ∨ (bad = true ∧ i = ms.length ∧ v = .non) := by
      intro i v T2 H' hx s2 nT
      have sm := same_upd (o := .tup [.int (i : Nat), v]) nT
      by_cases c : i < ys.length
      · rw [List.getElem?_append_left c] at hx
        obtain ⟨m, hm, hmv⟩ := Paired.at hms hx
        exact .inl ⟨m, hm, hmv.same ((s1.trans s2).trans sm)⟩
      · rw [List.getElem?_append_right (by omega)] at hx
        cases bad
        · simp at hx
        · right
          have hx : ([V.non] : List V)[i - ys.length]? = some v := hx
          match e : i - ys.length, hx with
          | 0, hx => exact ⟨rfl, by omega, (Option.some.inj hx).symm⟩
    refine ⟨L, ys ++ (if bad = true then [V.non] else []), rfl, ?_⟩
    rcases hL1 with hL1 | hL1
    · refine .inl ⟨.of hL1, ?_⟩
      refine for_enum (K := K) (a := L) (xs := ys ++ if bad = true then [V.non] else []) (fun i σ H' => ∃ t2 t3, σ = [some x, some (.ref L), t2, t3] ∧ Same H1 H' ∧ (bad = true → i ≤ ms.length)) ⟨_, _, rfl, Same.refl _, fun _ => Nat.zero_le _⟩ ?_ ?_ ?_
      · rintro i σ H' _ ⟨t2, t3, rfl, s2, _⟩
        exact .of (s2 _ _ hL1)
      · rintro i v T2 σ H' hx ⟨t2, t3, rfl, s2, _⟩ nT
        have sm := same_upd (o := .tup [.int (i : Nat), v]) nT
        rcases step i v T2 H' hx s2 nT with ⟨m, hm, hmv⟩ | ⟨hb, hi, rfl⟩
        · obtain ⟨st, g1, g2, g3⟩ := hv m (List.mem_of_getElem? hm)
          walk_at "r"
          refine .inl ⟨x, v, n, ss, m.i, m.w, st, m.x, rfl, hw.same ((s1.trans s2).trans sm), hmv, g1, g2, g3, fun H3 s3 => ?_⟩
          walk_at "r"
          exact ⟨_, _, rfl, (s2.trans sm).trans s3, fun _ => (List.getElem?_eq_some_iff.mp hm).1⟩
        · walk_at "r"
          refine .inr ⟨x, rfl, ?_⟩
          walk_at "r"
          have := q _ ((s1.trans s2).trans sm)
          rw [if_pos hb, ← hi] at this
          exact this
      · rintro σ H' ⟨t2, t3, rfl, s2, hb⟩
        have nb : bad = false := by
          cases bad
          · rfl
          · have := hb rfl
            rw [List.length_append] at this
            simp at this
            omega
        walk_at "r"
        have := q _ (s1.trans s2)
        rw [nb] at this
        exact this
    · refine .inr ⟨.of hL1, ?_⟩
      refine for_enumT (K := K) (a := L) (xs := ys ++ if bad = true then [V.non] else []) (fun i σ H' => ∃ t2 t3, σ = [some x, some (.ref L), t2, t3] ∧ Same H1 H' ∧ (bad = true → i ≤ ms.length)) ⟨_, _, rfl, Same.refl _, fun _ => Nat.zero_le _⟩ ?_ ?_ ?_
      · rintro i σ H' _ ⟨t2, t3, rfl, s2, _⟩
        exact .of (s2 _ _ hL1)
      · rintro i v T2 σ H' hx ⟨t2, t3, rfl, s2, _⟩ nT
        have sm := same_upd (o := .tup [.int (i : Nat), v]) nT
        rcases step i v T2 H' hx s2 nT with ⟨m, hm, hmv⟩ | ⟨hb, hi, rfl⟩
        · obtain ⟨st, g1, g2, g3⟩ := hv m (List.mem_of_getElem? hm)
          walk_at "r"
          refine .inl ⟨x, v, n, ss, m.i, m.w, st, m.x, rfl, hw.same ((s1.trans s2).trans sm), hmv, g1, g2, g3, fun H3 s3 => ?_⟩
          walk_at "r"
          exact ⟨_, _, rfl, (s2.trans sm).trans s3, fun _ => (List.getElem?_eq_some_iff.mp hm).1⟩
        · walk_at "r"
          refine .inr ⟨x, rfl, ?_⟩
          walk_at "r"
          have := q _ ((s1.trans s2).trans sm)
          rw [if_pos hb, ← hi] at this
          exact this
      · rintro σ H' ⟨t2, t3, rfl, s2, hb⟩
        have nb : bad = false := by
          cases bad
          · rfl
          · have := hb rfl
            rw [List.length_append] at this
            simp at this
            omega
        walk_at "r"
        have := q _ (s1.trans s2)
        rw [nb] at this
        exact this
/-- where the customer has less than is wished -/
def less (n : Nat) (rs ws : List Rat) (ss tt : List Stl) : List Bool := (List.range n).map fun w => decide (rs.getD w 0 + (heldAt ss w - heldAt tt w) < ws.getD w 0)
def sp_is_deal (K : PySem.W.Frag) (C : Addr) : Sp := fun vs H Q _ => ∃ (x p wv : V) (L : Addr) (n : Nat) (ss : List Stl) (rs ws : List Rat) (ys : List V) (ms : List Mv), vs = [x, p, wv, .ref L] ∧ IsWeb K C H x n ss ∧ IsRow K H p rs ∧ rs.length = n ∧ IsRow K H wv ws ∧ ws.length = n ∧ OkW n 4000 ss ∧ (∀ r ∈ rs, 0 ≤ r) ∧ (∀ r ∈ ws, 0 ≤ r ∧ Bd 4000 r) ∧
  ((∃ (tt : List Stl) (R M N : Nat), H L = some (.lst ys) ∧ Paired (IsM K H) ys ms ∧ ms.length ≤ 200 ∧ Plays n ss ms tt ∧ BL ss M ∧ BL tt N ∧ (∀ r ∈ rs, Bd R r) ∧ R + (M + N + 1) + 1 ≤ 4000 ∧ ∀ H', Same H H' → Q (.bl (!(less n rs ws ss tt).any id)) H') ∨
   (H L = some (.tup ys) ∧ ∀ H', Same H H' → Q (.bl false) H') ∨
   (H L = some (.lst (ys ++ [.non])) ∧ Paired (IsM K H) ys ms ∧ ms.length + 1 ≤ 200 ∧ (∀ m ∈ ms, Vm ss m) ∧ ∀ H', Same H H' → Q (.bl false) H'))
theorem ok_is_deal (T : Txt K mg f_is_integer f_is_row f_is_fraction f_is_amount f_is_some f_are_amounts f_added f_negated f_lessened f_multiplied f_divided f_squared f_summed f_lies_below f_is_stall f_hold_of f_stalls_of f_kept_of f_held f_is_index f_is_move f_check_purse f_check_wish f_stall_led f_stall_behind f_stalls_behind f_deal_fault f_check_deal f_web_behind f_left_with f_played f_owes f_is_deal f_stands_alike f_check_alike f_change_of f_l_deck f_l_pick f_l_fold f_l_divisor f_l_made f_l_amount f_l_stall f_l_deep f_l_odd f_l_row f_l_bad_row f_l_move f_l_bad_deal f_l_is_some f_l_is_row f_l_is_below f_l_is_move f_l_due f_l_answer f_l_word f_l_word_is_due f_law f_BadDeal_init f_Web_init f_Web_eq c_BadPurse c_BadWish c_BadDeal c_Web c_ZERO d_is_integer d_is_row d_is_fraction d_is_amount d_is_some d_are_amounts d_added d_negated d_lessened d_multiplied d_divided d_squared d_summed d_lies_below d_is_stall d_hold_of d_stalls_of d_kept_of d_held d_is_index d_is_move d_check_purse d_check_wish d_stall_led d_stall_behind d_stalls_behind d_deal_fault d_check_deal d_web_behind d_left_with d_played d_owes d_is_deal d_stands_alike d_check_alike d_change_of d_l_deck d_l_pick d_l_fold d_l_divisor d_l_made d_l_amount d_l_stall d_l_deep d_l_odd d_l_row d_l_bad_row d_l_move d_l_bad_deal d_l_is_some d_l_is_row d_l_is_below d_l_is_move d_l_due d_l_answer d_l_word d_l_word_is_due d_law d_BadDeal_init d_Web_init d_Web_eq) : FnOk P w K mg base CX0 9 f_is_deal d_is_deal ["web", "purse", "wish", "thing"] (sp_is_deal K c_Web) := by
  have G_check_purse : FnOk P w K mg base CX0 5 f_check_purse d_check_purse ["web", "purse"] (sp_check_purse K c_Web) := ok_check_purse T
  have G_check_wish : FnOk P w K mg base CX0 5 f_check_wish d_check_wish ["web", "wish"] (sp_check_wish K c_Web) := ok_check_wish T
  have G_deal_fault : FnOk P w K mg base CX0 5 f_deal_fault d_deal_fault ["web", "thing"] (sp_deal_faultN K c_Web) := ok_deal_faultN T
  have G_played : FnOk P w K mg base CX0 8 f_played d_played ["web", "purse", "deal"] (sp_played K c_Web) := ok_played T
  have G_lies_below : FnOk P w K mg base CX0 1 f_lies_below d_lies_below ["one", "other"] (sp_below K) := ok_lies_below T
  refine T.F_is_deal.ok sc_is_deal (fun vs H Q E h => ?_) (fun cdv A outer s H vs Q E hr h => ?_)
  · obtain ⟨x, p, wv, L, n, ss, rs, ws, ys, ms, rfl, _⟩ := h
    rfl
  · obtain ⟨x, p, wv, L, n, ss, rs, ws, ys, ms, rfl, hw, hp, hn, hwv, hn2, ok, h0, hw0, h⟩ := h
    have n8 := ok.n8
    refine ⟨_, (pss_cons (ps_expr (pe_call G_check_purse (hr.mono (by decide)) (by rfl) T.g_check_purse T.k_check_purse T.b_check_purse .nil pass0 (pa_cons (pv 0) (pa_cons (pv 1) pa_nil))))
      (pss_cons (ps_expr (pe_call G_check_wish (hr.mono (by decide)) (by rfl) T.g_check_wish T.k_check_wish T.b_check_wish .nil pass0 (pa_cons (pv 0) (pa_cons (pv 2) pa_nil))))
      (pss_cons (ps_if (PW.pt (pw_or (pt_not (pt_val (pe_callB call_isi (by rfl) T.z_isinstance (by decide +kernel) (pa_cons (pv 3) (pa_cons (pe_bltn (v := .ty "list") (u := .type "list") (by rfl) T.z_list (by decide +kernel) rfl) pa_nil))))) (pw_or1 (pt_cmpR op_notN (pe_call G_deal_fault (hr.mono (by decide)) (by rfl) T.g_deal_fault T.k_deal_fault T.b_deal_fault .nil pass0 (pa_cons (pv 0) (pa_cons (pv 3) pa_nil))) pe_non (nomark _)))))
        (pss_one (ps_ret pe_bl))
        pss_nil)
      (pss_cons (ps_set (i := 4) sc_is_deal.nd rfl (by first | exact Or.inl rfl | exact Or.inr rfl) (pe_ix ix_tup (pe_call G_played (hr.mono (by decide)) (by rfl) T.g_played T.k_played T.b_played .nil pass0 (pa_cons (pv 0) (pa_cons (pv 1) (pa_cons (pv 3) pa_nil)))) pe_int (fun _ _ => rfl)))
      (pss_one (ps_ret (pe_not (pe_callB (cr_any rfl) (by rfl) T.z_any (by decide +kernel) (pa_cons (pe_lc (own := [("has", 5), ("least", 6)]) (g := gTup K 2 (gCons (gName 5) (gCons (gName 6) (gNil)))) rfl sc_is_deal.nd (My.pi_zipM (by rfl) T.z_zip (pa_cons (pv 4) (pa_cons (pv 2) pa_nil))) (blkOk_by (own := [("has", 5), ("least", 6)]) (N := N_is_deal) (sc := defScope s_is_deal) (by decide +kernel)) (fun _ _ _ _ _ => (pg_tup rfl (pgs_cons (pg_name (i := 5) sc_is_deal.nd rfl (by first | exact Or.inl rfl | exact Or.inr rfl)) (pgs_cons (pg_name (i := 6) sc_is_deal.nd rfl (by first | exact Or.inl rfl | exact Or.inr rfl)) pgs_nil)))) (fun _ _ _ _ _ => pts_nil) (fun _ _ _ _ _ => (pe_call G_lies_below (hr.mono (by decide)) (by rfl) T.g_lies_below T.k_lies_below T.b_lies_below .nil pass0 (pa_cons (pv 5) (pa_cons (pv 6) pa_nil))))) pa_nil))))))))), ?_⟩
    walk_at "r"
    refine ⟨x, p, n, ss, rs, rfl, hw, hp, hn, n8, h0, fun H1 s1 => ?_⟩
    walk_at "r"
    refine ⟨x, wv, n, ss, ws, rfl, hw.same s1, hwv.same s1, hn2, n8, fun r hr => (hw0 r hr).1, fun H2 s2 => ?_⟩
    have k2 := s1.trans s2
    walk_at "r"
    rcases h with ⟨tt, R, M, N, hL, hms, h200, pl, bM, bN, hR, hsum, q⟩ | ⟨hL, q⟩ | ⟨hL, hms, h200, hv, q⟩
    · refine isi_lst_lst (k2 _ _ hL) ?_
      walk_at "r"
      refine ⟨x, _, n, ss, ms, false, rfl, hw.same k2, ⟨L, ys, rfl, .inl (by simpa using k2 _ _ hL), Paired.mapP hms fun _ _ h => h.same k2⟩, by simpa using h200, pl.vm, fun H3 s3 => ?_⟩
      have k3 := k2.trans s3
      rw [if_neg Bool.false_ne_true]
      refine ⟨rfl, ?_⟩
      walk_at "r"
      refine ⟨x, p, _, n, ss, tt, rs, ms, M, N, rfl, hw.same k3, hp.same k3, hn, fun r hr => ⟨h0 r hr, (hR r hr).mono (by omega)⟩, ⟨L, ys, rfl, .inl (k3 _ _ hL), Paired.mapP hms fun _ _ h => h.same k3⟩, h200, pl, ok, bM, bN, by omega, fun H4 v4 s4 h4 => ?_⟩
      obtain ⟨p4, u4, t4, rfl, hp4, hu4, ⟨a4, zs, rfl, ha4, hz⟩⟩ := h4
      have k4 := k3.trans s4
      obtain ⟨Lw, yw, rfl, hLw, hfw⟩ := hwv.same k4
      walk_at "r"
      refine rd_zipM ?_
      walk_at "r"
      have lz := hz.len
      have lw := hfw.len
      have lh : (hasAt n rs ss tt).length = n := by simp [hasAt]
      refine ⟨a4, Lw, zs, yw, rfl, .of ha4, ?_⟩
      refine lc_zipM (R := fun H v (b : Bool) => v = .bl b) (fun _ _ _ _ _ h => h) (f := fun i => some (decide (rs.getD i 0 + (heldAt ss i - heldAt tt i) < ws.getD i 0))) (by omega) (by omega) (.of ha4) (sq_or hLw) (fun i v u hv hu H' Q' N' s5 hy hn' T2 nT => ?_) (fun D H' hlst => ?_) rfl
      · obtain ⟨r, hr1, hr2⟩ := Paired.at hz hv
        obtain ⟨r', hr3, hr4⟩ := Paired.at hfw hu
        have hi : i < n := by
          have := (List.getElem?_eq_some_iff.mp hr1).1
          omega
        have er : r = rs.getD i 0 + (heldAt ss i - heldAt tt i) := by
          simp [hasAt, hi] at hr1
          exact hr1.symm
        have ew : r' = ws.getD i 0 := by
          rw [List.getD_eq_getElem?_getD, hr3]
          rfl
        have bw : Bd 4000 r' := (hw0 r' (List.mem_of_getElem? hr3)).2
        have brs : Bd R (rs.getD i 0) := by
          have : rs[i]? = some (rs[i]'(by omega)) := List.getElem?_eq_getElem (by omega)
          rw [List.getD_eq_getElem?_getD, this]
          exact hR _ (List.getElem_mem _)
        have br : Bd 4000 r := by
          rw [er]
          exact (brs.add ((bM.held i).sub (bN.held i))).mono (by omega)
        have sm := same_upd (o := .tup [v, u]) nT
        walk_at "r"
        refine ⟨rfl, ?_⟩
        walk_at "r"
        refine ⟨v, u, r, r', rfl, (hr2.same s5).same sm, (hr4.same s5).same sm, br, bw, ?_⟩
        rw [er, ew]
        exact hy _ _ _ rfl sm rfl
      · obtain ⟨s5, bs, hD, hbs⟩ := hlst
        rw [upTo_map, show zs.length = n by omega] at hbs
        have e := bools_of hbs
        subst e
        walk_at "r"
        refine ⟨D, _, rfl, .of hD, ?_⟩
        walk_at "r"
        exact q _ (k4.trans s5)
    · refine isi_tup_lst (k2 _ _ hL) ?_
      walk_at "r"
      exact q _ k2
    · refine isi_lst_lst (k2 _ _ hL) ?_
      walk_at "r"
      refine ⟨x, _, n, ss, ms, true, rfl, hw.same k2, ⟨L, ys, rfl, .inl (by simpa using k2 _ _ hL), Paired.mapP hms fun _ _ h => h.same k2⟩, by simpa using h200, hv, fun H3 s3 => ?_⟩
      have k3 := k2.trans s3
      rw [if_pos rfl]
      refine ⟨rfl, ?_⟩
      walk_at "r"
      rw [decide_eq_false (show ¬ V.int (ms.length : Nat) = V.non from fun z => by cases z)]
      walk_at "r"
      exact q _ k3
end
end My
namespace My
open PySem PySem.Spec PyProof.Rows L2
variable {K : PySem.W.Frag}
theorem divInt_ge {t b : Int} (ht : 0 ≤ t) (hb : 0 < b) : 0 ≤ Rat.divInt t b := by
  rcases Int.lt_or_eq_of_le ht with h | h
  · exact Rat.le_of_lt (divInt_pos h hb)
  · rw [← h, Rat.zero_divInt]
    exact Rat.le_refl
theorem has_at {n : Nat} {rs : List Rat} {ss tt : List Stl} {w : Nat} (h : w < n) : (hasAt n rs ss tt).getD w 0 = rs.getD w 0 + (heldAt ss w - heldAt tt w) := by
  unfold hasAt
  rw [List.getD_eq_getElem?_getD, List.getElem?_map, List.getElem?_range h]
  rfl
end My
namespace My
open PySem PySem.Spec PyProof.Rows L2
variable {K : PySem.W.Frag}
/-- a move that was drawn -/
def Dm (k : Nat) (ss : List Stl) (m : Mv) : Prop := ∃ s, ss[m.i]? = some s ∧ (m.w = s.u ∨ m.w = s.v) ∧ 0 < m.x ∧ Bd k m.x
theorem IsM.ts {H H' : Hp} {v : V} {m : Mv} (f : Tps H H') (h : IsM K H v m) : IsM K H' v m := IsMv.ts f h
theorem IsM.fw {M c : Nat} {D C : Addr} {H H' : Hp} {v : V} {m : Mv} (f : Fw D H H') (d : Deck M D C H c) (h : IsM K H v m) : IsM K H' v m := IsMv.fw f d h
section
variable {P : Program} {w : World} {K : PySem.W.Frag} {mg : Str → Option Value} {base : Heap} {f_is_integer f_is_row f_is_fraction f_is_amount f_is_some f_are_amounts f_added f_negated f_lessened f_multiplied f_divided f_squared f_summed f_lies_below f_is_stall f_hold_of f_stalls_of f_kept_of f_held f_is_index f_is_move f_check_purse f_check_wish f_stall_led f_stall_behind f_stalls_behind f_deal_fault f_check_deal f_web_behind f_left_with f_played f_owes f_is_deal f_stands_alike f_check_alike f_change_of f_l_deck f_l_pick f_l_fold f_l_divisor f_l_made f_l_amount f_l_stall f_l_deep f_l_odd f_l_row f_l_bad_row f_l_move f_l_bad_deal f_l_is_some f_l_is_row f_l_is_below f_l_is_move f_l_due f_l_answer f_l_word f_l_word_is_due f_law f_BadDeal_init f_Web_init f_Web_eq c_BadPurse c_BadWish c_BadDeal c_Web c_ZERO : Addr} {d_is_integer d_is_row d_is_fraction d_is_amount d_is_some d_are_amounts d_added d_negated d_lessened d_multiplied d_divided d_squared d_summed d_lies_below d_is_stall d_hold_of d_stalls_of d_kept_of d_held d_is_index d_is_move d_check_purse d_check_wish d_stall_led d_stall_behind d_stalls_behind d_deal_fault d_check_deal d_web_behind d_left_with d_played d_owes d_is_deal d_stands_alike d_check_alike d_change_of d_l_deck d_l_pick d_l_fold d_l_divisor d_l_made d_l_amount d_l_stall d_l_deep d_l_odd d_l_row d_l_bad_row d_l_move d_l_bad_deal d_l_is_some d_l_is_row d_l_is_below d_l_is_move d_l_due d_l_answer d_l_word d_l_word_is_due d_law d_BadDeal_init d_Web_init d_Web_eq : FuncData}
def sp_am (K : PySem.W.Frag) (M n k : Nat) : Sp := fun vs H Q _ => ∃ (D C : Addr) (c : Nat), vs = [.ref D] ∧ Deck M D C H c ∧ c ≤ 2 ^ 39 ∧ ∀ H' v r, Fw D H H' → Deck M D C H' (c + n) → IsF K H' v r → Bd k r → 0 < r → Q v H'
theorem ok_l_amount {M : Nat} (hM : 64 ≤ M) (hM2 : M ≤ 1048576) (T : Txt K mg f_is_integer f_is_row f_is_fraction f_is_amount f_is_some f_are_amounts f_added f_negated f_lessened f_multiplied f_divided f_squared f_summed f_lies_below f_is_stall f_hold_of f_stalls_of f_kept_of f_held f_is_index f_is_move f_check_purse f_check_wish f_stall_led f_stall_behind f_stalls_behind f_deal_fault f_check_deal f_web_behind f_left_with f_played f_owes f_is_deal f_stands_alike f_check_alike f_change_of f_l_deck f_l_pick f_l_fold f_l_divisor f_l_made f_l_amount f_l_stall f_l_deep f_l_odd f_l_row f_l_bad_row f_l_move f_l_bad_deal f_l_is_some f_l_is_row f_l_is_below f_l_is_move f_l_due f_l_answer f_l_word f_l_word_is_due f_law f_BadDeal_init f_Web_init f_Web_eq c_BadPurse c_BadWish c_BadDeal c_Web c_ZERO d_is_integer d_is_row d_is_fraction d_is_amount d_is_some d_are_amounts d_added d_negated d_lessened d_multiplied d_divided d_squared d_summed d_lies_below d_is_stall d_hold_of d_stalls_of d_kept_of d_held d_is_index d_is_move d_check_purse d_check_wish d_stall_led d_stall_behind d_stalls_behind d_deal_fault d_check_deal d_web_behind d_left_with d_played d_owes d_is_deal d_stands_alike d_check_alike d_change_of d_l_deck d_l_pick d_l_fold d_l_divisor d_l_made d_l_amount d_l_stall d_l_deep d_l_odd d_l_row d_l_bad_row d_l_move d_l_bad_deal d_l_is_some d_l_is_row d_l_is_below d_l_is_move d_l_due d_l_answer d_l_word d_l_word_is_due d_law d_BadDeal_init d_Web_init d_Web_eq) : FnOk P w K mg base CX0 3 f_l_amount d_l_amount ["_law_deck_here"] (sp_am K M 2 3) := by
  have G_l_pick : FnOk P w K mg base CX0 1 f_l_pick d_l_pick ["_law_deck_here", "_law_many"] (sp_pick M) := ok_pick hM hM2 T
  have G_l_made : FnOk P w K mg base CX0 2 f_l_made d_l_made ["_law_top", "_law_bottom"] (sp_made K) := ok_l_made T
  refine T.F_l_amount.ok sc_l_amount (fun vs H Q E h => ?_) (fun cdv A outer s H vs Q E hr h => ?_)
  · obtain ⟨D, C, c, rfl, _⟩ := h
    rfl
  · obtain ⟨D, C, c, rfl, dk, hc, q⟩ := h
    refine ⟨_, (pss_one (ps_ret (pe_call G_l_made (hr.mono (by decide)) (by rfl) T.g_l_made T.k_l_made T.b_l_made .nil pass0 (pa_cons (pe_op op_add pe_int (pe_call G_l_pick (hr.mono (by decide)) (by rfl) T.g_l_pick T.k_l_pick T.b_l_pick .nil pass0 (pa_cons (pv 0) (pa_cons pe_int pa_nil)))) (pa_cons (pe_op op_add pe_int (pe_call G_l_pick (hr.mono (by decide)) (by rfl) T.g_l_pick T.k_l_pick T.b_l_pick .nil pass0 (pa_cons (pv 0) (pa_cons pe_int pa_nil)))) pa_nil))))), ?_⟩
    walk_at "r"
    refine ⟨_, _, _, _, rfl, ⟨by decide, by decide⟩, dk, by omega, fun H1 r1 w1 k1 a1 b1 => ?_⟩
    walk_at "r"
    refine ⟨_, _, _, _, rfl, ⟨by decide, by decide⟩, k1, by omega, fun H2 r2 w2 k2 a2 b2 => ?_⟩
    walk_at "r"
    have hb : (1 + r2).natAbs < 2 ^ 3 := by omega
    refine ⟨_, _, rfl, by omega, Nat.lt_of_lt_of_le hb (pow_le (by decide)), fun H3 v s3 hv => ?_⟩
    exact q _ _ _ ((w1.trans w2).trans (Same.fw s3)) (k2.same s3) hv (Bd.divInt (by omega) (by omega) hb) (divInt_pos (by omega) (by omega))
def sp_lstall (K : PySem.W.Frag) (M m : Nat) : Sp := fun vs H Q _ => ∃ (D C : Addr) (c n : Nat), vs = [.ref D, .int (n : Nat)] ∧ 2 ≤ n ∧ n ≤ 8 ∧ Deck M D C H c ∧ c ≤ 2 ^ 38 ∧ ∀ H' v s, Fw D H H' → Deck M D C H' (c + m) → IsSt K H' v s → OkSt n s → BdSt 6 s → Bd 3 s.r → Q v H'
theorem ok_l_stall {M : Nat} (hM : 64 ≤ M) (hM2 : M ≤ 1048576) (T : Txt K mg f_is_integer f_is_row f_is_fraction f_is_amount f_is_some f_are_amounts f_added f_negated f_lessened f_multiplied f_divided f_squared f_summed f_lies_below f_is_stall f_hold_of f_stalls_of f_kept_of f_held f_is_index f_is_move f_check_purse f_check_wish f_stall_led f_stall_behind f_stalls_behind f_deal_fault f_check_deal f_web_behind f_left_with f_played f_owes f_is_deal f_stands_alike f_check_alike f_change_of f_l_deck f_l_pick f_l_fold f_l_divisor f_l_made f_l_amount f_l_stall f_l_deep f_l_odd f_l_row f_l_bad_row f_l_move f_l_bad_deal f_l_is_some f_l_is_row f_l_is_below f_l_is_move f_l_due f_l_answer f_l_word f_l_word_is_due f_law f_BadDeal_init f_Web_init f_Web_eq c_BadPurse c_BadWish c_BadDeal c_Web c_ZERO d_is_integer d_is_row d_is_fraction d_is_amount d_is_some d_are_amounts d_added d_negated d_lessened d_multiplied d_divided d_squared d_summed d_lies_below d_is_stall d_hold_of d_stalls_of d_kept_of d_held d_is_index d_is_move d_check_purse d_check_wish d_stall_led d_stall_behind d_stalls_behind d_deal_fault d_check_deal d_web_behind d_left_with d_played d_owes d_is_deal d_stands_alike d_check_alike d_change_of d_l_deck d_l_pick d_l_fold d_l_divisor d_l_made d_l_amount d_l_stall d_l_deep d_l_odd d_l_row d_l_bad_row d_l_move d_l_bad_deal d_l_is_some d_l_is_row d_l_is_below d_l_is_move d_l_due d_l_answer d_l_word d_l_word_is_due d_law d_BadDeal_init d_Web_init d_Web_eq) : FnOk P w K mg base CX0 4 f_l_stall d_l_stall ["_law_deck_here", "_law_wares"] (sp_lstall K M 6) := by
  have G_l_pick : FnOk P w K mg base CX0 1 f_l_pick d_l_pick ["_law_deck_here", "_law_many"] (sp_pick M) := ok_pick hM hM2 T
  have G_l_made : FnOk P w K mg base CX0 2 f_l_made d_l_made ["_law_top", "_law_bottom"] (sp_made K) := ok_l_made T
  have G_l_amount : FnOk P w K mg base CX0 3 f_l_amount d_l_amount ["_law_deck_here"] (sp_am K M 2 3) := ok_l_amount hM hM2 T
  refine T.F_l_stall.ok sc_l_stall (fun vs H Q E h => ?_) (fun cdv A outer s H vs Q E hr h => ?_)
  · obtain ⟨D, C, c, n, rfl, _⟩ := h
    rfl
  · obtain ⟨D, C, c, n, rfl, hn2, hn8, dk, hc, q⟩ := h
    refine ⟨_, (pss_cons (ps_set (i := 2) sc_l_stall.nd rfl (by first | exact Or.inl rfl | exact Or.inr rfl) (pe_call G_l_pick (hr.mono (by decide)) (by rfl) T.g_l_pick T.k_l_pick T.b_l_pick .nil pass0 (pa_cons (pv 0) (pa_cons (pv 1) pa_nil))))
      (pss_cons (ps_set (i := 3) sc_l_stall.nd rfl (by first | exact Or.inl rfl | exact Or.inr rfl) (pe_call G_l_pick (hr.mono (by decide)) (by rfl) T.g_l_pick T.k_l_pick T.b_l_pick .nil pass0 (pa_cons (pv 0) (pa_cons (pe_op op_sub (pv 1) pe_int) pa_nil))))
      (C8.pss_cut (ps_if (pt_cmpR op_ge (pv 3) (pv 2) (nomark _))
        (pss_one (ps_set (i := 3) sc_l_stall.nd rfl (by first | exact Or.inl rfl | exact Or.inr rfl) (pe_op op_add (pv 3) pe_int)))
        pss_nil)
      (pss_cons (ps_set (i := 4) sc_l_stall.nd rfl (by first | exact Or.inl rfl | exact Or.inr rfl) (pe_call G_l_amount (hr.mono (by decide)) (by rfl) T.g_l_amount T.k_l_amount T.b_l_amount .nil pass0 (pa_cons (pv 0) pa_nil)))
      (pss_cons (ps_set (i := 5) sc_l_stall.nd rfl (by first | exact Or.inl rfl | exact Or.inr rfl) (pe_call G_l_amount (hr.mono (by decide)) (by rfl) T.g_l_amount T.k_l_amount T.b_l_amount .nil pass0 (pa_cons (pv 0) pa_nil)))
      (pss_cons (ps_set (i := 6) sc_l_stall.nd rfl (by first | exact Or.inl rfl | exact Or.inr rfl) (pe_call G_l_made (hr.mono (by decide)) (by rfl) T.g_l_made T.k_l_made T.b_l_made .nil pass0 (pa_cons (pe_op op_mulX (pe_ix ix_tup (pv 4) pe_int (fun _ _ => rfl)) (pe_ix ix_tup (pv 5) pe_int (fun _ _ => rfl))) (pa_cons (pe_op op_mulX (pe_ix ix_tup (pv 4) pe_int (fun _ _ => rfl)) (pe_ix ix_tup (pv 5) pe_int (fun _ _ => rfl))) pa_nil))))
      (pss_one (ps_ret (pe_tup (pa_cons (pv 2) (pa_cons (pv 3) (pa_cons (pv 6) (pa_cons (pe_call G_l_made (hr.mono (by decide)) (by rfl) T.g_l_made T.k_l_made T.b_l_made .nil pass0 (pa_cons (pe_op op_mulX (pe_ix ix_tup (pv 4) pe_int (fun _ _ => rfl)) (pe_ix ix_tup (pv 5) pe_int (fun _ _ => rfl))) (pa_cons (pe_op op_mulX (pe_ix ix_tup (pv 4) pe_int (fun _ _ => rfl)) (pe_ix ix_tup (pv 5) pe_int (fun _ _ => rfl))) pa_nil))) (pa_cons (pv 4) pa_nil)))))))))))))), ?_⟩
    walk_at "r"
    refine ⟨_, _, _, _, rfl, ⟨by omega, by omega⟩, dk, by omega, fun H1 r1 w1 k1 a1 b1 => ?_⟩
    walk_at "r"
    refine ⟨_, _, _, _, rfl, ⟨by omega, by omega⟩, k1, by omega, fun H2 r2 w2 k2 a2 b2 => ?_⟩
    have w2 := w1.trans w2
    walk_at "r"
    refine ⟨fun σ H' => ∃ (u v : Nat) (t4 t5 t6 : Option V), σ = [some (.ref D), some (.int (n : Nat)), some (.int (u : Nat)), some (.int (v : Nat)), t4, t5, t6] ∧ H' = H2 ∧ u < n ∧ v < n ∧ u ≠ v, ?_, ?_⟩
    · walk_at "r"
      walk_at "if"
      · rename_i h
        walk_at "r"
        refine ⟨r1.toNat, (r2 + 1).toNat, none, none, none, ?_, rfl, by omega, by omega, by omega⟩
        rw [show ((r1.toNat : Nat) : Int) = r1 by omega, show (((r2 + 1).toNat : Nat) : Int) = r2 + 1 by omega]
        rfl
      · rename_i h
        walk_at "r"
        refine ⟨r1.toNat, r2.toNat, none, none, none, ?_, rfl, by omega, by omega, by omega⟩
        rw [show ((r1.toNat : Nat) : Int) = r1 by omega, show ((r2.toNat : Nat) : Int) = r2 by omega]
        rfl
    rintro σ H' ⟨u, v, t4, t5, t6, rfl, rfl, hu, hv, huv⟩
    walk_at "r"
    refine ⟨_, _, _, rfl, k2, by omega, fun H3 root r w3 k3 fr br r0 => ?_⟩
    walk_at "r"
    refine ⟨_, _, _, rfl, k3, by omega, fun H4 fac f w4 k4 ff bf f0 => ?_⟩
    have fr := fr.fw k3 w4
    have w4 := (w2.trans w3).trans w4
    have rd4 : ((r.den : Int)).natAbs < 2 ^ 3 := by rw [Int.natAbs_natCast]; exact br.2
    have fd4 : ((f.den : Int)).natAbs < 2 ^ 3 := by rw [Int.natAbs_natCast]; exact bf.2
    have rn0 := num_pos' r0
    have fn0 := num_pos' f0
    have rd0 := den_pos r
    have fd0 := den_pos f
    obtain ⟨pr1, rfl, hpr⟩ := id fr
    obtain ⟨pf1, rfl, hpf⟩ := id ff
    have p64 : ∀ {z : Int}, z.natAbs < 2 ^ 3 → z.natAbs < 2 ^ 64 := fun h => Nat.lt_of_lt_of_le h (pow_le (by decide))
    walk_at "r"
    rotate_left
    · exact cmul_small (p64 rd4) (p64 fd4)
    · exact cmul_small (p64 br.1) (p64 bf.1)
    refine ⟨_, _, rfl, Int.mul_pos rd0 fd0, Nat.lt_of_lt_of_le (mul_lt' rd4 fd4) (pow_le (by decide)), fun H5 one s5 h1 => ?_⟩
    rw [divInt_mul'] at h1
    have fr := fr.same s5
    have hpr := hpr.same s5
    have hpf := hpf.same s5
    walk_at "r"
    rotate_left
    · exact cmul_small (p64 rd4) (p64 bf.1)
    · exact cmul_small (p64 br.1) (p64 fd4)
    refine ⟨_, _, rfl, Int.mul_pos rd0 fn0, Nat.lt_of_lt_of_le (mul_lt' rd4 bf.1) (pow_le (by decide)), fun H6 other s6 h2 => ?_⟩
    walk_at "r"
    intro p7 n7
    have sm := same_upd (o := .tup [V.int (u : Nat), .int (v : Nat), one, other, .ref pr1]) n7
    refine q _ _ ⟨u, v, r * f, Rat.divInt (r.num * f.den) (r.den * f.num), r⟩ (w4.trans (Same.fw ((s5.trans s6).trans sm))) ((k4.same ((s5.trans s6).trans sm)).mono (by omega)) ⟨p7, one, other, .ref pr1, rfl, upd_same, (h1.same s6).same sm, h2.same sm, (fr.same s6).same sm⟩ ?_ ?_ ?_
    · exact ⟨hu, hv, huv, Rat.mul_pos r0 f0, divInt_pos (Int.mul_pos rn0 fd0) (Int.mul_pos rd0 fn0), r0, back_root r f f0⟩
    · exact ⟨br.mul bf, Bd.divInt (Int.ne_of_gt (Int.mul_pos rd0 fn0)) (mul_lt' br.1 fd4) (mul_lt' rd4 bf.1), br.mono (by decide)⟩
    · exact br
end
end My
namespace My
open PySem PySem.Spec PyProof.Rows L2
variable {K : PySem.W.Frag}
/-- what a stall holds of a ware, 0 for no ware of its own -/
def Stl.own (s : Stl) (w : Nat) : Rat := if s.at w = true then s.hold w else 0
theorem fold_add (l : List Rat) : ∀ a : Rat, l.foldl (· + ·) a = a + l.foldl (· + ·) 0 := by
  induction l with
  | nil => intro a; exact (Rat.add_zero a).symm
  | cons x l ih =>
    intro a
    rw [List.foldl_cons, List.foldl_cons, ih (a + x), ih (0 + x)]
    grind
theorem sumR_cons (a : Rat) (l : List Rat) : sumR (a :: l) = a + sumR l := by
  unfold sumR
  rw [List.foldl_cons, fold_add]
  grind
theorem held_cons (s : Stl) (ss : List Stl) (w : Nat) : heldAt (s :: ss) w = s.own w + heldAt ss w := by
  unfold heldAt at_ Stl.own
  rw [List.filter_cons]
  split
  · rw [List.map_cons, sumR_cons]
  · rw [Rat.zero_add]
theorem held_set {ss : List Stl} {i : Nat} {s t : Stl} {w : Nat} (h : ss[i]? = some s) : heldAt (ss.set i t) w = heldAt ss w - s.own w + t.own w := by
  induction ss generalizing i with
  | nil => simp at h
  | cons x l ih =>
    cases i with
    | zero =>
      have e : x = s := by simpa using h
      rw [List.set_cons_zero, held_cons, held_cons, e]
      grind
    | succ i =>
      have e : l[i]? = some s := by simpa using h
      rw [List.set_cons_succ, held_cons, held_cons, ih e]
      grind
theorem pay_at {l : List Rat} {s : Stl} {m : Mv} (h1 : m.w < l.length) (h2 : s.oth m.w < l.length) (hne : m.w ≠ s.oth m.w) {w : Nat} (hw : w < l.length) :
    (pay l s m)[w]? = some (l.getD w 0 + (if w = m.w then -m.x else if w = s.oth m.w then s.out (s.behind m.w m.x) m.w else 0)) := by
  have g : l[w]? = some (l.getD w 0) := by
    rw [List.getD_eq_getElem?_getD, List.getElem?_eq_getElem hw]
    rfl
  unfold pay
  simp only []
  by_cases e1 : w = m.w
  · subst e1
    rw [List.getElem?_set_ne (Ne.symm hne), List.getElem?_set_self h1, if_pos rfl, Rat.sub_eq_add_neg]
  · rw [if_neg e1]
    by_cases e2 : w = s.oth m.w
    · rw [if_pos e2, e2, List.getElem?_set_self (by rw [List.length_set]; exact h2)]
      rw [List.getD_eq_getElem?_getD, List.getElem?_set_ne hne, ← List.getD_eq_getElem?_getD]
    · rw [if_neg e2, List.getElem?_set_ne (Ne.symm e2), List.getElem?_set_ne (Ne.symm e1), g, Rat.add_zero]
theorem pay_len (l : List Rat) (s : Stl) (m : Mv) : (pay l s m).length = l.length := by
  unfold pay
  simp
theorem own_diff {n : Nat} {s : Stl} (ok : OkSt n s) {wn : Nat} (hw : wn = s.u ∨ wn = s.v) (x : Rat) (w : Nat) :
    s.own w - (s.behind wn x).own w = if w = wn then -x else if w = s.oth wn then s.out (s.behind wn x) wn else 0 := by
  have hne := ok.ne
  unfold Stl.own Stl.at Stl.hold Stl.oth Stl.out
  rw [behind_u, behind_v]
  by_cases e : wn = s.u
  · subst e
    have ea : (s.behind s.u x).a = s.a + x := by
      unfold Stl.behind
      rw [if_pos rfl]
      rfl
    rw [if_pos rfl, if_pos rfl, ea]
    by_cases c1 : w = s.u
    · simp [c1]
      grind
    · by_cases c2 : w = s.v
      · simp [c1, c2, Ne.symm hne]
      · simp [c1, c2]
        grind
  · have e' := hw.resolve_left e
    subst e'
    have eb : (s.behind s.v x).b = s.b + x := by
      unfold Stl.behind
      rw [if_neg e]
      rfl
    rw [if_neg e, if_neg e, eb]
    by_cases c1 : w = s.v
    · simp [c1, e]
      grind
    · by_cases c2 : w = s.u
      · simp [c2, hne]
      · simp [c1, c2]
        grind
theorem oth_lt {n : Nat} {s : Stl} (ok : OkSt n s) (wn : Nat) : s.oth wn < n := by
  unfold Stl.oth
  split
  · exact ok.v
  · exact ok.u
theorem oth_ne {n : Nat} {s : Stl} (ok : OkSt n s) {wn : Nat} : wn ≠ s.oth wn := by
  unfold Stl.oth
  split
  · rename_i e
    rw [e]
    exact ok.ne
  · assumption
theorem pay_has {n : Nat} {rs : List Rat} {ss uu : List Stl} {s : Stl} {m : Mv} (h : uu[m.i]? = some s) (ok : OkSt n s) (hw : m.w = s.u ∨ m.w = s.v) :
    pay (hasAt n rs ss uu) s m = hasAt n rs ss (uu.set m.i (s.behind m.w m.x)) := by
  have hl : ∀ tt : List Stl, (hasAt n rs ss tt).length = n := fun tt => by simp [hasAt]
  have wl : m.w < n := by
    rcases hw with z | z <;> rw [z]
    · exact ok.u
    · exact ok.v
  refine List.ext_getElem? fun w => ?_
  by_cases hwn : w < n
  · rw [pay_at (by rw [hl]; exact wl) (by rw [hl]; exact oth_lt ok _) (oth_ne ok) (by rw [hl]; exact hwn), has_at hwn, ← own_diff ok hw]
    have g : (hasAt n rs ss (uu.set m.i (s.behind m.w m.x)))[w]? = some (rs.getD w 0 + (heldAt ss w - heldAt (uu.set m.i (s.behind m.w m.x)) w)) := by
      unfold hasAt
      rw [List.getElem?_map, List.getElem?_range hwn]
      rfl
    rw [g, held_set h]
    congr 1
    grind
  · rw [List.getElem?_eq_none (by rw [pay_len, hl]; omega), List.getElem?_eq_none (by rw [hl]; omega)]
/-- bits of stalls, and of their roots -/
def Bts (R : Nat) (ss : List Stl) (ks : List Nat) : Prop := Paired (fun (s : Stl) (k : Nat) => BdSt k s ∧ Bd R s.r) ss ks
def Tk (ks : List Nat) : Nat := (ks.map (· + 1)).sum
theorem Tk_cons (k : Nat) (ks : List Nat) : Tk (k :: ks) = k + 1 + Tk ks := by
  unfold Tk
  rw [List.map_cons, List.sum_cons]
theorem behind_bd2 {k R l n : Nat} {s : Stl} (hs : OkSt n s) (h : BdSt k s) (hr : Bd R s.r) (wn : Nat) {y : Rat} (y0 : 0 < y) (b : Bd l y) : BdSt (k + (2 * R + l + 1)) (s.behind wn y) := by
  have a0 := hs.a
  have b0 := hs.b
  unfold Stl.behind
  split
  · have p : 0 < s.a + y := by grind
    exact ⟨(h.a.add b).mono (by omega), ((hr.mul hr).div (ne_of_pos p) (h.a.add b)).mono (by omega), h.r.mono (by omega)⟩
  · have p : 0 < s.b + y := by grind
    exact ⟨((hr.mul hr).div (ne_of_pos p) (h.b.add b)).mono (by omega), (h.b.add b).mono (by omega), h.r.mono (by omega)⟩
theorem Bts.at {R : Nat} {ss : List Stl} {ks : List Nat} (h : Bts R ss ks) : ∀ {i : Nat} {s : Stl}, ss[i]? = some s → ∃ k, ks[i]? = some k ∧ BdSt k s ∧ Bd R s.r ∧ k ≤ Tk ks := by
  unfold Bts at h
  induction h with
  | nil =>
    intro i s e
    simp at e
  | @cons x k xs ks h t ih =>
    intro i s e
    rw [Tk_cons]
    cases i with
    | zero =>
      have e : x = s := by simpa using e
      subst e
      exact ⟨k, rfl, h.1, h.2, by omega⟩
    | succ i =>
      obtain ⟨k', h1, h2, h3, h4⟩ := ih (by simpa using e)
      exact ⟨k', by simpa using h1, h2, h3, by omega⟩
theorem Bts.set {R : Nat} {ss : List Stl} {ks : List Nat} (h : Bts R ss ks) : ∀ {i : Nat} {t : Stl} {k d : Nat}, ks[i]? = some k → BdSt (k + d) t → Bd R t.r → Bts R (ss.set i t) (ks.set i (k + d)) ∧ Tk (ks.set i (k + d)) = Tk ks + d := by
  unfold Bts at *
  induction h with
  | nil =>
    intro i t k d e
    simp at e
  | @cons x k0 xs ks h t ih =>
    intro i t' k d e b1 b2
    cases i with
    | zero =>
      have e : k0 = k := by simpa using e
      subst e
      rw [List.set_cons_zero, List.set_cons_zero, Tk_cons, Tk_cons]
      exact ⟨.cons ⟨b1, b2⟩ t, by omega⟩
    | succ i =>
      obtain ⟨h1, h2⟩ := ih (i := i) (by simpa using e) b1 b2
      rw [List.set_cons_succ, List.set_cons_succ, Tk_cons, Tk_cons]
      exact ⟨.cons h h1, by omega⟩
theorem Bts.bl {R : Nat} {ss : List Stl} {ks : List Nat} (h : Bts R ss ks) : BL ss (1 + Tk ks) := by
  refine ⟨ks, ?_, Nat.le_refl _⟩
  unfold Bts at h
  induction h with
  | nil => exact .nil
  | cons h t ih => exact .cons h.1 ih
theorem bts_of {R k : Nat} {ss : List Stl} (h : ∀ s ∈ ss, BdSt k s ∧ Bd R s.r) : ∃ ks, Bts R ss ks ∧ Tk ks = ss.length * (k + 1) := by
  induction ss with
  | nil => exact ⟨[], .nil, by simp [Tk]⟩
  | cons s ss ih =>
    obtain ⟨ks, h1, h2⟩ := ih fun t ht => h t (by simp [ht])
    refine ⟨k :: ks, .cons (h s (by simp)) h1, ?_⟩
    rw [Tk_cons, h2, List.length_cons, Nat.add_mul]
    omega
theorem has_bd {n R M N : Nat} {rs : List Rat} {ss tt : List Stl} (hn : rs.length = n) (hr : ∀ r ∈ rs, Bd R r) (h1 : BL ss M) (h2 : BL tt N) : ∀ r ∈ hasAt n rs ss tt, Bd (R + (M + N + 1) + 1) r := fun r h => by
  obtain ⟨w, hw, rfl⟩ := List.mem_map.mp h
  exact (hr _ (getD_mem' (by rw [hn]; exact List.mem_range.mp hw))).add ((h1.held w).sub (h2.held w))
theorem has_same {n : Nat} {rs : List Rat} (hn : rs.length = n) (ss : List Stl) : hasAt n rs ss ss = rs := by
  refine List.ext_getElem? fun w => ?_
  by_cases hw : w < n
  · have g : (hasAt n rs ss ss)[w]? = some (rs.getD w 0 + (heldAt ss w - heldAt ss w)) := by
      unfold hasAt
      rw [List.getElem?_map, List.getElem?_range hw]
      rfl
    rw [g, List.getElem?_eq_getElem (by omega), List.getD_eq_getElem?_getD, List.getElem?_eq_getElem (by omega)]
    congr 1
    show rs[w] + _ = _
    grind
  · rw [List.getElem?_eq_none (by simp [hasAt]; omega), List.getElem?_eq_none (by omega)]
theorem dm_alk {k : Nat} {ss uu : List Stl} (a : Alk ss uu) {m : Mv} (h : Dm k ss m) : ∃ s, uu[m.i]? = some s ∧ (m.w = s.u ∨ m.w = s.v) ∧ 0 < m.x ∧ Bd k m.x := by
  obtain ⟨s, h1, h2, h3, h4⟩ := h
  have l := a.len
  have hi := (List.getElem?_eq_some_iff.mp h1).1
  have h5 : uu[m.i]? = some (uu[m.i]'(by omega)) := List.getElem?_eq_getElem (by omega)
  obtain ⟨a1, a2, _⟩ := a.at_ h1 h5
  exact ⟨_, h5, by rw [← a1, ← a2]; exact h2, h3, h4⟩
end My
namespace My
open PySem PySem.Spec PyProof.Rows L2
variable {K : PySem.W.Frag}
/-- a web's stalls behind moves -/
def mv1 (ss : List Stl) (m : Mv) : List Stl := match ss[m.i]? with
  | some s => ss.set m.i (s.behind m.w m.x)
  | none => ss
def after (ss : List Stl) (ms : List Mv) : List Stl := ms.foldl mv1 ss
theorem mv1_is {ss : List Stl} {m : Mv} {s : Stl} (h : ss[m.i]? = some s) : mv1 ss m = ss.set m.i (s.behind m.w m.x) := by
  unfold mv1
  rw [h]
theorem after_take {ss : List Stl} {ms : List Mv} {j : Nat} {m : Mv} (h : ms[j]? = some m) : after ss (ms.take (j + 1)) = mv1 (after ss (ms.take j)) m := by
  unfold after
  rw [take_at h, List.foldl_append]
  rfl
theorem after_app (ss : List Stl) (a b : List Mv) : after ss (a ++ b) = after (after ss a) b := by
  unfold after
  rw [List.foldl_append]
structure Aft (n R D : Nat) (ss tt : List Stl) (ms : List Mv) (ks ks' : List Nat) : Prop where
  pl : Plays n ss ms tt
  al : Alk ss tt
  ok : ∀ s ∈ tt, OkSt n s
  bt : Bts R tt ks'
  tk : Tk ks' = Tk ks + D * ms.length
theorem plays_of {n R l : Nat} {ms : List Mv} (hl : l ≤ 1900) : ∀ {ss : List Stl} {ks : List Nat}, (∀ m ∈ ms, Dm l ss m) → (∀ s ∈ ss, OkSt n s) → Bts R ss ks → Tk ks + (2 * R + l + 1) * ms.length ≤ 1900 →
    ∃ ks', Aft n R (2 * R + l + 1) ss (after ss ms) ms ks ks' := by
  induction ms with
  | nil =>
    intro ss ks hd ok bt hb
    exact ⟨ks, .nil, alk_refl _, ok, bt, by simp⟩
  | cons m ms ih =>
    intro ss ks hd ok bt hb
    rw [List.length_cons, Nat.mul_add, Nat.mul_one] at hb
    obtain ⟨s, hs, hw, x0, bx⟩ := hd m (by simp)
    obtain ⟨k, hk, bk, br, hkT⟩ := bt.at hs
    have oks := ok s (List.mem_of_getElem? hs)
    have bb : BdSt (k + (2 * R + l + 1)) (s.behind m.w m.x) := behind_bd2 oks bk br m.w x0 bx
    have a1 : Alk ss (ss.set m.i (s.behind m.w m.x)) := alk_set hs (alk_behind _ _ _)
    obtain ⟨c1, c2⟩ := bt.set hk bb (by rw [behind_r]; exact br)
    have ok1 : ∀ t ∈ ss.set m.i (s.behind m.w m.x), OkSt n t := fun t ht => by
      rcases List.mem_or_eq_of_mem_set ht with c | c
      · exact ok t c
      · rw [c]
        exact behind_ok oks _ x0
    obtain ⟨ks', h⟩ := ih (fun m' hm' => by
      obtain ⟨t, h1, h2, h3, h4⟩ := dm_alk a1 (hd m' (by simp [hm']))
      exact ⟨t, h1, h2, h3, h4⟩) ok1 c1 (by rw [c2]; omega)
    have e : after ss (m :: ms) = after (ss.set m.i (s.behind m.w m.x)) ms := by
      unfold after
      rw [List.foldl_cons, mv1_is hs]
    rw [e]
    refine ⟨ks', ⟨.cons hs hw x0 (bk.mono (by omega)) (bx.mono hl) (bb.mono (by omega)) h.pl, alk_trans a1 h.al, h.ok, h.bt, ?_⟩⟩
    rw [h.tk, c2, List.length_cons, Nat.mul_add, Nat.mul_one]
    omega
/-- moves of unlike stalls may be exchanged -/
theorem mv1_swap {ss : List Stl} {m1 m2 : Mv} (h : m1.i ≠ m2.i) : mv1 (mv1 ss m1) m2 = mv1 (mv1 ss m2) m1 := by
  unfold mv1
  cases e1 : ss[m1.i]? with
  | none =>
    cases e2 : ss[m2.i]? with
    | none => simp [e1, e2]
    | some s2 =>
      simp only [e2, List.getElem?_set_ne (Ne.symm h), e1]
  | some s1 =>
    cases e2 : ss[m2.i]? with
    | none => simp only [e1, List.getElem?_set_ne h, e2]
    | some s2 =>
      simp only [List.getElem?_set_ne h, List.getElem?_set_ne (Ne.symm h), e1, e2]
      exact List.set_comm _ _ h
theorem after_swap (ss : List Stl) (a b : List Mv) {m1 m2 : Mv} (h : m1.i ≠ m2.i) : after ss (a ++ [m2, m1] ++ b) = after ss (a ++ [m1, m2] ++ b) := by
  rw [after_app, after_app, after_app, after_app]
  congr 1
  exact mv1_swap (Ne.symm h)
end My
namespace My
open PySem PySem.Spec PyProof.Rows L2
variable {K : PySem.W.Frag}
theorem call_tuple_ofK {X : Cx} (h : X.K = K) : CallR X (.type "tuple") (fun xs H Q => ∃ p ys, xs = [.ref p] ∧ ((SqL K H p ys ∧ ∀ l, H l = none → Q (.ref l) (upd H l (.tup ys))) ∨ (SqT K H p ys ∧ Q (.ref p) H))) := h ▸ call_tuple_of
theorem frD_refl (r : Rat) : PyData.eqv (frD r) (frD r) = true := by rw [frD_eqv]; exact decide_eq_true rfl
theorem all_refl {α : Type} (f : α → PyData) (h : ∀ a, PyData.eqv (f a) (f a) = true) : ∀ l : List α, PyData.eqvAll (l.map f) (l.map f) = true
  | [] => rfl
  | a :: l => by
    show (PyData.eqv (f a) (f a) && PyData.eqvAll (l.map f) (l.map f)) = true
    rw [h, all_refl f h l]
    rfl
theorem all_lay {α : Type} (f : α → PyData) (h : ∀ a, PyData.canLay0 (f a) = true ∧ PyData.depth (f a) ≤ 2) : ∀ l : List α, PyData.canLayAll0 (l.map f) = true ∧ PyData.depthAll (l.map f) ≤ 2
  | [] => ⟨rfl, by show PyData.depthAll [] ≤ 2; decide⟩
  | a :: l => by
    obtain ⟨h1, h2⟩ := all_lay f h l
    obtain ⟨g1, g2⟩ := h a
    refine ⟨?_, ?_⟩
    · show (PyData.canLay0 (f a) && PyData.canLayAll0 (l.map f)) = true
      rw [h1, g1]
      rfl
    · show max (PyData.depth (f a)) (PyData.depthAll (l.map f)) ≤ 2
      omega
theorem shaped_list {α : Type} (f : α → PyData) (h : ∀ a, PyData.canLay0 (f a) = true ∧ PyData.depth (f a) ≤ 2) (l : List α) : SeqAt.shaped (.list (l.map f)) = true := by
  obtain ⟨h1, h2⟩ := all_lay f h l
  unfold SeqAt.shaped
  rw [Bool.and_eq_true]
  refine ⟨h1, decide_eq_true ?_⟩
  show PyData.depthAll (l.map f) + 1 ≤ 64
  omega
theorem shaped_tup {α : Type} (f : α → PyData) (h : ∀ a, PyData.canLay0 (f a) = true ∧ PyData.depth (f a) ≤ 2) (l : List α) : SeqAt.shaped (.tuple (l.map f)) = true := by
  obtain ⟨h1, h2⟩ := all_lay f h l
  unfold SeqAt.shaped
  rw [Bool.and_eq_true]
  refine ⟨h1, decide_eq_true ?_⟩
  show PyData.depthAll (l.map f) + 1 ≤ 64
  omega
theorem dps {α : Type} {R : Hp → V → α → Prop} {f : α → PyData} (hf : ∀ {H : Hp} {v : V} {a : α}, R H v a → Dp K H v (f a)) {H : Hp} {ys : List V} {as : List α} (h : Paired (R H) ys as) : DpAll K H ys (as.map f) := by
  induction h with
  | nil => exact .nil
  | cons h t ih => exact .cons (hf h) ih
theorem IsFs.dp {H : Hp} {v : V} {rs : List Rat} (h : IsFs K H v rs) : Dp K H v (.tuple (rs.map frD)) := by
  obtain ⟨L, ys, rfl, h1, h2⟩ := h
  exact .tup (.of h1) (dps (R := IsF K) (fun h => h.dp) h2)
theorem neFs {H : Hp} {v u : V} {rs : List Rat} {Q : VK} (h1 : IsFs K H v rs) (h2 : IsFs K H u rs) (q : Q (.bl false) H) : rNeD K v u H Q := by
  have sh := shaped_tup frD (fun m => ⟨rfl, Nat.le_succ 1⟩) rs
  refine ⟨_, _, h1.dp, h2.dp, sh, sh, ?_⟩
  rw [show PyData.eqv (.tuple (rs.map frD)) (.tuple (rs.map frD)) = true from all_refl frD frD_refl rs]
  exact q
theorem eqFs {H : Hp} {v u : V} {rs : List Rat} {Q : VK} (h1 : IsFs K H v rs) (h2 : IsFs K H u rs) (q : Q (.bl true) H) : rEqD K v u H Q := by
  have sh := shaped_tup frD (fun m => ⟨rfl, Nat.le_succ 1⟩) rs
  refine ⟨_, _, h1.dp, h2.dp, sh, sh, ?_⟩
  rw [show PyData.eqv (.tuple (rs.map frD)) (.tuple (rs.map frD)) = true from all_refl frD frD_refl rs]
  exact q
/-- own == and != of webs that are equal -/
theorem neWeb {C : Addr} {H : Hp} {v u : V} {n : Nat} {ss : List Stl} {Q : VK} (h1 : IsWeb K C H v n ss) (h2 : IsWeb K C H u n ss) (q : Q (.bl false) H) : rNeI C (BWeb K C) v u H Q := by
  obtain ⟨p, dx, t, xs, rfl, hp, _⟩ := id h1
  obtain ⟨p2, dx2, t2, xs2, rfl, hp2, _⟩ := id h2
  exact ⟨_, _, _, _, _, _, true, rfl, rfl, hp, hp2, ⟨n, n, _, _, h1, h2, by simp⟩, q⟩
theorem eqWeb {C : Addr} {H : Hp} {v u : V} {n : Nat} {ss : List Stl} {Q : VK} (h1 : IsWeb K C H v n ss) (h2 : IsWeb K C H u n ss) (q : Q (.bl true) H) : rEqI C (BWeb K C) v u H Q := by
  obtain ⟨p, dx, t, xs, rfl, hp, _⟩ := id h1
  obtain ⟨p2, dx2, t2, xs2, rfl, hp2, _⟩ := id h2
  exact ⟨_, _, _, _, _, _, true, rfl, rfl, hp, hp2, ⟨n, n, _, _, h1, h2, by simp⟩, q⟩
end My
namespace My
open PySem PySem.Spec PyProof.Rows L2
variable {K : PySem.W.Frag}
section
variable {P : Program} {w : World} {K : PySem.W.Frag} {mg : Str → Option Value} {base : Heap} {f_is_integer f_is_row f_is_fraction f_is_amount f_is_some f_are_amounts f_added f_negated f_lessened f_multiplied f_divided f_squared f_summed f_lies_below f_is_stall f_hold_of f_stalls_of f_kept_of f_held f_is_index f_is_move f_check_purse f_check_wish f_stall_led f_stall_behind f_stalls_behind f_deal_fault f_check_deal f_web_behind f_left_with f_played f_owes f_is_deal f_stands_alike f_check_alike f_change_of f_l_deck f_l_pick f_l_fold f_l_divisor f_l_made f_l_amount f_l_stall f_l_deep f_l_odd f_l_row f_l_bad_row f_l_move f_l_bad_deal f_l_is_some f_l_is_row f_l_is_below f_l_is_move f_l_due f_l_answer f_l_word f_l_word_is_due f_law f_BadDeal_init f_Web_init f_Web_eq c_BadPurse c_BadWish c_BadDeal c_Web c_ZERO : Addr} {d_is_integer d_is_row d_is_fraction d_is_amount d_is_some d_are_amounts d_added d_negated d_lessened d_multiplied d_divided d_squared d_summed d_lies_below d_is_stall d_hold_of d_stalls_of d_kept_of d_held d_is_index d_is_move d_check_purse d_check_wish d_stall_led d_stall_behind d_stalls_behind d_deal_fault d_check_deal d_web_behind d_left_with d_played d_owes d_is_deal d_stands_alike d_check_alike d_change_of d_l_deck d_l_pick d_l_fold d_l_divisor d_l_made d_l_amount d_l_stall d_l_deep d_l_odd d_l_row d_l_bad_row d_l_move d_l_bad_deal d_l_is_some d_l_is_row d_l_is_below d_l_is_move d_l_due d_l_answer d_l_word d_l_word_is_due d_law d_BadDeal_init d_Web_init d_Web_eq : FuncData}
def sp_lfold (K : PySem.W.Frag) : Sp := fun vs H Q _ => ∃ (a : Addr) (ns : List Int), vs = [.ref a] ∧ SqL K H a (ns.map V.int) ∧ ns.length ≤ 63 ∧ (∀ z ∈ ns, Builtin.Int.intBits z ≤ 1048576) ∧ ∀ H' r, Same H H' → 0 ≤ r → Q (.int r) H'
theorem ok_l_fold (T : Txt K mg f_is_integer f_is_row f_is_fraction f_is_amount f_is_some f_are_amounts f_added f_negated f_lessened f_multiplied f_divided f_squared f_summed f_lies_below f_is_stall f_hold_of f_stalls_of f_kept_of f_held f_is_index f_is_move f_check_purse f_check_wish f_stall_led f_stall_behind f_stalls_behind f_deal_fault f_check_deal f_web_behind f_left_with f_played f_owes f_is_deal f_stands_alike f_check_alike f_change_of f_l_deck f_l_pick f_l_fold f_l_divisor f_l_made f_l_amount f_l_stall f_l_deep f_l_odd f_l_row f_l_bad_row f_l_move f_l_bad_deal f_l_is_some f_l_is_row f_l_is_below f_l_is_move f_l_due f_l_answer f_l_word f_l_word_is_due f_law f_BadDeal_init f_Web_init f_Web_eq c_BadPurse c_BadWish c_BadDeal c_Web c_ZERO d_is_integer d_is_row d_is_fraction d_is_amount d_is_some d_are_amounts d_added d_negated d_lessened d_multiplied d_divided d_squared d_summed d_lies_below d_is_stall d_hold_of d_stalls_of d_kept_of d_held d_is_index d_is_move d_check_purse d_check_wish d_stall_led d_stall_behind d_stalls_behind d_deal_fault d_check_deal d_web_behind d_left_with d_played d_owes d_is_deal d_stands_alike d_check_alike d_change_of d_l_deck d_l_pick d_l_fold d_l_divisor d_l_made d_l_amount d_l_stall d_l_deep d_l_odd d_l_row d_l_bad_row d_l_move d_l_bad_deal d_l_is_some d_l_is_row d_l_is_below d_l_is_move d_l_due d_l_answer d_l_word d_l_word_is_due d_law d_BadDeal_init d_Web_init d_Web_eq) : FnOk P w K mg base CX0 1 f_l_fold d_l_fold ["_law_script"] (sp_lfold K) := by
  refine T.F_l_fold.ok sc_l_fold (fun vs H Q E h => ?_) (fun cdv A outer sh H vs Q E hr h => ?_)
  · obtain ⟨a, ns, rfl, _⟩ := h
    rfl
  · obtain ⟨a, ns, rfl, hS, hl, hb, q⟩ := h
    have hlen : (ns.map V.int).length = ns.length := List.length_map ..
    refine ⟨_, (pss_cons (ps_set (i := 1) sc_l_fold.nd rfl (by first | exact Or.inl rfl | exact Or.inr rfl) (pe_callB call_lenN (by rfl) T.z_len (by decide +kernel) (pa_cons (pv 0) pa_nil)))
      (pss_cons (ps_for PassesOwn.never rfl (pi_list (pe_slice sl_list (pv 0) po_none (po_some pe_int))) (pg_name (i := 2) sc_l_fold.nd rfl (by first | exact Or.inl rfl | exact Or.inr rfl))
        (pss_one (ps_set (i := 1) sc_l_fold.nd rfl (by first | exact Or.inl rfl | exact Or.inr rfl) (pe_op op_mod (pe_callTy call_intN (by rfl) T.z_int (by decide +kernel) (pa_cons (pe_op op_add (pe_op op_add (pe_op op_mulX (pv 1) pe_int) (pe_op op_mulX (pe_callTy call_intN (by rfl) T.z_int (by decide +kernel) (pa_cons (pv 2) pa_nil)) pe_int)) pe_int) pa_nil)) pe_int))))
      (pss_one (ps_ret (pe_op op_mod (pe_callTy call_intN (by rfl) T.z_int (by decide +kernel) (pa_cons (pe_op op_mulX (pv 1) (pe_op op_add (pe_op op_fdivX (pv 1) pe_int) pe_int)) pa_nil)) pe_int))))), ?_⟩
    walk_at "r"
    refine rd_lenS ?_ hS
    walk_at "r"
    refine rd_slL hS (fun p np => ?_)
    have s1 := same_upd (o := .lst (cutV (ns.map V.int) none (some 63))) np
    have hcut : cutV (ns.map V.int) none (some 63) = ns.map V.int := cut_all (n := 63) (by rw [hlen]; exact hl)
    have hp : upd H p (.lst (cutV (ns.map V.int) none (some 63))) p = some (.lst (ns.map V.int)) := by rw [hcut]; exact upd_same
    generalize upd H p (.lst (cutV (ns.map V.int) none (some 63))) = H1 at *
    refine ⟨_, rfl, ⟨_, .of hp⟩, ?_⟩
    refine for_list (K := K) (a := p) (xs := ns.map V.int) (fun i σ H' => ∃ (r : Int) (t2 : Option V), σ = [some (.ref a), some (.int r), t2] ∧ H' = H1 ∧ 0 ≤ r ∧ r < 2147483647) ?_ ?_ ?_ ?_
    · exact ⟨_, _, rfl, rfl, by omega, by omega⟩
    · rintro i σ H' _ ⟨r, t2, rfl, rfl, _⟩
      exact .of hp
    · rintro i x σ H' hx ⟨r, t2, rfl, rfl, r0, r1⟩
      obtain ⟨z, rfl, hz⟩ : ∃ z, x = .int z ∧ z ∈ ns := by
        rw [List.getElem?_map] at hx
        cases e : ns[i]? with
        | none =>
          rw [e] at hx
          cases hx
        | some z =>
          rw [e] at hx
          exact ⟨z, (Option.some.inj hx).symm, List.mem_of_getElem? e⟩
      have bz := bits_lt (hb z hz)
      walk_at "r"
      · have m := mod_rng (r * 48271 + z * 69621 + 1) (m := 2147483647) (by decide)
        exact ⟨_, _, rfl, rfl, m.1, m.2⟩
      · exact cmul_big bz (by decide) (by decide)
      · exact cmul_small (by omega) (by decide)
    · rintro σ H' ⟨r, t2, rfl, rfl, r0, r1⟩
      walk_at "r"
      · exact q _ _ s1 (mod_rng _ (by decide)).1
      · rw [Int.fdiv_eq_ediv_of_nonneg _ (by decide)]
        have e := Int.ediv_le_self 1009 r0
        have e0 := Int.ediv_nonneg r0 (show (0 : Int) ≤ 1009 by decide)
        exact cmul_small (by omega) (by omega)
end
end My
namespace My
open PySem PySem.Spec PyProof.Rows L2
variable {K : PySem.W.Frag}
theorem out_pos' {a b k y : Rat} (a0 : 0 < a) (b0 : 0 < b) (y0 : 0 < y) (e : a * b = k) : 0 < b - k / (a + y) := by
  have x0 : 0 < a + y := by grind
  have hx : a + y ≠ 0 := by grind
  have e1 := mul_div_self (k := k) hx
  generalize k / (a + y) = q at *
  have h2 := Rat.mul_pos y0 b0
  by_cases h : 0 < b - q
  · exact h
  · exfalso
    have h3 : 0 ≤ q - b := by grind
    have h1 := Rat.mul_nonneg (Rat.le_of_lt x0) h3
    grind
theorem out_pos {n : Nat} {s : Stl} (h : OkSt n s) {wn : Nat} (hw : wn = s.u ∨ wn = s.v) {y : Rat} (y0 : 0 < y) : 0 < s.out (s.behind wn y) wn := by
  by_cases e : wn = s.u
  · unfold Stl.out Stl.behind
    rw [if_pos e, if_pos e]
    exact out_pos' h.a h.b y0 h.e
  · unfold Stl.out Stl.behind
    rw [if_neg e, if_neg e]
    exact out_pos' h.b h.a y0 ((Rat.mul_comm _ _).trans h.e)
/-- what the customer has of a ware behind so many moves -/
def hs (n : Nat) (rs : List Rat) (ss : List Stl) (ms : List Mv) (j w : Nat) : Rat := (hasAt n rs ss (after ss (ms.take j))).getD w 0
def Owe (n : Nat) (rs : List Rat) (ss : List Stl) (ms : List Mv) : Option (Nat × Nat) → Prop
  | none => ∀ j, j ≤ ms.length → ∀ w, w < n → 0 ≤ hs n rs ss ms j w
  | some (j, w) => j < ms.length ∧ w < n ∧ hs n rs ss ms (j + 1) w < 0 ∧ (∀ v, v < w → 0 ≤ hs n rs ss ms (j + 1) v) ∧ ∀ i, i ≤ j → ∀ v, v < n → 0 ≤ hs n rs ss ms i v
theorem not_both {x : Rat} (h1 : 0 ≤ x) (h2 : x < 0) : False := by grind
theorem owe_one {n : Nat} {rs : List Rat} {ss : List Stl} {ms : List Mv} : ∀ {o1 o2 : Option (Nat × Nat)}, Owe n rs ss ms o1 → Owe n rs ss ms o2 → o1 = o2
  | none, none, _, _ => rfl
  | none, some (j, w), h1, ⟨a, b, c, _⟩ => (not_both (h1 (j + 1) a w b) c).elim
  | some (j, w), none, ⟨a, b, c, _⟩, h2 => (not_both (h2 (j + 1) a w b) c).elim
  | some (j, w), some (j', w'), ⟨a, b, c, d, e⟩, ⟨a', b', c', d', e'⟩ => by
    rcases Nat.lt_trichotomy j j' with h | h | h
    · exact (not_both (e' (j + 1) h w b) c).elim
    · subst h
      rcases Nat.lt_trichotomy w w' with h | h | h
      · exact (not_both (d' w h) c).elim
      · rw [h]
      · exact (not_both (d w' h) c').elim
    · exact (not_both (e (j' + 1) h w' b') c').elim
/-- moves that go on, within bounds -/
structure Run (n : Nat) (ss : List Stl) (ms : List Mv) : Prop where
  st : ∀ j m, ms[j]? = some m → ∃ s, (after ss (ms.take j))[m.i]? = some s ∧ OkSt n s ∧ (m.w = s.u ∨ m.w = s.v) ∧ 0 < m.x ∧ BdSt 1700 s ∧ Bd 3 s.r ∧ Bd 90 m.x ∧ Bd 3400 (s.out (s.behind m.w m.x) m.w)
  al : ∀ j, Alk ss (after ss (ms.take j))
  bl : ∀ j, BL (after ss (ms.take j)) 1650
theorem hs_next {n : Nat} {rs : List Rat} {ss : List Stl} {ms : List Mv} {j : Nat} {m : Mv} {s : Stl} (hm : ms[j]? = some m) (h : (after ss (ms.take j))[m.i]? = some s) (ok : OkSt n s) (hw : m.w = s.u ∨ m.w = s.v) {w : Nat} (hwn : w < n) :
    hs n rs ss ms (j + 1) w = hs n rs ss ms j w + (if w = m.w then -m.x else if w = s.oth m.w then s.out (s.behind m.w m.x) m.w else 0) := by
  unfold hs
  rw [has_at hwn, has_at hwn, after_take hm, mv1_is h, held_set h, ← own_diff ok hw]
  grind
theorem hs_up {n : Nat} {rs : List Rat} {ss : List Stl} {ms : List Mv} {j : Nat} {m : Mv} {s : Stl} (hm : ms[j]? = some m) (h : (after ss (ms.take j))[m.i]? = some s) (ok : OkSt n s) (hw : m.w = s.u ∨ m.w = s.v) (x0 : 0 < m.x) {w : Nat} (hwn : w < n) (ne : w ≠ m.w)
    (h0 : 0 ≤ hs n rs ss ms j w) : 0 ≤ hs n rs ss ms (j + 1) w := by
  have p := out_pos ok hw x0
  rw [hs_next hm h ok hw hwn, if_neg ne]
  split <;> grind
theorem hs_zero {n : Nat} {rs : List Rat} {ss : List Stl} {ms : List Mv} (hn : rs.length = n) (w : Nat) : hs n rs ss ms 0 w = rs.getD w 0 := by
  show (hasAt n rs ss ss).getD w 0 = _
  rw [has_same hn]
theorem hs_is {n : Nat} {rs : List Rat} {ss : List Stl} {ms : List Mv} {j w : Nat} (h : w < n) : hs n rs ss ms j w = rs.getD w 0 + (heldAt ss w - heldAt (after ss (ms.take j)) w) := has_at h
theorem run_of {n : Nat} {ss : List Stl} {ms : List Mv} {ks : List Nat} (hd : ∀ m ∈ ms, Dm 31 ss m) (hok : ∀ s ∈ ss, OkSt n s) (bts : Bts 3 ss ks) (hT : Tk ks ≤ 112) (hl : ms.length ≤ 40) : Run n ss ms := by
  have fact : ∀ j, ∃ ks', Aft n 3 38 ss (after ss (ms.take j)) (ms.take j) ks ks' := fun j =>
    plays_of (R := 3) (l := 31) (by decide) (fun m hm => hd m (List.mem_of_mem_take hm)) hok bts (by rw [List.length_take]; omega)
  refine ⟨fun j m hm => ?_, fun j => ?_, fun j => ?_⟩
  · obtain ⟨ks', af⟩ := fact j
    have htk := af.tk
    have hj : j < ms.length := (List.getElem?_eq_some_iff.mp hm).1
    rw [List.length_take, Nat.min_eq_left (by omega)] at htk
    obtain ⟨s, hs, hw, x0, bx⟩ := dm_alk af.al (hd m (List.mem_of_getElem? hm))
    obtain ⟨k, hk, bk, br, hkT⟩ := af.bt.at hs
    have oks := af.ok s (List.mem_of_getElem? hs)
    have bb : BdSt (k + 38) (s.behind m.w m.x) := behind_bd2 oks bk br m.w x0 bx
    exact ⟨s, hs, oks, hw, x0, bk.mono (by omega), br, bx.mono (by decide), (out_bd bk bb).mono (by omega)⟩
  · obtain ⟨ks', af⟩ := fact j
    exact af.al
  · obtain ⟨ks', af⟩ := fact j
    have htk := af.tk
    rw [List.length_take] at htk
    exact af.bt.bl.mono (by omega)
theorem hb_of {n R : Nat} {rs : List Rat} {ss : List Stl} {ms : List Mv} {M : Nat} (hn : rs.length = n) (hr : ∀ r ∈ rs, Bd R r) (b : BL ss M) (run : Run n ss ms) (h : R + M ≤ 140) : ∀ j, ∀ r ∈ hasAt n rs ss (after ss (ms.take j)), Bd 1800 r := fun j r h' =>
  (has_bd hn hr b (run.bl j) r h').mono (by omega)
/-- what is owed, told -/
def IsOwe (H : Hp) (v : V) : Option (Nat × Nat) → Prop
  | none => v = .non
  | some (j, w) => ∃ p, v = .ref p ∧ H p = some (.tup [.int (j : Nat), .int (w : Nat)])
theorem IsOwe.same {H H' : Hp} {v : V} {o : Option (Nat × Nat)} (h : IsOwe H v o) (s : Same H H') : IsOwe H' v o := by
  match o, h with
  | none, h => exact h
  | some (j, w), ⟨p, e, h⟩ => exact ⟨p, e, s _ _ h⟩
theorem eqJW {H : Hp} {p q : Addr} {j w : Nat} {Q : VK} (h1 : H p = some (.tup [.int (j : Nat), .int (w : Nat)])) (h2 : H q = some (.tup [.int (j : Nat), .int (w : Nat)])) (k : Q (.bl true) H) : rEqD K (.ref p) (.ref q) H Q := by
  have e : PyData.eqv (.tuple [.int (j : Nat), .int (w : Nat)]) (.tuple [.int (j : Nat), .int (w : Nat)]) = true := by
    simp [PyData.eqv, PyData.eqvAll]
  refine ⟨_, _, .tup (.of h1) (.cons (.int _) (.cons (.int _) .nil)), .tup (.of h2) (.cons (.int _) (.cons (.int _) .nil)), rfl, rfl, ?_⟩
  rw [e]
  exact k
section
variable {P : Program} {w : World} {K : PySem.W.Frag} {mg : Str → Option Value} {base : Heap} {f_is_integer f_is_row f_is_fraction f_is_amount f_is_some f_are_amounts f_added f_negated f_lessened f_multiplied f_divided f_squared f_summed f_lies_below f_is_stall f_hold_of f_stalls_of f_kept_of f_held f_is_index f_is_move f_check_purse f_check_wish f_stall_led f_stall_behind f_stalls_behind f_deal_fault f_check_deal f_web_behind f_left_with f_played f_owes f_is_deal f_stands_alike f_check_alike f_change_of f_l_deck f_l_pick f_l_fold f_l_divisor f_l_made f_l_amount f_l_stall f_l_deep f_l_odd f_l_row f_l_bad_row f_l_move f_l_bad_deal f_l_is_some f_l_is_row f_l_is_below f_l_is_move f_l_due f_l_answer f_l_word f_l_word_is_due f_law f_BadDeal_init f_Web_init f_Web_eq c_BadPurse c_BadWish c_BadDeal c_Web c_ZERO : Addr} {d_is_integer d_is_row d_is_fraction d_is_amount d_is_some d_are_amounts d_added d_negated d_lessened d_multiplied d_divided d_squared d_summed d_lies_below d_is_stall d_hold_of d_stalls_of d_kept_of d_held d_is_index d_is_move d_check_purse d_check_wish d_stall_led d_stall_behind d_stalls_behind d_deal_fault d_check_deal d_web_behind d_left_with d_played d_owes d_is_deal d_stands_alike d_check_alike d_change_of d_l_deck d_l_pick d_l_fold d_l_divisor d_l_made d_l_amount d_l_stall d_l_deep d_l_odd d_l_row d_l_bad_row d_l_move d_l_bad_deal d_l_is_some d_l_is_row d_l_is_below d_l_is_move d_l_due d_l_answer d_l_word d_l_word_is_due d_law d_BadDeal_init d_Web_init d_Web_eq : FuncData}
def sp_owes (K : PySem.W.Frag) (C : Addr) : Sp := fun vs H Q _ => ∃ (x p d : V) (n M : Nat) (ss : List Stl) (rs : List Rat) (ms : List Mv), vs = [x, p, d] ∧ IsWeb K C H x n ss ∧ IsRow K H p rs ∧ rs.length = n ∧ n ≤ 8 ∧ ss.length ≤ 16 ∧ (∀ r ∈ rs, 0 ≤ r ∧ Bd 1950 r) ∧ IsDl K H d ms ∧ ms.length ≤ 200 ∧ (∀ m ∈ ms, Vm ss m) ∧ Run n ss ms ∧ BL ss M ∧ M ≤ 1650 ∧
  ∀ H' v o, Same H H' → IsOwe H' v o → Owe n rs ss ms o → Q v H'
theorem ok_owes (T : Txt K mg f_is_integer f_is_row f_is_fraction f_is_amount f_is_some f_are_amounts f_added f_negated f_lessened f_multiplied f_divided f_squared f_summed f_lies_below f_is_stall f_hold_of f_stalls_of f_kept_of f_held f_is_index f_is_move f_check_purse f_check_wish f_stall_led f_stall_behind f_stalls_behind f_deal_fault f_check_deal f_web_behind f_left_with f_played f_owes f_is_deal f_stands_alike f_check_alike f_change_of f_l_deck f_l_pick f_l_fold f_l_divisor f_l_made f_l_amount f_l_stall f_l_deep f_l_odd f_l_row f_l_bad_row f_l_move f_l_bad_deal f_l_is_some f_l_is_row f_l_is_below f_l_is_move f_l_due f_l_answer f_l_word f_l_word_is_due f_law f_BadDeal_init f_Web_init f_Web_eq c_BadPurse c_BadWish c_BadDeal c_Web c_ZERO d_is_integer d_is_row d_is_fraction d_is_amount d_is_some d_are_amounts d_added d_negated d_lessened d_multiplied d_divided d_squared d_summed d_lies_below d_is_stall d_hold_of d_stalls_of d_kept_of d_held d_is_index d_is_move d_check_purse d_check_wish d_stall_led d_stall_behind d_stalls_behind d_deal_fault d_check_deal d_web_behind d_left_with d_played d_owes d_is_deal d_stands_alike d_check_alike d_change_of d_l_deck d_l_pick d_l_fold d_l_divisor d_l_made d_l_amount d_l_stall d_l_deep d_l_odd d_l_row d_l_bad_row d_l_move d_l_bad_deal d_l_is_some d_l_is_row d_l_is_below d_l_is_move d_l_due d_l_answer d_l_word d_l_word_is_due d_law d_BadDeal_init d_Web_init d_Web_eq) : FnOk P w K mg base CX0 7 f_owes d_owes ["web", "purse", "deal"] (sp_owes K c_Web) := by
  have G_check_deal : FnOk P w K mg base CX0 6 f_check_deal d_check_deal ["web", "purse", "deal"] (sp_check_deal K c_Web) := ok_check_deal T
  have G_held : FnOk P w K mg base CX0 4 f_held d_held ["web"] (sp_held K c_Web) := ok_held T
  have G_stalls_behind : FnOk P w K mg base CX0 5 f_stalls_behind d_stalls_behind ["stalls", "move"] (sp_stalls_behind K) := ok_stalls_behind T
  have G_added : FnOk P w K mg base CX0 1 f_added d_added ["one", "other"] (sp_added K) := ok_added T
  have G_kept_of : FnOk P w K mg base CX0 3 f_kept_of d_kept_of ["ware", "stalls"] (sp_kept_of K) := ok_kept_of T
  have G_lies_below : FnOk P w K mg base CX0 1 f_lies_below d_lies_below ["one", "other"] (sp_below K) := ok_lies_below T
  refine T.F_owes.ok sc_owes (fun vs H Q E h => ?_) (fun cdv A outer sh H vs Q E hr h => ?_)
  · obtain ⟨x, p, d, n, M, ss, rs, ms, rfl, _⟩ := h
    rfl
  · obtain ⟨x, p, d, n, M, ss, rs, ms, rfl, hw, hp, hn, n8, l16, h0, hd, h200, hv, run, bM, hM, q⟩ := h
    refine ⟨_, (pss_cons (ps_expr (pe_call G_check_deal (hr.mono (by decide)) (by rfl) T.g_check_deal T.k_check_deal T.b_check_deal .nil pass0 (pa_cons (pv 0) (pa_cons (pv 1) (pa_cons (pv 2) pa_nil)))))
      (pss_cons (ps_set (i := 3) sc_owes.nd rfl (by first | exact Or.inl rfl | exact Or.inr rfl) (pe_call G_held (hr.mono (by decide)) (by rfl) T.g_held T.k_held T.b_held .nil pass0 (pa_cons (pv 0) pa_nil)))
      (pss_cons (ps_set (i := 4) sc_owes.nd rfl (by first | exact Or.inl rfl | exact Or.inr rfl) (pe_fld (pv 0) rfl))
      (pss_cons (ps_for PassesOwn.never rfl (pi_enumX (by rfl) T.z_enumerate (pa_cons (pv 2) pa_nil)) (pg_tup rfl (pgs_cons (pg_name (i := 5) sc_owes.nd rfl (by first | exact Or.inl rfl | exact Or.inr rfl)) (pgs_cons (pg_name (i := 6) sc_owes.nd rfl (by first | exact Or.inl rfl | exact Or.inr rfl)) pgs_nil)))
        (pss_cons (ps_set (i := 4) sc_owes.nd rfl (by first | exact Or.inl rfl | exact Or.inr rfl) (pe_call G_stalls_behind (hr.mono (by decide)) (by rfl) T.g_stalls_behind T.k_stalls_behind T.b_stalls_behind .nil pass0 (pa_cons (pv 4) (pa_cons (pv 6) pa_nil))))
          (pss_cons (ps_set (i := 7) sc_owes.nd rfl (by first | exact Or.inl rfl | exact Or.inr rfl) (pe_ix ix_tup (pv 6) pe_int (fun _ _ => rfl)))
          (pss_cons (ps_set (i := 8) sc_owes.nd rfl (by first | exact Or.inl rfl | exact Or.inr rfl) (pe_call G_added (hr.mono (by decide)) (by rfl) T.g_added T.k_added T.b_added .nil pass0 (pa_cons (pe_ix My.ix_any (pv 1) (pv 7) (fun _ _ => rfl)) (pa_cons (pe_ix ix_tup (pv 3) (pv 7) (fun _ _ => rfl)) pa_nil))))
          (pss_one (ps_if (pt_val (pe_call G_lies_below (hr.mono (by decide)) (by rfl) T.g_lies_below T.k_lies_below T.b_lies_below .nil pass0 (pa_cons (pv 8) (pa_cons (pe_call G_kept_of (hr.mono (by decide)) (by rfl) T.g_kept_of T.k_kept_of T.b_kept_of .nil pass0 (pa_cons (pv 7) (pa_cons (pv 4) pa_nil))) pa_nil))))
            (pss_one (ps_ret (pe_tup (pa_cons (pv 5) (pa_cons (pv 7) pa_nil)))))
            pss_nil))))))
      (pss_one (ps_ret pe_non)))))), ?_⟩
    walk_at "r"
    refine ⟨x, p, d, n, ss, rs, ms, rfl, hw, hp, hn, n8, fun r hr => (h0 r hr).1, hd, h200, hv, fun H1 s1 => ?_⟩
    walk_at "r"
    refine ⟨x, n, ss, M, rfl, hw.same s1, n8, l16, bM, by omega, fun H2 v2 s2 h2 => ?_⟩
    have k2 := s1.trans s2
    obtain ⟨t2, y2, rfl, g2s, f2⟩ := h2
    obtain ⟨Lp, yp, rfl, hLp, hfp⟩ := hp.same k2
    obtain ⟨px, dx, t, xs, rfl, hpx, ht, hss⟩ := hw.same k2
    obtain ⟨L, ys, rfl, hL, hms⟩ := hd.same k2
    have hl := Paired.length hms
    walk_at "r"
    refine ⟨_, _, _, _, _, rfl, hpx, T.w_Web.it.cl, T.n_Web_stalls, wF_stalls _ _, ?_⟩
    walk_at "r"
    refine ⟨L, ys, rfl, ?_⟩
    have z0 : ∀ w, w < n → 0 ≤ hs n rs ss ms 0 w := fun w h => by
      rw [hs_zero hn]
      exact (h0 _ (getD_mem' (by omega))).1
    have I0 : ∃ (S : Addr) (t5 t6 t7 t8 : Option V) (zs : List V), (((L2.start N_owes [V.ref px, V.ref Lp, V.ref L]).set 3 (some (V.ref t2))).set 4 (some (V.ref t))) = [some (.ref px), some (.ref Lp), some (.ref L), some (.ref t2), some (.ref S), t5, t6, t7, t8] ∧ Same H2 H2 ∧ H2 S = some (.tup zs) ∧ Sts K H2 zs (after ss (ms.take 0)) ∧ ∀ j, j ≤ 0 → ∀ w, w < n → 0 ≤ hs n rs ss ms j w :=
      ⟨t, _, _, _, _, xs, rfl, Same.refl _, ht, hss, fun j hj => by rw [Nat.le_zero.mp hj]; exact z0⟩
    rcases hL with hL | hL
    · refine .inl ⟨.of hL, ?_⟩
      refine for_enum (K := K) (a := L) (xs := ys) (fun i σ H' => ∃ (S : Addr) (t5 t6 t7 t8 : Option V) (zs : List V), σ = [some (.ref px), some (.ref Lp), some (.ref L), some (.ref t2), some (.ref S), t5, t6, t7, t8] ∧ Same H2 H' ∧ H' S = some (.tup zs) ∧ Sts K H' zs (after ss (ms.take i)) ∧ ∀ j, j ≤ i → ∀ w, w < n → 0 ≤ hs n rs ss ms j w) I0 ?_ ?_ ?_
      · rintro i σ H' _ ⟨S, t5, t6, t7, t8, zs, rfl, s3, _⟩
        exact .of (s3 _ _ hL)
      · rintro i v T2 σ H' hx ⟨S, t5, t6, t7, t8, zs, rfl, s3, hS, hz, hj⟩ nT
        obtain ⟨m, hm, hmv⟩ := Paired.at hms hx
        have sm := same_upd (o := .tup [.int (i : Nat), v]) nT
        obtain ⟨s, g1, oks, g2, x0, bs, br, bx, bo⟩ := run.st i m hm
        have hi : i < ms.length := (List.getElem?_eq_some_iff.mp hm).1
        have hla := (run.al i).len
        have hla1 := (run.al (i + 1)).len
        have k3 := s3.trans sm
        walk_at "r"
        refine ⟨S, v, zs, _, m.i, m.w, s, m.x, rfl, sm _ _ hS, hz.same sm, hmv.same k3, g1, by omega, oks.a, oks.b, x0, bs.mono (by decide), bx.mono (by decide), fun H4 S4 zs4 s4 hS4 hz4 => ?_⟩
        rw [← mv1_is g1, ← after_take hm] at hz4
        have k4 := k3.trans s4
        obtain ⟨pm, vx, rfl, hpm, _⟩ := hmv.same k4
        have hwn : m.w < n := by
          rcases g2 with z | z <;> rw [z]
          · exact oks.u
          · exact oks.v
        obtain ⟨va, ha, ia⟩ := hfp.getD (i := m.w) (by omega)
        obtain ⟨vb, hb, ib⟩ := Paired.get' f2 (i := m.w) (a := heldAt ss m.w) (by simp [heldAll, hwn])
        have bp := (h0 _ (getD_mem' (l := rs) (i := m.w) (by omega))).2
        walk_at "r"
        refine rd_ixAny (hLp.imp (fun h => k4 _ _ h) (fun h => k4 _ _ h)) (at_some ha) ?_
        walk_at "r"
        refine rd_ixT (k4 _ _ g2s) (at_some hb) ?_
        walk_at "r"
        refine ⟨_, _, _, _, rfl, ia.same k4, ib.same k4, bp.mono (by decide), (bM.held m.w).mono (by omega), trivial, fun H5 v5 s5 h5 => ?_⟩
        have k5 := k4.trans s5
        walk_at "r"
        refine ⟨S4, zs4, _, m.w, 1650, rfl, s5 _ _ hS4, hz4.same s5, by omega, run.bl (i + 1), by decide, fun H6 v6 s6 h6 => ?_⟩
        have k6 := k5.trans s6
        have hhs : hs n rs ss ms (i + 1) m.w = rs.getD m.w 0 + (heldAt ss m.w - heldAt (after ss (ms.take (i + 1))) m.w) := hs_is hwn
        refine ⟨_, _, _, _, rfl, h5.same s6, h6, (bp.add (bM.held m.w)).mono (by omega), ((run.bl (i + 1)).held m.w).mono (by decide), ?_⟩
        walk_at "r"
        have other : ∀ w, w < n → w ≠ m.w → 0 ≤ hs n rs ss ms (i + 1) w := fun w h ne => hs_up hm g1 oks g2 x0 h ne (hj i (Nat.le_refl _) w h)
        walk_at "if"
        · rename_i hlt
          have hneg : hs n rs ss ms (i + 1) m.w < 0 := by
            rw [hhs]
            grind
          walk_at "r"
          intro pr npr
          have s7 := same_upd (o := .tup [V.int (i : Nat), .int (m.w : Nat)]) npr
          exact q _ _ (some (i, m.w)) (k2.trans (k6.trans s7)) ⟨pr, rfl, upd_same⟩ ⟨hi, hwn, hneg, fun v hv => other v (by omega) (by omega), hj⟩
        · rename_i hge
          have hpos : 0 ≤ hs n rs ss ms (i + 1) m.w := by
            rw [hhs]
            grind
          walk_at "r"
          refine ⟨_, _, _, _, _, zs4, rfl, k6, (s5.trans s6) _ _ hS4, hz4.same (s5.trans s6), fun j hj' w hw => ?_⟩
          by_cases e : j ≤ i
          · exact hj j e w hw
          · rw [show j = i + 1 by omega]
            by_cases e2 : w = m.w
            · rw [e2]
              exact hpos
            · exact other w hw e2
      · rintro σ H' ⟨S, t5, t6, t7, t8, zs, rfl, s3, hS, hz, hj⟩
        walk_at "r"
        exact q _ _ none (k2.trans s3) rfl (by rw [hl] at hj; exact hj)
    · refine .inr ⟨.of hL, ?_⟩
      refine for_enumT (K := K) (a := L) (xs := ys) (fun i σ H' => ∃ (S : Addr) (t5 t6 t7 t8 : Option V) (zs : List V), σ = [some (.ref px), some (.ref Lp), some (.ref L), some (.ref t2), some (.ref S), t5, t6, t7, t8] ∧ Same H2 H' ∧ H' S = some (.tup zs) ∧ Sts K H' zs (after ss (ms.take i)) ∧ ∀ j, j ≤ i → ∀ w, w < n → 0 ≤ hs n rs ss ms j w) I0 ?_ ?_ ?_
      · rintro i σ H' _ ⟨S, t5, t6, t7, t8, zs, rfl, s3, _⟩
        exact .of (s3 _ _ hL)
      · rintro i v T2 σ H' hx ⟨S, t5, t6, t7, t8, zs, rfl, s3, hS, hz, hj⟩ nT
        obtain ⟨m, hm, hmv⟩ := Paired.at hms hx
        have sm := same_upd (o := .tup [.int (i : Nat), v]) nT
        obtain ⟨s, g1, oks, g2, x0, bs, br, bx, bo⟩ := run.st i m hm
        have hi : i < ms.length := (List.getElem?_eq_some_iff.mp hm).1
        have hla := (run.al i).len
        have hla1 := (run.al (i + 1)).len
        have k3 := s3.trans sm
        walk_at "r"
        refine ⟨S, v, zs, _, m.i, m.w, s, m.x, rfl, sm _ _ hS, hz.same sm, hmv.same k3, g1, by omega, oks.a, oks.b, x0, bs.mono (by decide), bx.mono (by decide), fun H4 S4 zs4 s4 hS4 hz4 => ?_⟩
        rw [← mv1_is g1, ← after_take hm] at hz4
        have k4 := k3.trans s4
        obtain ⟨pm, vx, rfl, hpm, _⟩ := hmv.same k4
        have hwn : m.w < n := by
          rcases g2 with z | z <;> rw [z]
          · exact oks.u
          · exact oks.v
        obtain ⟨va, ha, ia⟩ := hfp.getD (i := m.w) (by omega)
        obtain ⟨vb, hb, ib⟩ := Paired.get' f2 (i := m.w) (a := heldAt ss m.w) (by simp [heldAll, hwn])
        have bp := (h0 _ (getD_mem' (l := rs) (i := m.w) (by omega))).2
        walk_at "r"
        refine rd_ixAny (hLp.imp (fun h => k4 _ _ h) (fun h => k4 _ _ h)) (at_some ha) ?_
        walk_at "r"
        refine rd_ixT (k4 _ _ g2s) (at_some hb) ?_
        walk_at "r"
        refine ⟨_, _, _, _, rfl, ia.same k4, ib.same k4, bp.mono (by decide), (bM.held m.w).mono (by omega), trivial, fun H5 v5 s5 h5 => ?_⟩
        have k5 := k4.trans s5
        walk_at "r"
        refine ⟨S4, zs4, _, m.w, 1650, rfl, s5 _ _ hS4, hz4.same s5, by omega, run.bl (i + 1), by decide, fun H6 v6 s6 h6 => ?_⟩
        have k6 := k5.trans s6
        have hhs : hs n rs ss ms (i + 1) m.w = rs.getD m.w 0 + (heldAt ss m.w - heldAt (after ss (ms.take (i + 1))) m.w) := hs_is hwn
        refine ⟨_, _, _, _, rfl, h5.same s6, h6, (bp.add (bM.held m.w)).mono (by omega), ((run.bl (i + 1)).held m.w).mono (by decide), ?_⟩
        walk_at "r"
        have other : ∀ w, w < n → w ≠ m.w → 0 ≤ hs n rs ss ms (i + 1) w := fun w h ne => hs_up hm g1 oks g2 x0 h ne (hj i (Nat.le_refl _) w h)
        walk_at "if"
        · rename_i hlt
          have hneg : hs n rs ss ms (i + 1) m.w < 0 := by
            rw [hhs]
            grind
          walk_at "r"
          intro pr npr
          have s7 := same_upd (o := .tup [V.int (i : Nat), .int (m.w : Nat)]) npr
          exact q _ _ (some (i, m.w)) (k2.trans (k6.trans s7)) ⟨pr, rfl, upd_same⟩ ⟨hi, hwn, hneg, fun v hv => other v (by omega) (by omega), hj⟩
        · rename_i hge
          have hpos : 0 ≤ hs n rs ss ms (i + 1) m.w := by
            rw [hhs]
            grind
          walk_at "r"
          refine ⟨_, _, _, _, _, zs4, rfl, k6, (s5.trans s6) _ _ hS4, hz4.same (s5.trans s6), fun j hj' w hw => ?_⟩
          by_cases e : j ≤ i
          · exact hj j e w hw
          · rw [show j = i + 1 by omega]
            by_cases e2 : w = m.w
            · rw [e2]
              exact hpos
            · exact other w hw e2
      · rintro σ H' ⟨S, t5, t6, t7, t8, zs, rfl, s3, hS, hz, hj⟩
        walk_at "r"
        exact q _ _ none (k2.trans s3) rfl (by rw [hl] at hj; exact hj)
end
end My
namespace My
open PySem PySem.Spec PyProof.Rows L2
variable {K : PySem.W.Frag}
/-! ### things judged by the program -/
theorem fn_or {P : Program} {w : World} {mg : Str → Option Value} {base : Heap} {CX : CXT} {k : Nat} {f : Addr} {fd : FuncData} {ps : List Str} {sp sp' : Sp} (F : FnOk P w K mg base CX k f fd ps sp)
    (G : FnOk P w K mg base CX k f fd ps sp') : FnOk P w K mg base CX k f fd ps (fun vs H Q E => sp vs H Q E ∨ sp' vs H Q E) :=
  ⟨fun vs H Q E q => q.elim (F.len vs H Q E) (G.len vs H Q E), fun A outer s H args us vs Q E hr he hb hv hs => hs.elim (F.run A outer s H args us vs Q E hr he hb hv) (G.run A outer s H args us vs Q E hr he hb hv)⟩
/-- some amount -/
def sa (o : Option Rat) : Bool := match o with
  | some r => decide (0 < r)
  | none => false
def am (o : Option Rat) : Bool := match o with
  | some r => decide (0 ≤ r)
  | none => false
theorem sa_am {o : Option Rat} (h : sa o = true) : am o = true := by
  cases o with
  | none => exact h
  | some r => exact decide_eq_true (Rat.le_of_lt (of_decide_eq_true h))
theorem am_some {o : Option Rat} (h : am o = true) : ∃ r, o = some r ∧ 0 ≤ r := by
  match o, h with
  | some r, h => exact ⟨r, rfl, of_decide_eq_true h⟩
theorem JF.isF {D : Addr} {H : Hp} {v : V} {r : Rat} (j : JF K D H v (some r)) : IsF K H v r ∧ Bd 40 r := by
  rcases j with ⟨r2, h, b, e⟩ | ⟨_, e⟩
  · cases e
    exact ⟨h, b⟩
  · cases e
theorem JF.same {D : Addr} {H H' : Hp} {v : V} {o : Option Rat} (j : JF K D H v o) (s : Same H H') : JF K D H' v o := by
  rcases j with ⟨r, h, b, e⟩ | ⟨h, e⟩
  · exact .inl ⟨r, h.same s, b, e⟩
  · exact .inr ⟨h.fw (Same.fw s), e⟩
theorem JF.fw {M c : Nat} {D C : Addr} {H H' : Hp} {v : V} {o : Option Rat} (j : JF K D H v o) (dk : Deck M D C H c) (f : Fw D H H') : JF K D H' v o := by
  rcases j with ⟨r, h, b, e⟩ | ⟨h, e⟩
  · exact .inl ⟨r, h.fw dk f, b, e⟩
  · exact .inr ⟨h.fw f, e⟩
theorem jf_pair {D p : Addr} {H : Hp} {i j : Int} (n : p ≠ D) (h : H p = some (.tup [.int i, .int j])) (hi : i.natAbs < 2 ^ 40) (hj : j.natAbs < 2 ^ 40) :
    JF K D H (.ref p) (if 0 < j ∧ Nat.gcd i.natAbs j.natAbs = 1 then some (Rat.divInt i j) else none) := by
  by_cases z : 0 < j ∧ Nat.gcd i.natAbs j.natAbs = 1
  · rw [if_pos z]
    obtain ⟨z1, z2⟩ := z
    have ej : ((j.natAbs : Nat) : Int) = j := by omega
    obtain ⟨r1, r2⟩ := rat_of (n := i) (d := j.natAbs) (r := Rat.divInt i j) (by omega) z2 (by rw [ej])
    refine .inl ⟨Rat.divInt i j, ⟨p, rfl, .inl ?_⟩, Bd.divInt (by omega) hi hj, rfl⟩
    show H p = some (.tup [.int (Rat.divInt i j).num, .int (Rat.divInt i j).den])
    rw [r1, r2, ej]
    exact h
  · rw [if_neg z]
    exact .inr ⟨.low n h z (Nat.lt_of_lt_of_le hj (pow_le (by decide))), rfl⟩
/-- a thing with the word whether it is a tuple of so many amounts above 0 -/
inductive JS (K : PySem.W.Frag) (D : Addr) (H : Hp) (n : Nat) : V → Bool → Prop where
  | int (i : Int) : JS K D H n (.int i) false
  | other {v : V} (o : Od K D H v) (h : ∀ p xs, v = .ref p → H p ≠ some (.tup xs)) : JS K D H n v false
  | tup {p : Addr} {xs : List V} {os : List (Option Rat)} (np : p ≠ D) (h : H p = some (.tup xs)) (j : Paired (JF K D H) xs os) (l : xs.length ≤ 20) : JS K D H n (.ref p) (decide (xs.length = n) && os.all sa)
theorem JS.same {D : Addr} {H H' : Hp} {n : Nat} {v : V} {b : Bool} (j : JS K D H n v b) (s : Same H H') : JS K D H' n v b := by
  cases j with
  | int i => exact .int i
  | other o h =>
    refine .other (o.fw (Same.fw s)) fun p xs e z => ?_
    subst e
    cases o with
    | lst n h3 =>
      rw [s _ _ h3] at z
      cases z
    | tup n h3 => exact h _ _ rfl h3
    | dK n h3 =>
      rw [s _ _ h3] at z
      cases z
    | ins n h3 c =>
      rw [s _ _ h3] at z
      cases z
  | tup np h j l => exact .tup np (s _ _ h) (Paired.mapP j fun _ _ h => h.same s) l
section
variable {P : Program} {w : World} {K : PySem.W.Frag} {mg : Str → Option Value} {base : Heap} {f_is_integer f_is_row f_is_fraction f_is_amount f_is_some f_are_amounts f_added f_negated f_lessened f_multiplied f_divided f_squared f_summed f_lies_below f_is_stall f_hold_of f_stalls_of f_kept_of f_held f_is_index f_is_move f_check_purse f_check_wish f_stall_led f_stall_behind f_stalls_behind f_deal_fault f_check_deal f_web_behind f_left_with f_played f_owes f_is_deal f_stands_alike f_check_alike f_change_of f_l_deck f_l_pick f_l_fold f_l_divisor f_l_made f_l_amount f_l_stall f_l_deep f_l_odd f_l_row f_l_bad_row f_l_move f_l_bad_deal f_l_is_some f_l_is_row f_l_is_below f_l_is_move f_l_due f_l_answer f_l_word f_l_word_is_due f_law f_BadDeal_init f_Web_init f_Web_eq c_BadPurse c_BadWish c_BadDeal c_Web c_ZERO : Addr} {d_is_integer d_is_row d_is_fraction d_is_amount d_is_some d_are_amounts d_added d_negated d_lessened d_multiplied d_divided d_squared d_summed d_lies_below d_is_stall d_hold_of d_stalls_of d_kept_of d_held d_is_index d_is_move d_check_purse d_check_wish d_stall_led d_stall_behind d_stalls_behind d_deal_fault d_check_deal d_web_behind d_left_with d_played d_owes d_is_deal d_stands_alike d_check_alike d_change_of d_l_deck d_l_pick d_l_fold d_l_divisor d_l_made d_l_amount d_l_stall d_l_deep d_l_odd d_l_row d_l_bad_row d_l_move d_l_bad_deal d_l_is_some d_l_is_row d_l_is_below d_l_is_move d_l_due d_l_answer d_l_word d_l_word_is_due d_law d_BadDeal_init d_Web_init d_Web_eq : FuncData}
def sp_isiJ (K : PySem.W.Frag) : Sp := fun vs H Q _ => ∃ v b, vs = [v] ∧ ((∃ i : Int, v = .int i) ∧ b = true ∨ (∃ D, Od K D H v) ∧ b = false) ∧ Q (.bl b) H
theorem ok_is_integerJ (T : Txt K mg f_is_integer f_is_row f_is_fraction f_is_amount f_is_some f_are_amounts f_added f_negated f_lessened f_multiplied f_divided f_squared f_summed f_lies_below f_is_stall f_hold_of f_stalls_of f_kept_of f_held f_is_index f_is_move f_check_purse f_check_wish f_stall_led f_stall_behind f_stalls_behind f_deal_fault f_check_deal f_web_behind f_left_with f_played f_owes f_is_deal f_stands_alike f_check_alike f_change_of f_l_deck f_l_pick f_l_fold f_l_divisor f_l_made f_l_amount f_l_stall f_l_deep f_l_odd f_l_row f_l_bad_row f_l_move f_l_bad_deal f_l_is_some f_l_is_row f_l_is_below f_l_is_move f_l_due f_l_answer f_l_word f_l_word_is_due f_law f_BadDeal_init f_Web_init f_Web_eq c_BadPurse c_BadWish c_BadDeal c_Web c_ZERO d_is_integer d_is_row d_is_fraction d_is_amount d_is_some d_are_amounts d_added d_negated d_lessened d_multiplied d_divided d_squared d_summed d_lies_below d_is_stall d_hold_of d_stalls_of d_kept_of d_held d_is_index d_is_move d_check_purse d_check_wish d_stall_led d_stall_behind d_stalls_behind d_deal_fault d_check_deal d_web_behind d_left_with d_played d_owes d_is_deal d_stands_alike d_check_alike d_change_of d_l_deck d_l_pick d_l_fold d_l_divisor d_l_made d_l_amount d_l_stall d_l_deep d_l_odd d_l_row d_l_bad_row d_l_move d_l_bad_deal d_l_is_some d_l_is_row d_l_is_below d_l_is_move d_l_due d_l_answer d_l_word d_l_word_is_due d_law d_BadDeal_init d_Web_init d_Web_eq) : FnOk P w K mg base CX0 1 f_is_integer d_is_integer ["thing"] (sp_isiJ K) := by
  refine T.F_is_integer.ok sc_is_integer (fun vs H Q E h => ?_) (fun cdv A outer s H vs Q E hr h => ?_)
  · obtain ⟨v, b, rfl, _⟩ := h
    rfl
  · obtain ⟨v, b, rfl, h, q⟩ := h
    refine ⟨_, (pss_one (ps_ret (pe_and (pe_callB call_isi (by rfl) T.z_isinstance (by decide +kernel) (pa_cons (pv 0) (pa_cons (pe_bltn (v := .ty "int") (u := .type "int") (by rfl) T.z_int (by decide +kernel) rfl) pa_nil))) (pe_one (pe_not (pe_callB call_isi (by rfl) T.z_isinstance (by decide +kernel) (pa_cons (pv 0) (pa_cons (pe_bltn (v := .ty "bool") (u := .type "bool") (by rfl) T.z_bool (by decide +kernel) rfl) pa_nil)))))))), ?_⟩
    rcases h with ⟨⟨i, rfl⟩, rfl⟩ | ⟨⟨D, o⟩, rfl⟩
    · walk_at "r"
      exact q
    · obtain ⟨b1, b2, b3, hb, h1, h2, -⟩ := o.isi
      walk_at "r"
      refine h1 _ ?_
      cases b1 with
      | false =>
        walk_at "r"
        exact q
      | true =>
        have e : b2 = true := by
          cases b2
          · cases hb
          · rfl
        subst e
        walk_at "r"
        refine h2 _ ?_
        walk_at "r"
        exact q
def sp_isfJ (K : PySem.W.Frag) : Sp := fun vs H Q _ => ∃ v D o, vs = [v] ∧ JF K D H v o ∧ Q (.bl o.isSome) H
theorem ok_is_fractionJ (T : Txt K mg f_is_integer f_is_row f_is_fraction f_is_amount f_is_some f_are_amounts f_added f_negated f_lessened f_multiplied f_divided f_squared f_summed f_lies_below f_is_stall f_hold_of f_stalls_of f_kept_of f_held f_is_index f_is_move f_check_purse f_check_wish f_stall_led f_stall_behind f_stalls_behind f_deal_fault f_check_deal f_web_behind f_left_with f_played f_owes f_is_deal f_stands_alike f_check_alike f_change_of f_l_deck f_l_pick f_l_fold f_l_divisor f_l_made f_l_amount f_l_stall f_l_deep f_l_odd f_l_row f_l_bad_row f_l_move f_l_bad_deal f_l_is_some f_l_is_row f_l_is_below f_l_is_move f_l_due f_l_answer f_l_word f_l_word_is_due f_law f_BadDeal_init f_Web_init f_Web_eq c_BadPurse c_BadWish c_BadDeal c_Web c_ZERO d_is_integer d_is_row d_is_fraction d_is_amount d_is_some d_are_amounts d_added d_negated d_lessened d_multiplied d_divided d_squared d_summed d_lies_below d_is_stall d_hold_of d_stalls_of d_kept_of d_held d_is_index d_is_move d_check_purse d_check_wish d_stall_led d_stall_behind d_stalls_behind d_deal_fault d_check_deal d_web_behind d_left_with d_played d_owes d_is_deal d_stands_alike d_check_alike d_change_of d_l_deck d_l_pick d_l_fold d_l_divisor d_l_made d_l_amount d_l_stall d_l_deep d_l_odd d_l_row d_l_bad_row d_l_move d_l_bad_deal d_l_is_some d_l_is_row d_l_is_below d_l_is_move d_l_due d_l_answer d_l_word d_l_word_is_due d_law d_BadDeal_init d_Web_init d_Web_eq) : FnOk P w K mg base CX0 2 f_is_fraction d_is_fraction ["thing"] (sp_isfJ K) := by
  have G_is_integer : FnOk P w K mg base CX0 1 f_is_integer d_is_integer ["thing"] (sp_isiJ K) := ok_is_integerJ T
  refine T.F_is_fraction.ok sc_is_fraction (fun vs H Q E h => ?_) (fun cdv A outer s H vs Q E hr h => ?_)
  · obtain ⟨v, D, o, rfl, _⟩ := h
    rfl
  · obtain ⟨v, D, o, rfl, j, q⟩ := h
    refine ⟨_, (pss_cons (ps_if (PW.pt (pw_or (pt_not (pt_val (pe_callB call_isi (by rfl) T.z_isinstance (by decide +kernel) (pa_cons (pv 0) (pa_cons (pe_bltn (v := .ty "tuple") (u := .type "tuple") (by rfl) T.z_tuple (by decide +kernel) rfl) pa_nil))))) (pw_or1 (pt_cmpR op_ne (pe_callB call_lenN (by rfl) T.z_len (by decide +kernel) (pa_cons (pv 0) pa_nil)) pe_int (nomark _)))))
        (pss_one (ps_ret pe_bl))
        pss_nil)
      (pss_cons (ps_asg (pv 0) (pg_tup rfl (pgs_cons (pg_name (i := 1) sc_is_fraction.nd rfl (by first | exact Or.inl rfl | exact Or.inr rfl)) (pgs_cons (pg_name (i := 2) sc_is_fraction.nd rfl (by first | exact Or.inl rfl | exact Or.inr rfl)) pgs_nil))))
      (pss_cons (ps_if (PW.pt (pw_or (pt_not (pt_val (pe_call G_is_integer (hr.mono (by decide)) (by rfl) T.g_is_integer T.k_is_integer T.b_is_integer .nil pass0 (pa_cons (pv 1) pa_nil)))) (pw_or1 (pt_not (pt_val (pe_call G_is_integer (hr.mono (by decide)) (by rfl) T.g_is_integer T.k_is_integer T.b_is_integer .nil pass0 (pa_cons (pv 2) pa_nil)))))))
        (pss_one (ps_ret pe_bl))
        pss_nil)
      (pss_one (ps_ret (pe_and (pe_cmpR op_ge (pv 2) pe_int (nomark _)) (pe_one (pe_cmpR op_eq (pe_callBfun cr_gcd (by rfl) T.m_gcd (pa_cons (pv 1) (pa_cons (pv 2) pa_nil))) pe_int (nomark _))))))))), ?_⟩
    rcases j with ⟨r, ⟨p, rfl, hp⟩, bd, rfl⟩ | ⟨nf, rfl⟩
    · walk_at "r"
      refine ⟨_, _, rfl, .inl ⟨⟨_, rfl⟩, rfl⟩, ?_⟩
      walk_at "r"
      refine ⟨_, _, rfl, .inl ⟨⟨_, rfl⟩, rfl⟩, ?_⟩
      walk_at "r"
      have h1 := den_pos r
      have h2 := gcd_den r
      walk_at "r"
      rw [Int.natAbs_natCast, h2]
      exact q
    · cases nf with
      | int i =>
        walk_at "r"
        exact q
      | not o h =>
        obtain ⟨b1, b2, b3, hb, -, -, h3, ht⟩ := o.isi
        walk_at "r"
        refine h3 _ ?_
        cases b3 with
        | false =>
          walk_at "r"
          exact q
        | true =>
          obtain ⟨p, xs, rfl, np, hp⟩ := ht rfl
          have hl : ¬ ((xs.length : Int) = 2) := by
            have := h p xs rfl hp
            omega
          walk_at "r"
          exact q
      | fst n h o =>
        walk_at "r"
        refine ⟨_, _, rfl, .inr ⟨⟨_, o⟩, rfl⟩, ?_⟩
        walk_at "r"
        exact q
      | snd n h o =>
        walk_at "r"
        refine ⟨_, _, rfl, .inl ⟨⟨_, rfl⟩, rfl⟩, ?_⟩
        walk_at "r"
        refine ⟨_, _, rfl, .inr ⟨⟨_, o⟩, rfl⟩, ?_⟩
        walk_at "r"
        exact q
      | @low p i j n h z b =>
        walk_at "r"
        refine ⟨_, _, rfl, .inl ⟨⟨_, rfl⟩, rfl⟩, ?_⟩
        walk_at "r"
        refine ⟨_, _, rfl, .inl ⟨⟨_, rfl⟩, rfl⟩, ?_⟩
        walk_at "r"
        walk_at "if"
        · rename_i h0
          walk_at "r"
          have h1 : ¬ (((Nat.gcd i.natAbs j.natAbs : Nat) : Int) = 1) := fun e => z ⟨by omega, by omega⟩
          rw [decide_eq_false h1]
          exact q
        · walk_at "r"
          exact q
def sp_isaJ (K : PySem.W.Frag) : Sp := fun vs H Q _ => ∃ v D o, vs = [v] ∧ JF K D H v o ∧ Q (.bl (am o)) H
theorem ok_is_amountJ (T : Txt K mg f_is_integer f_is_row f_is_fraction f_is_amount f_is_some f_are_amounts f_added f_negated f_lessened f_multiplied f_divided f_squared f_summed f_lies_below f_is_stall f_hold_of f_stalls_of f_kept_of f_held f_is_index f_is_move f_check_purse f_check_wish f_stall_led f_stall_behind f_stalls_behind f_deal_fault f_check_deal f_web_behind f_left_with f_played f_owes f_is_deal f_stands_alike f_check_alike f_change_of f_l_deck f_l_pick f_l_fold f_l_divisor f_l_made f_l_amount f_l_stall f_l_deep f_l_odd f_l_row f_l_bad_row f_l_move f_l_bad_deal f_l_is_some f_l_is_row f_l_is_below f_l_is_move f_l_due f_l_answer f_l_word f_l_word_is_due f_law f_BadDeal_init f_Web_init f_Web_eq c_BadPurse c_BadWish c_BadDeal c_Web c_ZERO d_is_integer d_is_row d_is_fraction d_is_amount d_is_some d_are_amounts d_added d_negated d_lessened d_multiplied d_divided d_squared d_summed d_lies_below d_is_stall d_hold_of d_stalls_of d_kept_of d_held d_is_index d_is_move d_check_purse d_check_wish d_stall_led d_stall_behind d_stalls_behind d_deal_fault d_check_deal d_web_behind d_left_with d_played d_owes d_is_deal d_stands_alike d_check_alike d_change_of d_l_deck d_l_pick d_l_fold d_l_divisor d_l_made d_l_amount d_l_stall d_l_deep d_l_odd d_l_row d_l_bad_row d_l_move d_l_bad_deal d_l_is_some d_l_is_row d_l_is_below d_l_is_move d_l_due d_l_answer d_l_word d_l_word_is_due d_law d_BadDeal_init d_Web_init d_Web_eq) : FnOk P w K mg base CX0 3 f_is_amount d_is_amount ["thing"] (sp_isaJ K) := by
  have G_is_fraction : FnOk P w K mg base CX0 2 f_is_fraction d_is_fraction ["thing"] (sp_isfJ K) := ok_is_fractionJ T
  refine T.F_is_amount.ok sc_is_amount (fun vs H Q E h => ?_) (fun cdv A outer s H vs Q E hr h => ?_)
  · obtain ⟨v, D, o, rfl, _⟩ := h
    rfl
  · obtain ⟨v, D, o, rfl, j, q⟩ := h
    refine ⟨_, (pss_one (ps_ret (pe_and (pe_call G_is_fraction (hr.mono (by decide)) (by rfl) T.g_is_fraction T.k_is_fraction T.b_is_fraction .nil pass0 (pa_cons (pv 0) pa_nil)) (pe_one (pe_cmpR op_ge (pe_ix ix_tup (pv 0) pe_int (fun _ _ => rfl)) pe_int (nomark _)))))), ?_⟩
    walk_at "r"
    refine ⟨_, _, _, rfl, j, ?_⟩
    cases o with
    | none =>
      rw [Option.isSome_none]
      walk_at "r"
      exact q
    | some r =>
      rw [Option.isSome_some]
      obtain ⟨h, b⟩ := j.isF
      obtain ⟨p, rfl, hp⟩ := id h
      walk_at "r"
      rw [show decide (r.num ≥ 0) = am (some r) from ?_]
      · exact q
      · show decide (r.num ≥ 0) = decide (0 ≤ r)
        rw [Bool.eq_iff_iff, decide_eq_true_eq, decide_eq_true_eq]
        exact Rat.num_nonneg
def sp_are_amountsJ (K : PySem.W.Frag) : Sp := fun vs H Q _ => ∃ (p D : Addr) (n : Nat) (xs : List V) (os : List (Option Rat)), vs = [.ref p, .int (n : Nat)] ∧ Sq K H p xs ∧ Paired (JF K D H) xs os ∧ xs.length ≤ 20 ∧ ∀ H', Same H H' → Q (.bl (decide (xs.length = n) && os.all am)) H'
theorem ok_are_amountsJ (T : Txt K mg f_is_integer f_is_row f_is_fraction f_is_amount f_is_some f_are_amounts f_added f_negated f_lessened f_multiplied f_divided f_squared f_summed f_lies_below f_is_stall f_hold_of f_stalls_of f_kept_of f_held f_is_index f_is_move f_check_purse f_check_wish f_stall_led f_stall_behind f_stalls_behind f_deal_fault f_check_deal f_web_behind f_left_with f_played f_owes f_is_deal f_stands_alike f_check_alike f_change_of f_l_deck f_l_pick f_l_fold f_l_divisor f_l_made f_l_amount f_l_stall f_l_deep f_l_odd f_l_row f_l_bad_row f_l_move f_l_bad_deal f_l_is_some f_l_is_row f_l_is_below f_l_is_move f_l_due f_l_answer f_l_word f_l_word_is_due f_law f_BadDeal_init f_Web_init f_Web_eq c_BadPurse c_BadWish c_BadDeal c_Web c_ZERO d_is_integer d_is_row d_is_fraction d_is_amount d_is_some d_are_amounts d_added d_negated d_lessened d_multiplied d_divided d_squared d_summed d_lies_below d_is_stall d_hold_of d_stalls_of d_kept_of d_held d_is_index d_is_move d_check_purse d_check_wish d_stall_led d_stall_behind d_stalls_behind d_deal_fault d_check_deal d_web_behind d_left_with d_played d_owes d_is_deal d_stands_alike d_check_alike d_change_of d_l_deck d_l_pick d_l_fold d_l_divisor d_l_made d_l_amount d_l_stall d_l_deep d_l_odd d_l_row d_l_bad_row d_l_move d_l_bad_deal d_l_is_some d_l_is_row d_l_is_below d_l_is_move d_l_due d_l_answer d_l_word d_l_word_is_due d_law d_BadDeal_init d_Web_init d_Web_eq) : FnOk P w K mg base CX0 4 f_are_amounts d_are_amounts ["things", "number"] (sp_are_amountsJ K) := by
  have G_is_amount : FnOk P w K mg base CX0 3 f_is_amount d_is_amount ["thing"] (sp_isaJ K) := ok_is_amountJ T
  refine T.F_are_amounts.ok sc_are_amounts (fun vs H Q E h => ?_) (fun cdv A outer s H vs Q E hr h => ?_)
  · obtain ⟨p, D, n, xs, os, rfl, _⟩ := h
    rfl
  · obtain ⟨p, D, n, xs, os, rfl, hp, hj, l20, q⟩ := h
    have hl := Paired.length hj
    refine ⟨_, (pss_one (ps_ret (pe_and (pe_cmpR op_eq (pe_callB call_lenN (by rfl) T.z_len (by decide +kernel) (pa_cons (pv 0) pa_nil)) (pv 1) (nomark _)) (pe_one (pe_callB (cr_all rfl) (by rfl) T.z_all (by decide +kernel) (pa_cons (pe_lc (own := [("thing", 2)]) (g := gName 2) rfl sc_are_amounts.nd (My.pi_seqA (pv 0)) (blkOk_by (own := [("thing", 2)]) (N := N_are_amounts) (sc := defScope s_are_amounts) (by decide +kernel)) (fun _ _ _ _ _ => (pg_name (i := 2) sc_are_amounts.nd rfl (by first | exact Or.inl rfl | exact Or.inr rfl))) (fun _ _ _ _ _ => pts_nil) (fun _ _ _ _ _ => (pe_call G_is_amount (hr.mono (by decide)) (by rfl) T.g_is_amount T.k_is_amount T.b_is_amount .nil pass0 (pa_cons (pv 2) pa_nil)))) pa_nil)))))), ?_⟩
    walk_at "r"
    refine ⟨p, xs, rfl, hp, ?_⟩
    by_cases c : xs.length = n
    · have c' : (xs.length : Int) = (n : Nat) := by omega
      walk_at "r"
      refine rd_seqA ?_
      walk_at "r"
      refine lc_seqA (R := fun H v (b : Bool) => v = .bl b) (fun _ _ _ _ _ h => h) (f := fun i => (os[i]?).map am) (by omega) hp (fun i x hx H' Q' N s1 hy hn => ?_) (fun D' H' hlst => ?_) rfl
      · obtain ⟨o, ho, jo⟩ := Paired.at hj hx
        walk_at "r"
        refine ⟨rfl, ?_⟩
        walk_at "r"
        exact ⟨_, _, o, rfl, jo.same s1, hy (am o) _ _ (by simp [ho]) (Same.refl _) rfl⟩
      · obtain ⟨s1, bs, hD, hbs⟩ := hlst
        rw [hl, upTo_list] at hbs
        have e := bools_of hbs
        subst e
        walk_at "r"
        refine ⟨D', _, rfl, .of hD, ?_⟩
        have q := q _ s1
        rw [decide_eq_true c, Bool.true_and] at q
        rw [List.all_map]
        exact q
    · have c' : ¬ (xs.length : Int) = (n : Nat) := by omega
      walk_at "r"
      have q := q _ (Same.refl _)
      rw [decide_eq_false c] at q
      exact q
def sp_are_someJ (K : PySem.W.Frag) : Sp := fun vs H Q _ => ∃ (x : V) (D : Addr) (n : Nat) (b : Bool), vs = [x, .int (n : Nat)] ∧ JS K D H n x b ∧ ∀ H', Same H H' → Q (.bl b) H'
end
end My
namespace My
open PySem PySem.Spec PyProof.Rows L2
variable {K : PySem.W.Frag}
/-! ### things judged as moves -/
def JI (K : PySem.W.Frag) (D : Addr) (H : Hp) (v : V) (o : Option Int) : Prop := (∃ i, v = .int i ∧ o = some i) ∨ (Od K D H v ∧ o = none)
theorem JI.fw {D : Addr} {H H' : Hp} {v : V} {o : Option Int} (j : JI K D H v o) (f : Fw D H H') : JI K D H' v o := j.imp id fun ⟨h, e⟩ => ⟨h.fw f, e⟩
theorem JI.isi {D : Addr} {H : Hp} {v : V} {o : Option Int} (j : JI K D H v o) : ∃ b, ((∃ i : Int, v = .int i) ∧ b = true ∨ (∃ D, Od K D H v) ∧ b = false) ∧ b = o.isSome := by
  rcases j with ⟨i, rfl, rfl⟩ | ⟨h, rfl⟩
  · exact ⟨true, .inl ⟨⟨i, rfl⟩, rfl⟩, rfl⟩
  · exact ⟨false, .inr ⟨⟨D, h⟩, rfl⟩, rfl⟩
abbrev Jm := Option (Option Int × Option Int × Option Rat)
def JM (K : PySem.W.Frag) (D : Addr) (H : Hp) (v : V) (t : Jm) : Prop :=
  (∃ p x y z a b r, v = .ref p ∧ p ≠ D ∧ H p = some (.tup [x, y, z]) ∧ JI K D H x a ∧ JI K D H y b ∧ JF K D H z r ∧ t = some (a, b, r)) ∨
  (((∃ i, v = .int i) ∨ Od K D H v ∧ ∀ p xs, v = .ref p → H p = some (.tup xs) → xs.length ≠ 3) ∧ t = none)
theorem JM.fw {M c : Nat} {D C : Addr} {H H' : Hp} {v : V} {t : Jm} (j : JM K D H v t) (dk : Deck M D C H c) (f : Fw D H H') : JM K D H' v t := by
  rcases j with ⟨p, x, y, z, a, b, r, e, n, h, h1, h2, h3, e2⟩ | ⟨i | ⟨o, h⟩, e⟩
  · exact .inl ⟨p, x, y, z, a, b, r, e, n, f _ _ n h, h1.fw f, h2.fw f, h3.fw dk f, e2⟩
  · exact .inr ⟨.inl i, e⟩
  · refine .inr ⟨.inr ⟨o.fw f, fun p xs e z => ?_⟩, e⟩
    subst e
    cases o with
    | lst n h3 =>
      rw [f _ _ n h3] at z
      cases z
    | tup n h3 =>
      rw [f _ _ n h3] at z
      cases z
      exact h _ _ rfl h3
    | dK n h3 =>
      rw [f _ _ n h3] at z
      cases z
    | ins n h3 c =>
      rw [f _ _ n h3] at z
      cases z
def ixOk (m : Nat) : Option Int → Bool
  | some i => decide (0 ≤ i) && decide (i < (m : Nat))
  | none => false
def wrOk (ss : List Stl) (i w : Int) : Bool := match ss[i.toNat]? with
  | some s => decide (w = (s.u : Nat)) || decide (w = (s.v : Nat))
  | none => false
def mvOk (ss : List Stl) : Jm → Bool
  | some (some i, some w, r) => ixOk ss.length (some i) && (wrOk ss i w && sa r)
  | _ => false
section
variable {P : Program} {w : World} {K : PySem.W.Frag} {mg : Str → Option Value} {base : Heap} {f_is_integer f_is_row f_is_fraction f_is_amount f_is_some f_are_amounts f_added f_negated f_lessened f_multiplied f_divided f_squared f_summed f_lies_below f_is_stall f_hold_of f_stalls_of f_kept_of f_held f_is_index f_is_move f_check_purse f_check_wish f_stall_led f_stall_behind f_stalls_behind f_deal_fault f_check_deal f_web_behind f_left_with f_played f_owes f_is_deal f_stands_alike f_check_alike f_change_of f_l_deck f_l_pick f_l_fold f_l_divisor f_l_made f_l_amount f_l_stall f_l_deep f_l_odd f_l_row f_l_bad_row f_l_move f_l_bad_deal f_l_is_some f_l_is_row f_l_is_below f_l_is_move f_l_due f_l_answer f_l_word f_l_word_is_due f_law f_BadDeal_init f_Web_init f_Web_eq c_BadPurse c_BadWish c_BadDeal c_Web c_ZERO : Addr} {d_is_integer d_is_row d_is_fraction d_is_amount d_is_some d_are_amounts d_added d_negated d_lessened d_multiplied d_divided d_squared d_summed d_lies_below d_is_stall d_hold_of d_stalls_of d_kept_of d_held d_is_index d_is_move d_check_purse d_check_wish d_stall_led d_stall_behind d_stalls_behind d_deal_fault d_check_deal d_web_behind d_left_with d_played d_owes d_is_deal d_stands_alike d_check_alike d_change_of d_l_deck d_l_pick d_l_fold d_l_divisor d_l_made d_l_amount d_l_stall d_l_deep d_l_odd d_l_row d_l_bad_row d_l_move d_l_bad_deal d_l_is_some d_l_is_row d_l_is_below d_l_is_move d_l_due d_l_answer d_l_word d_l_word_is_due d_law d_BadDeal_init d_Web_init d_Web_eq : FuncData}
def sp_issJ (K : PySem.W.Frag) : Sp := fun vs H Q _ => ∃ v D o, vs = [v] ∧ JF K D H v o ∧ Q (.bl (sa o)) H
theorem ok_is_someJ (T : Txt K mg f_is_integer f_is_row f_is_fraction f_is_amount f_is_some f_are_amounts f_added f_negated f_lessened f_multiplied f_divided f_squared f_summed f_lies_below f_is_stall f_hold_of f_stalls_of f_kept_of f_held f_is_index f_is_move f_check_purse f_check_wish f_stall_led f_stall_behind f_stalls_behind f_deal_fault f_check_deal f_web_behind f_left_with f_played f_owes f_is_deal f_stands_alike f_check_alike f_change_of f_l_deck f_l_pick f_l_fold f_l_divisor f_l_made f_l_amount f_l_stall f_l_deep f_l_odd f_l_row f_l_bad_row f_l_move f_l_bad_deal f_l_is_some f_l_is_row f_l_is_below f_l_is_move f_l_due f_l_answer f_l_word f_l_word_is_due f_law f_BadDeal_init f_Web_init f_Web_eq c_BadPurse c_BadWish c_BadDeal c_Web c_ZERO d_is_integer d_is_row d_is_fraction d_is_amount d_is_some d_are_amounts d_added d_negated d_lessened d_multiplied d_divided d_squared d_summed d_lies_below d_is_stall d_hold_of d_stalls_of d_kept_of d_held d_is_index d_is_move d_check_purse d_check_wish d_stall_led d_stall_behind d_stalls_behind d_deal_fault d_check_deal d_web_behind d_left_with d_played d_owes d_is_deal d_stands_alike d_check_alike d_change_of d_l_deck d_l_pick d_l_fold d_l_divisor d_l_made d_l_amount d_l_stall d_l_deep d_l_odd d_l_row d_l_bad_row d_l_move d_l_bad_deal d_l_is_some d_l_is_row d_l_is_below d_l_is_move d_l_due d_l_answer d_l_word d_l_word_is_due d_law d_BadDeal_init d_Web_init d_Web_eq) : FnOk P w K mg base CX0 3 f_is_some d_is_some ["thing"] (sp_issJ K) := by
  have G_is_fraction : FnOk P w K mg base CX0 2 f_is_fraction d_is_fraction ["thing"] (sp_isfJ K) := ok_is_fractionJ T
  refine T.F_is_some.ok sc_is_some (fun vs H Q E h => ?_) (fun cdv A outer s H vs Q E hr h => ?_)
  · obtain ⟨v, D, o, rfl, _⟩ := h
    rfl
  · obtain ⟨v, D, o, rfl, j, q⟩ := h
    refine ⟨_, (pss_one (ps_ret (pe_and (pe_call G_is_fraction (hr.mono (by decide)) (by rfl) T.g_is_fraction T.k_is_fraction T.b_is_fraction .nil pass0 (pa_cons (pv 0) pa_nil)) (pe_one (pe_cmpR op_gt (pe_ix ix_tup (pv 0) pe_int (fun _ _ => rfl)) pe_int (nomark _)))))), ?_⟩
    walk_at "r"
    refine ⟨_, _, _, rfl, j, ?_⟩
    cases o with
    | none =>
      rw [Option.isSome_none]
      walk_at "r"
      exact q
    | some r =>
      rw [Option.isSome_some]
      obtain ⟨h, b⟩ := j.isF
      obtain ⟨p, rfl, hp⟩ := id h
      walk_at "r"
      rw [show decide (r.num > 0) = sa (some r) from ?_]
      · exact q
      · show decide (r.num > 0) = decide (0 < r)
        rw [Bool.eq_iff_iff, decide_eq_true_eq, decide_eq_true_eq, Rat.lt_iff]
        simp
def sp_is_indexJ (K : PySem.W.Frag) (C : Addr) : Sp := fun vs H Q _ => ∃ (x y : V) (D : Addr) (n : Nat) (ss : List Stl) (o : Option Int), vs = [x, y] ∧ IsWeb K C H x n ss ∧ JI K D H y o ∧ Q (.bl (ixOk ss.length o)) H
theorem ok_is_indexJ (T : Txt K mg f_is_integer f_is_row f_is_fraction f_is_amount f_is_some f_are_amounts f_added f_negated f_lessened f_multiplied f_divided f_squared f_summed f_lies_below f_is_stall f_hold_of f_stalls_of f_kept_of f_held f_is_index f_is_move f_check_purse f_check_wish f_stall_led f_stall_behind f_stalls_behind f_deal_fault f_check_deal f_web_behind f_left_with f_played f_owes f_is_deal f_stands_alike f_check_alike f_change_of f_l_deck f_l_pick f_l_fold f_l_divisor f_l_made f_l_amount f_l_stall f_l_deep f_l_odd f_l_row f_l_bad_row f_l_move f_l_bad_deal f_l_is_some f_l_is_row f_l_is_below f_l_is_move f_l_due f_l_answer f_l_word f_l_word_is_due f_law f_BadDeal_init f_Web_init f_Web_eq c_BadPurse c_BadWish c_BadDeal c_Web c_ZERO d_is_integer d_is_row d_is_fraction d_is_amount d_is_some d_are_amounts d_added d_negated d_lessened d_multiplied d_divided d_squared d_summed d_lies_below d_is_stall d_hold_of d_stalls_of d_kept_of d_held d_is_index d_is_move d_check_purse d_check_wish d_stall_led d_stall_behind d_stalls_behind d_deal_fault d_check_deal d_web_behind d_left_with d_played d_owes d_is_deal d_stands_alike d_check_alike d_change_of d_l_deck d_l_pick d_l_fold d_l_divisor d_l_made d_l_amount d_l_stall d_l_deep d_l_odd d_l_row d_l_bad_row d_l_move d_l_bad_deal d_l_is_some d_l_is_row d_l_is_below d_l_is_move d_l_due d_l_answer d_l_word d_l_word_is_due d_law d_BadDeal_init d_Web_init d_Web_eq) : FnOk P w K mg base CX0 2 f_is_index d_is_index ["web", "thing"] (sp_is_indexJ K c_Web) := by
  have G_is_integer : FnOk P w K mg base CX0 1 f_is_integer d_is_integer ["thing"] (sp_isiJ K) := ok_is_integerJ T
  refine T.F_is_index.ok sc_is_index (fun vs H Q E h => ?_) (fun cdv A outer s H vs Q E hr h => ?_)
  · obtain ⟨x, y, D, n, ss, o, rfl, _⟩ := h
    rfl
  · obtain ⟨x, y, D, n, ss, o, rfl, ⟨p, dx, t, xs, rfl, hp, ht, hss⟩, hy, q⟩ := h
    refine ⟨_, (pss_one (ps_ret (pe_and (pe_call G_is_integer (hr.mono (by decide)) (by rfl) T.g_is_integer T.k_is_integer T.b_is_integer .nil pass0 (pa_cons (pv 1) pa_nil)) (pe_one (pe_chain op_le op_lt pe_int (pv 1) (pe_callB call_lenN (by rfl) T.z_len (by decide +kernel) (pa_cons (pe_fld (pv 0) rfl) pa_nil))))))), ?_⟩
    have hl := hss.len
    walk_at "r"
    obtain ⟨b, hb, eb⟩ := hy.isi
    refine ⟨_, b, rfl, hb, ?_⟩
    rcases hy with ⟨i, rfl, rfl⟩ | ⟨od, rfl⟩
    · rw [Option.isSome_some] at eb
      subst eb
      walk_at "r"
      walk_at "if"
      · rename_i h0
        walk_at "r"
        refine ⟨_, _, _, _, _, rfl, hp, T.w_Web.it.cl, T.n_Web_stalls, wF_stalls _ _, ?_⟩
        walk_at "r"
        have e : ixOk ss.length (some i) = decide (i < ((xs.length : Nat) : Int)) := by
          show (decide (0 ≤ i) && decide (i < (ss.length : Nat))) = _
          rw [decide_eq_true h0, Bool.true_and, hl]
        rw [e] at q
        exact q
      · rename_i h0
        walk_at "r"
        have e : ixOk ss.length (some i) = false := by
          show (decide (0 ≤ i) && decide (i < (ss.length : Nat))) = _
          rw [decide_eq_false h0, Bool.false_and]
        rw [e] at q
        exact q
    · rw [Option.isSome_none] at eb
      subst eb
      walk_at "r"
      exact q
def sp_is_moveJ (K : PySem.W.Frag) (C : Addr) : Sp := fun vs H Q _ => ∃ (x y : V) (D : Addr) (n : Nat) (ss : List Stl) (t : Jm), vs = [x, y] ∧ IsWeb K C H x n ss ∧ JM K D H y t ∧ ∀ H', Same H H' → Q (.bl (mvOk ss t)) H'
theorem ok_is_moveJ (T : Txt K mg f_is_integer f_is_row f_is_fraction f_is_amount f_is_some f_are_amounts f_added f_negated f_lessened f_multiplied f_divided f_squared f_summed f_lies_below f_is_stall f_hold_of f_stalls_of f_kept_of f_held f_is_index f_is_move f_check_purse f_check_wish f_stall_led f_stall_behind f_stalls_behind f_deal_fault f_check_deal f_web_behind f_left_with f_played f_owes f_is_deal f_stands_alike f_check_alike f_change_of f_l_deck f_l_pick f_l_fold f_l_divisor f_l_made f_l_amount f_l_stall f_l_deep f_l_odd f_l_row f_l_bad_row f_l_move f_l_bad_deal f_l_is_some f_l_is_row f_l_is_below f_l_is_move f_l_due f_l_answer f_l_word f_l_word_is_due f_law f_BadDeal_init f_Web_init f_Web_eq c_BadPurse c_BadWish c_BadDeal c_Web c_ZERO d_is_integer d_is_row d_is_fraction d_is_amount d_is_some d_are_amounts d_added d_negated d_lessened d_multiplied d_divided d_squared d_summed d_lies_below d_is_stall d_hold_of d_stalls_of d_kept_of d_held d_is_index d_is_move d_check_purse d_check_wish d_stall_led d_stall_behind d_stalls_behind d_deal_fault d_check_deal d_web_behind d_left_with d_played d_owes d_is_deal d_stands_alike d_check_alike d_change_of d_l_deck d_l_pick d_l_fold d_l_divisor d_l_made d_l_amount d_l_stall d_l_deep d_l_odd d_l_row d_l_bad_row d_l_move d_l_bad_deal d_l_is_some d_l_is_row d_l_is_below d_l_is_move d_l_due d_l_answer d_l_word d_l_word_is_due d_law d_BadDeal_init d_Web_init d_Web_eq) : FnOk P w K mg base CX0 4 f_is_move d_is_move ["web", "thing"] (sp_is_moveJ K c_Web) := by
  have G_is_integer : FnOk P w K mg base CX0 1 f_is_integer d_is_integer ["thing"] (sp_isiJ K) := ok_is_integerJ T
  have G_is_index : FnOk P w K mg base CX0 2 f_is_index d_is_index ["web", "thing"] (sp_is_indexJ K c_Web) := ok_is_indexJ T
  have G_is_some : FnOk P w K mg base CX0 3 f_is_some d_is_some ["thing"] (sp_issJ K) := ok_is_someJ T
  refine T.F_is_move.ok sc_is_move (fun vs H Q E h => ?_) (fun cdv A outer sh H vs Q E hr h => ?_)
  · obtain ⟨x, y, D, n, ss, t, rfl, _⟩ := h
    rfl
  · obtain ⟨x, y, D, n, ss, t, rfl, hw, hy, q⟩ := h
    refine ⟨_, (pss_cons (ps_if (PW.pt (pw_or (pt_not (pt_val (pe_callB call_isi (by rfl) T.z_isinstance (by decide +kernel) (pa_cons (pv 1) (pa_cons (pe_bltn (v := .ty "tuple") (u := .type "tuple") (by rfl) T.z_tuple (by decide +kernel) rfl) pa_nil))))) (pw_or1 (pt_cmpR op_ne (pe_callB call_lenN (by rfl) T.z_len (by decide +kernel) (pa_cons (pv 1) pa_nil)) pe_int (nomark _)))))
        (pss_one (ps_ret pe_bl))
        pss_nil)
      (pss_cons (ps_asg (pv 1) (pg_tup rfl (pgs_cons (pg_name (i := 2) sc_is_move.nd rfl (by first | exact Or.inl rfl | exact Or.inr rfl)) (pgs_cons (pg_name (i := 3) sc_is_move.nd rfl (by first | exact Or.inl rfl | exact Or.inr rfl)) (pgs_cons (pg_name (i := 4) sc_is_move.nd rfl (by first | exact Or.inl rfl | exact Or.inr rfl)) pgs_nil)))))
      (pss_cons (ps_if (PW.pt (pw_or (pt_not (pt_val (pe_call G_is_index (hr.mono (by decide)) (by rfl) T.g_is_index T.k_is_index T.b_is_index .nil pass0 (pa_cons (pv 0) (pa_cons (pv 2) pa_nil))))) (pw_or1 (pt_not (pt_val (pe_call G_is_integer (hr.mono (by decide)) (by rfl) T.g_is_integer T.k_is_integer T.b_is_integer .nil pass0 (pa_cons (pv 3) pa_nil)))))))
        (pss_one (ps_ret pe_bl))
        pss_nil)
      (pss_one (ps_ret (pe_and (pe_cmpR op_in_seq (pv 3) (pe_slice sl_tup (pe_ix ix_tup (pe_fld (pv 0) rfl) (pv 2) (fun _ _ => rfl)) po_none (po_some pe_int)) (by rfl)) (pe_one (pe_call G_is_some (hr.mono (by decide)) (by rfl) T.g_is_some T.k_is_some T.b_is_some .nil pass0 (pa_cons (pv 4) pa_nil))))))))), ?_⟩
    walk_at "r"
    rcases hy with ⟨p, vx, vy, vz, a, b, r, rfl, np, hp, ja, jb, jr, rfl⟩ | ⟨⟨i, rfl⟩ | ⟨o, hn⟩, rfl⟩
    · walk_at "r"
      refine ⟨_, _, D, n, ss, a, rfl, hw, ja, ?_⟩
      cases ca : ixOk ss.length a with
      | false =>
        have q := q _ (Same.refl _)
        have e : mvOk ss (some (a, b, r)) = false := by
          cases a with
          | none => rfl
          | some i =>
            cases b with
            | none => rfl
            | some w =>
              show (ixOk ss.length (some i) && _) = false
              rw [ca, Bool.false_and]
        rw [e] at q
        walk_at "r"
        exact q
      | true =>
        walk_at "r"
        obtain ⟨bb, hb, eb⟩ := jb.isi
        refine ⟨_, bb, rfl, hb, ?_⟩
        cases b with
        | none =>
          rw [Option.isSome_none] at eb
          subst eb
          have q := q _ (Same.refl _)
          have e : mvOk ss (some (a, none, r)) = false := by cases a <;> rfl
          rw [e] at q
          walk_at "r"
          exact q
        | some wi =>
          rw [Option.isSome_some] at eb
          subst eb
          walk_at "r"
          obtain ⟨i, rfl⟩ : ∃ i, a = some i := by
            cases a with
            | none => cases ca
            | some i => exact ⟨i, rfl⟩
          have ex : vx = .int i := by
            rcases ja with ⟨_, h1, h2⟩ | ⟨_, h2⟩
            · cases h2
              exact h1
            · cases h2
          have ey : vy = .int wi := by
            rcases jb with ⟨_, h1, h2⟩ | ⟨_, h2⟩
            · cases h2
              exact h1
            · cases h2
          subst ex
          subst ey
          have ca' : (decide (0 ≤ i) && decide (i < (ss.length : Nat))) = true := ca
          rw [Bool.and_eq_true, decide_eq_true_eq, decide_eq_true_eq] at ca'
          obtain ⟨j, rfl⟩ := Int.eq_ofNat_of_zero_le ca'.1
          have hj : j < ss.length := by omega
          obtain ⟨s, hs⟩ : ∃ s, ss[j]? = some s := ⟨_, List.getElem?_eq_getElem hj⟩
          obtain ⟨px, dx, t, xs, rfl, hpx, ht, hss⟩ := id hw
          obtain ⟨z, hz, ⟨pz, va, vb, vr, rfl, hpz, _⟩⟩ := hss.get hs
          have e : mvOk ss (some (some (j : Int), some wi, r)) = ((decide (wi = (s.u : Nat)) || decide (wi = (s.v : Nat))) && sa r) := by
            show (ixOk ss.length (some (j : Int)) && (wrOk ss j wi && sa r)) = _
            rw [ca, Bool.true_and]
            unfold wrOk
            rw [Int.toNat_natCast, hs]
          rw [e] at q
          refine ⟨_, _, _, _, _, rfl, hpx, T.w_Web.it.cl, T.n_Web_stalls, wF_stalls _ _, ?_⟩
          walk_at "r"
          refine rd_ixT ht (at_some hz) ?_
          walk_at "r"
          refine ⟨_, _, rfl, .of hpz, (by show ¬ (HT.sIx 5 0 none = 0 ∧ HT.sIx 5 5 (some 2) = 5); decide), fun p2 n2 => ?_⟩
          have sm := same_upd (o := .tup (cutV [V.int (s.u : Nat), .int (s.v : Nat), va, vb, vr] none (some 2))) n2
          refine ⟨_, _, rfl, .inr (.of upd_same), rfl, rfl, ?_⟩
          have e2 : inV (.int wi) (cutV [V.int (s.u : Nat), .int (s.v : Nat), va, vb, vr] none (some 2)) = (decide (wi = (s.u : Nat)) || decide (wi = (s.v : Nat))) := by
            rw [show cutV [V.int (s.u : Nat), .int (s.v : Nat), va, vb, vr] none (some 2) = [V.int (s.u : Nat), .int (s.v : Nat)] from rfl]
            simp [inV, eqV, Bool.beq_eq_decide_eq]
            rw [show decide (((s.u : Nat) : Int) = wi) = decide (wi = (s.u : Nat)) from decide_eq_decide.mpr eq_comm, show decide (((s.v : Nat) : Int) = wi) = decide (wi = (s.v : Nat)) from decide_eq_decide.mpr eq_comm]
          rw [e2, if_neg Bool.false_ne_true]
          cases cw : (decide (wi = (s.u : Nat)) || decide (wi = (s.v : Nat))) with
          | false =>
            rw [cw] at q
            walk_at "r"
            exact q _ sm
          | true =>
            rw [cw] at q
            walk_at "r"
            refine ⟨_, D, r, rfl, jr.same sm, ?_⟩
            exact q _ sm
    · have q := q _ (Same.refl _)
      walk_at "r"
      exact q
    · have q := q _ (Same.refl _)
      obtain ⟨b1, b2, b3, hb, -, -, h3, ht⟩ := o.isi
      walk_at "r"
      refine h3 _ ?_
      cases b3 with
      | false =>
        walk_at "r"
        exact q
      | true =>
        obtain ⟨p, xs, rfl, np, hp⟩ := ht rfl
        have hl : ¬ ((xs.length : Int) = 3) := by
          have := hn p xs rfl hp
          omega
        walk_at "r"
        exact q
end
end My
namespace My
open PySem PySem.Spec PyProof.Rows L2
variable {K : PySem.W.Frag}
/-! ### rows and deals of any things, judged -/
def NoSq (K : PySem.W.Frag) (D : Addr) (H : Hp) (v : V) : Prop := (∃ i : Int, v = .int i) ∨ Od K D H v ∧ ∀ p xs, v = .ref p → H p ≠ some (.lst xs) ∧ H p ≠ some (.tup xs)
theorem NoSq.fw {D : Addr} {H H' : Hp} {v : V} (o : NoSq K D H v) (f : Fw D H H') : NoSq K D H' v := by
  rcases o with i | ⟨o, h⟩
  · exact .inl i
  · refine .inr ⟨o.fw f, fun p xs e => ?_⟩
    subst e
    cases o with
    | lst n h3 => exact absurd h3 (h _ _ rfl).1
    | tup n h3 => exact absurd h3 (h _ _ rfl).2
    | dK n h3 =>
      rw [f _ _ n h3]
      exact ⟨(fun z => by cases z), (fun z => by cases z)⟩
    | ins n h3 c =>
      rw [f _ _ n h3]
      exact ⟨(fun z => by cases z), (fun z => by cases z)⟩
theorem nosq_isiT {D tp : Addr} {H : Hp} {v : V} {Q : VK} (o : NoSq K D H v) (ht : H tp = some (.tup [.ty "list", .ty "tuple"])) (q : Q (.bl false) H) : rIsiT K [v, .ref tp] H Q := by
  have two : ∀ {t : Value}, PySem.W.kitOne K t (.type "list") = some false → PySem.W.kitOne K t (.type "tuple") = some false → PySem.W.kitAny K t [.type "list", .type "tuple"] = some false := fun h1 h2 =>
    kitAny_cons (b := false) h1 (fun _ => kitAny_cons (b := false) h2 (fun _ => kitAny_nil) (fun z => Bool.noConfusion z)) (fun z => Bool.noConfusion z)
  have cs : Paired ClsV [V.ty "list", .ty "tuple"] [Value.type "list", .type "tuple"] := .cons (.ty _) (.cons (.ty _) .nil)
  rcases o with ⟨i, rfl⟩ | ⟨o, h⟩
  · exact ⟨_, _, _, _, _, false, rfl, ht, cs, .base (.int _), two (kit_ty (by decide +kernel)) (kit_ty (by decide +kernel)), q⟩
  · cases o with
    | non => exact ⟨_, _, _, _, _, false, rfl, ht, cs, .base .non, two (kit_ty (by decide +kernel)) (kit_ty (by decide +kernel)), q⟩
    | bl b => exact ⟨_, _, _, _, _, false, rfl, ht, cs, .base (.bl _), two (kit_ty (by decide +kernel)) (kit_ty (by decide +kernel)), q⟩
    | str s => exact ⟨_, _, _, _, _, false, rfl, ht, cs, .base (.str _), two (kit_ty (by decide +kernel)) (kit_ty (by decide +kernel)), q⟩
    | lst n h3 => exact absurd h3 (h _ _ rfl).1
    | tup n h3 => exact absurd h3 (h _ _ rfl).2
    | dK n h3 => exact ⟨_, _, _, _, _, false, rfl, ht, cs, .base (.dK h3), two (kit_ty (by decide +kernel)) (kit_ty (by decide +kernel)), q⟩
    | ins n h3 c => exact ⟨_, _, _, _, _, false, rfl, ht, cs, .base (.ins h3 c.cl c.ha c.hn c.ht c.mo), two c.kl c.kt, q⟩
theorem sq_isiT {L tp : Addr} {H : Hp} {xs : List V} {Q : VK} (h : H L = some (.lst xs) ∨ H L = some (.tup xs)) (ht : H tp = some (.tup [.ty "list", .ty "tuple"])) (q : Q (.bl true) H) : rIsiT K [.ref L, .ref tp] H Q := by
  have cs : Paired ClsV [V.ty "list", .ty "tuple"] [Value.type "list", .type "tuple"] := .cons (.ty _) (.cons (.ty _) .nil)
  rcases h with h | h
  · exact ⟨_, _, _, _, _, true, rfl, ht, cs, .base (.lst h), kitAny_cons (b := true) (kit_ty (by decide +kernel)) (fun z => Bool.noConfusion z) (fun _ => rfl), q⟩
  · exact ⟨_, _, _, _, _, true, rfl, ht, cs, .base (.tup h), kitAny_cons (b := false) (kit_ty (by decide +kernel)) (fun _ => kitAny_cons (b := true) (kit_ty (by decide +kernel)) (fun z => Bool.noConfusion z) (fun _ => rfl)) (fun z => Bool.noConfusion z), q⟩
def SqAt (H : Hp) (p : Addr) (xs : List V) : Prop := H p = some (.lst xs) ∨ H p = some (.tup xs)
theorem SqAt.fw {D p : Addr} {H H' : Hp} {xs : List V} (h : SqAt H p xs) (n : p ≠ D) (f : Fw D H H') : SqAt H' p xs := h.imp (f _ _ n) (f _ _ n)
theorem SqAt.same {p : Addr} {H H' : Hp} {xs : List V} (h : SqAt H p xs) (s : Same H H') : SqAt H' p xs := h.imp (s _ _) (s _ _)
theorem SqAt.sq {p : Addr} {H : Hp} {xs : List V} (h : SqAt H p xs) : Sq K H p xs := h.imp .of .of
/-- a row with the word whether it holds just so many amounts -/
def JRw (K : PySem.W.Frag) (D : Addr) (H : Hp) (n : Nat) (v : V) (b : Bool) : Prop :=
  (∃ p xs os, v = .ref p ∧ p ≠ D ∧ SqAt H p xs ∧ Paired (JF K D H) xs os ∧ xs.length ≤ 20 ∧ b = (decide (xs.length = n) && os.all am)) ∨ (NoSq K D H v ∧ b = false)
theorem prd_mp {α β : Type} {R R' : α → β → Prop} (f : ∀ a b, R a b → R' a b) {l : List α} {m : List β} (h : Paired R l m) : Paired R' l m := by
  induction h with
  | nil => exact .nil
  | cons h t ih => exact .cons (f _ _ h) ih
theorem JRw.fw {M c n : Nat} {D C : Addr} {H H' : Hp} {v : V} {b : Bool} (j : JRw K D H n v b) (dk : Deck M D C H c) (f : Fw D H H') : JRw K D H' n v b := by
  rcases j with ⟨p, xs, os, e, np, h, hj, l, e2⟩ | ⟨o, e⟩
  · exact .inl ⟨p, xs, os, e, np, h.fw np f, prd_mp (fun _ _ h => h.fw dk f) hj, l, e2⟩
  · exact .inr ⟨o.fw f, e⟩
/-- the first thing that is no move -/
def bad1 (ss : List Stl) : List Jm → Option Nat
  | [] => none
  | t :: ts => if mvOk ss t = true then (bad1 ss ts).map (· + 1) else some 0
def flt (ss : List Stl) (ts : List Jm) : Option Int := if 200 < ts.length then some (-1) else (bad1 ss ts).map (fun i : Nat => (i : Int))
theorem bad1_at {ss : List Stl} : ∀ {ts : List Jm} {i : Nat} {t : Jm}, ts[i]? = some t → mvOk ss t = false → (∀ (j : Nat) (u : Jm), j < i → ts[j]? = some u → mvOk ss u = true) → bad1 ss ts = some i
  | [], i, t, h, _, _ => by simp at h
  | u :: ts, 0, t, h, hb, _ => by
    have e : u = t := by simpa using h
    subst e
    unfold bad1
    rw [hb, if_neg Bool.false_ne_true]
  | u :: ts, i + 1, t, h, hb, hp => by
    have h0 := hp 0 u (by omega) rfl
    unfold bad1
    rw [h0, if_pos rfl, bad1_at (i := i) (by simpa using h) hb fun j w hj hw => hp (j + 1) w (by omega) (by simpa using hw)]
    rfl
theorem bad1_none {ss : List Stl} : ∀ {ts : List Jm}, (∀ (j : Nat) (u : Jm), ts[j]? = some u → mvOk ss u = true) → bad1 ss ts = none
  | [], _ => rfl
  | u :: ts, h => by
    have h0 := h 0 u rfl
    unfold bad1
    rw [h0, if_pos rfl, bad1_none fun j w hw => h (j + 1) w (by simpa using hw)]
    rfl
theorem bad1_ok {ss : List Stl} : ∀ {ts : List Jm}, bad1 ss ts = none → ∀ t ∈ ts, mvOk ss t = true
  | [], _, t, h => by cases h
  | u :: ts, h, t, ht => by
    unfold bad1 at h
    by_cases c : mvOk ss u = true
    · rw [if_pos c, Option.map_eq_none_iff] at h
      rcases List.mem_cons.mp ht with rfl | ht
      · exact c
      · exact bad1_ok h t ht
    · rw [if_neg c] at h
      cases h
/-- a deal with the place of the first thing that is no move -/
def JDl (K : PySem.W.Frag) (D : Addr) (H : Hp) (ss : List Stl) (v : V) (o : Option Int) : Prop :=
  (∃ p xs ts, v = .ref p ∧ p ≠ D ∧ SqAt H p xs ∧ Paired (JM K D H) xs ts ∧ xs.length ≤ 900 ∧ o = flt ss ts) ∨ (NoSq K D H v ∧ o = some (-1))
theorem JDl.fw {M c : Nat} {D C : Addr} {H H' : Hp} {ss : List Stl} {v : V} {o : Option Int} (j : JDl K D H ss v o) (dk : Deck M D C H c) (f : Fw D H H') : JDl K D H' ss v o := by
  rcases j with ⟨p, xs, os, e, np, h, hj, l, e2⟩ | ⟨o, e⟩
  · exact .inl ⟨p, xs, os, e, np, h.fw np f, prd_mp (fun _ _ h => h.fw dk f) hj, l, e2⟩
  · exact .inr ⟨o.fw f, e⟩
theorem JM.same {D : Addr} {H H' : Hp} {v : V} {t : Jm} (j : JM K D H v t) (s : Same H H') : JM K D H' v t := by
  rcases j with ⟨p, x, y, z, a, b, r, e, n, h, h1, h2, h3, e2⟩ | ⟨i | ⟨o, h⟩, e⟩
  · exact .inl ⟨p, x, y, z, a, b, r, e, n, s _ _ h, h1.fw (Same.fw s), h2.fw (Same.fw s), h3.same s, e2⟩
  · exact .inr ⟨.inl i, e⟩
  · refine .inr ⟨.inr ⟨o.fw (Same.fw s), fun p xs e z => ?_⟩, e⟩
    subst e
    cases o with
    | lst n h3 =>
      rw [s _ _ h3] at z
      cases z
    | tup n h3 =>
      rw [s _ _ h3] at z
      cases z
      exact h _ _ rfl h3
    | dK n h3 =>
      rw [s _ _ h3] at z
      cases z
    | ins n h3 c =>
      rw [s _ _ h3] at z
      cases z
theorem JRw.same {n : Nat} {D : Addr} {H H' : Hp} {v : V} {b : Bool} (j : JRw K D H n v b) (s : Same H H') : JRw K D H' n v b := by
  rcases j with ⟨p, xs, os, e, np, h, hj, l, e2⟩ | ⟨o, e⟩
  · exact .inl ⟨p, xs, os, e, np, h.same s, prd_mp (fun _ _ h => h.same s) hj, l, e2⟩
  · exact .inr ⟨o.fw (Same.fw s), e⟩
theorem JDl.same {D : Addr} {H H' : Hp} {ss : List Stl} {v : V} {o : Option Int} (j : JDl K D H ss v o) (s : Same H H') : JDl K D H' ss v o := by
  rcases j with ⟨p, xs, os, e, np, h, hj, l, e2⟩ | ⟨o, e⟩
  · exact .inl ⟨p, xs, os, e, np, h.same s, prd_mp (fun _ _ h => h.same s) hj, l, e2⟩
  · exact .inr ⟨o.fw (Same.fw s), e⟩
def ovI : Option Int → V
  | none => .non
  | some i => .int i
theorem fn_calm {P : Program} {w : World} {mg : Str → Option Value} {base : Heap} {CX : CXT} {k : Nat} {f : Addr} {fd : FuncData} {ps : List Str} {sp : Sp} (F : FnOk P w K mg base CX0 k f fd ps sp) : FnOk P w K mg base CX k f fd ps sp :=
  ⟨F.len, fun A outer s H args us vs Q E hr he hb hv hs => codeAny_mono (F.run A outer s H args us vs Q E hr he hb hv hs) fun r s' h => by
    unfold CR at h ⊢
    split at h
    · exact h
    · exact h.elim
    · exact h.elim⟩
section
variable {P : Program} {w : World} {K : PySem.W.Frag} {mg : Str → Option Value} {base : Heap} {f_is_integer f_is_row f_is_fraction f_is_amount f_is_some f_are_amounts f_added f_negated f_lessened f_multiplied f_divided f_squared f_summed f_lies_below f_is_stall f_hold_of f_stalls_of f_kept_of f_held f_is_index f_is_move f_check_purse f_check_wish f_stall_led f_stall_behind f_stalls_behind f_deal_fault f_check_deal f_web_behind f_left_with f_played f_owes f_is_deal f_stands_alike f_check_alike f_change_of f_l_deck f_l_pick f_l_fold f_l_divisor f_l_made f_l_amount f_l_stall f_l_deep f_l_odd f_l_row f_l_bad_row f_l_move f_l_bad_deal f_l_is_some f_l_is_row f_l_is_below f_l_is_move f_l_due f_l_answer f_l_word f_l_word_is_due f_law f_BadDeal_init f_Web_init f_Web_eq c_BadPurse c_BadWish c_BadDeal c_Web c_ZERO : Addr} {d_is_integer d_is_row d_is_fraction d_is_amount d_is_some d_are_amounts d_added d_negated d_lessened d_multiplied d_divided d_squared d_summed d_lies_below d_is_stall d_hold_of d_stalls_of d_kept_of d_held d_is_index d_is_move d_check_purse d_check_wish d_stall_led d_stall_behind d_stalls_behind d_deal_fault d_check_deal d_web_behind d_left_with d_played d_owes d_is_deal d_stands_alike d_check_alike d_change_of d_l_deck d_l_pick d_l_fold d_l_divisor d_l_made d_l_amount d_l_stall d_l_deep d_l_odd d_l_row d_l_bad_row d_l_move d_l_bad_deal d_l_is_some d_l_is_row d_l_is_below d_l_is_move d_l_due d_l_answer d_l_word d_l_word_is_due d_law d_BadDeal_init d_Web_init d_Web_eq : FuncData}
def sp_is_rowN (K : PySem.W.Frag) : Sp := fun vs H Q _ => ∃ v D, vs = [v] ∧ NoSq K D H v ∧ ∀ H', Same H H' → Q (.bl false) H'
theorem ok_is_rowN (T : Txt K mg f_is_integer f_is_row f_is_fraction f_is_amount f_is_some f_are_amounts f_added f_negated f_lessened f_multiplied f_divided f_squared f_summed f_lies_below f_is_stall f_hold_of f_stalls_of f_kept_of f_held f_is_index f_is_move f_check_purse f_check_wish f_stall_led f_stall_behind f_stalls_behind f_deal_fault f_check_deal f_web_behind f_left_with f_played f_owes f_is_deal f_stands_alike f_check_alike f_change_of f_l_deck f_l_pick f_l_fold f_l_divisor f_l_made f_l_amount f_l_stall f_l_deep f_l_odd f_l_row f_l_bad_row f_l_move f_l_bad_deal f_l_is_some f_l_is_row f_l_is_below f_l_is_move f_l_due f_l_answer f_l_word f_l_word_is_due f_law f_BadDeal_init f_Web_init f_Web_eq c_BadPurse c_BadWish c_BadDeal c_Web c_ZERO d_is_integer d_is_row d_is_fraction d_is_amount d_is_some d_are_amounts d_added d_negated d_lessened d_multiplied d_divided d_squared d_summed d_lies_below d_is_stall d_hold_of d_stalls_of d_kept_of d_held d_is_index d_is_move d_check_purse d_check_wish d_stall_led d_stall_behind d_stalls_behind d_deal_fault d_check_deal d_web_behind d_left_with d_played d_owes d_is_deal d_stands_alike d_check_alike d_change_of d_l_deck d_l_pick d_l_fold d_l_divisor d_l_made d_l_amount d_l_stall d_l_deep d_l_odd d_l_row d_l_bad_row d_l_move d_l_bad_deal d_l_is_some d_l_is_row d_l_is_below d_l_is_move d_l_due d_l_answer d_l_word d_l_word_is_due d_law d_BadDeal_init d_Web_init d_Web_eq) : FnOk P w K mg base CX0 1 f_is_row d_is_row ["thing"] (sp_is_rowN K) := by
  refine T.F_is_row.ok sc_is_row (fun vs H Q E h => ?_) (fun cdv A outer s H vs Q E hr h => ?_)
  · obtain ⟨v, D, rfl, _⟩ := h
    rfl
  · obtain ⟨v, D, rfl, h, q⟩ := h
    refine ⟨_, (pss_one (ps_ret (pe_callB call_isiT (by rfl) T.z_isinstance (by decide +kernel) (pa_cons (pv 0) (pa_cons (pe_tup (pa_cons (pe_bltn (v := .ty "list") (u := .type "list") (by rfl) T.z_list (by decide +kernel) rfl) (pa_cons (pe_bltn (v := .ty "tuple") (u := .type "tuple") (by rfl) T.z_tuple (by decide +kernel) rfl) pa_nil))) pa_nil))))), ?_⟩
    walk_at "r"
    intro p np
    walk_at "r"
    exact nosq_isiT (h.fw (Same.fw (same_upd np))) upd_same (q _ (same_upd np))
theorem ok_BadDeal_init (T : Txt K mg f_is_integer f_is_row f_is_fraction f_is_amount f_is_some f_are_amounts f_added f_negated f_lessened f_multiplied f_divided f_squared f_summed f_lies_below f_is_stall f_hold_of f_stalls_of f_kept_of f_held f_is_index f_is_move f_check_purse f_check_wish f_stall_led f_stall_behind f_stalls_behind f_deal_fault f_check_deal f_web_behind f_left_with f_played f_owes f_is_deal f_stands_alike f_check_alike f_change_of f_l_deck f_l_pick f_l_fold f_l_divisor f_l_made f_l_amount f_l_stall f_l_deep f_l_odd f_l_row f_l_bad_row f_l_move f_l_bad_deal f_l_is_some f_l_is_row f_l_is_below f_l_is_move f_l_due f_l_answer f_l_word f_l_word_is_due f_law f_BadDeal_init f_Web_init f_Web_eq c_BadPurse c_BadWish c_BadDeal c_Web c_ZERO d_is_integer d_is_row d_is_fraction d_is_amount d_is_some d_are_amounts d_added d_negated d_lessened d_multiplied d_divided d_squared d_summed d_lies_below d_is_stall d_hold_of d_stalls_of d_kept_of d_held d_is_index d_is_move d_check_purse d_check_wish d_stall_led d_stall_behind d_stalls_behind d_deal_fault d_check_deal d_web_behind d_left_with d_played d_owes d_is_deal d_stands_alike d_check_alike d_change_of d_l_deck d_l_pick d_l_fold d_l_divisor d_l_made d_l_amount d_l_stall d_l_deep d_l_odd d_l_row d_l_bad_row d_l_move d_l_bad_deal d_l_is_some d_l_is_row d_l_is_below d_l_is_move d_l_due d_l_answer d_l_word d_l_word_is_due d_law d_BadDeal_init d_Web_init d_Web_eq) : FnOk P w K mg base CX0 1 f_BadDeal_init d_BadDeal_init ["self", "index"] (sp_xinit c_BadDeal "index") := by
  refine T.F_BadDeal_init.ok sc_BadDeal_init (fun vs H Q E h => ?_) (fun cdv A outer s H vs Q E hr h => ?_)
  · obtain ⟨p, v, rfl, _⟩ := h
    rfl
  · obtain ⟨p, v, rfl, hp, q⟩ := h
    refine ⟨_, (pss_one (ps_ost (pv 0) (pv 1))), ?_⟩
    walk_at "r"
    exact ⟨p, _, rfl, T.c_BadDeal.ox, T.c_BadDeal.no, .inl ⟨hp, fun dx n1 n2 => q dx n1 n2⟩⟩
def sp_check_rowX (K : PySem.W.Frag) (C CB : Addr) : Sp := fun vs H Q E => ∃ (x p : V) (D : Addr) (n : Nat) (ss : List Stl) (b : Bool), vs = [x, p] ∧ IsWeb K C H x n ss ∧ JRw K D H n p b ∧ (b = true → ∀ H', Same H H' → Q .non H') ∧ (b = false → ∀ H', Same H H' → E (.ref CB) none H')
theorem ok_check_purseX (T : Txt K mg f_is_integer f_is_row f_is_fraction f_is_amount f_is_some f_are_amounts f_added f_negated f_lessened f_multiplied f_divided f_squared f_summed f_lies_below f_is_stall f_hold_of f_stalls_of f_kept_of f_held f_is_index f_is_move f_check_purse f_check_wish f_stall_led f_stall_behind f_stalls_behind f_deal_fault f_check_deal f_web_behind f_left_with f_played f_owes f_is_deal f_stands_alike f_check_alike f_change_of f_l_deck f_l_pick f_l_fold f_l_divisor f_l_made f_l_amount f_l_stall f_l_deep f_l_odd f_l_row f_l_bad_row f_l_move f_l_bad_deal f_l_is_some f_l_is_row f_l_is_below f_l_is_move f_l_due f_l_answer f_l_word f_l_word_is_due f_law f_BadDeal_init f_Web_init f_Web_eq c_BadPurse c_BadWish c_BadDeal c_Web c_ZERO d_is_integer d_is_row d_is_fraction d_is_amount d_is_some d_are_amounts d_added d_negated d_lessened d_multiplied d_divided d_squared d_summed d_lies_below d_is_stall d_hold_of d_stalls_of d_kept_of d_held d_is_index d_is_move d_check_purse d_check_wish d_stall_led d_stall_behind d_stalls_behind d_deal_fault d_check_deal d_web_behind d_left_with d_played d_owes d_is_deal d_stands_alike d_check_alike d_change_of d_l_deck d_l_pick d_l_fold d_l_divisor d_l_made d_l_amount d_l_stall d_l_deep d_l_odd d_l_row d_l_bad_row d_l_move d_l_bad_deal d_l_is_some d_l_is_row d_l_is_below d_l_is_move d_l_due d_l_answer d_l_word d_l_word_is_due d_law d_BadDeal_init d_Web_init d_Web_eq) : FnOk P w K mg base (L2.CX P w) 5 f_check_purse d_check_purse ["web", "purse"] (sp_check_rowX K c_Web c_BadPurse) := by
  have G_is_row : FnOk P w K mg base CX0 1 f_is_row d_is_row ["thing"] (fun vs H Q E => sp_is_row vs H Q E ∨ sp_is_rowN K vs H Q E) := fn_or (ok_is_row T) (ok_is_rowN T)
  have G_are_amounts : FnOk P w K mg base CX0 4 f_are_amounts d_are_amounts ["things", "number"] (sp_are_amountsJ K) := ok_are_amountsJ T
  refine T.F_check_purse.okX sc_check_purse (fun vs H Q E h => ?_) (fun cdv A outer s H vs Q E hr h => ?_)
  · obtain ⟨x, p, D, n, ss, b, rfl, _⟩ := h
    rfl
  · obtain ⟨x, p, D, n, ss, b, rfl, hw, hj, q, e⟩ := h
    refine ⟨_, (pss_one (ps_if (PW.pt (pw_or (pt_not (pt_val (pe_call G_is_row (hr.mono (by decide)) (by rfl) T.g_is_row T.k_is_row T.b_is_row .nil pass0 (pa_cons (pv 1) pa_nil)))) (pw_or1 (pt_not (pt_val (pe_call G_are_amounts (hr.mono (by decide)) (by rfl) T.g_are_amounts T.k_are_amounts T.b_are_amounts .nil pass0 (pa_cons (pv 1) (pa_cons (pe_fld (pv 0) rfl) pa_nil))))))))
        (pss_one (ps_raise0 rfl T.c_BadPurse (takes_of rfl rfl rfl rfl)))
        pss_nil)), ?_⟩
    walk_at "r"
    rcases hj with ⟨L, ys, os, rfl, np, hL, hjf, l20, rfl⟩ | ⟨o, rfl⟩
    · refine .inl ⟨L, ys, rfl, hL, fun H1 s1 => ?_⟩
      obtain ⟨px, dx, t, xs, rfl, hp, ht, hss⟩ := hw.same s1
      walk_at "r"
      refine ⟨_, _, _, _, _, rfl, hp, T.w_Web.it.cl, T.n_Web_wares, wF_wares _ _, ?_⟩
      walk_at "r"
      refine ⟨L, D, n, ys, os, rfl, (hL.same s1).sq, prd_mp (fun _ _ h => h.same s1) hjf, l20, fun H2 s2 => ?_⟩
      cases cb : (decide (ys.length = n) && os.all am) with
      | true =>
        walk_at "r"
        exact q cb _ (s1.trans s2)
      | false =>
        walk_at "r"
        exact e cb _ (s1.trans s2)
    · refine .inr ⟨p, D, rfl, o, fun H1 s1 => ?_⟩
      walk_at "r"
      exact e rfl _ s1
theorem ok_check_wishX (T : Txt K mg f_is_integer f_is_row f_is_fraction f_is_amount f_is_some f_are_amounts f_added f_negated f_lessened f_multiplied f_divided f_squared f_summed f_lies_below f_is_stall f_hold_of f_stalls_of f_kept_of f_held f_is_index f_is_move f_check_purse f_check_wish f_stall_led f_stall_behind f_stalls_behind f_deal_fault f_check_deal f_web_behind f_left_with f_played f_owes f_is_deal f_stands_alike f_check_alike f_change_of f_l_deck f_l_pick f_l_fold f_l_divisor f_l_made f_l_amount f_l_stall f_l_deep f_l_odd f_l_row f_l_bad_row f_l_move f_l_bad_deal f_l_is_some f_l_is_row f_l_is_below f_l_is_move f_l_due f_l_answer f_l_word f_l_word_is_due f_law f_BadDeal_init f_Web_init f_Web_eq c_BadPurse c_BadWish c_BadDeal c_Web c_ZERO d_is_integer d_is_row d_is_fraction d_is_amount d_is_some d_are_amounts d_added d_negated d_lessened d_multiplied d_divided d_squared d_summed d_lies_below d_is_stall d_hold_of d_stalls_of d_kept_of d_held d_is_index d_is_move d_check_purse d_check_wish d_stall_led d_stall_behind d_stalls_behind d_deal_fault d_check_deal d_web_behind d_left_with d_played d_owes d_is_deal d_stands_alike d_check_alike d_change_of d_l_deck d_l_pick d_l_fold d_l_divisor d_l_made d_l_amount d_l_stall d_l_deep d_l_odd d_l_row d_l_bad_row d_l_move d_l_bad_deal d_l_is_some d_l_is_row d_l_is_below d_l_is_move d_l_due d_l_answer d_l_word d_l_word_is_due d_law d_BadDeal_init d_Web_init d_Web_eq) : FnOk P w K mg base (L2.CX P w) 5 f_check_wish d_check_wish ["web", "wish"] (sp_check_rowX K c_Web c_BadWish) := by
  have G_is_row : FnOk P w K mg base CX0 1 f_is_row d_is_row ["thing"] (fun vs H Q E => sp_is_row vs H Q E ∨ sp_is_rowN K vs H Q E) := fn_or (ok_is_row T) (ok_is_rowN T)
  have G_are_amounts : FnOk P w K mg base CX0 4 f_are_amounts d_are_amounts ["things", "number"] (sp_are_amountsJ K) := ok_are_amountsJ T
  refine T.F_check_wish.okX sc_check_wish (fun vs H Q E h => ?_) (fun cdv A outer s H vs Q E hr h => ?_)
  · obtain ⟨x, p, D, n, ss, b, rfl, _⟩ := h
    rfl
  · obtain ⟨x, p, D, n, ss, b, rfl, hw, hj, q, e⟩ := h
    refine ⟨_, (pss_one (ps_if (PW.pt (pw_or (pt_not (pt_val (pe_call G_is_row (hr.mono (by decide)) (by rfl) T.g_is_row T.k_is_row T.b_is_row .nil pass0 (pa_cons (pv 1) pa_nil)))) (pw_or1 (pt_not (pt_val (pe_call G_are_amounts (hr.mono (by decide)) (by rfl) T.g_are_amounts T.k_are_amounts T.b_are_amounts .nil pass0 (pa_cons (pv 1) (pa_cons (pe_fld (pv 0) rfl) pa_nil))))))))
        (pss_one (ps_raise0 rfl T.c_BadWish (takes_of rfl rfl rfl rfl)))
        pss_nil)), ?_⟩
    walk_at "r"
    rcases hj with ⟨L, ys, os, rfl, np, hL, hjf, l20, rfl⟩ | ⟨o, rfl⟩
    · refine .inl ⟨L, ys, rfl, hL, fun H1 s1 => ?_⟩
      obtain ⟨px, dx, t, xs, rfl, hp, ht, hss⟩ := hw.same s1
      walk_at "r"
      refine ⟨_, _, _, _, _, rfl, hp, T.w_Web.it.cl, T.n_Web_wares, wF_wares _ _, ?_⟩
      walk_at "r"
      refine ⟨L, D, n, ys, os, rfl, (hL.same s1).sq, prd_mp (fun _ _ h => h.same s1) hjf, l20, fun H2 s2 => ?_⟩
      cases cb : (decide (ys.length = n) && os.all am) with
      | true =>
        walk_at "r"
        exact q cb _ (s1.trans s2)
      | false =>
        walk_at "r"
        exact e cb _ (s1.trans s2)
    · refine .inr ⟨p, D, rfl, o, fun H1 s1 => ?_⟩
      walk_at "r"
      exact e rfl _ s1
def sp_deal_faultJ (K : PySem.W.Frag) (C : Addr) : Sp := fun vs H Q _ => ∃ (x d : V) (D : Addr) (n : Nat) (ss : List Stl) (o : Option Int), vs = [x, d] ∧ IsWeb K C H x n ss ∧ JDl K D H ss d o ∧ ∀ H', Same H H' → Q (ovI o) H'
theorem ok_deal_faultJ (T : Txt K mg f_is_integer f_is_row f_is_fraction f_is_amount f_is_some f_are_amounts f_added f_negated f_lessened f_multiplied f_divided f_squared f_summed f_lies_below f_is_stall f_hold_of f_stalls_of f_kept_of f_held f_is_index f_is_move f_check_purse f_check_wish f_stall_led f_stall_behind f_stalls_behind f_deal_fault f_check_deal f_web_behind f_left_with f_played f_owes f_is_deal f_stands_alike f_check_alike f_change_of f_l_deck f_l_pick f_l_fold f_l_divisor f_l_made f_l_amount f_l_stall f_l_deep f_l_odd f_l_row f_l_bad_row f_l_move f_l_bad_deal f_l_is_some f_l_is_row f_l_is_below f_l_is_move f_l_due f_l_answer f_l_word f_l_word_is_due f_law f_BadDeal_init f_Web_init f_Web_eq c_BadPurse c_BadWish c_BadDeal c_Web c_ZERO d_is_integer d_is_row d_is_fraction d_is_amount d_is_some d_are_amounts d_added d_negated d_lessened d_multiplied d_divided d_squared d_summed d_lies_below d_is_stall d_hold_of d_stalls_of d_kept_of d_held d_is_index d_is_move d_check_purse d_check_wish d_stall_led d_stall_behind d_stalls_behind d_deal_fault d_check_deal d_web_behind d_left_with d_played d_owes d_is_deal d_stands_alike d_check_alike d_change_of d_l_deck d_l_pick d_l_fold d_l_divisor d_l_made d_l_amount d_l_stall d_l_deep d_l_odd d_l_row d_l_bad_row d_l_move d_l_bad_deal d_l_is_some d_l_is_row d_l_is_below d_l_is_move d_l_due d_l_answer d_l_word d_l_word_is_due d_law d_BadDeal_init d_Web_init d_Web_eq) : FnOk P w K mg base CX0 5 f_deal_fault d_deal_fault ["web", "thing"] (sp_deal_faultJ K c_Web) := by
  have G_is_row : FnOk P w K mg base CX0 1 f_is_row d_is_row ["thing"] (fun vs H Q E => sp_is_row vs H Q E ∨ sp_is_rowN K vs H Q E) := fn_or (ok_is_row T) (ok_is_rowN T)
  have G_is_move : FnOk P w K mg base CX0 4 f_is_move d_is_move ["web", "thing"] (sp_is_moveJ K c_Web) := ok_is_moveJ T
  refine T.F_deal_fault.ok sc_deal_fault (fun vs H Q E h => ?_) (fun cdv A outer s H vs Q E hr h => ?_)
  · obtain ⟨x, d, D, n, ss, o, rfl, _⟩ := h
    rfl
  · obtain ⟨x, d, D, n, ss, o, rfl, hw, hj, q⟩ := h
    refine ⟨_, (pss_cons (ps_if (PW.pt (pw_or (pt_not (pt_val (pe_call G_is_row (hr.mono (by decide)) (by rfl) T.g_is_row T.k_is_row T.b_is_row .nil pass0 (pa_cons (pv 1) pa_nil)))) (pw_or1 (pt_cmpR op_gt (pe_callB call_lenN (by rfl) T.z_len (by decide +kernel) (pa_cons (pv 1) pa_nil)) (C8.pe_gc (by rfl) T.v_MOST_MOVES) (nomark _)))))
        (pss_one (ps_ret (pe_un un_neg pe_int)))
        pss_nil)
      (pss_cons (ps_for PassesOwn.never rfl (pi_enumX (by rfl) T.z_enumerate (pa_cons (pv 1) pa_nil)) (pg_tup rfl (pgs_cons (pg_name (i := 2) sc_deal_fault.nd rfl (by first | exact Or.inl rfl | exact Or.inr rfl)) (pgs_cons (pg_name (i := 3) sc_deal_fault.nd rfl (by first | exact Or.inl rfl | exact Or.inr rfl)) pgs_nil)))
        (pss_one (ps_if (pt_not (pt_val (pe_call G_is_move (hr.mono (by decide)) (by rfl) T.g_is_move T.k_is_move T.b_is_move .nil pass0 (pa_cons (pv 0) (pa_cons (pv 3) pa_nil)))))
            (pss_one (ps_ret (pv 2)))
            pss_nil)))
      (pss_one (ps_ret pe_non)))), ?_⟩
    walk_at "r"
    rcases hj with ⟨L, ys, ts, rfl, np, hL, hms, l9, rfl⟩ | ⟨o, rfl⟩
    · have hl := Paired.length hms
      refine .inl ⟨L, ys, rfl, hL, fun H1 s1 => ?_⟩
      have hL1 := hL.same s1
      walk_at "r"
      refine ⟨L, ys, rfl, hL1.sq, ?_⟩
      unfold flt at q
      by_cases c200 : 200 < ts.length
      · rw [if_pos c200] at q
        have c' : (ys.length : Int) > 200 := by omega
        walk_at "r"
        exact q _ s1
      · rw [if_neg c200] at q
        have c' : ¬ (ys.length : Int) > 200 := by omega
        walk_at "r"
        refine ⟨L, ys, rfl, ?_⟩
        rcases hL1 with hL1 | hL1
        · refine .inl ⟨.of hL1, ?_⟩
          refine for_enum (K := K) (a := L) (xs := ys) (fun i σ H' => ∃ t2 t3, σ = [some x, some (.ref L), t2, t3] ∧ Same H1 H' ∧ ∀ j u, j < i → ts[j]? = some u → mvOk ss u = true) ⟨_, _, rfl, Same.refl _, fun j u hj => absurd hj (Nat.not_lt_zero _)⟩ ?_ ?_ ?_
          · rintro i σ H' _ ⟨t2, t3, rfl, s2, _⟩
            exact .of (s2 _ _ hL1)
          · rintro i v T2 σ H' hx ⟨t2, t3, rfl, s2, hb⟩ nT
            obtain ⟨t, ht, jm⟩ := Paired.at hms hx
            have sm := same_upd (o := .tup [.int (i : Nat), v]) nT
            walk_at "r"
            refine ⟨x, v, D, n, ss, t, rfl, hw.same ((s1.trans s2).trans sm), jm.same ((s1.trans s2).trans sm), fun H3 s3 => ?_⟩
            cases cm : mvOk ss t with
            | true =>
              walk_at "r"
              refine ⟨_, _, rfl, (s2.trans sm).trans s3, fun j u hj hu => ?_⟩
              by_cases e : j = i
              · subst e
                rw [ht] at hu
                cases hu
                exact cm
              · exact hb j u (by omega) hu
            | false =>
              walk_at "r"
              have q := q _ (((s1.trans s2).trans sm).trans s3)
              rw [bad1_at ht cm hb] at q
              exact q
          · rintro σ H' ⟨t2, t3, rfl, s2, hb⟩
            walk_at "r"
            have q := q _ (s1.trans s2)
            rw [bad1_none fun j u hu => hb j u (by have := (List.getElem?_eq_some_iff.mp hu).1; omega) hu] at q
            exact q
        · refine .inr ⟨.of hL1, ?_⟩
          refine for_enumT (K := K) (a := L) (xs := ys) (fun i σ H' => ∃ t2 t3, σ = [some x, some (.ref L), t2, t3] ∧ Same H1 H' ∧ ∀ j u, j < i → ts[j]? = some u → mvOk ss u = true) ⟨_, _, rfl, Same.refl _, fun j u hj => absurd hj (Nat.not_lt_zero _)⟩ ?_ ?_ ?_
          · rintro i σ H' _ ⟨t2, t3, rfl, s2, _⟩
            exact .of (s2 _ _ hL1)
          · rintro i v T2 σ H' hx ⟨t2, t3, rfl, s2, hb⟩ nT
            obtain ⟨t, ht, jm⟩ := Paired.at hms hx
            have sm := same_upd (o := .tup [.int (i : Nat), v]) nT
            walk_at "r"
            refine ⟨x, v, D, n, ss, t, rfl, hw.same ((s1.trans s2).trans sm), jm.same ((s1.trans s2).trans sm), fun H3 s3 => ?_⟩
            cases cm : mvOk ss t with
            | true =>
              walk_at "r"
              refine ⟨_, _, rfl, (s2.trans sm).trans s3, fun j u hj hu => ?_⟩
              by_cases e : j = i
              · subst e
                rw [ht] at hu
                cases hu
                exact cm
              · exact hb j u (by omega) hu
            | false =>
              walk_at "r"
              have q := q _ (((s1.trans s2).trans sm).trans s3)
              rw [bad1_at ht cm hb] at q
              exact q
          · rintro σ H' ⟨t2, t3, rfl, s2, hb⟩
            walk_at "r"
            have q := q _ (s1.trans s2)
            rw [bad1_none fun j u hu => hb j u (by have := (List.getElem?_eq_some_iff.mp hu).1; omega) hu] at q
            exact q
    · refine .inr ⟨d, D, rfl, o, fun H1 s1 => ?_⟩
      walk_at "r"
      exact q _ s1
/-- check_deal: what is raised -/
def sp_check_dealX (K : PySem.W.Frag) (C CP CD : Addr) : Sp := fun vs H Q E => ∃ (x p d : V) (D : Addr) (n : Nat) (ss : List Stl) (b : Bool) (o : Option Int), vs = [x, p, d] ∧ IsWeb K C H x n ss ∧ JRw K D H n p b ∧ JDl K D H ss d o ∧
  (b = true → o = none → ∀ H', Same H H' → Q .non H') ∧ (b = false → ∀ H', Same H H' → E (.ref CP) none H') ∧ (b = true → ∀ i, o = some i → ∀ H1 dd, Same H H1 → H1 dd = none → E (.ref CD) (some dd) (upd H1 dd (.xd [("index", .int i)])))
theorem ok_check_dealX (T : Txt K mg f_is_integer f_is_row f_is_fraction f_is_amount f_is_some f_are_amounts f_added f_negated f_lessened f_multiplied f_divided f_squared f_summed f_lies_below f_is_stall f_hold_of f_stalls_of f_kept_of f_held f_is_index f_is_move f_check_purse f_check_wish f_stall_led f_stall_behind f_stalls_behind f_deal_fault f_check_deal f_web_behind f_left_with f_played f_owes f_is_deal f_stands_alike f_check_alike f_change_of f_l_deck f_l_pick f_l_fold f_l_divisor f_l_made f_l_amount f_l_stall f_l_deep f_l_odd f_l_row f_l_bad_row f_l_move f_l_bad_deal f_l_is_some f_l_is_row f_l_is_below f_l_is_move f_l_due f_l_answer f_l_word f_l_word_is_due f_law f_BadDeal_init f_Web_init f_Web_eq c_BadPurse c_BadWish c_BadDeal c_Web c_ZERO d_is_integer d_is_row d_is_fraction d_is_amount d_is_some d_are_amounts d_added d_negated d_lessened d_multiplied d_divided d_squared d_summed d_lies_below d_is_stall d_hold_of d_stalls_of d_kept_of d_held d_is_index d_is_move d_check_purse d_check_wish d_stall_led d_stall_behind d_stalls_behind d_deal_fault d_check_deal d_web_behind d_left_with d_played d_owes d_is_deal d_stands_alike d_check_alike d_change_of d_l_deck d_l_pick d_l_fold d_l_divisor d_l_made d_l_amount d_l_stall d_l_deep d_l_odd d_l_row d_l_bad_row d_l_move d_l_bad_deal d_l_is_some d_l_is_row d_l_is_below d_l_is_move d_l_due d_l_answer d_l_word d_l_word_is_due d_law d_BadDeal_init d_Web_init d_Web_eq) : FnOk P w K mg base (L2.CX P w) 6 f_check_deal d_check_deal ["web", "purse", "deal"] (sp_check_dealX K c_Web c_BadPurse c_BadDeal) := by
  have G_check_purse : FnOk P w K mg base (L2.CX P w) 5 f_check_purse d_check_purse ["web", "purse"] (sp_check_rowX K c_Web c_BadPurse) := ok_check_purseX T
  have G_deal_fault : FnOk P w K mg base CX0 5 f_deal_fault d_deal_fault ["web", "thing"] (sp_deal_faultJ K c_Web) := ok_deal_faultJ T
  have G_BadDeal_init : FnOk P w K mg base CX0 1 f_BadDeal_init d_BadDeal_init ["self", "index"] (sp_xinit c_BadDeal "index") := ok_BadDeal_init T
  refine T.F_check_deal.okX sc_check_deal (fun vs H Q E h => ?_) (fun cdv A outer s H vs Q E hr h => ?_)
  · obtain ⟨x, p, d, D, n, ss, b, o, rfl, _⟩ := h
    rfl
  · obtain ⟨x, p, d, D, n, ss, b, o, rfl, hw, hj, hd, q, e1, e2⟩ := h
    refine ⟨_, (pss_cons (ps_expr (pe_callS G_check_purse (hr.mono (by decide)) (by rfl) T.g_check_purse T.k_check_purse T.b_check_purse (fun σ => passAt (takes_of rfl rfl rfl rfl) σ) (pa_cons (pv 0) (pa_cons (pv 1) pa_nil))))
      (pss_cons (ps_set (i := 3) sc_check_deal.nd rfl (by first | exact Or.inl rfl | exact Or.inr rfl) (pe_call G_deal_fault (hr.mono (by decide)) (by rfl) T.g_deal_fault T.k_deal_fault T.b_deal_fault .nil pass0 (pa_cons (pv 0) (pa_cons (pv 2) pa_nil))))
      (pss_one (ps_if (pt_cmpR op_notN (pv 3) pe_non (nomark _))
        (pss_one (ps_raise1 rfl T.c_BadDeal G_BadDeal_init (hr.mono (by decide)) (takes_of rfl rfl rfl rfl) T.b_BadDeal_init (pa_cons (pv 3) pa_nil)))
        pss_nil)))), ?_⟩
    walk_at "r"
    refine ⟨x, p, D, n, ss, b, rfl, hw, hj, fun cb H1 s1 => ?_, fun cb H1 s1 => e1 cb _ s1⟩
    walk_at "r"
    refine ⟨x, d, D, n, ss, o, rfl, hw.same s1, hd.same s1, fun H2 s2 => ?_⟩
    cases o with
    | none =>
      walk_at "r"
      refine ⟨rfl, ?_⟩
      walk_at "r"
      exact q cb rfl _ (s1.trans s2)
    | some i =>
      walk_at "r"
      refine ⟨rfl, ?_⟩
      rw [decide_eq_false (show ¬ ovI (some i) = V.non from fun z => by cases z)]
      walk_at "r"
      exact fun dd nd => e2 cb i rfl _ dd (s1.trans s2) nd
end
end My
namespace My
open PySem PySem.Spec PyProof.Rows L2
variable {K : PySem.W.Frag}
theorem nosq_isiL {D : Addr} {H : Hp} {v : V} {Q : VK} (o : NoSq K D H v) (q : Q (.bl false) H) : rIsi K [v, .ty "list"] H Q := by
  rcases o with ⟨i, rfl⟩ | ⟨o, h⟩
  · exact ⟨_, _, _, _, _, rfl, .ty _, .base (.int _), kit_ty (by decide +kernel), q⟩
  · cases o with
    | non => exact ⟨_, _, _, _, _, rfl, .ty _, .base .non, kit_ty (by decide +kernel), q⟩
    | bl b => exact ⟨_, _, _, _, _, rfl, .ty _, .base (.bl _), kit_ty (by decide +kernel), q⟩
    | str s => exact ⟨_, _, _, _, _, rfl, .ty _, .base (.str _), kit_ty (by decide +kernel), q⟩
    | lst n h3 => exact absurd h3 (h _ _ rfl).1
    | tup n h3 => exact absurd h3 (h _ _ rfl).2
    | dK n h3 => exact ⟨_, _, _, _, _, rfl, .ty _, .base (.dK h3), kit_ty (by decide +kernel), q⟩
    | ins n h3 c => exact ⟨_, _, _, _, _, rfl, .ty _, .base (.ins h3 c.cl c.ha c.hn c.ht c.mo), c.kl, q⟩
section
variable {P : Program} {w : World} {K : PySem.W.Frag} {mg : Str → Option Value} {base : Heap} {f_is_integer f_is_row f_is_fraction f_is_amount f_is_some f_are_amounts f_added f_negated f_lessened f_multiplied f_divided f_squared f_summed f_lies_below f_is_stall f_hold_of f_stalls_of f_kept_of f_held f_is_index f_is_move f_check_purse f_check_wish f_stall_led f_stall_behind f_stalls_behind f_deal_fault f_check_deal f_web_behind f_left_with f_played f_owes f_is_deal f_stands_alike f_check_alike f_change_of f_l_deck f_l_pick f_l_fold f_l_divisor f_l_made f_l_amount f_l_stall f_l_deep f_l_odd f_l_row f_l_bad_row f_l_move f_l_bad_deal f_l_is_some f_l_is_row f_l_is_below f_l_is_move f_l_due f_l_answer f_l_word f_l_word_is_due f_law f_BadDeal_init f_Web_init f_Web_eq c_BadPurse c_BadWish c_BadDeal c_Web c_ZERO : Addr} {d_is_integer d_is_row d_is_fraction d_is_amount d_is_some d_are_amounts d_added d_negated d_lessened d_multiplied d_divided d_squared d_summed d_lies_below d_is_stall d_hold_of d_stalls_of d_kept_of d_held d_is_index d_is_move d_check_purse d_check_wish d_stall_led d_stall_behind d_stalls_behind d_deal_fault d_check_deal d_web_behind d_left_with d_played d_owes d_is_deal d_stands_alike d_check_alike d_change_of d_l_deck d_l_pick d_l_fold d_l_divisor d_l_made d_l_amount d_l_stall d_l_deep d_l_odd d_l_row d_l_bad_row d_l_move d_l_bad_deal d_l_is_some d_l_is_row d_l_is_below d_l_is_move d_l_due d_l_answer d_l_word d_l_word_is_due d_law d_BadDeal_init d_Web_init d_Web_eq : FuncData}
/-- played and owes of what is refused -/
def sp_badX (K : PySem.W.Frag) (C CP CD : Addr) : Sp := fun vs H Q E => ∃ (x p d : V) (D : Addr) (n : Nat) (ss : List Stl) (b : Bool) (o : Option Int), vs = [x, p, d] ∧ IsWeb K C H x n ss ∧ JRw K D H n p b ∧ JDl K D H ss d o ∧ ¬ (b = true ∧ o = none) ∧
  (b = false → ∀ H', Same H H' → E (.ref CP) none H') ∧ (b = true → ∀ i, o = some i → ∀ H1 dd, Same H H1 → H1 dd = none → E (.ref CD) (some dd) (upd H1 dd (.xd [("index", .int i)])))
theorem ok_playedB (T : Txt K mg f_is_integer f_is_row f_is_fraction f_is_amount f_is_some f_are_amounts f_added f_negated f_lessened f_multiplied f_divided f_squared f_summed f_lies_below f_is_stall f_hold_of f_stalls_of f_kept_of f_held f_is_index f_is_move f_check_purse f_check_wish f_stall_led f_stall_behind f_stalls_behind f_deal_fault f_check_deal f_web_behind f_left_with f_played f_owes f_is_deal f_stands_alike f_check_alike f_change_of f_l_deck f_l_pick f_l_fold f_l_divisor f_l_made f_l_amount f_l_stall f_l_deep f_l_odd f_l_row f_l_bad_row f_l_move f_l_bad_deal f_l_is_some f_l_is_row f_l_is_below f_l_is_move f_l_due f_l_answer f_l_word f_l_word_is_due f_law f_BadDeal_init f_Web_init f_Web_eq c_BadPurse c_BadWish c_BadDeal c_Web c_ZERO d_is_integer d_is_row d_is_fraction d_is_amount d_is_some d_are_amounts d_added d_negated d_lessened d_multiplied d_divided d_squared d_summed d_lies_below d_is_stall d_hold_of d_stalls_of d_kept_of d_held d_is_index d_is_move d_check_purse d_check_wish d_stall_led d_stall_behind d_stalls_behind d_deal_fault d_check_deal d_web_behind d_left_with d_played d_owes d_is_deal d_stands_alike d_check_alike d_change_of d_l_deck d_l_pick d_l_fold d_l_divisor d_l_made d_l_amount d_l_stall d_l_deep d_l_odd d_l_row d_l_bad_row d_l_move d_l_bad_deal d_l_is_some d_l_is_row d_l_is_below d_l_is_move d_l_due d_l_answer d_l_word d_l_word_is_due d_law d_BadDeal_init d_Web_init d_Web_eq) : FnOk P w K mg base (L2.CX P w) 8 f_played d_played ["web", "purse", "deal"] (sp_badX K c_Web c_BadPurse c_BadDeal) := by
  have G_check_deal : FnOk P w K mg base (L2.CX P w) 6 f_check_deal d_check_deal ["web", "purse", "deal"] (sp_check_dealX K c_Web c_BadPurse c_BadDeal) := ok_check_dealX T
  have G_web_behind : FnOk P w K mg base CX0 7 f_web_behind d_web_behind ["web", "deal"] (sp_web_behind K c_Web) := ok_web_behind T
  have G_left_with : FnOk P w K mg base CX0 6 f_left_with d_left_with ["web", "purse", "behind"] (sp_left_with K c_Web) := ok_left_with T
  refine T.F_played.okX sc_played (fun vs H Q E h => ?_) (fun cdv A outer s H vs Q E hr h => ?_)
  · obtain ⟨x, p, d, D, n, ss, b, o, rfl, _⟩ := h
    rfl
  · obtain ⟨x, p, d, D, n, ss, b, o, rfl, hw, hj, hd, no, e1, e2⟩ := h
    refine ⟨_, (pss_cons (ps_expr (pe_callS G_check_deal (hr.mono (by decide)) (by rfl) T.g_check_deal T.k_check_deal T.b_check_deal (fun σ => passAt (takes_of rfl rfl rfl rfl) σ) (pa_cons (pv 0) (pa_cons (pv 1) (pa_cons (pv 2) pa_nil)))))
      (pss_cons (ps_set (i := 3) sc_played.nd rfl (by first | exact Or.inl rfl | exact Or.inr rfl) (pe_call G_web_behind (hr.mono (by decide)) (by rfl) T.g_web_behind T.k_web_behind T.b_web_behind .nil pass0 (pa_cons (pv 0) (pa_cons (pv 2) pa_nil))))
      (pss_one (ps_ret (pe_tup (pa_cons (pv 3) (pa_cons (pe_call G_left_with (hr.mono (by decide)) (by rfl) T.g_left_with T.k_left_with T.b_left_with .nil pass0 (pa_cons (pv 0) (pa_cons (pv 1) (pa_cons (pv 3) pa_nil)))) pa_nil))))))), ?_⟩
    walk_at "r"
    exact ⟨x, p, d, D, n, ss, b, o, rfl, hw, hj, hd, fun c1 c2 => absurd ⟨c1, c2⟩ no, e1, e2⟩
theorem ok_owesB (T : Txt K mg f_is_integer f_is_row f_is_fraction f_is_amount f_is_some f_are_amounts f_added f_negated f_lessened f_multiplied f_divided f_squared f_summed f_lies_below f_is_stall f_hold_of f_stalls_of f_kept_of f_held f_is_index f_is_move f_check_purse f_check_wish f_stall_led f_stall_behind f_stalls_behind f_deal_fault f_check_deal f_web_behind f_left_with f_played f_owes f_is_deal f_stands_alike f_check_alike f_change_of f_l_deck f_l_pick f_l_fold f_l_divisor f_l_made f_l_amount f_l_stall f_l_deep f_l_odd f_l_row f_l_bad_row f_l_move f_l_bad_deal f_l_is_some f_l_is_row f_l_is_below f_l_is_move f_l_due f_l_answer f_l_word f_l_word_is_due f_law f_BadDeal_init f_Web_init f_Web_eq c_BadPurse c_BadWish c_BadDeal c_Web c_ZERO d_is_integer d_is_row d_is_fraction d_is_amount d_is_some d_are_amounts d_added d_negated d_lessened d_multiplied d_divided d_squared d_summed d_lies_below d_is_stall d_hold_of d_stalls_of d_kept_of d_held d_is_index d_is_move d_check_purse d_check_wish d_stall_led d_stall_behind d_stalls_behind d_deal_fault d_check_deal d_web_behind d_left_with d_played d_owes d_is_deal d_stands_alike d_check_alike d_change_of d_l_deck d_l_pick d_l_fold d_l_divisor d_l_made d_l_amount d_l_stall d_l_deep d_l_odd d_l_row d_l_bad_row d_l_move d_l_bad_deal d_l_is_some d_l_is_row d_l_is_below d_l_is_move d_l_due d_l_answer d_l_word d_l_word_is_due d_law d_BadDeal_init d_Web_init d_Web_eq) : FnOk P w K mg base (L2.CX P w) 7 f_owes d_owes ["web", "purse", "deal"] (sp_badX K c_Web c_BadPurse c_BadDeal) := by
  have G_check_deal : FnOk P w K mg base (L2.CX P w) 6 f_check_deal d_check_deal ["web", "purse", "deal"] (sp_check_dealX K c_Web c_BadPurse c_BadDeal) := ok_check_dealX T
  have G_held : FnOk P w K mg base CX0 4 f_held d_held ["web"] (sp_held K c_Web) := ok_held T
  have G_stalls_behind : FnOk P w K mg base CX0 5 f_stalls_behind d_stalls_behind ["stalls", "move"] (sp_stalls_behind K) := ok_stalls_behind T
  have G_added : FnOk P w K mg base CX0 1 f_added d_added ["one", "other"] (sp_added K) := ok_added T
  have G_kept_of : FnOk P w K mg base CX0 3 f_kept_of d_kept_of ["ware", "stalls"] (sp_kept_of K) := ok_kept_of T
  have G_lies_below : FnOk P w K mg base CX0 1 f_lies_below d_lies_below ["one", "other"] (sp_below K) := ok_lies_below T
  refine T.F_owes.okX sc_owes (fun vs H Q E h => ?_) (fun cdv A outer s H vs Q E hr h => ?_)
  · obtain ⟨x, p, d, D, n, ss, b, o, rfl, _⟩ := h
    rfl
  · obtain ⟨x, p, d, D, n, ss, b, o, rfl, hw, hj, hd, no, e1, e2⟩ := h
    refine ⟨_, (pss_cons (ps_expr (pe_callS G_check_deal (hr.mono (by decide)) (by rfl) T.g_check_deal T.k_check_deal T.b_check_deal (fun σ => passAt (takes_of rfl rfl rfl rfl) σ) (pa_cons (pv 0) (pa_cons (pv 1) (pa_cons (pv 2) pa_nil)))))
      (pss_cons (ps_set (i := 3) sc_owes.nd rfl (by first | exact Or.inl rfl | exact Or.inr rfl) (pe_call G_held (hr.mono (by decide)) (by rfl) T.g_held T.k_held T.b_held .nil pass0 (pa_cons (pv 0) pa_nil)))
      (pss_cons (ps_set (i := 4) sc_owes.nd rfl (by first | exact Or.inl rfl | exact Or.inr rfl) (pe_fld (pv 0) rfl))
      (pss_cons (ps_for (passes_of rfl) rfl (pi_enumX (by rfl) T.z_enumerate (pa_cons (pv 2) pa_nil)) (pg_tup rfl (pgs_cons (pg_name (i := 5) sc_owes.nd rfl (by first | exact Or.inl rfl | exact Or.inr rfl)) (pgs_cons (pg_name (i := 6) sc_owes.nd rfl (by first | exact Or.inl rfl | exact Or.inr rfl)) pgs_nil)))
        (pss_cons (ps_set (i := 4) sc_owes.nd rfl (by first | exact Or.inl rfl | exact Or.inr rfl) (pe_call G_stalls_behind (hr.mono (by decide)) (by rfl) T.g_stalls_behind T.k_stalls_behind T.b_stalls_behind .nil pass0 (pa_cons (pv 4) (pa_cons (pv 6) pa_nil))))
          (pss_cons (ps_set (i := 7) sc_owes.nd rfl (by first | exact Or.inl rfl | exact Or.inr rfl) (pe_ix ix_tup (pv 6) pe_int (fun _ _ => rfl)))
          (pss_cons (ps_set (i := 8) sc_owes.nd rfl (by first | exact Or.inl rfl | exact Or.inr rfl) (pe_call G_added (hr.mono (by decide)) (by rfl) T.g_added T.k_added T.b_added .nil pass0 (pa_cons (pe_ix My.ix_any (pv 1) (pv 7) (fun _ _ => rfl)) (pa_cons (pe_ix ix_tup (pv 3) (pv 7) (fun _ _ => rfl)) pa_nil))))
          (pss_one (ps_if (pt_val (pe_call G_lies_below (hr.mono (by decide)) (by rfl) T.g_lies_below T.k_lies_below T.b_lies_below .nil pass0 (pa_cons (pv 8) (pa_cons (pe_call G_kept_of (hr.mono (by decide)) (by rfl) T.g_kept_of T.k_kept_of T.b_kept_of .nil pass0 (pa_cons (pv 7) (pa_cons (pv 4) pa_nil))) pa_nil))))
            (pss_one (ps_ret (pe_tup (pa_cons (pv 5) (pa_cons (pv 7) pa_nil)))))
            pss_nil))))))
      (pss_one (ps_ret pe_non)))))), ?_⟩
    walk_at "r"
    exact ⟨x, p, d, D, n, ss, b, o, rfl, hw, hj, hd, fun c1 c2 => absurd ⟨c1, c2⟩ no, e1, e2⟩
def sp_is_dealB (K : PySem.W.Frag) (C CP CW : Addr) : Sp := fun vs H Q E => ∃ (x p u d : V) (D : Addr) (n : Nat) (ss : List Stl) (b1 b2 : Bool) (o : Option Int), vs = [x, p, u, d] ∧ IsWeb K C H x n ss ∧ JRw K D H n p b1 ∧ JRw K D H n u b2 ∧ JDl K D H ss d o ∧
  (b1 = true → b2 = true → o = none → ∀ q xs, d = .ref q → H q ≠ some (.lst xs)) ∧
  (b1 = false → ∀ H', Same H H' → E (.ref CP) none H') ∧ (b1 = true → b2 = false → ∀ H', Same H H' → E (.ref CW) none H') ∧ (b1 = true → b2 = true → ∀ H', Same H H' → Q (.bl false) H')
theorem ok_is_dealB (T : Txt K mg f_is_integer f_is_row f_is_fraction f_is_amount f_is_some f_are_amounts f_added f_negated f_lessened f_multiplied f_divided f_squared f_summed f_lies_below f_is_stall f_hold_of f_stalls_of f_kept_of f_held f_is_index f_is_move f_check_purse f_check_wish f_stall_led f_stall_behind f_stalls_behind f_deal_fault f_check_deal f_web_behind f_left_with f_played f_owes f_is_deal f_stands_alike f_check_alike f_change_of f_l_deck f_l_pick f_l_fold f_l_divisor f_l_made f_l_amount f_l_stall f_l_deep f_l_odd f_l_row f_l_bad_row f_l_move f_l_bad_deal f_l_is_some f_l_is_row f_l_is_below f_l_is_move f_l_due f_l_answer f_l_word f_l_word_is_due f_law f_BadDeal_init f_Web_init f_Web_eq c_BadPurse c_BadWish c_BadDeal c_Web c_ZERO d_is_integer d_is_row d_is_fraction d_is_amount d_is_some d_are_amounts d_added d_negated d_lessened d_multiplied d_divided d_squared d_summed d_lies_below d_is_stall d_hold_of d_stalls_of d_kept_of d_held d_is_index d_is_move d_check_purse d_check_wish d_stall_led d_stall_behind d_stalls_behind d_deal_fault d_check_deal d_web_behind d_left_with d_played d_owes d_is_deal d_stands_alike d_check_alike d_change_of d_l_deck d_l_pick d_l_fold d_l_divisor d_l_made d_l_amount d_l_stall d_l_deep d_l_odd d_l_row d_l_bad_row d_l_move d_l_bad_deal d_l_is_some d_l_is_row d_l_is_below d_l_is_move d_l_due d_l_answer d_l_word d_l_word_is_due d_law d_BadDeal_init d_Web_init d_Web_eq) : FnOk P w K mg base (L2.CX P w) 9 f_is_deal d_is_deal ["web", "purse", "wish", "thing"] (sp_is_dealB K c_Web c_BadPurse c_BadWish) := by
  have G_check_purse : FnOk P w K mg base (L2.CX P w) 5 f_check_purse d_check_purse ["web", "purse"] (sp_check_rowX K c_Web c_BadPurse) := ok_check_purseX T
  have G_check_wish : FnOk P w K mg base (L2.CX P w) 5 f_check_wish d_check_wish ["web", "wish"] (sp_check_rowX K c_Web c_BadWish) := ok_check_wishX T
  have G_deal_fault : FnOk P w K mg base CX0 5 f_deal_fault d_deal_fault ["web", "thing"] (sp_deal_faultJ K c_Web) := ok_deal_faultJ T
  have G_played : FnOk P w K mg base (L2.CX P w) 8 f_played d_played ["web", "purse", "deal"] (sp_played K c_Web) := fn_calm (ok_played T)
  have G_lies_below : FnOk P w K mg base CX0 1 f_lies_below d_lies_below ["one", "other"] (sp_below K) := ok_lies_below T
  refine T.F_is_deal.okX sc_is_deal (fun vs H Q E h => ?_) (fun cdv A outer s H vs Q E hr h => ?_)
  · obtain ⟨x, p, u, d, D, n, ss, b1, b2, o, rfl, _⟩ := h
    rfl
  · obtain ⟨x, p, u, d, D, n, ss, b1, b2, o, rfl, hw, hj, hu, hd, no, e1, e2, q⟩ := h
    refine ⟨_, (pss_cons (ps_expr (pe_callS G_check_purse (hr.mono (by decide)) (by rfl) T.g_check_purse T.k_check_purse T.b_check_purse (fun σ => passAt (takes_of rfl rfl rfl rfl) σ) (pa_cons (pv 0) (pa_cons (pv 1) pa_nil))))
      (pss_cons (ps_expr (pe_callS G_check_wish (hr.mono (by decide)) (by rfl) T.g_check_wish T.k_check_wish T.b_check_wish (fun σ => passAt (takes_of rfl rfl rfl rfl) σ) (pa_cons (pv 0) (pa_cons (pv 2) pa_nil))))
      (pss_cons (ps_if (PW.pt (pw_or (pt_not (pt_val (pe_callB call_isi (by rfl) T.z_isinstance (by decide +kernel) (pa_cons (pv 3) (pa_cons (pe_bltn (v := .ty "list") (u := .type "list") (by rfl) T.z_list (by decide +kernel) rfl) pa_nil))))) (pw_or1 (pt_cmpR op_notN (pe_call G_deal_fault (hr.mono (by decide)) (by rfl) T.g_deal_fault T.k_deal_fault T.b_deal_fault .nil pass0 (pa_cons (pv 0) (pa_cons (pv 3) pa_nil))) pe_non (nomark _)))))
        (pss_one (ps_ret pe_bl))
        pss_nil)
      (pss_cons (ps_set (i := 4) sc_is_deal.nd rfl (by first | exact Or.inl rfl | exact Or.inr rfl) (pe_ix ix_tup (pe_callS G_played (hr.mono (by decide)) (by rfl) T.g_played T.k_played T.b_played (fun σ => passAt (takes_of rfl rfl rfl rfl) σ) (pa_cons (pv 0) (pa_cons (pv 1) (pa_cons (pv 3) pa_nil)))) pe_int (fun _ _ => rfl)))
      (pss_one (ps_ret (pe_not (pe_callB (cr_any rfl) (by rfl) T.z_any (by decide +kernel) (pa_cons (pe_lc (own := [("has", 5), ("least", 6)]) (g := gTup K 2 (gCons (gName 5) (gCons (gName 6) (gNil)))) rfl sc_is_deal.nd (My.pi_zipM (by rfl) T.z_zip (pa_cons (pv 4) (pa_cons (pv 2) pa_nil))) (blkOk_by (own := [("has", 5), ("least", 6)]) (N := N_is_deal) (sc := defScope s_is_deal) (by decide +kernel)) (fun _ _ _ _ _ => (pg_tup rfl (pgs_cons (pg_name (i := 5) sc_is_deal.nd rfl (by first | exact Or.inl rfl | exact Or.inr rfl)) (pgs_cons (pg_name (i := 6) sc_is_deal.nd rfl (by first | exact Or.inl rfl | exact Or.inr rfl)) pgs_nil)))) (fun _ _ _ _ _ => pts_nil) (fun _ _ _ _ _ => (pe_call G_lies_below (hr.mono (by decide)) (by rfl) T.g_lies_below T.k_lies_below T.b_lies_below .nil pass0 (pa_cons (pv 5) (pa_cons (pv 6) pa_nil))))) pa_nil))))))))), ?_⟩
    walk_at "r"
    refine ⟨x, p, D, n, ss, b1, rfl, hw, hj, fun c1 H1 s1 => ?_, fun c1 H1 s1 => e1 c1 _ s1⟩
    walk_at "r"
    refine ⟨x, u, D, n, ss, b2, rfl, hw.same s1, hu.same s1, fun c2 H2 s2 => ?_, fun c2 H2 s2 => e2 c1 c2 _ (s1.trans s2)⟩
    have k2 := s1.trans s2
    have q := q c1 c2
    have hd2 := hd.same k2
    walk_at "r"
    rcases hd with ⟨L, ys, ts, rfl, np, hL, hms, l9, rfl⟩ | ⟨o', rfl⟩
    · rcases hL.same k2 with hL2 | hL2
      · refine isi_lst_lst hL2 ?_
        walk_at "r"
        refine ⟨x, _, D, n, ss, flt ss ts, rfl, hw.same k2, hd2, fun H3 s3 => ?_⟩
        have hL0 : H L = some (.lst ys) := by
          rcases hL with z | z
          · exact z
          · rw [k2 _ _ z] at hL2
            cases hL2
        cases cf : flt ss ts with
        | none => exact absurd hL0 (no c1 c2 cf _ _ rfl)
        | some i =>
          refine ⟨rfl, ?_⟩
          rw [decide_eq_false (show ¬ ovI (some i) = V.non from fun z => by cases z)]
          walk_at "r"
          exact q _ (k2.trans s3)
      · refine isi_tup_lst hL2 ?_
        walk_at "r"
        exact q _ k2
    · refine nosq_isiL (o'.fw (Same.fw k2)) ?_
      walk_at "r"
      exact q _ k2
end
end My
namespace My
open PySem PySem.Spec PyProof.Rows L2
variable {K : PySem.W.Frag}
theorem mv_no1 {ss : List Stl} {a b : Option Int} {r : Option Rat} (h : ixOk ss.length a = false) : mvOk ss (some (a, b, r)) = false := by
  cases a with
  | none => rfl
  | some i =>
    cases b with
    | none => rfl
    | some w =>
      show (ixOk ss.length (some i) && _) = false
      rw [h, Bool.false_and]
theorem mv_no2 {n : Nat} {ss : List Stl} {a b : Option Int} {r : Option Rat} (ok : ∀ s ∈ ss, OkSt n s) (h : ixOk n b = false) : mvOk ss (some (a, b, r)) = false := by
  cases a with
  | none => rfl
  | some i =>
    cases b with
    | none => rfl
    | some w =>
      show (ixOk ss.length (some i) && (wrOk ss i w && sa r)) = false
      have e : wrOk ss i w = false := by
        unfold wrOk
        split
        · rename_i s hs
          obtain ⟨h1, h2, _⟩ := ok s (List.mem_of_getElem? hs)
          have h : (decide (0 ≤ w) && decide (w < (n : Nat))) = false := h
          rw [Bool.or_eq_false_iff, decide_eq_false_iff_not, decide_eq_false_iff_not]
          rw [Bool.and_eq_false_iff, decide_eq_false_iff_not, decide_eq_false_iff_not] at h
          omega
        · rfl
      rw [e, Bool.false_and, Bool.and_false]
/-- whether a thing is an amount of at least 0, or above 0 -/
def lsOk (l : Bool) (o : Option Rat) : Bool := if l = true then sa o else am o
def lsI (l : Bool) : Int := if l = true then 1 else 0
section
variable {P : Program} {w : World} {K : PySem.W.Frag} {mg : Str → Option Value} {base : Heap} {f_is_integer f_is_row f_is_fraction f_is_amount f_is_some f_are_amounts f_added f_negated f_lessened f_multiplied f_divided f_squared f_summed f_lies_below f_is_stall f_hold_of f_stalls_of f_kept_of f_held f_is_index f_is_move f_check_purse f_check_wish f_stall_led f_stall_behind f_stalls_behind f_deal_fault f_check_deal f_web_behind f_left_with f_played f_owes f_is_deal f_stands_alike f_check_alike f_change_of f_l_deck f_l_pick f_l_fold f_l_divisor f_l_made f_l_amount f_l_stall f_l_deep f_l_odd f_l_row f_l_bad_row f_l_move f_l_bad_deal f_l_is_some f_l_is_row f_l_is_below f_l_is_move f_l_due f_l_answer f_l_word f_l_word_is_due f_law f_BadDeal_init f_Web_init f_Web_eq c_BadPurse c_BadWish c_BadDeal c_Web c_ZERO : Addr} {d_is_integer d_is_row d_is_fraction d_is_amount d_is_some d_are_amounts d_added d_negated d_lessened d_multiplied d_divided d_squared d_summed d_lies_below d_is_stall d_hold_of d_stalls_of d_kept_of d_held d_is_index d_is_move d_check_purse d_check_wish d_stall_led d_stall_behind d_stalls_behind d_deal_fault d_check_deal d_web_behind d_left_with d_played d_owes d_is_deal d_stands_alike d_check_alike d_change_of d_l_deck d_l_pick d_l_fold d_l_divisor d_l_made d_l_amount d_l_stall d_l_deep d_l_odd d_l_row d_l_bad_row d_l_move d_l_bad_deal d_l_is_some d_l_is_row d_l_is_below d_l_is_move d_l_due d_l_answer d_l_word d_l_word_is_due d_law d_BadDeal_init d_Web_init d_Web_eq : FuncData}
/-- is_below: an integer from 0 on below this number -/
def sp_lbelow (K : PySem.W.Frag) : Sp := fun vs H Q _ => ∃ (y : V) (D : Addr) (m : Nat) (o : Option Int), vs = [y, .int (m : Nat)] ∧ JI K D H y o ∧ Q (.bl (ixOk m o)) H
theorem ok_l_is_below (T : Txt K mg f_is_integer f_is_row f_is_fraction f_is_amount f_is_some f_are_amounts f_added f_negated f_lessened f_multiplied f_divided f_squared f_summed f_lies_below f_is_stall f_hold_of f_stalls_of f_kept_of f_held f_is_index f_is_move f_check_purse f_check_wish f_stall_led f_stall_behind f_stalls_behind f_deal_fault f_check_deal f_web_behind f_left_with f_played f_owes f_is_deal f_stands_alike f_check_alike f_change_of f_l_deck f_l_pick f_l_fold f_l_divisor f_l_made f_l_amount f_l_stall f_l_deep f_l_odd f_l_row f_l_bad_row f_l_move f_l_bad_deal f_l_is_some f_l_is_row f_l_is_below f_l_is_move f_l_due f_l_answer f_l_word f_l_word_is_due f_law f_BadDeal_init f_Web_init f_Web_eq c_BadPurse c_BadWish c_BadDeal c_Web c_ZERO d_is_integer d_is_row d_is_fraction d_is_amount d_is_some d_are_amounts d_added d_negated d_lessened d_multiplied d_divided d_squared d_summed d_lies_below d_is_stall d_hold_of d_stalls_of d_kept_of d_held d_is_index d_is_move d_check_purse d_check_wish d_stall_led d_stall_behind d_stalls_behind d_deal_fault d_check_deal d_web_behind d_left_with d_played d_owes d_is_deal d_stands_alike d_check_alike d_change_of d_l_deck d_l_pick d_l_fold d_l_divisor d_l_made d_l_amount d_l_stall d_l_deep d_l_odd d_l_row d_l_bad_row d_l_move d_l_bad_deal d_l_is_some d_l_is_row d_l_is_below d_l_is_move d_l_due d_l_answer d_l_word d_l_word_is_due d_law d_BadDeal_init d_Web_init d_Web_eq) : FnOk P w K mg base CX0 1 f_l_is_below d_l_is_below ["_law_thing", "_law_many"] (sp_lbelow K) := by
  refine T.F_l_is_below.ok sc_l_is_below (fun vs H Q E h => ?_) (fun cdv A outer s H vs Q E hr h => ?_)
  · obtain ⟨y, D, m, o, rfl, _⟩ := h
    rfl
  · obtain ⟨y, D, m, o, rfl, hy, q⟩ := h
    refine ⟨_, (pss_one (ps_ret (pe_and (pe_callB call_isi (by rfl) T.z_isinstance (by decide +kernel) (pa_cons (pv 0) (pa_cons (pe_bltn (v := .ty "int") (u := .type "int") (by rfl) T.z_int (by decide +kernel) rfl) pa_nil))) (pe_and (pe_not (pe_callB call_isi (by rfl) T.z_isinstance (by decide +kernel) (pa_cons (pv 0) (pa_cons (pe_bltn (v := .ty "bool") (u := .type "bool") (by rfl) T.z_bool (by decide +kernel) rfl) pa_nil)))) (pe_one (pe_chain op_le op_lt pe_int (pv 0) (pv 1))))))), ?_⟩
    rcases hy with ⟨i, rfl, rfl⟩ | ⟨o, rfl⟩
    · walk_at "r"
      walk_at "if"
      · rename_i h0
        walk_at "r"
        have e : ixOk m (some i) = decide (i < (m : Nat)) := by
          show (decide (0 ≤ i) && decide (i < (m : Nat))) = _
          rw [decide_eq_true h0, Bool.true_and]
        rw [e] at q
        exact q
      · rename_i h0
        walk_at "r"
        have e : ixOk m (some i) = false := by
          show (decide (0 ≤ i) && decide (i < (m : Nat))) = _
          rw [decide_eq_false h0, Bool.false_and]
        rw [e] at q
        exact q
    · obtain ⟨b1, b2, b3, hb, h1, h2, -⟩ := o.isi
      walk_at "r"
      refine h1 _ ?_
      cases b1 with
      | false =>
        walk_at "r"
        exact q
      | true =>
        have e : b2 = true := by
          cases b2
          · cases hb
          · rfl
        subst e
        walk_at "r"
        refine h2 _ ?_
        walk_at "r"
        exact q
def sp_lsomeP (K : PySem.W.Frag) : Sp := fun vs H Q _ => ∃ (p : Addr) (i j l : Int), vs = [.ref p, .int l] ∧ Tp K H p [.int i, .int j] ∧ j.natAbs < 2 ^ 20000 ∧ Q (.bl (decide (l ≤ i) && (decide (0 < j) && decide (Nat.gcd i.natAbs j.natAbs = 1)))) H
theorem ok_l_is_someP (T : Txt K mg f_is_integer f_is_row f_is_fraction f_is_amount f_is_some f_are_amounts f_added f_negated f_lessened f_multiplied f_divided f_squared f_summed f_lies_below f_is_stall f_hold_of f_stalls_of f_kept_of f_held f_is_index f_is_move f_check_purse f_check_wish f_stall_led f_stall_behind f_stalls_behind f_deal_fault f_check_deal f_web_behind f_left_with f_played f_owes f_is_deal f_stands_alike f_check_alike f_change_of f_l_deck f_l_pick f_l_fold f_l_divisor f_l_made f_l_amount f_l_stall f_l_deep f_l_odd f_l_row f_l_bad_row f_l_move f_l_bad_deal f_l_is_some f_l_is_row f_l_is_below f_l_is_move f_l_due f_l_answer f_l_word f_l_word_is_due f_law f_BadDeal_init f_Web_init f_Web_eq c_BadPurse c_BadWish c_BadDeal c_Web c_ZERO d_is_integer d_is_row d_is_fraction d_is_amount d_is_some d_are_amounts d_added d_negated d_lessened d_multiplied d_divided d_squared d_summed d_lies_below d_is_stall d_hold_of d_stalls_of d_kept_of d_held d_is_index d_is_move d_check_purse d_check_wish d_stall_led d_stall_behind d_stalls_behind d_deal_fault d_check_deal d_web_behind d_left_with d_played d_owes d_is_deal d_stands_alike d_check_alike d_change_of d_l_deck d_l_pick d_l_fold d_l_divisor d_l_made d_l_amount d_l_stall d_l_deep d_l_odd d_l_row d_l_bad_row d_l_move d_l_bad_deal d_l_is_some d_l_is_row d_l_is_below d_l_is_move d_l_due d_l_answer d_l_word d_l_word_is_due d_law d_BadDeal_init d_Web_init d_Web_eq) : FnOk P w K mg base CX0 2 f_l_is_some d_l_is_some ["_law_thing", "_law_least"] (sp_lsomeP K) := by
  have G_l_divisor : FnOk P w K mg base CX0 1 f_l_divisor d_l_divisor ["_law_one", "_law_other"] sp_divisor := ok_l_divisor T
  refine T.F_l_is_some.ok sc_l_is_some (fun vs H Q E h => ?_) (fun cdv A outer sh H vs Q E hr h => ?_)
  · obtain ⟨p, i, j, l, rfl, _⟩ := h
    rfl
  · obtain ⟨p, i, j, l, rfl, hp, hj, q⟩ := h
    refine ⟨_, (pss_cons (ps_if (PW.pt (pw_or (pt_not (pt_val (pe_callB call_isi (by rfl) T.z_isinstance (by decide +kernel) (pa_cons (pv 0) (pa_cons (pe_bltn (v := .ty "tuple") (u := .type "tuple") (by rfl) T.z_tuple (by decide +kernel) rfl) pa_nil))))) (pw_or1 (pt_cmpR op_ne (pe_callB call_lenN (by rfl) T.z_len (by decide +kernel) (pa_cons (pv 0) pa_nil)) pe_int (nomark _)))))
        (pss_one (ps_ret pe_bl))
        pss_nil)
      (pss_cons (ps_for PassesOwn.never rfl (pi_tup (pv 0)) (pg_name (i := 2) sc_l_is_some.nd rfl (by first | exact Or.inl rfl | exact Or.inr rfl))
        (pss_one (ps_if (PW.pt (pw_or (pt_not (pt_val (pe_callB call_isi (by rfl) T.z_isinstance (by decide +kernel) (pa_cons (pv 2) (pa_cons (pe_bltn (v := .ty "int") (u := .type "int") (by rfl) T.z_int (by decide +kernel) rfl) pa_nil))))) (pw_or1 (pt_val (pe_callB call_isi (by rfl) T.z_isinstance (by decide +kernel) (pa_cons (pv 2) (pa_cons (pe_bltn (v := .ty "bool") (u := .type "bool") (by rfl) T.z_bool (by decide +kernel) rfl) pa_nil)))))))
            (pss_one (ps_ret pe_bl))
            pss_nil)))
      (pss_one (ps_ret (pe_and (pe_cmpR op_ge (pe_ix ix_tup (pv 0) pe_int (fun _ _ => rfl)) (pv 1) (nomark _)) (pe_and (pe_cmpR op_gt (pe_ix ix_tup (pv 0) pe_int (fun _ _ => rfl)) pe_int (nomark _)) (pe_one (pe_cmpR op_eq (pe_call G_l_divisor (hr.mono (by decide)) (by rfl) T.g_l_divisor T.k_l_divisor T.b_l_divisor .nil pass0 (pa_cons (pe_ix ix_tup (pv 0) pe_int (fun _ _ => rfl)) (pa_cons (pe_ix ix_tup (pv 0) pe_int (fun _ _ => rfl)) pa_nil))) pe_int (nomark _))))))))), ?_⟩
    walk_at "r"
    refine ⟨⟨_, hp.sq⟩, ?_⟩
    refine for_tup (K := K) (a := p) (xs := [V.int i, .int j]) (fun k σ H' => ∃ (t1 : Option V), σ = [some (.ref p), some (.int l), t1] ∧ H' = H) ?_ ?_ ?_ ?_
    · exact ⟨_, rfl, rfl⟩
    · rintro k σ H' _ ⟨t1, rfl, rfl⟩
      exact hp.sq
    · rintro k v σ H' hv ⟨t1, rfl, rfl⟩
      match k, hv with
      | 0, hv =>
        cases hv
        walk_at "r"
        exact rfl
      | 1, hv =>
        cases hv
        walk_at "r"
        exact rfl
    rintro σ H' ⟨t1, rfl, rfl⟩
    walk_at "r"
    walk_at "if"
    · rename_i h0
      rw [decide_eq_true (show l ≤ i by omega), Bool.true_and] at q
      walk_at "r"
      walk_at "if"
      · rename_i h1
        rw [decide_eq_true (show 0 < j by omega), Bool.true_and] at q
        walk_at "r"
        refine ⟨_, _, rfl, hj, ?_⟩
        walk_at "r"
        rw [show decide (((Nat.gcd i.natAbs j.natAbs : Nat) : Int) = 1) = decide (Nat.gcd i.natAbs j.natAbs = 1) from decide_eq_decide.mpr (by omega)]
        exact q
      · rename_i h1
        rw [decide_eq_false (show ¬ 0 < j by omega), Bool.false_and] at q
        walk_at "r"
        exact q
    · rename_i h0
      rw [decide_eq_false (show ¬ l ≤ i by omega), Bool.false_and] at q
      walk_at "r"
      exact q
def sp_lsomeN (K : PySem.W.Frag) : Sp := fun vs H Q _ => ∃ (v : V) (D : Addr) (l : Int), vs = [v, .int l] ∧ ((∃ i, v = .int i) ∨ (Od K D H v ∧ ∀ p xs, v = .ref p → H p = some (.tup xs) → xs.length ≠ 2) ∨ (∃ p x y, v = .ref p ∧ H p = some (.tup [x, y]) ∧ Od K D H x) ∨ (∃ p i y, v = .ref p ∧ H p = some (.tup [.int i, y]) ∧ Od K D H y)) ∧ Q (.bl false) H
theorem ok_l_is_someN (T : Txt K mg f_is_integer f_is_row f_is_fraction f_is_amount f_is_some f_are_amounts f_added f_negated f_lessened f_multiplied f_divided f_squared f_summed f_lies_below f_is_stall f_hold_of f_stalls_of f_kept_of f_held f_is_index f_is_move f_check_purse f_check_wish f_stall_led f_stall_behind f_stalls_behind f_deal_fault f_check_deal f_web_behind f_left_with f_played f_owes f_is_deal f_stands_alike f_check_alike f_change_of f_l_deck f_l_pick f_l_fold f_l_divisor f_l_made f_l_amount f_l_stall f_l_deep f_l_odd f_l_row f_l_bad_row f_l_move f_l_bad_deal f_l_is_some f_l_is_row f_l_is_below f_l_is_move f_l_due f_l_answer f_l_word f_l_word_is_due f_law f_BadDeal_init f_Web_init f_Web_eq c_BadPurse c_BadWish c_BadDeal c_Web c_ZERO d_is_integer d_is_row d_is_fraction d_is_amount d_is_some d_are_amounts d_added d_negated d_lessened d_multiplied d_divided d_squared d_summed d_lies_below d_is_stall d_hold_of d_stalls_of d_kept_of d_held d_is_index d_is_move d_check_purse d_check_wish d_stall_led d_stall_behind d_stalls_behind d_deal_fault d_check_deal d_web_behind d_left_with d_played d_owes d_is_deal d_stands_alike d_check_alike d_change_of d_l_deck d_l_pick d_l_fold d_l_divisor d_l_made d_l_amount d_l_stall d_l_deep d_l_odd d_l_row d_l_bad_row d_l_move d_l_bad_deal d_l_is_some d_l_is_row d_l_is_below d_l_is_move d_l_due d_l_answer d_l_word d_l_word_is_due d_law d_BadDeal_init d_Web_init d_Web_eq) : FnOk P w K mg base CX0 2 f_l_is_some d_l_is_some ["_law_thing", "_law_least"] (sp_lsomeN K) := by
  have G_l_divisor : FnOk P w K mg base CX0 1 f_l_divisor d_l_divisor ["_law_one", "_law_other"] sp_divisor := ok_l_divisor T
  refine T.F_l_is_some.ok sc_l_is_some (fun vs H Q E h => ?_) (fun cdv A outer sh H vs Q E hr h => ?_)
  · obtain ⟨v, D, l, rfl, _⟩ := h
    rfl
  · obtain ⟨v, D, l, rfl, ⟨i, rfl⟩ | ⟨o, hn⟩ | ⟨p, x, y, rfl, hp, o⟩ | ⟨p, i, y, rfl, hp, o⟩, q⟩ := h
    · refine ⟨_, (pss_cons (ps_if (PW.pt (pw_or (pt_not (pt_val (pe_callB call_isi (by rfl) T.z_isinstance (by decide +kernel) (pa_cons (pv 0) (pa_cons (pe_bltn (v := .ty "tuple") (u := .type "tuple") (by rfl) T.z_tuple (by decide +kernel) rfl) pa_nil))))) (pw_or1 (pt_cmpR op_ne (pe_callB call_lenN (by rfl) T.z_len (by decide +kernel) (pa_cons (pv 0) pa_nil)) pe_int (nomark _)))))
        (pss_one (ps_ret pe_bl))
        pss_nil)
      (pss_cons (ps_for PassesOwn.never rfl (pi_tup (pv 0)) (pg_name (i := 2) sc_l_is_some.nd rfl (by first | exact Or.inl rfl | exact Or.inr rfl))
        (pss_one (ps_if (PW.pt (pw_or (pt_not (pt_val (pe_callB call_isi (by rfl) T.z_isinstance (by decide +kernel) (pa_cons (pv 2) (pa_cons (pe_bltn (v := .ty "int") (u := .type "int") (by rfl) T.z_int (by decide +kernel) rfl) pa_nil))))) (pw_or1 (pt_val (pe_callB call_isi (by rfl) T.z_isinstance (by decide +kernel) (pa_cons (pv 2) (pa_cons (pe_bltn (v := .ty "bool") (u := .type "bool") (by rfl) T.z_bool (by decide +kernel) rfl) pa_nil)))))))
            (pss_one (ps_ret pe_bl))
            pss_nil)))
      (pss_one (ps_ret (pe_and (pe_cmpR op_ge (pe_ix ix_tup (pv 0) pe_int (fun _ _ => rfl)) (pv 1) (nomark _)) (pe_and (pe_cmpR op_gt (pe_ix ix_tup (pv 0) pe_int (fun _ _ => rfl)) pe_int (nomark _)) (pe_one (pe_cmpR op_eq (pe_call G_l_divisor (hr.mono (by decide)) (by rfl) T.g_l_divisor T.k_l_divisor T.b_l_divisor .nil pass0 (pa_cons (pe_ix ix_tup (pv 0) pe_int (fun _ _ => rfl)) (pa_cons (pe_ix ix_tup (pv 0) pe_int (fun _ _ => rfl)) pa_nil))) pe_int (nomark _))))))))), ?_⟩
      walk_at "r"
      exact q
    · refine ⟨_, (pss_cons (ps_if (PW.pt (pw_or (pt_not (pt_val (pe_callB call_isi (by rfl) T.z_isinstance (by decide +kernel) (pa_cons (pv 0) (pa_cons (pe_bltn (v := .ty "tuple") (u := .type "tuple") (by rfl) T.z_tuple (by decide +kernel) rfl) pa_nil))))) (pw_or1 (pt_cmpR op_ne (pe_callB call_lenN (by rfl) T.z_len (by decide +kernel) (pa_cons (pv 0) pa_nil)) pe_int (nomark _)))))
        (pss_one (ps_ret pe_bl))
        pss_nil)
      (pss_cons (ps_for PassesOwn.never rfl (pi_tup (pv 0)) (pg_name (i := 2) sc_l_is_some.nd rfl (by first | exact Or.inl rfl | exact Or.inr rfl))
        (pss_one (ps_if (PW.pt (pw_or (pt_not (pt_val (pe_callB call_isi (by rfl) T.z_isinstance (by decide +kernel) (pa_cons (pv 2) (pa_cons (pe_bltn (v := .ty "int") (u := .type "int") (by rfl) T.z_int (by decide +kernel) rfl) pa_nil))))) (pw_or1 (pt_val (pe_callB call_isi (by rfl) T.z_isinstance (by decide +kernel) (pa_cons (pv 2) (pa_cons (pe_bltn (v := .ty "bool") (u := .type "bool") (by rfl) T.z_bool (by decide +kernel) rfl) pa_nil)))))))
            (pss_one (ps_ret pe_bl))
            pss_nil)))
      (pss_one (ps_ret (pe_and (pe_cmpR op_ge (pe_ix ix_tup (pv 0) pe_int (fun _ _ => rfl)) (pv 1) (nomark _)) (pe_and (pe_cmpR op_gt (pe_ix ix_tup (pv 0) pe_int (fun _ _ => rfl)) pe_int (nomark _)) (pe_one (pe_cmpR op_eq (pe_call G_l_divisor (hr.mono (by decide)) (by rfl) T.g_l_divisor T.k_l_divisor T.b_l_divisor .nil pass0 (pa_cons (pe_ix ix_tup (pv 0) pe_int (fun _ _ => rfl)) (pa_cons (pe_ix ix_tup (pv 0) pe_int (fun _ _ => rfl)) pa_nil))) pe_int (nomark _))))))))), ?_⟩
      obtain ⟨b1, b2, b3, hb, -, -, h3, ht⟩ := o.isi
      walk_at "r"
      refine h3 _ ?_
      cases b3 with
      | false =>
        walk_at "r"
        exact q
      | true =>
        obtain ⟨p, xs, rfl, np, hp⟩ := ht rfl
        have hl : ¬ ((xs.length : Int) = 2) := by
          have := hn p xs rfl hp
          omega
        walk_at "r"
        exact q
    · refine ⟨_, (pss_cons (ps_if (PW.pt (pw_or (pt_not (pt_val (pe_callB call_isi (by rfl) T.z_isinstance (by decide +kernel) (pa_cons (pv 0) (pa_cons (pe_bltn (v := .ty "tuple") (u := .type "tuple") (by rfl) T.z_tuple (by decide +kernel) rfl) pa_nil))))) (pw_or1 (pt_cmpR op_ne (pe_callB call_lenN (by rfl) T.z_len (by decide +kernel) (pa_cons (pv 0) pa_nil)) pe_int (nomark _)))))
        (pss_one (ps_ret pe_bl))
        pss_nil)
      (pss_cons (ps_for PassesOwn.never rfl (pi_tup (pv 0)) (pg_name (i := 2) sc_l_is_some.nd rfl (by first | exact Or.inl rfl | exact Or.inr rfl))
        (pss_one (ps_if (PW.pt (pw_or (pt_not (pt_val (pe_callB call_isi (by rfl) T.z_isinstance (by decide +kernel) (pa_cons (pv 2) (pa_cons (pe_bltn (v := .ty "int") (u := .type "int") (by rfl) T.z_int (by decide +kernel) rfl) pa_nil))))) (pw_or1 (pt_val (pe_callB call_isi (by rfl) T.z_isinstance (by decide +kernel) (pa_cons (pv 2) (pa_cons (pe_bltn (v := .ty "bool") (u := .type "bool") (by rfl) T.z_bool (by decide +kernel) rfl) pa_nil)))))))
            (pss_one (ps_ret pe_bl))
            pss_nil)))
      (pss_one (ps_ret (pe_and (pe_cmpR op_ge (pe_ix ix_tup (pv 0) pe_int (fun _ _ => rfl)) (pv 1) (nomark _)) (pe_and (pe_cmpR op_gt (pe_ix ix_tup (pv 0) pe_int (fun _ _ => rfl)) pe_int (nomark _)) (pe_one (pe_cmpR op_eq (pe_call G_l_divisor (hr.mono (by decide)) (by rfl) T.g_l_divisor T.k_l_divisor T.b_l_divisor .nil pass0 (pa_cons (pe_ix ix_tup (pv 0) pe_int (fun _ _ => rfl)) (pa_cons (pe_ix ix_tup (pv 0) pe_int (fun _ _ => rfl)) pa_nil))) pe_int (nomark _))))))))), ?_⟩
      walk_at "r"
      refine ⟨⟨_, .of hp⟩, ?_⟩
      refine for_tup (K := K) (a := p) (xs := [x, y]) (fun k σ H' => ∃ (t1 : Option V), σ = [some (.ref p), some (.int l), t1] ∧ H' = H ∧ k = 0) ?_ ?_ ?_ ?_
      · exact ⟨_, rfl, rfl, rfl⟩
      · rintro k σ H' _ ⟨t1, rfl, rfl, _⟩
        exact .of hp
      · rintro k v σ H' hv ⟨t1, rfl, rfl, rfl⟩
        cases hv
        obtain ⟨b1, b2, b3, hb, h1, h2, -⟩ := o.isi
        walk_at "r"
        refine h1 _ ?_
        cases b1 with
        | false =>
          walk_at "r"
          exact q
        | true =>
          have e : b2 = true := by
            cases b2
            · cases hb
            · rfl
          subst e
          walk_at "r"
          refine h2 _ ?_
          walk_at "r"
          exact q
      · rintro σ H' ⟨t1, rfl, rfl, e⟩
        cases e
    · refine ⟨_, (pss_cons (ps_if (PW.pt (pw_or (pt_not (pt_val (pe_callB call_isi (by rfl) T.z_isinstance (by decide +kernel) (pa_cons (pv 0) (pa_cons (pe_bltn (v := .ty "tuple") (u := .type "tuple") (by rfl) T.z_tuple (by decide +kernel) rfl) pa_nil))))) (pw_or1 (pt_cmpR op_ne (pe_callB call_lenN (by rfl) T.z_len (by decide +kernel) (pa_cons (pv 0) pa_nil)) pe_int (nomark _)))))
        (pss_one (ps_ret pe_bl))
        pss_nil)
      (pss_cons (ps_for PassesOwn.never rfl (pi_tup (pv 0)) (pg_name (i := 2) sc_l_is_some.nd rfl (by first | exact Or.inl rfl | exact Or.inr rfl))
        (pss_one (ps_if (PW.pt (pw_or (pt_not (pt_val (pe_callB call_isi (by rfl) T.z_isinstance (by decide +kernel) (pa_cons (pv 2) (pa_cons (pe_bltn (v := .ty "int") (u := .type "int") (by rfl) T.z_int (by decide +kernel) rfl) pa_nil))))) (pw_or1 (pt_val (pe_callB call_isi (by rfl) T.z_isinstance (by decide +kernel) (pa_cons (pv 2) (pa_cons (pe_bltn (v := .ty "bool") (u := .type "bool") (by rfl) T.z_bool (by decide +kernel) rfl) pa_nil)))))))
            (pss_one (ps_ret pe_bl))
            pss_nil)))
      (pss_one (ps_ret (pe_and (pe_cmpR op_ge (pe_ix ix_tup (pv 0) pe_int (fun _ _ => rfl)) (pv 1) (nomark _)) (pe_and (pe_cmpR op_gt (pe_ix ix_tup (pv 0) pe_int (fun _ _ => rfl)) pe_int (nomark _)) (pe_one (pe_cmpR op_eq (pe_call G_l_divisor (hr.mono (by decide)) (by rfl) T.g_l_divisor T.k_l_divisor T.b_l_divisor .nil pass0 (pa_cons (pe_ix ix_tup (pv 0) pe_int (fun _ _ => rfl)) (pa_cons (pe_ix ix_tup (pv 0) pe_int (fun _ _ => rfl)) pa_nil))) pe_int (nomark _))))))))), ?_⟩
      walk_at "r"
      refine ⟨⟨_, .of hp⟩, ?_⟩
      refine for_tup (K := K) (a := p) (xs := [V.int i, y]) (fun k σ H' => ∃ (t1 : Option V), σ = [some (.ref p), some (.int l), t1] ∧ H' = H ∧ k ≤ 1) ?_ ?_ ?_ ?_
      · exact ⟨_, rfl, rfl, by decide⟩
      · rintro k σ H' _ ⟨t1, rfl, rfl, _⟩
        exact .of hp
      · rintro k v σ H' hv ⟨t1, rfl, rfl, hk⟩
        match k, hv with
        | 0, hv =>
          cases hv
          walk_at "r"
          exact ⟨rfl, Nat.le_refl 1⟩
        | 1, hv =>
          cases hv
          obtain ⟨b1, b2, b3, hb, h1, h2, -⟩ := o.isi
          walk_at "r"
          refine h1 _ ?_
          cases b1 with
          | false =>
            walk_at "r"
            exact q
          | true =>
            have e : b2 = true := by
              cases b2
              · cases hb
              · rfl
            subst e
            walk_at "r"
            refine h2 _ ?_
            walk_at "r"
            exact q
      · rintro σ H' ⟨t1, rfl, rfl, e⟩
        exact absurd e (show ¬ 2 ≤ 1 by decide)
def sp_lsomeJ (K : PySem.W.Frag) : Sp := fun vs H Q _ => ∃ v D o l, vs = [v, .int (lsI l)] ∧ JF K D H v o ∧ Q (.bl (lsOk l o)) H
theorem ok_l_is_some (T : Txt K mg f_is_integer f_is_row f_is_fraction f_is_amount f_is_some f_are_amounts f_added f_negated f_lessened f_multiplied f_divided f_squared f_summed f_lies_below f_is_stall f_hold_of f_stalls_of f_kept_of f_held f_is_index f_is_move f_check_purse f_check_wish f_stall_led f_stall_behind f_stalls_behind f_deal_fault f_check_deal f_web_behind f_left_with f_played f_owes f_is_deal f_stands_alike f_check_alike f_change_of f_l_deck f_l_pick f_l_fold f_l_divisor f_l_made f_l_amount f_l_stall f_l_deep f_l_odd f_l_row f_l_bad_row f_l_move f_l_bad_deal f_l_is_some f_l_is_row f_l_is_below f_l_is_move f_l_due f_l_answer f_l_word f_l_word_is_due f_law f_BadDeal_init f_Web_init f_Web_eq c_BadPurse c_BadWish c_BadDeal c_Web c_ZERO d_is_integer d_is_row d_is_fraction d_is_amount d_is_some d_are_amounts d_added d_negated d_lessened d_multiplied d_divided d_squared d_summed d_lies_below d_is_stall d_hold_of d_stalls_of d_kept_of d_held d_is_index d_is_move d_check_purse d_check_wish d_stall_led d_stall_behind d_stalls_behind d_deal_fault d_check_deal d_web_behind d_left_with d_played d_owes d_is_deal d_stands_alike d_check_alike d_change_of d_l_deck d_l_pick d_l_fold d_l_divisor d_l_made d_l_amount d_l_stall d_l_deep d_l_odd d_l_row d_l_bad_row d_l_move d_l_bad_deal d_l_is_some d_l_is_row d_l_is_below d_l_is_move d_l_due d_l_answer d_l_word d_l_word_is_due d_law d_BadDeal_init d_Web_init d_Web_eq) : FnOk P w K mg base CX0 2 f_l_is_some d_l_is_some ["_law_thing", "_law_least"] (sp_lsomeJ K) :=
  (fn_or (ok_l_is_someP T) (ok_l_is_someN T)).imp fun vs H Q E h => by
    obtain ⟨v, D, o, l, rfl, j, q⟩ := h
    have none_ : lsOk l none = false := by cases l <;> rfl
    rcases j with ⟨r, ⟨p, rfl, hp⟩, bd, rfl⟩ | ⟨nf, rfl⟩
    · refine .inl ⟨p, r.num, r.den, lsI l, rfl, hp, Nat.lt_of_lt_of_le (show ((r.den : Int)).natAbs < 2 ^ 40 by rw [Int.natAbs_natCast]; exact bd.2) (pow_le (by decide)), ?_⟩
      have d := den_pos r
      have g : decide (Nat.gcd r.num.natAbs ((r.den : Int)).natAbs = 1) = true := decide_eq_true (by rw [Int.natAbs_natCast]; exact gcd_den r)
      have e : (decide (lsI l ≤ r.num) && (decide (0 < (r.den : Int)) && decide (Nat.gcd r.num.natAbs ((r.den : Int)).natAbs = 1))) = lsOk l (some r) := by
        rw [g, decide_eq_true (show 0 < (r.den : Int) by omega), Bool.and_true, Bool.and_true]
        cases l with
        | true =>
          show decide (1 ≤ r.num) = decide (0 < r)
          rw [Bool.eq_iff_iff, decide_eq_true_eq, decide_eq_true_eq, Rat.lt_iff]
          simp
          omega
        | false =>
          show decide (0 ≤ r.num) = decide (0 ≤ r)
          rw [Bool.eq_iff_iff, decide_eq_true_eq, decide_eq_true_eq]
          exact Rat.num_nonneg
      rw [e]
      exact q
    · rw [none_] at q
      cases nf with
      | int i => exact .inr ⟨_, D, _, rfl, .inl ⟨i, rfl⟩, q⟩
      | not o h => exact .inr ⟨_, D, _, rfl, .inr (.inl ⟨o, h⟩), q⟩
      | fst n h o => exact .inr ⟨_, D, _, rfl, .inr (.inr (.inl ⟨_, _, _, rfl, h, o⟩)), q⟩
      | snd n h o => exact .inr ⟨_, D, _, rfl, .inr (.inr (.inr ⟨_, _, _, rfl, h, o⟩)), q⟩
      | @low p i j n h z b =>
        refine .inl ⟨p, i, j, _, rfl, .inl h, Nat.lt_of_lt_of_le b (pow_le (by decide)), ?_⟩
        have e : (decide (lsI l ≤ i) && (decide (0 < j) && decide (Nat.gcd i.natAbs j.natAbs = 1))) = false := by
          rw [Bool.eq_false_iff]
          intro hb
          simp only [Bool.and_eq_true, decide_eq_true_eq] at hb
          exact z ⟨hb.2.1, hb.2.2⟩
        rw [e]
        exact q
def sp_lis_row (K : PySem.W.Frag) (C : Addr) : Sp := fun vs H Q _ => ∃ (x p : V) (D : Addr) (n : Nat) (ss : List Stl) (b : Bool), vs = [x, p] ∧ IsWeb K C H x n ss ∧ JRw K D H n p b ∧ ∀ H', Same H H' → Q (.bl b) H'
theorem ok_l_is_row (T : Txt K mg f_is_integer f_is_row f_is_fraction f_is_amount f_is_some f_are_amounts f_added f_negated f_lessened f_multiplied f_divided f_squared f_summed f_lies_below f_is_stall f_hold_of f_stalls_of f_kept_of f_held f_is_index f_is_move f_check_purse f_check_wish f_stall_led f_stall_behind f_stalls_behind f_deal_fault f_check_deal f_web_behind f_left_with f_played f_owes f_is_deal f_stands_alike f_check_alike f_change_of f_l_deck f_l_pick f_l_fold f_l_divisor f_l_made f_l_amount f_l_stall f_l_deep f_l_odd f_l_row f_l_bad_row f_l_move f_l_bad_deal f_l_is_some f_l_is_row f_l_is_below f_l_is_move f_l_due f_l_answer f_l_word f_l_word_is_due f_law f_BadDeal_init f_Web_init f_Web_eq c_BadPurse c_BadWish c_BadDeal c_Web c_ZERO d_is_integer d_is_row d_is_fraction d_is_amount d_is_some d_are_amounts d_added d_negated d_lessened d_multiplied d_divided d_squared d_summed d_lies_below d_is_stall d_hold_of d_stalls_of d_kept_of d_held d_is_index d_is_move d_check_purse d_check_wish d_stall_led d_stall_behind d_stalls_behind d_deal_fault d_check_deal d_web_behind d_left_with d_played d_owes d_is_deal d_stands_alike d_check_alike d_change_of d_l_deck d_l_pick d_l_fold d_l_divisor d_l_made d_l_amount d_l_stall d_l_deep d_l_odd d_l_row d_l_bad_row d_l_move d_l_bad_deal d_l_is_some d_l_is_row d_l_is_below d_l_is_move d_l_due d_l_answer d_l_word d_l_word_is_due d_law d_BadDeal_init d_Web_init d_Web_eq) : FnOk P w K mg base CX0 3 f_l_is_row d_l_is_row ["_law_web", "_law_thing"] (sp_lis_row K c_Web) := by
  have G_l_is_some : FnOk P w K mg base CX0 2 f_l_is_some d_l_is_some ["_law_thing", "_law_least"] (sp_lsomeJ K) := ok_l_is_some T
  refine T.F_l_is_row.ok sc_l_is_row (fun vs H Q E h => ?_) (fun cdv A outer sh H vs Q E hr h => ?_)
  · obtain ⟨x, p, D, n, ss, b, rfl, _⟩ := h
    rfl
  · obtain ⟨x, p, D, n, ss, b, rfl, hw, hj, q⟩ := h
    refine ⟨_, (pss_cons (ps_if (PW.pt (pw_or (pt_not (pt_val (pe_callB call_isiT (by rfl) T.z_isinstance (by decide +kernel) (pa_cons (pv 1) (pa_cons (pe_tup (pa_cons (pe_bltn (v := .ty "list") (u := .type "list") (by rfl) T.z_list (by decide +kernel) rfl) (pa_cons (pe_bltn (v := .ty "tuple") (u := .type "tuple") (by rfl) T.z_tuple (by decide +kernel) rfl) pa_nil))) pa_nil))))) (pw_or1 (pt_cmpR op_ne (pe_callB call_lenN (by rfl) T.z_len (by decide +kernel) (pa_cons (pv 1) pa_nil)) (pe_fld (pv 0) rfl) (nomark _)))))
        (pss_one (ps_ret pe_bl))
        pss_nil)
      (pss_one (ps_ret (pe_callB (cr_all rfl) (by rfl) T.z_all (by decide +kernel) (pa_cons (pe_lc (own := [("_law_item", 2)]) (g := gName 2) rfl sc_l_is_row.nd (My.pi_seqA (pv 1)) (blkOk_by (own := [("_law_item", 2)]) (N := N_l_is_row) (sc := defScope s_l_is_row) (by decide +kernel)) (fun _ _ _ _ _ => (pg_name (i := 2) sc_l_is_row.nd rfl (by first | exact Or.inl rfl | exact Or.inr rfl))) (fun _ _ _ _ _ => pts_nil) (fun _ _ _ _ _ => (pe_call G_l_is_some (hr.mono (by decide)) (by rfl) T.g_l_is_some T.k_l_is_some T.b_l_is_some .nil pass0 (pa_cons (pv 2) (pa_cons pe_int pa_nil))))) pa_nil))))), ?_⟩
    walk_at "r"
    intro tp ntp
    have s1 := same_upd (o := .tup [V.ty "list", .ty "tuple"]) ntp
    have htp : upd H tp (.tup [V.ty "list", .ty "tuple"]) tp = some (.tup [V.ty "list", .ty "tuple"]) := upd_same
    have hw := hw.same s1
    have hj := hj.same s1
    generalize upd H tp (.tup [V.ty "list", .ty "tuple"]) = H1 at *
    walk_at "r"
    rcases hj with ⟨L, ys, os, rfl, np, hL, hjf, l20, rfl⟩ | ⟨o, rfl⟩
    · refine sq_isiT hL htp ?_
      obtain ⟨px, dx, t, xs, rfl, hp, ht, hss⟩ := id hw
      walk_at "r"
      refine ⟨L, ys, rfl, hL.sq, ?_⟩
      walk_at "r"
      refine ⟨_, _, _, _, _, rfl, hp, T.w_Web.it.cl, T.n_Web_wares, wF_wares _ _, ?_⟩
      walk_at "r"
      have hl := Paired.length hjf
      by_cases c : ys.length = n
      · have c' : (ys.length : Int) = (n : Nat) := by omega
        rw [decide_eq_true c, Bool.true_and] at q
        walk_at "r"
        refine rd_seqA ?_
        walk_at "r"
        refine lc_seqA (R := fun H v (b : Bool) => v = .bl b) (fun _ _ _ _ _ h => h) (f := fun i => (os[i]?).map am) (by omega) hL.sq (fun i x hx H' Q' N' s3 hy hn => ?_) (fun D' H' hlst => ?_) rfl
        · obtain ⟨o, ho, jo⟩ := Paired.at hjf hx
          walk_at "r"
          refine ⟨rfl, ?_⟩
          walk_at "r"
          exact ⟨_, D, o, false, rfl, jo.same s3, hy (am o) _ _ (by simp [ho]) (Same.refl _) rfl⟩
        · obtain ⟨s3, bs, hD, hbs⟩ := hlst
          rw [hl, upTo_list] at hbs
          have e := bools_of hbs
          subst e
          walk_at "r"
          refine ⟨D', _, rfl, .of hD, ?_⟩
          have q := q _ (s1.trans s3)
          rw [List.all_map]
          exact q
      · have c' : ¬ (ys.length : Int) = (n : Nat) := by omega
        rw [decide_eq_false c, Bool.false_and] at q
        walk_at "r"
        exact q _ s1
    · refine nosq_isiT o htp ?_
      walk_at "r"
      exact q _ s1
def sp_lmoveJ (K : PySem.W.Frag) (C : Addr) : Sp := fun vs H Q _ => ∃ (x y : V) (D : Addr) (n : Nat) (ss : List Stl) (t : Jm), vs = [x, y] ∧ IsWeb K C H x n ss ∧ (∀ s ∈ ss, OkSt n s) ∧ JM K D H y t ∧ ∀ H', Same H H' → Q (.bl (mvOk ss t)) H'
theorem ok_l_is_move (T : Txt K mg f_is_integer f_is_row f_is_fraction f_is_amount f_is_some f_are_amounts f_added f_negated f_lessened f_multiplied f_divided f_squared f_summed f_lies_below f_is_stall f_hold_of f_stalls_of f_kept_of f_held f_is_index f_is_move f_check_purse f_check_wish f_stall_led f_stall_behind f_stalls_behind f_deal_fault f_check_deal f_web_behind f_left_with f_played f_owes f_is_deal f_stands_alike f_check_alike f_change_of f_l_deck f_l_pick f_l_fold f_l_divisor f_l_made f_l_amount f_l_stall f_l_deep f_l_odd f_l_row f_l_bad_row f_l_move f_l_bad_deal f_l_is_some f_l_is_row f_l_is_below f_l_is_move f_l_due f_l_answer f_l_word f_l_word_is_due f_law f_BadDeal_init f_Web_init f_Web_eq c_BadPurse c_BadWish c_BadDeal c_Web c_ZERO d_is_integer d_is_row d_is_fraction d_is_amount d_is_some d_are_amounts d_added d_negated d_lessened d_multiplied d_divided d_squared d_summed d_lies_below d_is_stall d_hold_of d_stalls_of d_kept_of d_held d_is_index d_is_move d_check_purse d_check_wish d_stall_led d_stall_behind d_stalls_behind d_deal_fault d_check_deal d_web_behind d_left_with d_played d_owes d_is_deal d_stands_alike d_check_alike d_change_of d_l_deck d_l_pick d_l_fold d_l_divisor d_l_made d_l_amount d_l_stall d_l_deep d_l_odd d_l_row d_l_bad_row d_l_move d_l_bad_deal d_l_is_some d_l_is_row d_l_is_below d_l_is_move d_l_due d_l_answer d_l_word d_l_word_is_due d_law d_BadDeal_init d_Web_init d_Web_eq) : FnOk P w K mg base CX0 3 f_l_is_move d_l_is_move ["_law_web", "_law_thing"] (sp_lmoveJ K c_Web) := by
  have G_l_is_below : FnOk P w K mg base CX0 1 f_l_is_below d_l_is_below ["_law_thing", "_law_many"] (sp_lbelow K) := ok_l_is_below T
  have G_l_is_some : FnOk P w K mg base CX0 2 f_l_is_some d_l_is_some ["_law_thing", "_law_least"] (sp_lsomeJ K) := ok_l_is_some T
  refine T.F_l_is_move.ok sc_l_is_move (fun vs H Q E h => ?_) (fun cdv A outer sh H vs Q E hr h => ?_)
  · obtain ⟨x, y, D, n, ss, t, rfl, _⟩ := h
    rfl
  · obtain ⟨x, y, D, n, ss, t, rfl, hw, hok, hy, q⟩ := h
    refine ⟨_, (pss_cons (ps_if (PW.pt (pw_or (pt_not (pt_val (pe_callB call_isi (by rfl) T.z_isinstance (by decide +kernel) (pa_cons (pv 1) (pa_cons (pe_bltn (v := .ty "tuple") (u := .type "tuple") (by rfl) T.z_tuple (by decide +kernel) rfl) pa_nil))))) (pw_or (pt_cmpR op_ne (pe_callB call_lenN (by rfl) T.z_len (by decide +kernel) (pa_cons (pv 1) pa_nil)) pe_int (nomark _)) (pw_or1 (pt_not (pt_val (pe_call G_l_is_below (hr.mono (by decide)) (by rfl) T.g_l_is_below T.k_l_is_below T.b_l_is_below .nil pass0 (pa_cons (pe_ix ix_tup (pv 1) pe_int (fun _ _ => rfl)) (pa_cons (pe_callB call_lenN (by rfl) T.z_len (by decide +kernel) (pa_cons (pe_fld (pv 0) rfl) pa_nil)) pa_nil)))))))))
        (pss_one (ps_ret pe_bl))
        pss_nil)
      (pss_cons (ps_if (PW.pt (pw_or (pt_not (pt_val (pe_call G_l_is_below (hr.mono (by decide)) (by rfl) T.g_l_is_below T.k_l_is_below T.b_l_is_below .nil pass0 (pa_cons (pe_ix ix_tup (pv 1) pe_int (fun _ _ => rfl)) (pa_cons (pe_fld (pv 0) rfl) pa_nil))))) (pw_or1 (pt_cmpR op_notIn_seq (pe_ix ix_tup (pv 1) pe_int (fun _ _ => rfl)) (pe_slice sl_tup (pe_ix ix_tup (pe_fld (pv 0) rfl) (pe_ix ix_tup (pv 1) pe_int (fun _ _ => rfl)) (fun _ _ => rfl)) po_none (po_some pe_int)) (by rfl)))))
        (pss_one (ps_ret pe_bl))
        pss_nil)
      (pss_one (ps_ret (pe_call G_l_is_some (hr.mono (by decide)) (by rfl) T.g_l_is_some T.k_l_is_some T.b_l_is_some .nil pass0 (pa_cons (pe_ix ix_tup (pv 1) pe_int (fun _ _ => rfl)) (pa_cons pe_int pa_nil))))))), ?_⟩
    obtain ⟨px, dx, tt, xs, rfl, hpx, ht, hss⟩ := id hw
    have hlx := hss.len
    walk_at "r"
    rcases hy with ⟨p, vx, vy, vz, a, b, r, rfl, np, hp, ja, jb, jr, rfl⟩ | ⟨⟨i, rfl⟩ | ⟨o, hn⟩, rfl⟩
    · walk_at "r"
      refine ⟨_, _, _, _, _, rfl, hpx, T.w_Web.it.cl, T.n_Web_stalls, wF_stalls _ _, ?_⟩
      walk_at "r"
      refine ⟨_, D, ss.length, a, by rw [hlx]; rfl, ja, ?_⟩
      cases ca : ixOk ss.length a with
      | false =>
        have q := q _ (Same.refl _)
        rw [mv_no1 ca] at q
        walk_at "r"
        exact q
      | true =>
        walk_at "r"
        refine ⟨_, _, _, _, _, rfl, hpx, T.w_Web.it.cl, T.n_Web_wares, wF_wares _ _, ?_⟩
        walk_at "r"
        refine ⟨_, D, n, b, rfl, jb, ?_⟩
        cases cb : ixOk n b with
        | false =>
          have q := q _ (Same.refl _)
          rw [mv_no2 hok cb] at q
          walk_at "r"
          exact q
        | true =>
          obtain ⟨i, rfl⟩ : ∃ i, a = some i := by
            cases a with
            | none => cases ca
            | some i => exact ⟨i, rfl⟩
          obtain ⟨wi, rfl⟩ : ∃ i, b = some i := by
            cases b with
            | none => cases cb
            | some i => exact ⟨i, rfl⟩
          have ex : vx = .int i := by
            rcases ja with ⟨_, h1, h2⟩ | ⟨_, h2⟩
            · cases h2
              exact h1
            · cases h2
          have ey : vy = .int wi := by
            rcases jb with ⟨_, h1, h2⟩ | ⟨_, h2⟩
            · cases h2
              exact h1
            · cases h2
          subst ex
          subst ey
          have ca' : (decide (0 ≤ i) && decide (i < (ss.length : Nat))) = true := ca
          rw [Bool.and_eq_true, decide_eq_true_eq, decide_eq_true_eq] at ca'
          obtain ⟨j, rfl⟩ := Int.eq_ofNat_of_zero_le ca'.1
          have hj : j < ss.length := by omega
          obtain ⟨s, hs⟩ : ∃ s, ss[j]? = some s := ⟨_, List.getElem?_eq_getElem hj⟩
          obtain ⟨z, hz, ⟨pz, va, vb, vr, rfl, hpz, _⟩⟩ := hss.get hs
          have e : mvOk ss (some (some (j : Int), some wi, r)) = ((decide (wi = (s.u : Nat)) || decide (wi = (s.v : Nat))) && sa r) := by
            show (ixOk ss.length (some (j : Int)) && (wrOk ss j wi && sa r)) = _
            rw [ca, Bool.true_and]
            unfold wrOk
            rw [Int.toNat_natCast, hs]
          rw [e] at q
          walk_at "r"
          refine ⟨_, _, _, _, _, rfl, hpx, T.w_Web.it.cl, T.n_Web_stalls, wF_stalls _ _, ?_⟩
          walk_at "r"
          refine rd_ixT ht (at_some hz) ?_
          walk_at "r"
          refine ⟨_, _, rfl, .of hpz, (by show ¬ (HT.sIx 5 0 none = 0 ∧ HT.sIx 5 5 (some 2) = 5); decide), fun p2 n2 => ?_⟩
          have sm := same_upd (o := .tup (cutV [V.int (s.u : Nat), .int (s.v : Nat), va, vb, vr] none (some 2))) n2
          refine ⟨_, _, rfl, .inr (.of upd_same), rfl, rfl, ?_⟩
          have e2 : inV (.int wi) (cutV [V.int (s.u : Nat), .int (s.v : Nat), va, vb, vr] none (some 2)) = (decide (wi = (s.u : Nat)) || decide (wi = (s.v : Nat))) := by
            rw [show cutV [V.int (s.u : Nat), .int (s.v : Nat), va, vb, vr] none (some 2) = [V.int (s.u : Nat), .int (s.v : Nat)] from rfl]
            simp [inV, eqV, Bool.beq_eq_decide_eq]
            rw [show decide (((s.u : Nat) : Int) = wi) = decide (wi = (s.u : Nat)) from decide_eq_decide.mpr eq_comm, show decide (((s.v : Nat) : Int) = wi) = decide (wi = (s.v : Nat)) from decide_eq_decide.mpr eq_comm]
          rw [e2, if_pos rfl]
          cases cw : (decide (wi = (s.u : Nat)) || decide (wi = (s.v : Nat))) with
          | false =>
            rw [cw] at q
            walk_at "r"
            exact q _ sm
          | true =>
            rw [cw, Bool.true_and] at q
            generalize upd H p2 (.tup (cutV [V.int (s.u : Nat), .int (s.v : Nat), va, vb, vr] none (some 2))) = H2 at *
            have hp := sm _ _ hp
            walk_at "r"
            refine ⟨_, D, r, true, rfl, jr.same sm, ?_⟩
            exact q _ sm
    · have q := q _ (Same.refl _)
      walk_at "r"
      exact q
    · have q := q _ (Same.refl _)
      obtain ⟨b1, b2, b3, hb, -, -, h3, ht⟩ := o.isi
      walk_at "r"
      refine h3 _ ?_
      cases b3 with
      | false =>
        walk_at "r"
        exact q
      | true =>
        obtain ⟨p, xs, rfl, np, hp⟩ := ht rfl
        have hl : ¬ ((xs.length : Int) = 3) := by
          have := hn p xs rfl hp
          omega
        walk_at "r"
        exact q
/-- a word and a place -/
def IsW (H : Hp) (v : V) (s : Str) (i : Int) : Prop := ∃ p, v = .ref p ∧ H p = some (.tup [.str s, .int i])
def dueW : Bool → Option Int → Str × Int
  | false, _ => ("purse", 0)
  | true, some i => ("deal", i)
  | true, none => ("told", 0)
def sp_ldue14 (K : PySem.W.Frag) (C : Addr) : Sp := fun vs H Q _ => ∃ (x p d : V) (D : Addr) (n : Nat) (ss : List Stl) (b : Bool) (o : Option Int), vs = [x, p, d] ∧ IsWeb K C H x n ss ∧ (∀ s ∈ ss, OkSt n s) ∧ JRw K D H n p b ∧ JDl K D H ss d o ∧ ∀ H' v, Same H H' → IsW H' v (dueW b o).1 (dueW b o).2 → Q v H'
theorem ok_l_due (T : Txt K mg f_is_integer f_is_row f_is_fraction f_is_amount f_is_some f_are_amounts f_added f_negated f_lessened f_multiplied f_divided f_squared f_summed f_lies_below f_is_stall f_hold_of f_stalls_of f_kept_of f_held f_is_index f_is_move f_check_purse f_check_wish f_stall_led f_stall_behind f_stalls_behind f_deal_fault f_check_deal f_web_behind f_left_with f_played f_owes f_is_deal f_stands_alike f_check_alike f_change_of f_l_deck f_l_pick f_l_fold f_l_divisor f_l_made f_l_amount f_l_stall f_l_deep f_l_odd f_l_row f_l_bad_row f_l_move f_l_bad_deal f_l_is_some f_l_is_row f_l_is_below f_l_is_move f_l_due f_l_answer f_l_word f_l_word_is_due f_law f_BadDeal_init f_Web_init f_Web_eq c_BadPurse c_BadWish c_BadDeal c_Web c_ZERO d_is_integer d_is_row d_is_fraction d_is_amount d_is_some d_are_amounts d_added d_negated d_lessened d_multiplied d_divided d_squared d_summed d_lies_below d_is_stall d_hold_of d_stalls_of d_kept_of d_held d_is_index d_is_move d_check_purse d_check_wish d_stall_led d_stall_behind d_stalls_behind d_deal_fault d_check_deal d_web_behind d_left_with d_played d_owes d_is_deal d_stands_alike d_check_alike d_change_of d_l_deck d_l_pick d_l_fold d_l_divisor d_l_made d_l_amount d_l_stall d_l_deep d_l_odd d_l_row d_l_bad_row d_l_move d_l_bad_deal d_l_is_some d_l_is_row d_l_is_below d_l_is_move d_l_due d_l_answer d_l_word d_l_word_is_due d_law d_BadDeal_init d_Web_init d_Web_eq) : FnOk P w K mg base CX0 4 f_l_due d_l_due ["_law_web", "_law_purse", "_law_deal"] (sp_ldue14 K c_Web) := by
  have G_l_is_row : FnOk P w K mg base CX0 3 f_l_is_row d_l_is_row ["_law_web", "_law_thing"] (sp_lis_row K c_Web) := ok_l_is_row T
  have G_l_is_move : FnOk P w K mg base CX0 3 f_l_is_move d_l_is_move ["_law_web", "_law_thing"] (sp_lmoveJ K c_Web) := ok_l_is_move T
  refine T.F_l_due.ok sc_l_due (fun vs H Q E h => ?_) (fun cdv A outer sh H vs Q E hr h => ?_)
  · obtain ⟨x, p, d, D, n, ss, b, o, rfl, _⟩ := h
    rfl
  · obtain ⟨x, p, d, D, n, ss, b, o, rfl, hw, oks, hj, hd, q⟩ := h
    refine ⟨_, (pss_cons (ps_if (pt_not (pt_val (pe_call G_l_is_row (hr.mono (by decide)) (by rfl) T.g_l_is_row T.k_l_is_row T.b_l_is_row .nil pass0 (pa_cons (pv 0) (pa_cons (pv 1) pa_nil)))))
        (pss_one (ps_ret (pe_tup (pa_cons pe_str (pa_cons pe_int pa_nil)))))
        pss_nil)
      (pss_cons (ps_if (PW.pt (pw_or (pt_not (pt_val (pe_callB call_isiT (by rfl) T.z_isinstance (by decide +kernel) (pa_cons (pv 2) (pa_cons (pe_tup (pa_cons (pe_bltn (v := .ty "list") (u := .type "list") (by rfl) T.z_list (by decide +kernel) rfl) (pa_cons (pe_bltn (v := .ty "tuple") (u := .type "tuple") (by rfl) T.z_tuple (by decide +kernel) rfl) pa_nil))) pa_nil))))) (pw_or1 (pt_cmpR op_gt (pe_callB call_lenN (by rfl) T.z_len (by decide +kernel) (pa_cons (pv 2) pa_nil)) pe_int (nomark _)))))
        (pss_one (ps_ret (pe_tup (pa_cons pe_str (pa_cons (pe_un un_neg pe_int) pa_nil)))))
        pss_nil)
      (pss_cons (ps_for PassesOwn.never rfl (pi_range1 (by rfl) T.z_range (pa_cons (pe_callB call_lenN (by rfl) T.z_len (by decide +kernel) (pa_cons (pv 2) pa_nil)) pa_nil)) (pg_name (i := 3) sc_l_due.nd rfl (by first | exact Or.inl rfl | exact Or.inr rfl))
        (pss_one (ps_if (pt_not (pt_val (pe_call G_l_is_move (hr.mono (by decide)) (by rfl) T.g_l_is_move T.k_l_is_move T.b_l_is_move .nil pass0 (pa_cons (pv 0) (pa_cons (pe_ix My.ix_any (pv 2) (pv 3) (fun _ _ => rfl)) pa_nil)))))
            (pss_one (ps_ret (pe_tup (pa_cons pe_str (pa_cons (pv 3) pa_nil)))))
            pss_nil)))
      (pss_one (ps_ret (pe_tup (pa_cons pe_str (pa_cons pe_int pa_nil)))))))), ?_⟩
    walk_at "r"
    refine ⟨x, p, D, n, ss, b, rfl, hw, hj, fun H1 s1 => ?_⟩
    cases b with
    | false =>
      walk_at "r"
      intro pr npr
      exact q _ _ (s1.trans (same_upd npr)) ⟨pr, rfl, upd_same⟩
    | true =>
      walk_at "r"
      intro tp ntp
      have s2 := same_upd (o := .tup [V.ty "list", .ty "tuple"]) ntp
      have htp : upd H1 tp (.tup [V.ty "list", .ty "tuple"]) tp = some (.tup [V.ty "list", .ty "tuple"]) := upd_same
      have k2 := s1.trans s2
      generalize upd H1 tp (.tup [V.ty "list", .ty "tuple"]) = H2 at *
      walk_at "r"
      rcases hd.same k2 with ⟨L, ys, ts, rfl, np, hL, hms, l9, rfl⟩ | ⟨o', rfl⟩
      · have hl := Paired.length hms
        refine sq_isiT hL htp ?_
        walk_at "r"
        refine ⟨L, ys, rfl, hL.sq, ?_⟩
        by_cases c200 : 200 < ts.length
        · have e : dueW true (flt ss ts) = (("deal" : Str), (-1 : Int)) := by
            unfold flt
            rw [if_pos c200]
            rfl
          rw [e] at q
          have c' : (ys.length : Int) > 200 := by omega
          walk_at "r"
          intro pr npr
          exact q _ _ (k2.trans (same_upd npr)) ⟨pr, rfl, upd_same⟩
        · have e : flt ss ts = (bad1 ss ts).map (fun i : Nat => (i : Int)) := by
            unfold flt
            rw [if_neg c200]
          rw [e] at q
          have c' : ¬ (ys.length : Int) > 200 := by omega
          walk_at "r"
          refine ⟨L, ys, rfl, hL.sq, ?_⟩
          walk_at "r"
          refine ⟨by omega, by omega, ?_⟩
          refine for_range (lo := 0) (n := ys.length) (fun i σ H' => ∃ (t3 : Option V), σ = [some x, some p, some (.ref L), t3] ∧ Same H2 H' ∧ ∀ (j : Nat) (u : Jm), j < i → ts[j]? = some u → mvOk ss u = true) ?_ ?_ ?_
          · exact ⟨_, rfl, Same.refl _, fun j u hj => absurd hj (Nat.not_lt_zero _)⟩
          · rintro i σ H' hi ⟨t3, rfl, s3, hb⟩
            obtain ⟨y, hy⟩ : ∃ y, ys[i]? = some y := ⟨_, List.getElem?_eq_getElem hi⟩
            obtain ⟨t, ht, jm⟩ := Paired.at hms hy
            walk_at "r"
            refine rd_ixAny (hL.same s3) (at_some (by rw [Nat.zero_add]; exact hy)) ?_
            walk_at "r"
            refine ⟨x, y, D, n, ss, t, rfl, hw.same (k2.trans s3), oks, jm.same s3, fun H4 s4 => ?_⟩
            cases cm : mvOk ss t with
            | true =>
              walk_at "r"
              refine ⟨s3.trans s4, fun j u hj hu => ?_⟩
              by_cases e2 : j = i
              · subst e2
                rw [ht] at hu
                cases hu
                exact cm
              · exact hb j u (by omega) hu
            | false =>
              walk_at "r"
              intro pr npr
              refine q _ _ ((k2.trans (s3.trans s4)).trans (same_upd npr)) ?_
              rw [bad1_at ht cm hb, Int.zero_add]
              exact ⟨pr, rfl, upd_same⟩
          · rintro σ H' ⟨t3, rfl, s3, hb⟩
            walk_at "r"
            intro pr npr
            refine q _ _ ((k2.trans s3).trans (same_upd npr)) ?_
            rw [bad1_none fun j u hu => hb j u (by have := (List.getElem?_eq_some_iff.mp hu).1; omega) hu]
            exact ⟨pr, rfl, upd_same⟩
      · refine nosq_isiT o' htp ?_
        walk_at "r"
        intro pr npr
        exact q _ _ (k2.trans (same_upd npr)) ⟨pr, rfl, upd_same⟩
end
end My
namespace My
open PySem PySem.Spec PyProof.Rows L2
variable {K : PySem.W.Frag}
/-- a purse and a deal that can be played and asked of -/
def GD (K : PySem.W.Frag) (H : Hp) (n : Nat) (ss : List Stl) (p d : V) : Prop := ∃ (rs : List Rat) (ms : List Mv) (M N : Nat) (tt : List Stl), IsRow K H p rs ∧ rs.length = n ∧ n ≤ 8 ∧ ss.length ≤ 16 ∧ (∀ r ∈ rs, 0 ≤ r ∧ Bd 40 r) ∧ IsDl K H d ms ∧ ms.length ≤ 200 ∧ (∀ m ∈ ms, Vm ss m) ∧ Run n ss ms ∧ Plays n ss ms tt ∧ OkW n 4000 ss ∧ BL ss M ∧ BL tt N ∧ 40 + (M + N + 1) + 1 ≤ 4000 ∧ M ≤ 1650
theorem GD.same {H H' : Hp} {n : Nat} {ss : List Stl} {p d : V} (g : GD K H n ss p d) (s : Same H H') : GD K H' n ss p d := by
  obtain ⟨rs, ms, M, N, tt, h1, h2, h3, h3', h4, h5, h6⟩ := g
  exact ⟨rs, ms, M, N, tt, h1.same s, h2, h3, h3', h4, h5.same s, h6⟩
theorem eqvW (s t : Str) (i j : Int) : PyData.eqv (.tuple [.str s, .int i]) (.tuple [.str t, .int j]) = (decide (s = t) && decide (i = j)) := by
  simp [PyData.eqv, PyData.eqvAll, Bool.beq_eq_decide_eq]
theorem IsW.dp {H : Hp} {v : V} {s : Str} {i : Int} (h : IsW H v s i) : Dp K H v (.tuple [.str s, .int i]) := by
  obtain ⟨p, rfl, h⟩ := h
  exact .tup (.of h) (.cons (.str _) (.cons (.int _) .nil))
theorem IsW.same {H H' : Hp} {v : V} {s : Str} {i : Int} (h : IsW H v s i) (sm : Same H H') : IsW H' v s i := by
  obtain ⟨p, e, h⟩ := h
  exact ⟨p, e, sm _ _ h⟩
theorem shW {s : Str} {i : Int} (h : PyData.canLay0 (.str s) = true) : SeqAt.shaped (.tuple [.str s, .int i]) = true := by
  unfold SeqAt.shaped
  rw [Bool.and_eq_true]
  refine ⟨?_, decide_eq_true (show max (PyData.depth (.str s)) (max (PyData.depth (.int i)) 0) + 1 ≤ 64 from Nat.le_of_ble_eq_true rfl)⟩
  show (PyData.canLay0 (.str s) && (true && true)) = true
  rw [h]
  rfl
theorem dueW_ok (b : Bool) (o : Option Int) : PyData.canLay0 (.str (dueW b o).1) = true := by
  cases b with
  | false =>
    show PyData.canLay0 (.str "purse") = true
    decide +kernel
  | true =>
    cases o with
    | none => decide +kernel
    | some i =>
      show PyData.canLay0 (.str "deal") = true
      decide +kernel
theorem told_ok : PyData.canLay0 (.str "told") = true := by decide +kernel
theorem deal_ok : PyData.canLay0 (.str "deal") = true := by decide +kernel
theorem neWd {H : Hp} {v u : V} {s t : Str} {i j : Int} {Q : VK} (h1 : IsW H v s i) (h2 : IsW H u t j) (o1 : PyData.canLay0 (.str s) = true) (o2 : PyData.canLay0 (.str t) = true) (q : Q (.bl (!(decide (s = t) && decide (i = j)))) H) : rNeD K v u H Q := by
  refine ⟨_, _, h1.dp, h2.dp, shW o1, shW o2, ?_⟩
  rw [eqvW]
  exact q
theorem eqWd {H : Hp} {v u : V} {s t : Str} {i j : Int} {Q : VK} (h1 : IsW H v s i) (h2 : IsW H u t j) (o1 : PyData.canLay0 (.str s) = true) (o2 : PyData.canLay0 (.str t) = true) (q : Q (.bl (decide (s = t) && decide (i = j))) H) : rEqD K v u H Q := by
  refine ⟨_, _, h1.dp, h2.dp, shW o1, shW o2, ?_⟩
  rw [eqvW]
  exact q
def isL (H : Hp) (d : V) : Prop := ∃ q xs, d = .ref q ∧ H q = some (.lst xs)
section
variable {P : Program} {w : World} {K : PySem.W.Frag} {mg : Str → Option Value} {base : Heap} {f_is_integer f_is_row f_is_fraction f_is_amount f_is_some f_are_amounts f_added f_negated f_lessened f_multiplied f_divided f_squared f_summed f_lies_below f_is_stall f_hold_of f_stalls_of f_kept_of f_held f_is_index f_is_move f_check_purse f_check_wish f_stall_led f_stall_behind f_stalls_behind f_deal_fault f_check_deal f_web_behind f_left_with f_played f_owes f_is_deal f_stands_alike f_check_alike f_change_of f_l_deck f_l_pick f_l_fold f_l_divisor f_l_made f_l_amount f_l_stall f_l_deep f_l_odd f_l_row f_l_bad_row f_l_move f_l_bad_deal f_l_is_some f_l_is_row f_l_is_below f_l_is_move f_l_due f_l_answer f_l_word f_l_word_is_due f_law f_BadDeal_init f_Web_init f_Web_eq c_BadPurse c_BadWish c_BadDeal c_Web c_ZERO : Addr} {d_is_integer d_is_row d_is_fraction d_is_amount d_is_some d_are_amounts d_added d_negated d_lessened d_multiplied d_divided d_squared d_summed d_lies_below d_is_stall d_hold_of d_stalls_of d_kept_of d_held d_is_index d_is_move d_check_purse d_check_wish d_stall_led d_stall_behind d_stalls_behind d_deal_fault d_check_deal d_web_behind d_left_with d_played d_owes d_is_deal d_stands_alike d_check_alike d_change_of d_l_deck d_l_pick d_l_fold d_l_divisor d_l_made d_l_amount d_l_stall d_l_deep d_l_odd d_l_row d_l_bad_row d_l_move d_l_bad_deal d_l_is_some d_l_is_row d_l_is_below d_l_is_move d_l_due d_l_answer d_l_word d_l_word_is_due d_law d_BadDeal_init d_Web_init d_Web_eq : FuncData}
def sp_playX (K : PySem.W.Frag) (C CP CD : Addr) : Sp := fun vs H Q E => sp_played K C vs H Q E ∨ sp_badX K C CP CD vs H Q E
def sp_oweX (K : PySem.W.Frag) (C CP CD : Addr) : Sp := fun vs H Q E => sp_owes K C vs H Q E ∨ sp_badX K C CP CD vs H Q E
def sp_lans (K : PySem.W.Frag) (C : Addr) : Sp := fun vs H Q _ => ∃ (pl : Bool) (x p d : V) (D : Addr) (n : Nat) (ss : List Stl) (b : Bool) (o : Option Int), vs = [.bl pl, x, p, d] ∧ IsWeb K C H x n ss ∧ JRw K D H n p b ∧ JDl K D H ss d o ∧ (b = true → o = none → GD K H n ss p d) ∧
  ∀ H' v, Same H H' → IsW H' v (dueW b o).1 (dueW b o).2 → Q v H'
theorem ok_l_answer (T : Txt K mg f_is_integer f_is_row f_is_fraction f_is_amount f_is_some f_are_amounts f_added f_negated f_lessened f_multiplied f_divided f_squared f_summed f_lies_below f_is_stall f_hold_of f_stalls_of f_kept_of f_held f_is_index f_is_move f_check_purse f_check_wish f_stall_led f_stall_behind f_stalls_behind f_deal_fault f_check_deal f_web_behind f_left_with f_played f_owes f_is_deal f_stands_alike f_check_alike f_change_of f_l_deck f_l_pick f_l_fold f_l_divisor f_l_made f_l_amount f_l_stall f_l_deep f_l_odd f_l_row f_l_bad_row f_l_move f_l_bad_deal f_l_is_some f_l_is_row f_l_is_below f_l_is_move f_l_due f_l_answer f_l_word f_l_word_is_due f_law f_BadDeal_init f_Web_init f_Web_eq c_BadPurse c_BadWish c_BadDeal c_Web c_ZERO d_is_integer d_is_row d_is_fraction d_is_amount d_is_some d_are_amounts d_added d_negated d_lessened d_multiplied d_divided d_squared d_summed d_lies_below d_is_stall d_hold_of d_stalls_of d_kept_of d_held d_is_index d_is_move d_check_purse d_check_wish d_stall_led d_stall_behind d_stalls_behind d_deal_fault d_check_deal d_web_behind d_left_with d_played d_owes d_is_deal d_stands_alike d_check_alike d_change_of d_l_deck d_l_pick d_l_fold d_l_divisor d_l_made d_l_amount d_l_stall d_l_deep d_l_odd d_l_row d_l_bad_row d_l_move d_l_bad_deal d_l_is_some d_l_is_row d_l_is_below d_l_is_move d_l_due d_l_answer d_l_word d_l_word_is_due d_law d_BadDeal_init d_Web_init d_Web_eq) : FnOk P w K mg base CX0 9 f_l_answer d_l_answer ["_law_is_played", "_law_web", "_law_purse", "_law_deal"] (sp_lans K c_Web) := by
  have G_played : FnOk P w K mg base (L2.CX P w) 8 f_played d_played ["web", "purse", "deal"] (sp_playX K c_Web c_BadPurse c_BadDeal) := fn_or (fn_calm (ok_played T)) (ok_playedB T)
  have G_owes : FnOk P w K mg base (L2.CX P w) 7 f_owes d_owes ["web", "purse", "deal"] (sp_oweX K c_Web c_BadPurse c_BadDeal) := fn_or (fn_calm (ok_owes T)) (ok_owesB T)
  refine T.F_l_answer.ok sc_l_answer (fun vs H Q E h => ?_) (fun cdv A outer sh H vs Q E hr h => ?_)
  · obtain ⟨pl, x, p, d, D, n, ss, b, o, rfl, _⟩ := h
    rfl
  · obtain ⟨pl, x, p, d, D, n, ss, b, o, rfl, hw, hj, hd, good, q⟩ := h
    refine ⟨_, (pss_cons (ps_set (i := 4) sc_l_answer.nd rfl (by first | exact Or.inl rfl | exact Or.inr rfl) (pe_tup (pa_cons pe_str (pa_cons pe_int pa_nil))))
      (pss_cons (My.ps_try_mix (Wo := fun _ _ _ _ => False) rfl rfl sc_l_answer.nd takes0 (fun W pn xe tk _ =>
        (pss_one (ps_if (pt_val (pv 0))
            (pss_one (ps_expr (pe_callS G_played (hr.mono (by decide)) (by rfl) T.g_played T.k_played T.b_played (fun σ => passAt tk σ) (pa_cons (pv 1) (pa_cons (pv 2) (pa_cons (pv 3) pa_nil))))))
            (pss_one (ps_expr (pe_callS G_owes (hr.mono (by decide)) (by rfl) T.g_owes T.k_owes T.b_owes (fun σ => passAt tk σ) (pa_cons (pv 1) (pa_cons (pv 2) (pa_cons (pv 3) pa_nil)))))))))
        (My.HdsX.bare ⟨rfl, by decide, .inl T.c_BadPurse.g⟩ (fun a oe cls d pn hz hf =>
        (pss_one (ps_set (i := 4) sc_l_answer.nd rfl (by first | exact Or.inl rfl | exact Or.inr rfl) (pe_tup (pa_cons pe_str (pa_cons pe_int pa_nil))))))
        (My.HdsX.as_ (j := 5) ⟨rfl, by decide, .inl T.c_BadDeal.g⟩ rfl rfl (fun a oe cls d pn hz hf =>
        (pss_one (ps_set (i := 4) sc_l_answer.nd rfl (by first | exact Or.inl rfl | exact Or.inr rfl) (pe_tup (pa_cons pe_str (pa_cons (pe_xf T.c_BadDeal.xf T.c_BadDeal.no hz hf (pv 5)) pa_nil))))))
        My.HdsX.nil)))
      (pss_one (ps_ret (pv 4))))), ?_⟩
    walk_at "r"
    intro p0 np0
    have s0 := same_upd (o := .tup [V.str "told", .int 0]) np0
    have h0 : upd H p0 (.tup [V.str "told", .int 0]) p0 = some (.tup [V.str "told", .int 0]) := upd_same
    have hw := hw.same s0
    have hj := hj.same s0
    have hd := hd.same s0
    have good : b = true → o = none → GD K _ n ss p d := fun c1 c2 => (good c1 c2).same s0
    generalize upd H p0 (.tup [V.str "told", .int 0]) = H0 at *
    walk_at "r"
    cases pl with
    | true =>
      walk_at "r"
      by_cases c : b = true ∧ o = none
      · obtain ⟨rfl, rfl⟩ := c
        obtain ⟨rs, ms, M, N, tt, h1, h2, h3, h3', h4, h5, h6, h7, h8, h9, ok, bM, bN, hMN, hM⟩ := good rfl rfl
        refine .inl ⟨x, p, d, n, ss, tt, rs, ms, M, N, rfl, hw, h1, h2, fun r hr => ⟨(h4 r hr).1, (h4 r hr).2.mono (by decide)⟩, h5, h6, h9, ok, bM, bN, by omega, fun H2 v2 s2 _ => ?_⟩
        walk_at "r"
        exact q _ _ (s0.trans s2) ⟨p0, rfl, s2 _ _ h0⟩
      · refine .inr ⟨x, p, d, D, n, ss, b, o, rfl, hw, hj, hd, c, fun cb H2 s2 => ?_, fun cb i ci H2 dd s2 nd => ?_⟩
        · refine ⟨true, T.c_BadPurse.te, fun _ a _ => ?_, fun z => Bool.noConfusion z⟩
          walk_at "r"
          intro p1 np1
          walk_at "r"
          refine q _ _ ((s0.trans s2).trans (same_upd np1)) ?_
          rw [cb]
          exact ⟨p1, rfl, upd_same⟩
        · refine ⟨false, exm_sub T.c_BadPurse.be T.c_BadPurse.ic T.c_BadPurse.ty T.x_BadDeal_BadPurse, fun z => Bool.noConfusion z, fun _ => ⟨true, T.c_BadDeal.te, fun _ a _ => ?_, fun z => Bool.noConfusion z⟩⟩
          walk_at "r"
          refine ⟨rfl, rfl, dd, _, .int i, rfl, upd_same, lk1, ?_⟩
          walk_at "r"
          intro p1 np1
          walk_at "r"
          refine q _ _ (((s0.trans s2).trans (same_upd nd)).trans (same_upd np1)) ?_
          rw [cb, ci]
          exact ⟨p1, rfl, upd_same⟩
    | false =>
      walk_at "r"
      by_cases c : b = true ∧ o = none
      · obtain ⟨rfl, rfl⟩ := c
        obtain ⟨rs, ms, M, N, tt, h1, h2, h3, h3', h4, h5, h6, h7, h8, h9, ok, bM, bN, hMN, hM⟩ := good rfl rfl
        refine .inl ⟨x, p, d, n, M, ss, rs, ms, rfl, hw, h1, h2, h3, h3', fun r hr => ⟨(h4 r hr).1, (h4 r hr).2.mono (by decide)⟩, h5, h6, h7, h8, bM, hM, fun H2 v2 o2 s2 _ _ => ?_⟩
        walk_at "r"
        exact q _ _ (s0.trans s2) ⟨p0, rfl, s2 _ _ h0⟩
      · refine .inr ⟨x, p, d, D, n, ss, b, o, rfl, hw, hj, hd, c, fun cb H2 s2 => ?_, fun cb i ci H2 dd s2 nd => ?_⟩
        · refine ⟨true, T.c_BadPurse.te, fun _ a _ => ?_, fun z => Bool.noConfusion z⟩
          walk_at "r"
          intro p1 np1
          walk_at "r"
          refine q _ _ ((s0.trans s2).trans (same_upd np1)) ?_
          rw [cb]
          exact ⟨p1, rfl, upd_same⟩
        · refine ⟨false, exm_sub T.c_BadPurse.be T.c_BadPurse.ic T.c_BadPurse.ty T.x_BadDeal_BadPurse, fun z => Bool.noConfusion z, fun _ => ⟨true, T.c_BadDeal.te, fun _ a _ => ?_, fun z => Bool.noConfusion z⟩⟩
          walk_at "r"
          refine ⟨rfl, rfl, dd, _, .int i, rfl, upd_same, lk1, ?_⟩
          walk_at "r"
          intro p1 np1
          walk_at "r"
          refine q _ _ (((s0.trans s2).trans (same_upd nd)).trans (same_upd np1)) ?_
          rw [cb, ci]
          exact ⟨p1, rfl, upd_same⟩
/-- what is_deal says of any things -/
def WordOk (b1 b2 : Bool) (no : Prop) (v : V) : Prop := (b1 = false → v = .str "purse") ∧ (b1 = true → b2 = false → v = .str "wish") ∧ (b1 = true → b2 = true → ∃ c : Bool, v = .bl c ∧ (no → c = false))
def GWish (K : PySem.W.Frag) (H : Hp) (n : Nat) (u : V) : Prop := ∃ ws, IsRow K H u ws ∧ ws.length = n ∧ ∀ r ∈ ws, 0 ≤ r ∧ Bd 4000 r
def sp_lword14 (K : PySem.W.Frag) (C : Addr) : Sp := fun vs H Q _ => ∃ (x p u d : V) (D : Addr) (n : Nat) (ss : List Stl) (b1 b2 : Bool) (o : Option Int), vs = [x, p, u, d] ∧ IsWeb K C H x n ss ∧ JRw K D H n p b1 ∧ JRw K D H n u b2 ∧ JDl K D H ss d o ∧
  (b1 = true → o = none → GD K H n ss p d) ∧ (b2 = true → GWish K H n u) ∧ ∀ H' v, Same H H' → WordOk b1 b2 (o ≠ none ∨ ¬ isL H d) v → Q v H'
def sp_isdX (K : PySem.W.Frag) (C CP CW : Addr) : Sp := fun vs H Q E => sp_is_deal K C vs H Q E ∨ sp_is_dealB K C CP CW vs H Q E
theorem ok_l_word (T : Txt K mg f_is_integer f_is_row f_is_fraction f_is_amount f_is_some f_are_amounts f_added f_negated f_lessened f_multiplied f_divided f_squared f_summed f_lies_below f_is_stall f_hold_of f_stalls_of f_kept_of f_held f_is_index f_is_move f_check_purse f_check_wish f_stall_led f_stall_behind f_stalls_behind f_deal_fault f_check_deal f_web_behind f_left_with f_played f_owes f_is_deal f_stands_alike f_check_alike f_change_of f_l_deck f_l_pick f_l_fold f_l_divisor f_l_made f_l_amount f_l_stall f_l_deep f_l_odd f_l_row f_l_bad_row f_l_move f_l_bad_deal f_l_is_some f_l_is_row f_l_is_below f_l_is_move f_l_due f_l_answer f_l_word f_l_word_is_due f_law f_BadDeal_init f_Web_init f_Web_eq c_BadPurse c_BadWish c_BadDeal c_Web c_ZERO d_is_integer d_is_row d_is_fraction d_is_amount d_is_some d_are_amounts d_added d_negated d_lessened d_multiplied d_divided d_squared d_summed d_lies_below d_is_stall d_hold_of d_stalls_of d_kept_of d_held d_is_index d_is_move d_check_purse d_check_wish d_stall_led d_stall_behind d_stalls_behind d_deal_fault d_check_deal d_web_behind d_left_with d_played d_owes d_is_deal d_stands_alike d_check_alike d_change_of d_l_deck d_l_pick d_l_fold d_l_divisor d_l_made d_l_amount d_l_stall d_l_deep d_l_odd d_l_row d_l_bad_row d_l_move d_l_bad_deal d_l_is_some d_l_is_row d_l_is_below d_l_is_move d_l_due d_l_answer d_l_word d_l_word_is_due d_law d_BadDeal_init d_Web_init d_Web_eq) : FnOk P w K mg base CX0 10 f_l_word d_l_word ["_law_web", "_law_purse", "_law_wish", "_law_deal"] (sp_lword14 K c_Web) := by
  have G_is_deal : FnOk P w K mg base (L2.CX P w) 9 f_is_deal d_is_deal ["web", "purse", "wish", "thing"] (sp_isdX K c_Web c_BadPurse c_BadWish) := fn_or (fn_calm (ok_is_deal T)) (ok_is_dealB T)
  refine T.F_l_word.ok sc_l_word (fun vs H Q E h => ?_) (fun cdv A outer sh H vs Q E hr h => ?_)
  · obtain ⟨x, p, u, d, D, n, ss, b1, b2, o, rfl, _⟩ := h
    rfl
  · obtain ⟨x, p, u, d, D, n, ss, b1, b2, o, rfl, hw, hj, hu, hd, good, gw, q⟩ := h
    refine ⟨_, (pss_cons (ps_set (i := 4) sc_l_word.nd rfl (by first | exact Or.inl rfl | exact Or.inr rfl) pe_str)
      (pss_cons (ps_try_many (Wout := fun _ _ _ _ => False) rfl rfl takes0 (fun W pn xe tk _ =>
        (pss_one (ps_set (i := 4) sc_l_word.nd rfl (by first | exact Or.inl rfl | exact Or.inr rfl) (pe_callS G_is_deal (hr.mono (by decide)) (by rfl) T.g_is_deal T.k_is_deal T.b_is_deal (fun σ => passAt tk σ) (pa_cons (pv 0) (pa_cons (pv 1) (pa_cons (pv 2) (pa_cons (pv 3) pa_nil))))))))
        (HdsOk.cons ⟨rfl, by decide, .inl T.c_BadPurse.g⟩ (fun a oe cls d pn hz hf =>
        (pss_one (ps_set (i := 4) sc_l_word.nd rfl (by first | exact Or.inl rfl | exact Or.inr rfl) pe_str)))
        (HdsOk.cons ⟨rfl, by decide, .inl T.c_BadWish.g⟩ (fun a oe cls d pn hz hf =>
        (pss_one (ps_set (i := 4) sc_l_word.nd rfl (by first | exact Or.inl rfl | exact Or.inr rfl) pe_str)))
        HdsOk.nil)))
      (pss_one (ps_ret (pv 4))))), ?_⟩
    walk_at "r"
    by_cases c : b1 = true ∧ b2 = true ∧ o = none ∧ isL H d
    · obtain ⟨rfl, rfl, rfl, L, ys, rfl, hL⟩ := c
      obtain ⟨rs, ms, M, N, tt, h1, h2, h3, h3', h4, h5, h6, h7, h8, h9, ok, bM, bN, hMN, hM⟩ := good rfl rfl
      obtain ⟨ws, w1, w2, w3⟩ := gw rfl
      obtain ⟨L', ys', e, hL', hms⟩ := h5
      cases e
      have hLl : H L = some (.lst ys') := by
        rcases hL' with z | z
        · exact z
        · rw [hL] at z
          cases z
      refine .inl ⟨x, p, u, L, n, ss, rs, ws, ys', ms, rfl, hw, h1, h2, w1, w2, ok, fun r hr => (h4 r hr).1, w3, .inl ⟨tt, 40, M, N, hLl, hms, h6, h9, bM, bN, fun r hr => (h4 r hr).2, hMN, fun H2 s2 => ?_⟩⟩
      walk_at "r"
      exact q _ _ s2 ⟨fun z => Bool.noConfusion z, fun _ z => Bool.noConfusion z, fun _ _ => ⟨_, rfl, fun z => z.elim (fun z => absurd rfl z) (fun z => absurd ⟨L, ys, rfl, hL⟩ z)⟩⟩
    · refine .inr ⟨x, p, u, d, D, n, ss, b1, b2, o, rfl, hw, hj, hu, hd, fun c1 c2 c3 r xs e z => c ⟨c1, c2, c3, r, xs, e, z⟩, fun c1 H2 s2 => ?_, fun c1 c2 H2 s2 => ?_, fun c1 c2 H2 s2 => ?_⟩
      · refine ⟨true, T.c_BadPurse.te, fun _ a _ => ?_, fun z => Bool.noConfusion z⟩
        walk_at "r"
        exact q _ _ s2 ⟨fun _ => rfl, fun z => (by rw [c1] at z; cases z), fun z => (by rw [c1] at z; cases z)⟩
      · refine ⟨false, exm_sub T.c_BadPurse.be T.c_BadPurse.ic T.c_BadPurse.ty T.x_BadWish_BadPurse, fun z => Bool.noConfusion z, fun _ => ⟨true, T.c_BadWish.te, fun _ a _ => ?_, fun z => Bool.noConfusion z⟩⟩
        walk_at "r"
        exact q _ _ s2 ⟨fun z => (by rw [c1] at z; cases z), fun _ _ => rfl, fun _ z => (by rw [c2] at z; cases z)⟩
      · walk_at "r"
        exact q _ _ s2 ⟨fun z => (by rw [c1] at z; cases z), fun _ z => (by rw [c2] at z; cases z), fun _ _ => ⟨false, rfl, fun _ => rfl⟩⟩
end
end My
namespace My
open PySem PySem.Spec PyProof.Rows L2
theorem cut_take (xs : List V) (i : Nat) : cutV xs none (some (i : Int)) = xs.take i := by
  unfold cutV
  rw [HT.sIx_none, HT.sIx_nat]
  by_cases h : i ≤ xs.length
  · simp [Nat.min_eq_left h]
  · rw [Nat.min_eq_right (by omega), List.take_of_length_le (show xs.length ≤ i by omega)]
    simp
theorem cut_drop (xs : List V) (i : Nat) : cutV xs (some (i : Int)) none = xs.drop i := by
  unfold cutV
  rw [HT.sIx_none, HT.sIx_nat]
  by_cases h : i ≤ xs.length
  · rw [Nat.min_eq_left h]
    exact List.take_of_length_le (by simp)
  · rw [Nat.min_eq_right (by omega), List.drop_eq_nil_of_le (show xs.length ≤ i by omega)]
    simp
end My
namespace My
open PySem PySem.Spec PyProof.Rows L2
variable {K : PySem.W.Frag}
end My
namespace My
open PySem PySem.Spec PyProof.Rows L2
variable {K : PySem.W.Frag}
/-- a thing that may stand for an integer, for a fraction and for a move -/
def Oj (K : PySem.W.Frag) (D : Addr) (H : Hp) (v : V) : Prop := ∃ oi r t, JI K D H v oi ∧ JF K D H v r ∧ JM K D H v t
theorem Oj.fw {M c : Nat} {D C : Addr} {H H' : Hp} {v : V} (j : Oj K D H v) (dk : Deck M D C H c) (f : Fw D H H') : Oj K D H' v := by
  obtain ⟨oi, r, t, h1, h2, h3⟩ := j
  exact ⟨oi, r, t, h1.fw f, h2.fw dk f, h3.fw dk f⟩
theorem oj_int {D : Addr} {H : Hp} (i : Int) : Oj K D H (.int i) := ⟨some i, none, none, .inl ⟨i, rfl, rfl⟩, .inr ⟨.int i, rfl⟩, .inr ⟨.inl ⟨i, rfl⟩, rfl⟩⟩
theorem oj_od {D : Addr} {H : Hp} {v : V} (o : Od K D H v) (h : ∀ p xs, v = .ref p → H p = some (.tup xs) → xs.length ≠ 2 ∧ xs.length ≠ 3) : Oj K D H v :=
  ⟨none, none, none, .inr ⟨o, rfl⟩, .inr ⟨.not o fun p xs e z => (h p xs e z).1, rfl⟩, .inr ⟨.inr ⟨o, fun p xs e z => (h p xs e z).2⟩, rfl⟩⟩
theorem oj_pair {D p : Addr} {H : Hp} {i j : Int} (n : p ≠ D) (h : H p = some (.tup [.int i, .int j])) (hi : i.natAbs < 2 ^ 40) (hj : j.natAbs < 2 ^ 40) : Oj K D H (.ref p) :=
  ⟨none, _, none, .inr ⟨.tup n h, rfl⟩, jf_pair n h hi hj, .inr ⟨.inr ⟨.tup n h, fun q xs e z => by
    cases e
    rw [h] at z
    cases z
    exact (by decide : (2 : Nat) ≠ 3)⟩, rfl⟩⟩
theorem oj_pairB {D p : Addr} {H : Hp} {i : Int} {v : V} (n : p ≠ D) (h : H p = some (.tup [.int i, v])) (o : Od K D H v) : Oj K D H (.ref p) :=
  ⟨none, none, none, .inr ⟨.tup n h, rfl⟩, .inr ⟨.snd n h o, rfl⟩, .inr ⟨.inr ⟨.tup n h, fun q xs e z => by
    cases e
    rw [h] at z
    cases z
    exact (by decide : (2 : Nat) ≠ 3)⟩, rfl⟩⟩
theorem oj_three {D p : Addr} {H : Hp} {x y z : V} {a b : Option Int} {r : Option Rat} (n : p ≠ D) (h : H p = some (.tup [x, y, z])) (h1 : JI K D H x a) (h2 : JI K D H y b) (h3 : JF K D H z r) : Oj K D H (.ref p) :=
  ⟨none, none, some (a, b, r), .inr ⟨.tup n h, rfl⟩, .inr ⟨.not (.tup n h) fun q xs e z => by
    cases e
    rw [h] at z
    cases z
    exact (by decide : (3 : Nat) ≠ 2), rfl⟩, .inl ⟨p, x, y, z, a, b, r, rfl, n, h, h1, h2, h3, rfl⟩⟩
theorem oj_tup {D p : Addr} {H : Hp} {xs : List V} (n : p ≠ D) (h : H p = some (.tup xs)) (l : xs.length ≠ 2 ∧ xs.length ≠ 3) : Oj K D H (.ref p) := oj_od (.tup n h) fun q ys e z => by
  cases e
  rw [h] at z
  cases z
  exact l
theorem oj_lst {D p : Addr} {H : Hp} {xs : List V} (n : p ≠ D) (h : H p = some (.lst xs)) : Oj K D H (.ref p) := oj_od (.lst n h) fun q ys e z => by
  cases e
  rw [h] at z
  cases z
theorem oj_dK {D p : Addr} {H : Hp} {xs : List (Key × V)} (n : p ≠ D) (h : H p = some (.dK xs)) : Oj K D H (.ref p) := oj_od (.dK n h) fun q ys e z => by
  cases e
  rw [h] at z
  cases z
theorem oj_ins {D p C dx : Addr} {H : Hp} {fs : List (Str × V)} (n : p ≠ D) (h : H p = some (.ins C dx fs)) (c : InsT K C) : Oj K D H (.ref p) := oj_od (.ins n h c) fun q ys e z => by
  cases e
  rw [h] at z
  cases z
theorem oj_non {D : Addr} {H : Hp} : Oj K D H .non := oj_od .non fun q ys e z => by cases e
theorem oj_bl {D : Addr} {H : Hp} {b : Bool} : Oj K D H (.bl b) := oj_od (.bl b) fun q ys e z => by cases e
theorem oj_str {D : Addr} {H : Hp} {s : Str} : Oj K D H (.str s) := oj_od (.str s) fun q ys e z => by cases e
/-- things all of which are so -/
def Ojs (K : PySem.W.Frag) (D : Addr) (H : Hp) (us : List V) : Prop := ∀ v ∈ us, Oj K D H v
theorem Ojs.nil {D : Addr} {H : Hp} : Ojs K D H [] := fun v h => by cases h
theorem Ojs.app {D : Addr} {H : Hp} {us vs : List V} (h : Ojs K D H us) (g : Ojs K D H vs) : Ojs K D H (us ++ vs) := fun v m => (List.mem_append.mp m).elim (h v) (g v)
theorem Ojs.snoc {D : Addr} {H : Hp} {us : List V} {v : V} (h : Ojs K D H us) (g : Oj K D H v) : Ojs K D H (us ++ [v]) := h.app fun u m => by
  rw [List.mem_singleton.mp m]
  exact g
theorem Ojs.fw {M c : Nat} {D C : Addr} {H H' : Hp} {us : List V} (j : Ojs K D H us) (dk : Deck M D C H c) (f : Fw D H H') : Ojs K D H' us := fun v m => (j v m).fw dk f
theorem web_ne {M c n : Nat} {D Cd C p : Addr} {H : Hp} {ss : List Stl} (dk : Deck M D Cd H c) (h : IsWeb K C H (.ref p) n ss) : p ≠ D := by
  obtain ⟨_, dx, t, xs, e, hp, _⟩ := h
  cases e
  obtain ⟨cells, pl, rest, cnt, h0, h1, h2⟩ := dk
  exact ne_of hp h1 (by intro z; cases z)
theorem tup_ne {M c : Nat} {D Cd p : Addr} {H : Hp} {xs : List V} (dk : Deck M D Cd H c) (h : H p = some (.tup xs)) : p ≠ D := by
  obtain ⟨cells, pl, rest, cnt, h0, h1, h2⟩ := dk
  exact ne_of h h1 (by intro z; cases z)
theorem at_in {us : List V} {i : Int} {m : Nat} (hm : us.length = m) (h0 : 0 ≤ i) (h1 : i < (m : Nat)) : ∃ z, z ∈ us ∧ atI us i = some z := by
  obtain ⟨v, h1, h2⟩ := at_any (xs := us) h0 (by rw [hm]; exact h1)
  exact ⟨v, h1, h2⟩
end My
namespace My
open PySem PySem.Spec PyProof.Rows L2
variable {K : PySem.W.Frag}
/-- a fraction that stands in the heap itself -/
def IsH (H : Hp) (v : V) (r : Rat) : Prop := ∃ p, v = .ref p ∧ H p = some (.tup (frV r))
theorem IsH.isF {H : Hp} {v : V} {r : Rat} (h : IsH H v r) : IsF K H v r := by
  obtain ⟨p, e, h⟩ := h
  exact ⟨p, e, .inl h⟩
theorem isH_new {H : Hp} {p : Addr} {a b : Int} {r : Rat} (h1 : r.num = a) (h2 : (r.den : Int) = b) : IsH (upd H p (.tup [.int a, .int b])) (.ref p) r := by
  subst h1 h2
  exact ⟨p, rfl, upd_same⟩
theorem IsH.same {H H' : Hp} {v : V} {r : Rat} (h : IsH H v r) (s : Same H H') : IsH H' v r := by
  obtain ⟨p, e, h⟩ := h
  exact ⟨p, e, s _ _ h⟩
theorem IsH.fw {M c : Nat} {D C : Addr} {H H' : Hp} {v : V} {r : Rat} (h : IsH H v r) (dk : Deck M D C H c) (f : Fw D H H') : IsH H' v r := by
  obtain ⟨p, e, h⟩ := h
  exact ⟨p, e, f _ _ (tup_ne dk h) h⟩
theorem IsH.oj {M c : Nat} {D C : Addr} {H : Hp} {v : V} {r : Rat} (h : IsH H v r) (dk : Deck M D C H c) (b : Bd 20 r) : JI K D H v none ∧ JF K D H v (some r) ∧ Oj K D H v := by
  obtain ⟨p, rfl, h⟩ := h
  have n := tup_ne dk h
  have f : JF K D H (.ref p) (some r) := .inl ⟨r, ⟨p, rfl, .inl h⟩, b.mono (by decide), rfl⟩
  refine ⟨.inr ⟨.tup n h, rfl⟩, f, none, _, none, .inr ⟨.tup n h, rfl⟩, f, .inr ⟨.inr ⟨.tup n h, fun q xs e z => ?_⟩, rfl⟩⟩
  cases e
  rw [h] at z
  cases z
  exact (by decide : (2 : Nat) ≠ 3)
/-- things to be judged as moves -/
def Jms (K : PySem.W.Frag) (D : Addr) (H : Hp) (us : List V) : Prop := ∀ v ∈ us, ∃ t, JM K D H v t
theorem Jms.fw {M c : Nat} {D C : Addr} {H H' : Hp} {us : List V} (j : Jms K D H us) (dk : Deck M D C H c) (f : Fw D H H') : Jms K D H' us := fun v m => by
  obtain ⟨t, h⟩ := j v m
  exact ⟨t, h.fw dk f⟩
theorem Jms.snoc {D : Addr} {H : Hp} {us : List V} {v : V} (h : Jms K D H us) (g : ∃ t, JM K D H v t) : Jms K D H (us ++ [v]) := fun u m => (List.mem_append.mp m).elim (h u) fun m => by
  rw [List.mem_singleton.mp m]
  exact g
theorem Jms.app {D : Addr} {H : Hp} {us vs : List V} (h : Jms K D H us) (g : Jms K D H vs) : Jms K D H (us ++ vs) := fun u m => (List.mem_append.mp m).elim (h u) (g u)
theorem Jms.rep {D : Addr} {H : Hp} {us : List V} (h : Jms K D H us) (k : Nat) : Jms K D H (List.replicate k us).flatten := fun u m => by
  obtain ⟨l, hl, hu⟩ := List.mem_flatten.mp m
  rw [(List.mem_replicate.mp hl).2] at hu
  exact h u hu
theorem jm_lst {D p : Addr} {H : Hp} {xs : List V} (n : p ≠ D) (h : H p = some (.lst xs)) : ∃ t, JM K D H (.ref p) t := by
  obtain ⟨_, _, t, _, _, h⟩ := oj_lst (K := K) n h
  exact ⟨t, h⟩
theorem jm_tup {D p : Addr} {H : Hp} {xs : List V} (n : p ≠ D) (h : H p = some (.tup xs)) (l : xs.length ≠ 3) : ∃ t, JM K D H (.ref p) t := ⟨none, .inr ⟨.inr ⟨.tup n h, fun q ys e z => by
  cases e
  rw [h] at z
  cases z
  exact l⟩, rfl⟩⟩
theorem jm_three {D p : Addr} {H : Hp} {x y z : V} {a b : Option Int} {r : Option Rat} (n : p ≠ D) (h : H p = some (.tup [x, y, z])) (h1 : JI K D H x a) (h2 : JI K D H y b) (h3 : JF K D H z r) : ∃ t, JM K D H (.ref p) t := ⟨some (a, b, r), .inl ⟨p, x, y, z, a, b, r, rfl, n, h, h1, h2, h3, rfl⟩⟩
/-- a thing set at a place of a move -/
theorem set_three {x y z o : V} {i : Nat} (h : i < 3) : List.take i [x, y, z] ++ [o] ++ List.drop (i + 1) [x, y, z] = [if i = 0 then o else x, if i = 1 then o else y, if i = 2 then o else z] := by
  match i, h with
  | 0, _ => rfl
  | 1, _ => rfl
  | 2, _ => rfl
theorem rd_slA {H : Hp} {a : Addr} {xs : List V} {lo hi : Option Int} {Q : VK} (ha : H a = some (.tup xs)) (q : ∀ p H', Same H H' → H' p = some (.tup (cutV xs lo hi)) → Q (.ref p) H') : rSlA K (.ref a) lo hi H Q :=
  ⟨a, xs, rfl, .of ha, fun w => q a H (Same.refl _) (by
    have e : cutV xs lo hi = xs := by
      unfold cutV
      rw [w.1, w.2]
      simp
    rw [e]
    exact ha), fun _ p np => q p _ (same_upd np) upd_same⟩
section
variable {P : Program} {w : World} {K : PySem.W.Frag} {mg : Str → Option Value} {base : Heap} {f_is_integer f_is_row f_is_fraction f_is_amount f_is_some f_are_amounts f_added f_negated f_lessened f_multiplied f_divided f_squared f_summed f_lies_below f_is_stall f_hold_of f_stalls_of f_kept_of f_held f_is_index f_is_move f_check_purse f_check_wish f_stall_led f_stall_behind f_stalls_behind f_deal_fault f_check_deal f_web_behind f_left_with f_played f_owes f_is_deal f_stands_alike f_check_alike f_change_of f_l_deck f_l_pick f_l_fold f_l_divisor f_l_made f_l_amount f_l_stall f_l_deep f_l_odd f_l_row f_l_bad_row f_l_move f_l_bad_deal f_l_is_some f_l_is_row f_l_is_below f_l_is_move f_l_due f_l_answer f_l_word f_l_word_is_due f_law f_BadDeal_init f_Web_init f_Web_eq c_BadPurse c_BadWish c_BadDeal c_Web c_ZERO : Addr} {d_is_integer d_is_row d_is_fraction d_is_amount d_is_some d_are_amounts d_added d_negated d_lessened d_multiplied d_divided d_squared d_summed d_lies_below d_is_stall d_hold_of d_stalls_of d_kept_of d_held d_is_index d_is_move d_check_purse d_check_wish d_stall_led d_stall_behind d_stalls_behind d_deal_fault d_check_deal d_web_behind d_left_with d_played d_owes d_is_deal d_stands_alike d_check_alike d_change_of d_l_deck d_l_pick d_l_fold d_l_divisor d_l_made d_l_amount d_l_stall d_l_deep d_l_odd d_l_row d_l_bad_row d_l_move d_l_bad_deal d_l_is_some d_l_is_row d_l_is_below d_l_is_move d_l_due d_l_answer d_l_word d_l_word_is_due d_law d_BadDeal_init d_Web_init d_Web_eq : FuncData}
def sp_madeH : Sp := fun vs H Q _ => ∃ n d : Int, vs = [.int n, .int d] ∧ 0 < d ∧ d.natAbs < 2 ^ 8000 ∧ ∀ H' v, Same H H' → IsH H' v (Rat.divInt n d) → Q v H'
theorem ok_l_madeH (T : Txt K mg f_is_integer f_is_row f_is_fraction f_is_amount f_is_some f_are_amounts f_added f_negated f_lessened f_multiplied f_divided f_squared f_summed f_lies_below f_is_stall f_hold_of f_stalls_of f_kept_of f_held f_is_index f_is_move f_check_purse f_check_wish f_stall_led f_stall_behind f_stalls_behind f_deal_fault f_check_deal f_web_behind f_left_with f_played f_owes f_is_deal f_stands_alike f_check_alike f_change_of f_l_deck f_l_pick f_l_fold f_l_divisor f_l_made f_l_amount f_l_stall f_l_deep f_l_odd f_l_row f_l_bad_row f_l_move f_l_bad_deal f_l_is_some f_l_is_row f_l_is_below f_l_is_move f_l_due f_l_answer f_l_word f_l_word_is_due f_law f_BadDeal_init f_Web_init f_Web_eq c_BadPurse c_BadWish c_BadDeal c_Web c_ZERO d_is_integer d_is_row d_is_fraction d_is_amount d_is_some d_are_amounts d_added d_negated d_lessened d_multiplied d_divided d_squared d_summed d_lies_below d_is_stall d_hold_of d_stalls_of d_kept_of d_held d_is_index d_is_move d_check_purse d_check_wish d_stall_led d_stall_behind d_stalls_behind d_deal_fault d_check_deal d_web_behind d_left_with d_played d_owes d_is_deal d_stands_alike d_check_alike d_change_of d_l_deck d_l_pick d_l_fold d_l_divisor d_l_made d_l_amount d_l_stall d_l_deep d_l_odd d_l_row d_l_bad_row d_l_move d_l_bad_deal d_l_is_some d_l_is_row d_l_is_below d_l_is_move d_l_due d_l_answer d_l_word d_l_word_is_due d_law d_BadDeal_init d_Web_init d_Web_eq) : FnOk P w K mg base CX0 2 f_l_made d_l_made ["_law_top", "_law_bottom"] sp_madeH := by
  have G_l_divisor : FnOk P w K mg base CX0 1 f_l_divisor d_l_divisor ["_law_one", "_law_other"] sp_divisor := ok_l_divisor T
  refine T.F_l_made.ok sc_l_made (fun vs H Q E h => ?_) (fun cdv A outer s H vs Q E hr h => ?_)
  · obtain ⟨n, d, rfl, _⟩ := h
    rfl
  · obtain ⟨n, d, rfl, hd, hb, q⟩ := h
    refine ⟨_, (pss_cons (ps_set (i := 2) sc_l_made.nd rfl (by first | exact Or.inl rfl | exact Or.inr rfl) (pe_call G_l_divisor (hr.mono (by decide)) (by rfl) T.g_l_divisor T.k_l_divisor T.b_l_divisor .nil pass0 (pa_cons (pv 0) (pa_cons (pv 1) pa_nil))))
      (pss_one (ps_ret (pe_tup (pa_cons (pe_op op_fdivX (pv 0) (pv 2)) (pa_cons (pe_op op_fdivX (pv 1) (pv 2)) pa_nil)))))), ?_⟩
    walk_at "r"
    refine ⟨_, _, rfl, Nat.lt_of_lt_of_le hb (pow_le (by decide)), ?_⟩
    obtain ⟨m1, m2, m3⟩ := low_math (n := n) hd hb _ rfl
    walk_at "r"
    · intro p np
      exact q _ _ (same_upd np) (isH_new m2 m3)
    all_goals exact m1 _
end
end My
namespace My
open PySem PySem.Spec PyProof.Rows L2
variable {K : PySem.W.Frag}
theorem rd_slLs {H : Hp} {Q : VK} {a : Addr} {xs : List V} {lo hi : Option Int} (h : H a = some (.lst xs)) (q : ∀ p H', H p = none → Same H H' → H' p = some (.lst (cutV xs lo hi)) → Q (.ref p) H') : rSlL K (.ref a) lo hi H Q := rd_slL (.of h) fun p np => q p _ np (same_upd np) upd_same
theorem rd_catn {H : Hp} {Q : VK} {a b : Addr} {xs ys : List V} (h1 : H a = some (.lst xs)) (h2 : H b = some (.lst ys)) (hl : xs.length + ys.length ≤ 1000) (q : ∀ p H', H p = none → Same H H' → H' p = some (.lst (xs ++ ys)) → Q (.ref p) H') : rCat (.ref a) (.ref b) H Q :=
  ⟨a, b, xs, ys, rfl, rfl, h1, h2, Nat.le_of_lt (small1000 hl), fun p np => q p _ np (same_upd np) upd_same⟩
theorem prd_take {α β : Type} {R : α → β → Prop} {xs : List α} {ys : List β} (h : Paired R xs ys) : ∀ i : Nat, Paired R (xs.take i) (ys.take i) := by
  induction h with
  | nil =>
    intro i
    rw [List.take_nil, List.take_nil]
    exact .nil
  | cons h t ih =>
    intro i
    cases i with
    | zero => exact .nil
    | succ i => exact .cons h (ih i)
theorem prd_drop {α β : Type} {R : α → β → Prop} {xs : List α} {ys : List β} (h : Paired R xs ys) : ∀ i : Nat, Paired R (xs.drop i) (ys.drop i) := by
  induction h with
  | nil =>
    intro i
    rw [List.drop_nil, List.drop_nil]
    exact .nil
  | cons h t ih =>
    intro i
    cases i with
    | zero => exact .cons h t
    | succ i => exact ih i
theorem prd_app {α β : Type} {R : α → β → Prop} {xs us : List α} {ys vs : List β} (h : Paired R xs ys) (g : Paired R us vs) : Paired R (xs ++ us) (ys ++ vs) := by
  induction h with
  | nil => exact g
  | cons h t ih => exact .cons h ih
theorem prd_imp {α β : Type} {R R' : α → β → Prop} (f : ∀ a b, R a b → R' a b) {l : List α} {m : List β} (h : Paired R l m) : Paired R' l m := by
  induction h with
  | nil => exact .nil
  | cons h t ih => exact .cons (f _ _ h) ih
theorem cut_drop1 (xs : List V) (i : Nat) : cutV xs (some ((i : Int) + 1)) none = xs.drop (i + 1) := cut_drop xs (i + 1)
/-- a list or a tuple of one thing -/
def B1 (D : Addr) (H : Hp) (v : V) : Prop := ∃ p x, v = .ref p ∧ p ≠ D ∧ SqAt H p [x]
def B2 (D : Addr) (H : Hp) (v : V) : Prop := ∃ p x, v = .ref p ∧ p ≠ D ∧ SqAt H p [x] ∧ B1 D H x
theorem B1.fw {D : Addr} {H H' : Hp} {v : V} (b : B1 D H v) (f : Fw D H H') : B1 D H' v := by
  obtain ⟨p, x, e, n, h⟩ := b
  exact ⟨p, x, e, n, h.fw n f⟩
theorem B2.fw {D : Addr} {H H' : Hp} {v : V} (b : B2 D H v) (f : Fw D H H') : B2 D H' v := by
  obtain ⟨p, x, e, n, h, g⟩ := b
  exact ⟨p, x, e, n, h.fw n f, g.fw f⟩
theorem B1.oj {D : Addr} {H : Hp} {v : V} (b : B1 D H v) : Oj K D H v := by
  obtain ⟨p, x, rfl, n, h | h⟩ := b
  · exact oj_lst n h
  · exact oj_tup n h ⟨(by decide : (1 : Nat) ≠ 2), (by decide : (1 : Nat) ≠ 3)⟩
/-- a deal of so many things at most -/
def JDs (K : PySem.W.Frag) (D : Addr) (H : Hp) (ss : List Stl) (l : Nat) (v : V) (o : Option Int) : Prop :=
  (∃ p xs ts, v = .ref p ∧ p ≠ D ∧ SqAt H p xs ∧ Paired (JM K D H) xs ts ∧ xs.length ≤ l ∧ o = flt ss ts) ∨ (NoSq K D H v ∧ o = some (-1))
theorem JDs.fw {M c l : Nat} {D C : Addr} {H H' : Hp} {ss : List Stl} {v : V} {o : Option Int} (j : JDs K D H ss l v o) (dk : Deck M D C H c) (f : Fw D H H') : JDs K D H' ss l v o := by
  rcases j with ⟨p, xs, os, e, np, h, hj, l, e2⟩ | ⟨o, e⟩
  · exact .inl ⟨p, xs, os, e, np, h.fw np f, prd_mp (fun _ _ h => h.fw dk f) hj, l, e2⟩
  · exact .inr ⟨o.fw f, e⟩
theorem JDs.jdl {l : Nat} {D : Addr} {H : Hp} {ss : List Stl} {v : V} {o : Option Int} (j : JDs K D H ss l v o) (h : l ≤ 900) : JDl K D H ss v o := by
  rcases j with ⟨p, xs, os, e, np, h1, hj, l1, e2⟩ | ⟨o, e⟩
  · exact .inl ⟨p, xs, os, e, np, h1, hj, Nat.le_trans l1 h, e2⟩
  · exact .inr ⟨o, e⟩
/-- things that may stand in a row and in a deal -/
def Fjs (K : PySem.W.Frag) (D : Addr) (H : Hp) (xs : List V) : Prop := ∀ x ∈ xs, ∃ r, JF K D H x r
theorem paired_of {α : Type} {R : V → α → Prop} : ∀ {xs : List V}, (∀ x ∈ xs, ∃ a, R x a) → ∃ as, Paired R xs as
  | [], _ => ⟨[], .nil⟩
  | x :: xs, h => by
    obtain ⟨a, ha⟩ := h x (by simp)
    obtain ⟨as, has⟩ := paired_of (xs := xs) fun y hy => h y (by simp [hy])
    exact ⟨a :: as, .cons ha has⟩
def Rj (K : PySem.W.Frag) (D : Addr) (H : Hp) (n : Nat) (v : V) : Prop := ∃ b, JRw K D H n v b
def Dj (K : PySem.W.Frag) (D : Addr) (H : Hp) (ss : List Stl) (v : V) : Prop := ∃ o, JDs K D H ss 20 v o
theorem rj_seq {D p : Addr} {H : Hp} {n : Nat} {xs : List V} (np : p ≠ D) (h : SqAt H p xs) (f : Fjs K D H xs) (l : xs.length ≤ 20) : Rj K D H n (.ref p) := by
  obtain ⟨os, ho⟩ := paired_of f
  exact ⟨_, .inl ⟨p, xs, os, rfl, np, h, ho, l, rfl⟩⟩
theorem dj_seq {D p : Addr} {H : Hp} {ss : List Stl} {xs : List V} (np : p ≠ D) (h : SqAt H p xs) (f : Jms K D H xs) (l : xs.length ≤ 20) : Dj K D H ss (.ref p) := by
  obtain ⟨os, ho⟩ := paired_of f
  exact ⟨_, .inl ⟨p, xs, os, rfl, np, h, ho, l, rfl⟩⟩
theorem rj_no {D : Addr} {H : Hp} {n : Nat} {v : V} (h : NoSq K D H v) : Rj K D H n v := ⟨_, .inr ⟨h, rfl⟩⟩
theorem dj_no {D : Addr} {H : Hp} {ss : List Stl} {v : V} (h : NoSq K D H v) : Dj K D H ss v := ⟨_, .inr ⟨h, rfl⟩⟩
/-- an odd thing: in a move, a row, a deal -/
structure Ok14 (K : PySem.W.Frag) (D : Addr) (H : Hp) (n : Nat) (ss : List Stl) (v : V) : Prop where
  oj : Oj K D H v
  rj : Rj K D H n v
  dj : Dj K D H ss v
section
variable {M c n : Nat} {D C p : Addr} {H H' : Hp} {ss : List Stl} {v : V} {xs : List V}
theorem Rj.fw (j : Rj K D H n v) (dk : Deck M D C H c) (f : Fw D H H') : Rj K D H' n v := by
  obtain ⟨b, j⟩ := j
  exact ⟨b, j.fw dk f⟩
theorem Dj.fw (j : Dj K D H ss v) (dk : Deck M D C H c) (f : Fw D H H') : Dj K D H' ss v := by
  obtain ⟨b, j⟩ := j
  exact ⟨b, j.fw dk f⟩
theorem Fjs.fw (j : Fjs K D H xs) (dk : Deck M D C H c) (f : Fw D H H') : Fjs K D H' xs := fun x hx => by
  obtain ⟨r, h⟩ := j x hx
  exact ⟨r, h.fw dk f⟩
theorem Fjs.app {ys : List V} (h : Fjs K D H xs) (g : Fjs K D H ys) : Fjs K D H (xs ++ ys) := fun x m => (List.mem_append.mp m).elim (h x) (g x)
theorem Fjs.one (h : ∃ r, JF K D H v r) : Fjs K D H [v] := fun x m => by
  rw [List.mem_singleton.mp m]
  exact h
theorem Fjs.take (h : Fjs K D H xs) (i : Nat) : Fjs K D H (xs.take i) := fun x m => h x (List.mem_of_mem_take m)
theorem Fjs.drop (h : Fjs K D H xs) (i : Nat) : Fjs K D H (xs.drop i) := fun x m => h x (List.mem_of_mem_drop m)
theorem Jms.take (h : Jms K D H xs) (i : Nat) : Jms K D H (xs.take i) := fun x m => h x (List.mem_of_mem_take m)
theorem Jms.drop (h : Jms K D H xs) (i : Nat) : Jms K D H (xs.drop i) := fun x m => h x (List.mem_of_mem_drop m)
theorem Jms.one (h : ∃ t, JM K D H v t) : Jms K D H [v] := fun x m => by
  rw [List.mem_singleton.mp m]
  exact h
theorem Ok14.fw (j : Ok14 K D H n ss v) (dk : Deck M D C H c) (f : Fw D H H') : Ok14 K D H' n ss v := ⟨j.oj.fw dk f, j.rj.fw dk f, j.dj.fw dk f⟩
theorem oj_jf (h : Oj K D H v) : ∃ r, JF K D H v r := by
  obtain ⟨_, r, _, _, h, _⟩ := h
  exact ⟨r, h⟩
theorem oj_jm (h : Oj K D H v) : ∃ r, JM K D H v r := by
  obtain ⟨_, _, t, _, _, h⟩ := h
  exact ⟨t, h⟩
theorem ok_no (h : Oj K D H v) (g : NoSq K D H v) : Ok14 K D H n ss v := ⟨h, rj_no g, dj_no g⟩
theorem ok_seq (h : Oj K D H (.ref p)) (np : p ≠ D) (hs : SqAt H p xs) (f : ∀ x ∈ xs, Oj K D H x) (l : xs.length ≤ 20) : Ok14 K D H n ss (.ref p) :=
  ⟨h, rj_seq np hs (fun x hx => oj_jf (f x hx)) l, dj_seq np hs (fun x hx => oj_jm (f x hx)) l⟩
theorem B2.ok (b : B2 D H v) : Ok14 K D H n ss v := by
  obtain ⟨p, x, rfl, np, h, g⟩ := b
  exact ok_seq (B1.oj ⟨p, x, rfl, np, h⟩) np h (fun y hy => by rw [List.mem_singleton.mp hy]; exact g.oj) (show 1 ≤ 20 by decide)
theorem nosq_ins {q C' dx : Addr} {fs : List (Str × V)} (np : q ≠ D) (h : H q = some (.ins C' dx fs)) (c : InsT K C') : NoSq K D H (.ref q) := .inr ⟨.ins np h c, fun r ys e => by
  cases e
  rw [h]
  exact ⟨(fun z => by cases z), (fun z => by cases z)⟩⟩
theorem nosq_dK {q : Addr} {kvs : List (Key × V)} (np : q ≠ D) (h : H q = some (.dK kvs)) : NoSq K D H (.ref q) := .inr ⟨.dK np h, fun r ys e => by
  cases e
  rw [h]
  exact ⟨(fun z => by cases z), (fun z => by cases z)⟩⟩
theorem nosq_non : NoSq K D H .non := .inr ⟨.non, fun r ys e => by cases e⟩
theorem nosq_bl {b : Bool} : NoSq K D H (.bl b) := .inr ⟨.bl b, fun r ys e => by cases e⟩
theorem nosq_str {s : Str} : NoSq K D H (.str s) := .inr ⟨.str s, fun r ys e => by cases e⟩
theorem nosq_int {i : Int} : NoSq K D H (.int i) := .inl ⟨i, rfl⟩
def Oks (K : PySem.W.Frag) (D : Addr) (H : Hp) (n : Nat) (ss : List Stl) (us : List V) : Prop := ∀ v ∈ us, Ok14 K D H n ss v
theorem Oks.fw {us : List V} (j : Oks K D H n ss us) (dk : Deck M D C H c) (f : Fw D H H') : Oks K D H' n ss us := fun v m => (j v m).fw dk f
theorem Oks.snoc {us : List V} (h : Oks K D H n ss us) (g : Ok14 K D H n ss v) : Oks K D H n ss (us ++ [v]) := fun u m => (List.mem_append.mp m).elim (h u) fun m => by
  rw [List.mem_singleton.mp m]
  exact g
end
section
variable {P : Program} {w : World} {K : PySem.W.Frag} {mg : Str → Option Value} {base : Heap} {f_is_integer f_is_row f_is_fraction f_is_amount f_is_some f_are_amounts f_added f_negated f_lessened f_multiplied f_divided f_squared f_summed f_lies_below f_is_stall f_hold_of f_stalls_of f_kept_of f_held f_is_index f_is_move f_check_purse f_check_wish f_stall_led f_stall_behind f_stalls_behind f_deal_fault f_check_deal f_web_behind f_left_with f_played f_owes f_is_deal f_stands_alike f_check_alike f_change_of f_l_deck f_l_pick f_l_fold f_l_divisor f_l_made f_l_amount f_l_stall f_l_deep f_l_odd f_l_row f_l_bad_row f_l_move f_l_bad_deal f_l_is_some f_l_is_row f_l_is_below f_l_is_move f_l_due f_l_answer f_l_word f_l_word_is_due f_law f_BadDeal_init f_Web_init f_Web_eq c_BadPurse c_BadWish c_BadDeal c_Web c_ZERO : Addr} {d_is_integer d_is_row d_is_fraction d_is_amount d_is_some d_are_amounts d_added d_negated d_lessened d_multiplied d_divided d_squared d_summed d_lies_below d_is_stall d_hold_of d_stalls_of d_kept_of d_held d_is_index d_is_move d_check_purse d_check_wish d_stall_led d_stall_behind d_stalls_behind d_deal_fault d_check_deal d_web_behind d_left_with d_played d_owes d_is_deal d_stands_alike d_check_alike d_change_of d_l_deck d_l_pick d_l_fold d_l_divisor d_l_made d_l_amount d_l_stall d_l_deep d_l_odd d_l_row d_l_bad_row d_l_move d_l_bad_deal d_l_is_some d_l_is_row d_l_is_below d_l_is_move d_l_due d_l_answer d_l_word d_l_word_is_due d_law d_BadDeal_init d_Web_init d_Web_eq : FuncData}
def sp_lwd (K : PySem.W.Frag) (C : Addr) : Sp := fun vs H Q _ => ∃ (x p u d : V) (D : Addr) (n : Nat) (ss : List Stl) (b1 b2 : Bool) (o : Option Int), vs = [x, p, u, d] ∧ IsWeb K C H x n ss ∧ (∀ s ∈ ss, OkSt n s) ∧ JRw K D H n p b1 ∧ JRw K D H n u b2 ∧ JDl K D H ss d o ∧
  (b1 = true → o = none → GD K H n ss p d) ∧ (b2 = true → GWish K H n u) ∧ ∀ H', Same H H' → Q (.bl true) H'
theorem ok_l_word_is_due (T : Txt K mg f_is_integer f_is_row f_is_fraction f_is_amount f_is_some f_are_amounts f_added f_negated f_lessened f_multiplied f_divided f_squared f_summed f_lies_below f_is_stall f_hold_of f_stalls_of f_kept_of f_held f_is_index f_is_move f_check_purse f_check_wish f_stall_led f_stall_behind f_stalls_behind f_deal_fault f_check_deal f_web_behind f_left_with f_played f_owes f_is_deal f_stands_alike f_check_alike f_change_of f_l_deck f_l_pick f_l_fold f_l_divisor f_l_made f_l_amount f_l_stall f_l_deep f_l_odd f_l_row f_l_bad_row f_l_move f_l_bad_deal f_l_is_some f_l_is_row f_l_is_below f_l_is_move f_l_due f_l_answer f_l_word f_l_word_is_due f_law f_BadDeal_init f_Web_init f_Web_eq c_BadPurse c_BadWish c_BadDeal c_Web c_ZERO d_is_integer d_is_row d_is_fraction d_is_amount d_is_some d_are_amounts d_added d_negated d_lessened d_multiplied d_divided d_squared d_summed d_lies_below d_is_stall d_hold_of d_stalls_of d_kept_of d_held d_is_index d_is_move d_check_purse d_check_wish d_stall_led d_stall_behind d_stalls_behind d_deal_fault d_check_deal d_web_behind d_left_with d_played d_owes d_is_deal d_stands_alike d_check_alike d_change_of d_l_deck d_l_pick d_l_fold d_l_divisor d_l_made d_l_amount d_l_stall d_l_deep d_l_odd d_l_row d_l_bad_row d_l_move d_l_bad_deal d_l_is_some d_l_is_row d_l_is_below d_l_is_move d_l_due d_l_answer d_l_word d_l_word_is_due d_law d_BadDeal_init d_Web_init d_Web_eq) : FnOk P w K mg base CX0 11 f_l_word_is_due d_l_word_is_due ["_law_web", "_law_purse", "_law_wish", "_law_deal"] (sp_lwd K c_Web) := by
  have G_l_word : FnOk P w K mg base CX0 10 f_l_word d_l_word ["_law_web", "_law_purse", "_law_wish", "_law_deal"] (sp_lword14 K c_Web) := ok_l_word T
  have G_l_is_row : FnOk P w K mg base CX0 3 f_l_is_row d_l_is_row ["_law_web", "_law_thing"] (sp_lis_row K c_Web) := ok_l_is_row T
  have G_l_due : FnOk P w K mg base CX0 4 f_l_due d_l_due ["_law_web", "_law_purse", "_law_deal"] (sp_ldue14 K c_Web) := ok_l_due T
  refine T.F_l_word_is_due.ok sc_l_word_is_due (fun vs H Q E h => ?_) (fun cdv A outer sh H vs Q E hr h => ?_)
  · obtain ⟨x, p, u, d, D, n, ss, b1, b2, o, rfl, _⟩ := h
    rfl
  · obtain ⟨x, p, u, d, D, n, ss, b1, b2, o, rfl, hw, oks, hj, hu, hd, good, gw, q⟩ := h
    refine ⟨_, (pss_cons (ps_set (i := 4) sc_l_word_is_due.nd rfl (by first | exact Or.inl rfl | exact Or.inr rfl) (pe_call G_l_word (hr.mono (by decide)) (by rfl) T.g_l_word T.k_l_word T.b_l_word .nil pass0 (pa_cons (pv 0) (pa_cons (pv 1) (pa_cons (pv 2) (pa_cons (pv 3) pa_nil))))))
      (pss_cons (ps_if (pt_not (pt_val (pe_call G_l_is_row (hr.mono (by decide)) (by rfl) T.g_l_is_row T.k_l_is_row T.b_l_is_row .nil pass0 (pa_cons (pv 0) (pa_cons (pv 1) pa_nil)))))
        (pss_one (ps_ret (pe_cmpR op_eq (pv 4) pe_str (nomark _))))
        pss_nil)
      (pss_cons (ps_if (pt_not (pt_val (pe_call G_l_is_row (hr.mono (by decide)) (by rfl) T.g_l_is_row T.k_l_is_row T.b_l_is_row .nil pass0 (pa_cons (pv 0) (pa_cons (pv 2) pa_nil)))))
        (pss_one (ps_ret (pe_cmpR op_eq (pv 4) pe_str (nomark _))))
        pss_nil)
      (pss_cons (ps_if (PW.pt (pw_or (pt_not (pt_val (pe_callB call_isi (by rfl) T.z_isinstance (by decide +kernel) (pa_cons (pv 3) (pa_cons (pe_bltn (v := .ty "list") (u := .type "list") (by rfl) T.z_list (by decide +kernel) rfl) pa_nil))))) (pw_or1 (pt_cmpR (op_neD hr.units) (pe_call G_l_due (hr.mono (by decide)) (by rfl) T.g_l_due T.k_l_due T.b_l_due .nil pass0 (pa_cons (pv 0) (pa_cons (pv 1) (pa_cons (pv 3) pa_nil)))) (pe_tup (pa_cons pe_str (pa_cons pe_int pa_nil))) (nomark _)))))
        (pss_one (ps_ret (pe_cmpR op_isBl (pv 4) pe_bl (nomark _))))
        pss_nil)
      (pss_one (ps_ret (pe_callB call_isi (by rfl) T.z_isinstance (by decide +kernel) (pa_cons (pv 4) (pa_cons (pe_bltn (v := .ty "bool") (u := .type "bool") (by rfl) T.z_bool (by decide +kernel) rfl) pa_nil))))))))), ?_⟩
    walk_at "r"
    refine ⟨x, p, u, d, D, n, ss, b1, b2, o, rfl, hw, hj, hu, hd, good, gw, fun H1 v s1 wk => ?_⟩
    obtain ⟨wk1, wk2, wk3⟩ := wk
    walk_at "r"
    refine ⟨x, p, D, n, ss, b1, rfl, hw.same s1, hj.same s1, fun H2 s2 => ?_⟩
    have k2 := s1.trans s2
    cases b1 with
    | false =>
      cases wk1 rfl
      walk_at "r"
      rw [decide_eq_true rfl]
      exact q _ k2
    | true =>
      walk_at "r"
      refine ⟨x, u, D, n, ss, b2, rfl, hw.same k2, hu.same k2, fun H3 s3 => ?_⟩
      have k3 := k2.trans s3
      cases b2 with
      | false =>
        cases wk2 rfl rfl
        walk_at "r"
        rw [decide_eq_true rfl]
        exact q _ k3
      | true =>
        obtain ⟨cc, rfl, hcc⟩ := wk3 rfl rfl
        have hj3 := hj.same k3
        have hd3 := hd.same k3
        walk_at "r"
        rcases hd with ⟨L, ys, ts, rfl, np, hL, hms, l9, rfl⟩ | ⟨o', rfl⟩
        · rcases hL with hL | hL
          · refine isi_lst_lst (k3 _ _ hL) ?_
            walk_at "r"
            refine ⟨x, p, _, D, n, ss, true, flt ss ts, rfl, hw.same k3, oks, hj3, hd3, fun H4 v4 s4 h4 => ?_⟩
            have k4 := k3.trans s4
            walk_at "r"
            intro pr npr
            have s5 := same_upd (o := .tup [V.str "told", .int 0]) npr
            refine neWd (h4.same s5) ⟨pr, rfl, upd_same⟩ (dueW_ok _ _) told_ok ?_
            cases cf : flt ss ts with
            | none =>
              rw [show (decide ((dueW true none).1 = ("told" : Str)) && decide ((dueW true none).2 = 0)) = true from by decide +kernel]
              walk_at "r"
              exact q _ (k4.trans s5)
            | some i =>
              have e := hcc (.inl (by rw [cf]; exact fun z => by cases z))
              subst e
              rw [show (decide ((dueW true (some i)).1 = ("told" : Str)) && decide ((dueW true (some i)).2 = 0)) = false from by
                rw [show decide ((dueW true (some i)).1 = ("told" : Str)) = false from (by decide +kernel : decide (("deal" : Str) = "told") = false), Bool.false_and]]
              walk_at "r"
              exact q _ (k4.trans s5)
          · have e := hcc (.inr fun ⟨r, xs, z, z2⟩ => by
              cases z
              rw [hL] at z2
              cases z2)
            subst e
            refine isi_tup_lst (k3 _ _ hL) ?_
            walk_at "r"
            exact q _ k3
        · have e := hcc (.inl fun z => by cases z)
          subst e
          refine nosq_isiL (o'.fw (Same.fw k3)) ?_
          walk_at "r"
          exact q _ k3
def sp_ldeep2 (M : Nat) : Sp := fun vs H Q _ => ∃ (D C : Addr) (c : Nat), vs = [.ref D] ∧ Deck M D C H c ∧ c ≤ 2 ^ 39 ∧ ∀ H' v, Fw D H H' → Deck M D C H' (c + 3) → B2 D H' v → Q v H'
theorem ok_l_deep2 {M : Nat} (hM : 64 ≤ M) (hM2 : M ≤ 1048576) (T : Txt K mg f_is_integer f_is_row f_is_fraction f_is_amount f_is_some f_are_amounts f_added f_negated f_lessened f_multiplied f_divided f_squared f_summed f_lies_below f_is_stall f_hold_of f_stalls_of f_kept_of f_held f_is_index f_is_move f_check_purse f_check_wish f_stall_led f_stall_behind f_stalls_behind f_deal_fault f_check_deal f_web_behind f_left_with f_played f_owes f_is_deal f_stands_alike f_check_alike f_change_of f_l_deck f_l_pick f_l_fold f_l_divisor f_l_made f_l_amount f_l_stall f_l_deep f_l_odd f_l_row f_l_bad_row f_l_move f_l_bad_deal f_l_is_some f_l_is_row f_l_is_below f_l_is_move f_l_due f_l_answer f_l_word f_l_word_is_due f_law f_BadDeal_init f_Web_init f_Web_eq c_BadPurse c_BadWish c_BadDeal c_Web c_ZERO d_is_integer d_is_row d_is_fraction d_is_amount d_is_some d_are_amounts d_added d_negated d_lessened d_multiplied d_divided d_squared d_summed d_lies_below d_is_stall d_hold_of d_stalls_of d_kept_of d_held d_is_index d_is_move d_check_purse d_check_wish d_stall_led d_stall_behind d_stalls_behind d_deal_fault d_check_deal d_web_behind d_left_with d_played d_owes d_is_deal d_stands_alike d_check_alike d_change_of d_l_deck d_l_pick d_l_fold d_l_divisor d_l_made d_l_amount d_l_stall d_l_deep d_l_odd d_l_row d_l_bad_row d_l_move d_l_bad_deal d_l_is_some d_l_is_row d_l_is_below d_l_is_move d_l_due d_l_answer d_l_word d_l_word_is_due d_law d_BadDeal_init d_Web_init d_Web_eq) : FnOk P w K mg base CX0 2 f_l_deep d_l_deep ["_law_deck_here"] (sp_ldeep2 M) := by
  have G_l_pick : FnOk P w K mg base CX0 1 f_l_pick d_l_pick ["_law_deck_here", "_law_many"] (sp_pick M) := ok_pick hM hM2 T
  refine T.F_l_deep.ok sc_l_deep (fun vs H Q E h => ?_) (fun cdv A outer s H vs Q E hr h => ?_)
  · obtain ⟨D, C, c, rfl, _⟩ := h
    rfl
  · obtain ⟨D, C, c, rfl, dk, hc, q⟩ := h
    refine ⟨_, (pss_cons (ps_set (i := 1) sc_l_deep.nd rfl (by first | exact Or.inl rfl | exact Or.inr rfl) (pe_ix ix_list (pe_lst (pa_cons pe_non (pa_cons pe_int (pa_cons pe_str (pa_cons (pe_tup pa_nil) pa_nil))))) (pe_call G_l_pick (hr.mono (by decide)) (by rfl) T.g_l_pick T.k_l_pick T.b_l_pick .nil pass0 (pa_cons (pv 0) (pa_cons pe_int pa_nil))) (fun _ _ => rfl)))
      (pss_cons (ps_set (i := 2) sc_l_deep.nd rfl (by first | exact Or.inl rfl | exact Or.inr rfl) (pe_call G_l_pick (hr.mono (by decide)) (by rfl) T.g_l_pick T.k_l_pick T.b_l_pick .nil pass0 (pa_cons (pv 0) (pa_cons pe_int pa_nil))))
      (pss_cons (ps_for PassesOwn.never rfl (pi_range1 (by rfl) T.z_range (pa_cons (pe_op op_add pe_int (pe_call G_l_pick (hr.mono (by decide)) (by rfl) T.g_l_pick T.k_l_pick T.b_l_pick .nil pass0 (pa_cons (pv 0) (pa_cons pe_int pa_nil)))) pa_nil)) (pg_name (i := 3) sc_l_deep.nd rfl (by first | exact Or.inl rfl | exact Or.inr rfl))
        (pss_one (ps_if (pt_cmpR op_eq (pe_op op_mod (pe_callTy call_intN (by rfl) T.z_int (by decide +kernel) (pa_cons (pe_op op_add (pv 3) (pv 2)) pa_nil)) pe_int) pe_int (nomark _))
            (pss_one (ps_set (i := 1) sc_l_deep.nd rfl (by first | exact Or.inl rfl | exact Or.inr rfl) (pe_lst (pa_cons (pv 1) pa_nil))))
            (pss_one (ps_set (i := 1) sc_l_deep.nd rfl (by first | exact Or.inl rfl | exact Or.inr rfl) (pe_tup (pa_cons (pv 1) pa_nil)))))))
      (pss_one (ps_ret (pv 1)))))), ?_⟩
    walk_at "r"
    intro p np
    have s1 := same_upd (o := .tup []) np
    have k1 := dk.same s1
    generalize upd H p (.tup []) = H1 at *
    walk_at "r"
    intro l nl
    have s2 := same_upd (o := .lst [V.non, .int 0, .str "0", .ref p]) nl
    have hl : upd H1 l (.lst [V.non, .int 0, .str "0", .ref p]) l = some (.lst [V.non, .int 0, .str "0", .ref p]) := upd_same
    have lD := k1.ne nl
    have k2 := k1.same s2
    generalize upd H1 l (.lst [V.non, .int 0, .str "0", .ref p]) = H2 at *
    walk_at "r"
    refine ⟨D, C, _, _, rfl, ⟨by decide, by decide⟩, k2, by omega, fun H3 r3 w3 k3 a3 b3 => ?_⟩
    obtain ⟨z, ez⟩ : ∃ z, atI [V.non, .int 0, .str "0", .ref p] r3 = some z := by
      rcases (show r3 = 0 ∨ r3 = 1 ∨ r3 = 2 ∨ r3 = 3 by omega) with rfl | rfl | rfl | rfl
      · exact ⟨_, rfl⟩
      · exact ⟨_, rfl⟩
      · exact ⟨_, rfl⟩
      · exact ⟨_, rfl⟩
    refine rd_ixL (w3 _ _ lD hl) ez ?_
    walk_at "r"
    refine ⟨D, C, _, _, rfl, ⟨by decide, by decide⟩, k3, by omega, fun H4 r4 w4 k4 a4 b4 => ?_⟩
    walk_at "r"
    refine ⟨D, C, _, _, rfl, ⟨by decide, by decide⟩, k4, by omega, fun H5 r5 w5 k5 a5 b5 => ?_⟩
    have f5 := ((((Same.fw (D := D) s1).trans (Same.fw s2)).trans w3).trans w4).trans w5
    walk_at "r"
    refine ⟨by omega, by omega, ?_⟩
    refine for_range (lo := 0) (n := (20 + r5).toNat) (fun i σ H' => ∃ (v : V) (t3 : Option V), σ = [some (.ref D), some v, some (.int r4), t3] ∧ Fw D H5 H' ∧ Deck M D C H' (c + 3) ∧ (0 < i → B1 D H' v) ∧ (1 < i → B2 D H' v)) ?_ ?_ ?_
    · exact ⟨_, _, rfl, Fw.refl _ _, k5, fun h => absurd h (Nat.lt_irrefl 0), fun h => absurd h (Nat.not_lt_zero 1)⟩
    · rintro i σ H' hi ⟨v, t3, rfl, f, k, h1, h2⟩
      walk_at "r"
      walk_at "if"
      · walk_at "r"
        intro q1 nq
        have sq := same_upd (o := .lst [v]) nq
        have b : SqAt (upd H' q1 (.lst [v])) q1 [v] := .inl upd_same
        exact ⟨_, _, rfl, f.trans (Same.fw sq), k.same sq, fun _ => ⟨q1, v, rfl, k.ne nq, b⟩, fun h => ⟨q1, v, rfl, k.ne nq, b, (h1 (by omega)).fw (Same.fw sq)⟩⟩
      · walk_at "r"
        intro q1 nq
        have sq := same_upd (o := .tup [v]) nq
        have b : SqAt (upd H' q1 (.tup [v])) q1 [v] := .inr upd_same
        exact ⟨_, _, rfl, f.trans (Same.fw sq), k.same sq, fun _ => ⟨q1, v, rfl, k.ne nq, b⟩, fun h => ⟨q1, v, rfl, k.ne nq, b, (h1 (by omega)).fw (Same.fw sq)⟩⟩
    · rintro σ H' ⟨v, t3, rfl, f, k, h1, h2⟩
      walk_at "r"
      exact q _ _ (f5.trans f) k (h2 (by omega))
end
end My
namespace My
open PySem PySem.Spec PyProof.Rows L2
variable {K : PySem.W.Frag}
theorem all1 {D : Addr} {H : Hp} {x : V} (h : Oj K D H x) : ∀ y ∈ [x], Oj K D H y := fun y m => by
  rw [List.mem_singleton.mp m]
  exact h
theorem all2 {D : Addr} {H : Hp} {x y : V} (h : Oj K D H x) (g : Oj K D H y) : ∀ z ∈ [x, y], Oj K D H z := fun z m => by
  rcases List.mem_cons.mp m with rfl | m
  · exact h
  · exact all1 g z m
theorem all3 {D : Addr} {H : Hp} {x y u : V} (h : Oj K D H x) (g : Oj K D H y) (k : Oj K D H u) : ∀ z ∈ [x, y, u], Oj K D H z := fun z m => by
  rcases List.mem_cons.mp m with rfl | m
  · exact h
  · exact all2 g k z m
section
variable {P : Program} {w : World} {K : PySem.W.Frag} {mg : Str → Option Value} {base : Heap} {f_is_integer f_is_row f_is_fraction f_is_amount f_is_some f_are_amounts f_added f_negated f_lessened f_multiplied f_divided f_squared f_summed f_lies_below f_is_stall f_hold_of f_stalls_of f_kept_of f_held f_is_index f_is_move f_check_purse f_check_wish f_stall_led f_stall_behind f_stalls_behind f_deal_fault f_check_deal f_web_behind f_left_with f_played f_owes f_is_deal f_stands_alike f_check_alike f_change_of f_l_deck f_l_pick f_l_fold f_l_divisor f_l_made f_l_amount f_l_stall f_l_deep f_l_odd f_l_row f_l_bad_row f_l_move f_l_bad_deal f_l_is_some f_l_is_row f_l_is_below f_l_is_move f_l_due f_l_answer f_l_word f_l_word_is_due f_law f_BadDeal_init f_Web_init f_Web_eq c_BadPurse c_BadWish c_BadDeal c_Web c_ZERO : Addr} {d_is_integer d_is_row d_is_fraction d_is_amount d_is_some d_are_amounts d_added d_negated d_lessened d_multiplied d_divided d_squared d_summed d_lies_below d_is_stall d_hold_of d_stalls_of d_kept_of d_held d_is_index d_is_move d_check_purse d_check_wish d_stall_led d_stall_behind d_stalls_behind d_deal_fault d_check_deal d_web_behind d_left_with d_played d_owes d_is_deal d_stands_alike d_check_alike d_change_of d_l_deck d_l_pick d_l_fold d_l_divisor d_l_made d_l_amount d_l_stall d_l_deep d_l_odd d_l_row d_l_bad_row d_l_move d_l_bad_deal d_l_is_some d_l_is_row d_l_is_below d_l_is_move d_l_due d_l_answer d_l_word d_l_word_is_due d_law d_BadDeal_init d_Web_init d_Web_eq : FuncData}
def sp_lodd14 (K : PySem.W.Frag) (C : Addr) (M : Nat) : Sp := fun vs H Q _ => ∃ (D Cd : Addr) (c n : Nat) (x : V) (ss : List Stl), vs = [.ref D, x] ∧ Deck M D Cd H c ∧ c ≤ 2 ^ 38 ∧ IsWeb K C H x n ss ∧ ∀ H' v, Fw D H H' → Deck M D Cd H' (c + 4) → Ok14 K D H' n ss v → Q v H'
theorem ok_l_odd14 {M : Nat} (hM : 64 ≤ M) (hM2 : M ≤ 1048576) (T : Txt K mg f_is_integer f_is_row f_is_fraction f_is_amount f_is_some f_are_amounts f_added f_negated f_lessened f_multiplied f_divided f_squared f_summed f_lies_below f_is_stall f_hold_of f_stalls_of f_kept_of f_held f_is_index f_is_move f_check_purse f_check_wish f_stall_led f_stall_behind f_stalls_behind f_deal_fault f_check_deal f_web_behind f_left_with f_played f_owes f_is_deal f_stands_alike f_check_alike f_change_of f_l_deck f_l_pick f_l_fold f_l_divisor f_l_made f_l_amount f_l_stall f_l_deep f_l_odd f_l_row f_l_bad_row f_l_move f_l_bad_deal f_l_is_some f_l_is_row f_l_is_below f_l_is_move f_l_due f_l_answer f_l_word f_l_word_is_due f_law f_BadDeal_init f_Web_init f_Web_eq c_BadPurse c_BadWish c_BadDeal c_Web c_ZERO d_is_integer d_is_row d_is_fraction d_is_amount d_is_some d_are_amounts d_added d_negated d_lessened d_multiplied d_divided d_squared d_summed d_lies_below d_is_stall d_hold_of d_stalls_of d_kept_of d_held d_is_index d_is_move d_check_purse d_check_wish d_stall_led d_stall_behind d_stalls_behind d_deal_fault d_check_deal d_web_behind d_left_with d_played d_owes d_is_deal d_stands_alike d_check_alike d_change_of d_l_deck d_l_pick d_l_fold d_l_divisor d_l_made d_l_amount d_l_stall d_l_deep d_l_odd d_l_row d_l_bad_row d_l_move d_l_bad_deal d_l_is_some d_l_is_row d_l_is_below d_l_is_move d_l_due d_l_answer d_l_word d_l_word_is_due d_law d_BadDeal_init d_Web_init d_Web_eq) : FnOk P w K mg base CX0 3 f_l_odd d_l_odd ["_law_deck_here", "_law_web"] (sp_lodd14 K c_Web M) := by
  have G_l_pick : FnOk P w K mg base CX0 1 f_l_pick d_l_pick ["_law_deck_here", "_law_many"] (sp_pick M) := ok_pick hM hM2 T
  have G_l_deep : FnOk P w K mg base CX0 2 f_l_deep d_l_deep ["_law_deck_here"] (sp_ldeep2 M) := ok_l_deep2 hM hM2 T
  refine T.F_l_odd.ok sc_l_odd (fun vs H Q E h => ?_) (fun cdv A outer s H vs Q E hr h => ?_)
  · obtain ⟨D, Cd, c, n, x, ss, rfl, _⟩ := h
    rfl
  · obtain ⟨D, Cd, c, n, x, ss, rfl, dk, hc, hw, q⟩ := h
    refine ⟨_, (pss_cons (ps_set (i := 2) sc_l_odd.nd rfl (by first | exact Or.inl rfl | exact Or.inr rfl) (pe_lst (pa_cons pe_non (pa_cons pe_bl (pa_cons pe_bl (pa_cons pe_str (pa_cons pe_str (pa_cons (pe_un un_neg pe_int) (pa_cons pe_int (pa_cons pe_int (pa_cons (pe_callB call_lenN (by rfl) T.z_len (by decide +kernel) (pa_cons (pe_fld (pv 1) rfl) pa_nil)) (pa_cons (pe_op op_pow pe_int pe_int) (pa_cons (pe_tup pa_nil) (pa_cons (pe_lst pa_nil) (pa_cons pe_dnewK (pa_cons (pe_tup (pa_cons pe_int (pa_cons pe_int pa_nil))) (pa_cons (pe_tup (pa_cons pe_int (pa_cons pe_int pa_nil))) (pa_cons (pe_tup (pa_cons pe_int (pa_cons pe_int pa_nil))) (pa_cons (pe_tup (pa_cons (pe_un un_neg pe_int) (pa_cons pe_int pa_nil))) (pa_cons (pe_tup (pa_cons pe_int (pa_cons (pe_un un_neg pe_int) pa_nil))) (pa_cons (pe_lst (pa_cons pe_int (pa_cons pe_int pa_nil))) (pa_cons (pe_tup (pa_cons pe_int (pa_cons pe_int (pa_cons pe_int pa_nil)))) (pa_cons (pe_tup (pa_cons pe_int (pa_cons pe_bl pa_nil))) (pa_cons (pe_tup (pa_cons pe_int (pa_cons pe_int pa_nil))) (pa_cons (pe_call G_l_deep (hr.mono (by decide)) (by rfl) T.g_l_deep T.k_l_deep T.b_l_deep .nil pass0 (pa_cons (pv 0) pa_nil)) (pa_cons (pv 1) pa_nil))))))))))))))))))))))))))
      (pss_one (ps_ret (pe_ix ix_list (pv 2) (pe_call G_l_pick (hr.mono (by decide)) (by rfl) T.g_l_pick T.k_l_pick T.b_l_pick .nil pass0 (pa_cons (pv 0) (pa_cons pe_int pa_nil))) (fun _ _ => rfl))))), ?_⟩
    obtain ⟨px, dx, tt, xs, rfl, hpx, ht, hss⟩ := id hw
    have pD := web_ne dk hw
    walk_at "r"
    refine ⟨_, _, _, _, _, rfl, hpx, T.w_Web.it.cl, T.n_Web_stalls, wF_stalls _ _, ?_⟩
    have J : Oks K D H n ss [V.non, .bl true, .bl false, .str "0", .str "", .int (-1), .int 0, .int 1, .int (xs.length : Nat), .int (10 ^ (11 : Int).toNat)] := by
      intro v hv
      simp only [List.mem_cons, List.not_mem_nil, or_false] at hv
      rcases hv with rfl | rfl | rfl | rfl | rfl | rfl | rfl | rfl | rfl | rfl
      · exact ok_no oj_non nosq_non
      · exact ok_no oj_bl nosq_bl
      · exact ok_no oj_bl nosq_bl
      · exact ok_no oj_str nosq_str
      · exact ok_no oj_str nosq_str
      · exact ok_no (oj_int _) nosq_int
      · exact ok_no (oj_int _) nosq_int
      · exact ok_no (oj_int _) nosq_int
      · exact ok_no (oj_int _) nosq_int
      · exact ok_no (oj_int _) nosq_int
    walk_at "r"
    intro p0 np
    have s := same_upd (o := .tup []) np
    have h : upd H p0 (.tup []) p0 = some (.tup []) := upd_same
    have nD := dk.ne np
    have J := J.fw dk (Same.fw s)
    have dk := dk.same s
    have hw := hw.same s
    have f0 := Same.fw (D := D) s
    generalize upd H p0 (.tup []) = Ha0 at *
    have J := J.snoc (ok_seq (oj_tup nD h (by decide)) nD (.inr h) (fun y m => by cases m) (by decide))
    clear s h np nD
    walk_at "r"
    intro p1 np
    have s := same_upd (o := .lst []) np
    have h : upd Ha0 p1 (.lst []) p1 = some (.lst []) := upd_same
    have nD := dk.ne np
    have J := J.fw dk (Same.fw s)
    have dk := dk.same s
    have hw := hw.same s
    have f0 := f0.trans (Same.fw (D := D) s)
    generalize upd Ha0 p1 (.lst []) = Ha1 at *
    have J := J.snoc (ok_seq (oj_lst nD h) nD (.inl h) (fun y m => by cases m) (by decide))
    clear s h np nD
    walk_at "r"
    intro p2 np
    have s := same_upd (o := .dK []) np
    have h : upd Ha1 p2 (.dK []) p2 = some (.dK []) := upd_same
    have nD := dk.ne np
    have J := J.fw dk (Same.fw s)
    have dk := dk.same s
    have hw := hw.same s
    have f0 := f0.trans (Same.fw (D := D) s)
    generalize upd Ha1 p2 (.dK []) = Ha2 at *
    have J := J.snoc (ok_no (oj_dK nD h) (nosq_dK nD h))
    clear s h np nD
    walk_at "r"
    intro p3 np
    have s := same_upd (o := .tup [V.int 0, .int 1]) np
    have h : upd Ha2 p3 (.tup [V.int 0, .int 1]) p3 = some (.tup [V.int 0, .int 1]) := upd_same
    have nD := dk.ne np
    have J := J.fw dk (Same.fw s)
    have dk := dk.same s
    have hw := hw.same s
    have f0 := f0.trans (Same.fw (D := D) s)
    generalize upd Ha2 p3 (.tup [V.int 0, .int 1]) = Ha3 at *
    have J := J.snoc (ok_seq (oj_pair nD h (by decide) (by decide)) nD (.inr h) (all2 (oj_int _) (oj_int _)) (show 2 ≤ 20 by decide))
    clear s h np nD
    walk_at "r"
    intro p4 np
    have s := same_upd (o := .tup [V.int 2, .int 2]) np
    have h : upd Ha3 p4 (.tup [V.int 2, .int 2]) p4 = some (.tup [V.int 2, .int 2]) := upd_same
    have nD := dk.ne np
    have J := J.fw dk (Same.fw s)
    have dk := dk.same s
    have hw := hw.same s
    have f0 := f0.trans (Same.fw (D := D) s)
    generalize upd Ha3 p4 (.tup [V.int 2, .int 2]) = Ha4 at *
    have J := J.snoc (ok_seq (oj_pair nD h (by decide) (by decide)) nD (.inr h) (all2 (oj_int _) (oj_int _)) (show 2 ≤ 20 by decide))
    clear s h np nD
    walk_at "r"
    intro p5 np
    have s := same_upd (o := .tup [V.int 1, .int 0]) np
    have h : upd Ha4 p5 (.tup [V.int 1, .int 0]) p5 = some (.tup [V.int 1, .int 0]) := upd_same
    have nD := dk.ne np
    have J := J.fw dk (Same.fw s)
    have dk := dk.same s
    have hw := hw.same s
    have f0 := f0.trans (Same.fw (D := D) s)
    generalize upd Ha4 p5 (.tup [V.int 1, .int 0]) = Ha5 at *
    have J := J.snoc (ok_seq (oj_pair nD h (by decide) (by decide)) nD (.inr h) (all2 (oj_int _) (oj_int _)) (show 2 ≤ 20 by decide))
    clear s h np nD
    walk_at "r"
    intro p6 np
    have s := same_upd (o := .tup [V.int (-1), .int 1]) np
    have h : upd Ha5 p6 (.tup [V.int (-1), .int 1]) p6 = some (.tup [V.int (-1), .int 1]) := upd_same
    have nD := dk.ne np
    have J := J.fw dk (Same.fw s)
    have dk := dk.same s
    have hw := hw.same s
    have f0 := f0.trans (Same.fw (D := D) s)
    generalize upd Ha5 p6 (.tup [V.int (-1), .int 1]) = Ha6 at *
    have J := J.snoc (ok_seq (oj_pair nD h (by decide) (by decide)) nD (.inr h) (all2 (oj_int _) (oj_int _)) (show 2 ≤ 20 by decide))
    clear s h np nD
    walk_at "r"
    intro p7 np
    have s := same_upd (o := .tup [V.int 1, .int (-1)]) np
    have h : upd Ha6 p7 (.tup [V.int 1, .int (-1)]) p7 = some (.tup [V.int 1, .int (-1)]) := upd_same
    have nD := dk.ne np
    have J := J.fw dk (Same.fw s)
    have dk := dk.same s
    have hw := hw.same s
    have f0 := f0.trans (Same.fw (D := D) s)
    generalize upd Ha6 p7 (.tup [V.int 1, .int (-1)]) = Ha7 at *
    have J := J.snoc (ok_seq (oj_pair nD h (by decide) (by decide)) nD (.inr h) (all2 (oj_int _) (oj_int _)) (show 2 ≤ 20 by decide))
    clear s h np nD
    walk_at "r"
    intro p8 np
    have s := same_upd (o := .lst [V.int 1, .int 1]) np
    have h : upd Ha7 p8 (.lst [V.int 1, .int 1]) p8 = some (.lst [V.int 1, .int 1]) := upd_same
    have nD := dk.ne np
    have J := J.fw dk (Same.fw s)
    have dk := dk.same s
    have hw := hw.same s
    have f0 := f0.trans (Same.fw (D := D) s)
    generalize upd Ha7 p8 (.lst [V.int 1, .int 1]) = Ha8 at *
    have J := J.snoc (ok_seq (oj_lst nD h) nD (.inl h) (all2 (oj_int _) (oj_int _)) (show 2 ≤ 20 by decide))
    clear s h np nD
    walk_at "r"
    intro p9 np
    have s := same_upd (o := .tup [V.int 1, .int 1, .int 1]) np
    have h : upd Ha8 p9 (.tup [V.int 1, .int 1, .int 1]) p9 = some (.tup [V.int 1, .int 1, .int 1]) := upd_same
    have nD := dk.ne np
    have J := J.fw dk (Same.fw s)
    have dk := dk.same s
    have hw := hw.same s
    have f0 := f0.trans (Same.fw (D := D) s)
    generalize upd Ha8 p9 (.tup [V.int 1, .int 1, .int 1]) = Ha9 at *
    have J := J.snoc (ok_seq (oj_three nD h (.inl ⟨1, rfl, rfl⟩) (.inl ⟨1, rfl, rfl⟩) (.inr ⟨.int 1, rfl⟩)) nD (.inr h) (all3 (oj_int _) (oj_int _) (oj_int _)) (show 3 ≤ 20 by decide))
    clear s h np nD
    walk_at "r"
    intro p10 np
    have s := same_upd (o := .tup [V.int 1, .bl true]) np
    have h : upd Ha9 p10 (.tup [V.int 1, .bl true]) p10 = some (.tup [V.int 1, .bl true]) := upd_same
    have nD := dk.ne np
    have J := J.fw dk (Same.fw s)
    have dk := dk.same s
    have hw := hw.same s
    have f0 := f0.trans (Same.fw (D := D) s)
    generalize upd Ha9 p10 (.tup [V.int 1, .bl true]) = Ha10 at *
    have J := J.snoc (ok_seq (oj_pairB nD h (.bl true)) nD (.inr h) (all2 (oj_int _) oj_bl) (show 2 ≤ 20 by decide))
    clear s h np nD
    walk_at "r"
    intro p11 np
    have s := same_upd (o := .tup [V.int 3, .int 2]) np
    have h : upd Ha10 p11 (.tup [V.int 3, .int 2]) p11 = some (.tup [V.int 3, .int 2]) := upd_same
    have nD := dk.ne np
    have J := J.fw dk (Same.fw s)
    have dk := dk.same s
    have hw := hw.same s
    have f0 := f0.trans (Same.fw (D := D) s)
    generalize upd Ha10 p11 (.tup [V.int 3, .int 2]) = Ha11 at *
    have J := J.snoc (ok_seq (oj_pair nD h (by decide) (by decide)) nD (.inr h) (all2 (oj_int _) (oj_int _)) (show 2 ≤ 20 by decide))
    clear s h np nD
    walk_at "r"
    refine ⟨D, Cd, _, rfl, dk, by omega, fun Hd vd wd kd hd => ?_⟩
    have J := J.fw dk wd
    have hw := hw.fw wd dk
    have f0 := f0.trans wd
    have J := J.snoc hd.ok
    obtain ⟨_, dx2, t2, xs2, e2, hpx2, _⟩ := id hw
    cases e2
    have J := J.snoc (ok_no (oj_ins pD hpx2 T.w_Web.it) (nosq_ins pD hpx2 T.w_Web.it))
    have J : Oks K D Hd n ss [V.non, .bl true, .bl false, .str "0", .str "", .int (-1), .int 0, .int 1, .int (xs.length : Nat), .int (10 ^ (11 : Int).toNat), .ref p0, .ref p1, .ref p2, .ref p3, .ref p4, .ref p5, .ref p6, .ref p7, .ref p8, .ref p9, .ref p10, .ref p11, vd, .ref px] := J
    have hlen : ([V.non, .bl true, .bl false, .str "0", .str "", .int (-1), .int 0, .int 1, .int (xs.length : Nat), .int (10 ^ (11 : Int).toNat), .ref p0, .ref p1, .ref p2, .ref p3, .ref p4, .ref p5, .ref p6, .ref p7, .ref p8, .ref p9, .ref p10, .ref p11, vd, .ref px]).length = 24 := rfl
    walk_at "r"
    generalize [V.non, .bl true, .bl false, .str "0", .str "", .int (-1), .int 0, .int 1, .int (xs.length : Nat), .int (10 ^ (11 : Int).toNat), .ref p0, .ref p1, .ref p2, .ref p3, .ref p4, .ref p5, .ref p6, .ref p7, .ref p8, .ref p9, .ref p10, .ref p11, vd, .ref px] = us at *
    intro L nL
    have s := same_upd (o := .lst us) nL
    have nD := kd.ne nL
    have hL : upd Hd L (.lst us) L = some (.lst us) := upd_same
    have J := J.fw kd (Same.fw s)
    have kd := kd.same s
    have f0 := f0.trans (Same.fw (D := D) s)
    generalize upd Hd L (.lst us) = He at *
    walk_at "r"
    refine ⟨D, Cd, _, _, rfl, ⟨by decide, by decide⟩, kd, by omega, fun Hf r wf kf a0 b0 => ?_⟩
    obtain ⟨z, hz, ez⟩ := at_in (m := 24) hlen a0 b0
    refine rd_ixL (wf _ _ nD hL) ez ?_
    exact q _ _ (f0.trans wf) kf ((J z hz).fw kd wf)
def sp_lrow14 (K : PySem.W.Frag) (C : Addr) (M : Nat) : Sp := fun vs H Q _ => ∃ (D Cd : Addr) (c n : Nat) (x : V) (ss : List Stl), vs = [.ref D, x] ∧ Deck M D Cd H c ∧ c ≤ 2 ^ 38 ∧ IsWeb K C H x n ss ∧ n ≤ 8 ∧
  ∀ H' R xs rs, Fw D H H' → Deck M D Cd H' (c + 16) → R ≠ D → H R = none → H' R = some (.lst xs) → Paired (IsH H') xs rs → rs.length = n → (∀ r ∈ rs, 0 ≤ r ∧ Bd 3 r) → Q (.ref R) H'
theorem ok_l_row14 {M : Nat} (hM : 64 ≤ M) (hM2 : M ≤ 1048576) (T : Txt K mg f_is_integer f_is_row f_is_fraction f_is_amount f_is_some f_are_amounts f_added f_negated f_lessened f_multiplied f_divided f_squared f_summed f_lies_below f_is_stall f_hold_of f_stalls_of f_kept_of f_held f_is_index f_is_move f_check_purse f_check_wish f_stall_led f_stall_behind f_stalls_behind f_deal_fault f_check_deal f_web_behind f_left_with f_played f_owes f_is_deal f_stands_alike f_check_alike f_change_of f_l_deck f_l_pick f_l_fold f_l_divisor f_l_made f_l_amount f_l_stall f_l_deep f_l_odd f_l_row f_l_bad_row f_l_move f_l_bad_deal f_l_is_some f_l_is_row f_l_is_below f_l_is_move f_l_due f_l_answer f_l_word f_l_word_is_due f_law f_BadDeal_init f_Web_init f_Web_eq c_BadPurse c_BadWish c_BadDeal c_Web c_ZERO d_is_integer d_is_row d_is_fraction d_is_amount d_is_some d_are_amounts d_added d_negated d_lessened d_multiplied d_divided d_squared d_summed d_lies_below d_is_stall d_hold_of d_stalls_of d_kept_of d_held d_is_index d_is_move d_check_purse d_check_wish d_stall_led d_stall_behind d_stalls_behind d_deal_fault d_check_deal d_web_behind d_left_with d_played d_owes d_is_deal d_stands_alike d_check_alike d_change_of d_l_deck d_l_pick d_l_fold d_l_divisor d_l_made d_l_amount d_l_stall d_l_deep d_l_odd d_l_row d_l_bad_row d_l_move d_l_bad_deal d_l_is_some d_l_is_row d_l_is_below d_l_is_move d_l_due d_l_answer d_l_word d_l_word_is_due d_law d_BadDeal_init d_Web_init d_Web_eq) : FnOk P w K mg base CX0 3 f_l_row d_l_row ["_law_deck_here", "_law_web"] (sp_lrow14 K c_Web M) := by
  have G_l_pick : FnOk P w K mg base CX0 1 f_l_pick d_l_pick ["_law_deck_here", "_law_many"] (sp_pick M) := ok_pick hM hM2 T
  have G_l_made : FnOk P w K mg base CX0 2 f_l_made d_l_made ["_law_top", "_law_bottom"] sp_madeH := ok_l_madeH T
  refine T.F_l_row.ok sc_l_row (fun vs H Q E h => ?_) (fun cdv A outer s H vs Q E hr h => ?_)
  · obtain ⟨D, Cd, c, n, x, ss, rfl, _⟩ := h
    rfl
  · obtain ⟨D, Cd, c, n, x, ss, rfl, dk, hc, hw, n8, q⟩ := h
    refine ⟨_, (pss_one (ps_ret (pe_lc (own := [("_law_ware", 2)]) (g := gName 2) rfl sc_l_row.nd (pi_range1 (by rfl) T.z_range (pa_cons (pe_fld (pv 1) rfl) pa_nil)) (blkOk_by (own := [("_law_ware", 2)]) (N := N_l_row) (sc := defScope s_l_row) (by decide +kernel)) (fun _ _ _ _ _ => (pg_name (i := 2) sc_l_row.nd rfl (by first | exact Or.inl rfl | exact Or.inr rfl))) (fun _ _ _ _ _ => pts_nil) (fun _ _ _ _ _ => (pe_call G_l_made (hr.mono (by decide)) (by rfl) T.g_l_made T.k_l_made T.b_l_made .nil pass0 (pa_cons (pe_call G_l_pick (hr.mono (by decide)) (by rfl) T.g_l_pick T.k_l_pick T.b_l_pick .nil pass0 (pa_cons (pv 0) (pa_cons pe_int pa_nil))) (pa_cons (pe_op op_add pe_int (pe_call G_l_pick (hr.mono (by decide)) (by rfl) T.g_l_pick T.k_l_pick T.b_l_pick .nil pass0 (pa_cons (pv 0) (pa_cons pe_int pa_nil)))) pa_nil))))))), ?_⟩
    obtain ⟨px, dx, tt, xs, rfl, hpx, ht, hss⟩ := id hw
    walk_at "r"
    refine ⟨_, _, _, _, _, rfl, hpx, T.w_Web.it.cl, T.n_Web_wares, wF_wares _ _, ?_⟩
    walk_at "r"
    refine ⟨by omega, by omega, fun S nS => ?_⟩
    have nSD := dk.ne nS
    have nSC := dk.neC nS
    refine lc_range (lo := 0) (n := n) (fun i H' => ∃ xs rs, Fw D H H' ∧ H' S = some (.lst xs) ∧ xs.length = i ∧ Paired (IsH H') xs rs ∧ (∀ r ∈ rs, 0 ≤ r ∧ Bd 3 r) ∧ Deck M D Cd H' (c + 2 * i)) ?_ ?_ ?_
    · exact ⟨[], [], Same.fw (same_upd nS), upd_same, rfl, .nil, by simp, (dk.same (same_upd nS)).mono (by omega)⟩
    · rintro i H' hi ⟨xs, rs, fw, hS', hlen, hst, hok, k⟩
      walk_at "r"
      refine ⟨rfl, ?_⟩
      walk_at "r"
      refine ⟨D, Cd, _, _, rfl, ⟨by decide, by decide⟩, k, by omega, fun H1 r1 w1 k1 a1 b1 => ?_⟩
      walk_at "r"
      refine ⟨D, Cd, _, _, rfl, ⟨by decide, by decide⟩, k1, by omega, fun H2 r2 w2 k2 a2 b2 => ?_⟩
      walk_at "r"
      have hb : (1 + r2).natAbs < 2 ^ 3 := by omega
      refine ⟨_, _, rfl, by omega, Nat.lt_of_lt_of_le hb (pow_le (by decide)), fun H3 v s3 hv => ?_⟩
      have w3 := (w1.trans w2).trans (Same.fw (D := D) s3)
      have k3 := k2.same s3
      have hS3 := w3 _ _ nSD hS'
      refine ⟨xs, hS3, small1000 (by omega), ?_⟩
      have tp := tps_put (H1 := H3) (o := .lst (xs ++ [v])) hS3
      have up : ∀ {y : V} {r : Rat}, IsH H3 y r → IsH (upd H3 S (.lst (xs ++ [v]))) y r := fun ⟨p, e, h⟩ => ⟨p, e, tp _ _ h⟩
      refine ⟨xs ++ [v], rs ++ [Rat.divInt r1 (1 + r2)], fun b o hb h => (upd_ne (ne_of_none h nS)).trans (w3 _ _ hb (fw _ _ hb h)), upd_same, by simp [hlen], prd_app (prd_imp (fun _ _ h => up (h.fw k w3)) hst) (.cons (up hv) .nil), fun r hr => ?_, (k3.put nSD nSC).mono (by omega)⟩
      rcases List.mem_append.mp hr with h | h
      · exact hok r h
      · rw [List.mem_singleton.mp h]
        exact ⟨divInt_ge (by omega) (by omega), Bd.divInt (by omega) (by omega) hb⟩
    · rintro H' ⟨xs, rs, fw, hS', hlen, hst, hok, k⟩
      have hl := Paired.length hst
      exact q _ S xs rs fw (k.mono (by omega)) nSD nS hS' hst (by omega) hok
/-- what stands while the menu of rows is drawn -/
structure G14 (K : PySem.W.Frag) (M : Nat) (D Cd R : Addr) (c n : Nat) (H0 H : Hp) (xs : List V) (odd : V) (us : List V) : Prop where
  dk : Deck M D Cd H c
  f : Fw D H0 H
  hR : H R = some (.lst xs)
  RD : R ≠ D
  fj : Fjs K D H xs
  oj : ∃ r, JF K D H odd r
  J : ∀ u ∈ us, Rj K D H n u
theorem G14.same {M : Nat} {D Cd R : Addr} {c n : Nat} {H0 H H' : Hp} {xs : List V} {odd : V} {us : List V} (g : G14 K M D Cd R c n H0 H xs odd us) (s : Same H H') : G14 K M D Cd R c n H0 H' xs odd us :=
  ⟨g.dk.same s, g.f.trans (Same.fw s), s _ _ g.hR, g.RD, g.fj.fw g.dk (Same.fw s), g.oj.elim fun r h => ⟨r, h.fw g.dk (Same.fw s)⟩, fun u m => (g.J u m).fw g.dk (Same.fw s)⟩
theorem G14.add {M : Nat} {D Cd R : Addr} {c n : Nat} {H0 H : Hp} {xs : List V} {odd v : V} {us : List V} (g : G14 K M D Cd R c n H0 H xs odd us) (h : Rj K D H n v) : G14 K M D Cd R c n H0 H xs odd (us ++ [v]) :=
  ⟨g.dk, g.f, g.hR, g.RD, g.fj, g.oj, fun u m => (List.mem_append.mp m).elim (g.J u) fun m => by
    rw [List.mem_singleton.mp m]
    exact h⟩
def sp_lbadrow (K : PySem.W.Frag) (C : Addr) (M : Nat) : Sp := fun vs H Q _ => ∃ (D Cd : Addr) (c n : Nat) (x : V) (ss : List Stl), vs = [.ref D, x] ∧ Deck M D Cd H c ∧ c ≤ 2 ^ 37 ∧ IsWeb K C H x n ss ∧ 1 ≤ n ∧ n ≤ 8 ∧ ∀ H' v b, Fw D H H' → Deck M D Cd H' (c + 40) → JRw K D H' n v b → Q v H'
theorem ok_l_bad_row {M : Nat} (hM : 64 ≤ M) (hM2 : M ≤ 1048576) (T : Txt K mg f_is_integer f_is_row f_is_fraction f_is_amount f_is_some f_are_amounts f_added f_negated f_lessened f_multiplied f_divided f_squared f_summed f_lies_below f_is_stall f_hold_of f_stalls_of f_kept_of f_held f_is_index f_is_move f_check_purse f_check_wish f_stall_led f_stall_behind f_stalls_behind f_deal_fault f_check_deal f_web_behind f_left_with f_played f_owes f_is_deal f_stands_alike f_check_alike f_change_of f_l_deck f_l_pick f_l_fold f_l_divisor f_l_made f_l_amount f_l_stall f_l_deep f_l_odd f_l_row f_l_bad_row f_l_move f_l_bad_deal f_l_is_some f_l_is_row f_l_is_below f_l_is_move f_l_due f_l_answer f_l_word f_l_word_is_due f_law f_BadDeal_init f_Web_init f_Web_eq c_BadPurse c_BadWish c_BadDeal c_Web c_ZERO d_is_integer d_is_row d_is_fraction d_is_amount d_is_some d_are_amounts d_added d_negated d_lessened d_multiplied d_divided d_squared d_summed d_lies_below d_is_stall d_hold_of d_stalls_of d_kept_of d_held d_is_index d_is_move d_check_purse d_check_wish d_stall_led d_stall_behind d_stalls_behind d_deal_fault d_check_deal d_web_behind d_left_with d_played d_owes d_is_deal d_stands_alike d_check_alike d_change_of d_l_deck d_l_pick d_l_fold d_l_divisor d_l_made d_l_amount d_l_stall d_l_deep d_l_odd d_l_row d_l_bad_row d_l_move d_l_bad_deal d_l_is_some d_l_is_row d_l_is_below d_l_is_move d_l_due d_l_answer d_l_word d_l_word_is_due d_law d_BadDeal_init d_Web_init d_Web_eq) : FnOk P w K mg base CX0 4 f_l_bad_row d_l_bad_row ["_law_deck_here", "_law_web"] (sp_lbadrow K c_Web M) := by
  have G_l_pick : FnOk P w K mg base CX0 1 f_l_pick d_l_pick ["_law_deck_here", "_law_many"] (sp_pick M) := ok_pick hM hM2 T
  have G_l_row : FnOk P w K mg base CX0 3 f_l_row d_l_row ["_law_deck_here", "_law_web"] (sp_lrow14 K c_Web M) := ok_l_row14 hM hM2 T
  have G_l_odd : FnOk P w K mg base CX0 3 f_l_odd d_l_odd ["_law_deck_here", "_law_web"] (sp_lodd14 K c_Web M) := ok_l_odd14 hM hM2 T
  refine T.F_l_bad_row.ok sc_l_bad_row (fun vs H Q E h => ?_) (fun cdv A outer s H vs Q E hr h => ?_)
  · obtain ⟨D, Cd, c, n, x, ss, rfl, _⟩ := h
    rfl
  · obtain ⟨D, Cd, c, n, x, ss, rfl, dk, hc, hw, n1, n8, q⟩ := h
    refine ⟨_, (pss_cons (ps_set (i := 2) sc_l_bad_row.nd rfl (by first | exact Or.inl rfl | exact Or.inr rfl) (pe_call G_l_row (hr.mono (by decide)) (by rfl) T.g_l_row T.k_l_row T.b_l_row .nil pass0 (pa_cons (pv 0) (pa_cons (pv 1) pa_nil))))
      (pss_cons (ps_set (i := 3) sc_l_bad_row.nd rfl (by first | exact Or.inl rfl | exact Or.inr rfl) (pe_call G_l_pick (hr.mono (by decide)) (by rfl) T.g_l_pick T.k_l_pick T.b_l_pick .nil pass0 (pa_cons (pv 0) (pa_cons (pe_callB call_lenN (by rfl) T.z_len (by decide +kernel) (pa_cons (pv 2) pa_nil)) pa_nil))))
      (pss_cons (ps_set (i := 4) sc_l_bad_row.nd rfl (by first | exact Or.inl rfl | exact Or.inr rfl) (pe_call G_l_odd (hr.mono (by decide)) (by rfl) T.g_l_odd T.k_l_odd T.b_l_odd .nil pass0 (pa_cons (pv 0) (pa_cons (pv 1) pa_nil))))
      (pss_cons (ps_set (i := 5) sc_l_bad_row.nd rfl (by first | exact Or.inl rfl | exact Or.inr rfl) (pe_lst (pa_cons (pe_op op_cat (pv 2) (pe_lst (pa_cons (pe_tup (pa_cons pe_int (pa_cons pe_int pa_nil))) pa_nil))) (pa_cons (pe_slice sl_list (pv 2) (po_some pe_int) po_none) (pa_cons (pv 4) (pa_cons pe_non (pa_cons pe_dnewK (pa_cons (pe_op My.op_repS pe_str (pe_fld (pv 1) rfl)) (pa_cons (pv 2) (pa_cons (pe_callTy call_tuple_of (by rfl) T.z_tuple (by decide +kernel) (pa_cons (pv 2) pa_nil)) (pa_cons (pe_callTy call_tuple_of (by rfl) T.z_tuple (by decide +kernel) (pa_cons (pe_slice sl_list (pv 2) (po_some pe_int) po_none) pa_nil)) pa_nil)))))))))))
      (pss_cons (ps_set (i := 5) sc_l_bad_row.nd rfl (by first | exact Or.inl rfl | exact Or.inr rfl) (pe_op op_cat (pv 5) (pe_op op_rep (pe_lst (pa_cons (pe_op op_cat (pe_op op_cat (pe_slice sl_list (pv 2) po_none (po_some (pv 3))) (pe_lst (pa_cons (pv 4) pa_nil))) (pe_slice sl_list (pv 2) (po_some (pe_op op_add (pv 3) pe_int)) po_none)) (pa_cons (pe_callTy call_tuple_of (by rfl) T.z_tuple (by decide +kernel) (pa_cons (pe_op op_cat (pe_op op_cat (pe_slice sl_list (pv 2) po_none (po_some (pv 3))) (pe_lst (pa_cons (pv 4) pa_nil))) (pe_slice sl_list (pv 2) (po_some (pe_op op_add (pv 3) pe_int)) po_none)) pa_nil)) pa_nil))) pe_int)))
      (pss_one (ps_ret (pe_ix ix_list (pv 5) (pe_call G_l_pick (hr.mono (by decide)) (by rfl) T.g_l_pick T.k_l_pick T.b_l_pick .nil pass0 (pa_cons (pv 0) (pa_cons pe_int pa_nil))) (fun _ _ => rfl))))))))), ?_⟩
    walk_at "r"
    refine ⟨D, Cd, _, n, _, ss, rfl, dk, by omega, hw, n8, fun H1 R xs rs w1 k1 RD nR hR hst hlr hok => ?_⟩
    have hlx := Paired.length hst
    walk_at "r"
    refine ⟨D, Cd, _, _, rfl, ⟨by omega, by omega⟩, k1, by omega, fun H2 r2 w2 k2 a2 b2 => ?_⟩
    obtain ⟨i, rfl⟩ := Int.eq_ofNat_of_zero_le a2
    have hi : i < n := by omega
    have hR2 := w2 _ _ RD hR
    have fj2 : Fjs K D H2 xs := fun y hy => by
      obtain ⟨j, hj⟩ := List.getElem?_of_mem hy
      obtain ⟨r, hr', h'⟩ := Paired.at hst hj
      have b := (hok r (List.mem_of_getElem? hr')).2
      exact ⟨some r, .inl ⟨r, (h'.fw k1 w2).isF, b.mono (by decide), rfl⟩⟩
    have f2 := w1.trans w2
    have hw2 := (hw.fw w1 dk).fw w2 k1
    walk_at "r"
    refine ⟨D, Cd, _, n, _, ss, rfl, k2, by omega, hw2, fun H3 odd w3 k3 jo => ?_⟩
    have hw3 := hw2.fw w3 k2
    have g : G14 K M D Cd R (c + 16 + 1 + 4) n H H3 xs odd [] := ⟨k3, f2.trans w3, w3 _ _ RD hR2, RD, fj2.fw k2 w3, oj_jf jo.oj, fun u m => by cases m⟩
    have jr := jo.rj
    clear w1 w2 w3 k1 k2 k3 hst hR hR2 fj2 f2 hw2
    walk_at "r"
    intro p1 np1
    have s1 := same_upd (o := .tup [V.int 0, .int 1]) np1
    have h1 : upd H3 p1 (.tup [V.int 0, .int 1]) p1 = some (.tup [V.int 0, .int 1]) := upd_same
    have n1 := g.dk.ne np1
    have jr := jr.fw g.dk (Same.fw s1)
    have hw3 := hw3.same s1
    have g := g.same s1
    generalize upd H3 p1 (.tup [V.int 0, .int 1]) = K1 at *
    obtain ⟨r01, j01⟩ : ∃ r, JF K D K1 (.ref p1) r := ⟨_, jf_pair n1 h1 (by decide) (by decide)⟩
    walk_at "r"
    intro p2 np2
    have s2 := same_upd (o := .lst [V.ref p1]) np2
    have h2 : upd K1 p2 (.lst [V.ref p1]) p2 = some (.lst [V.ref p1]) := upd_same
    have n2 := g.dk.ne np2
    have jr := jr.fw g.dk (Same.fw s2)
    have hw3 := hw3.same s2
    have g := g.same s2
    generalize upd K1 p2 (.lst [V.ref p1]) = K2 at *
    have j01 := j01.same s2
    refine rd_catn g.hR h2 (by simp; omega) fun p3 K3 np3 s3 h3 => ?_
    have n3 := g.dk.ne np3
    have jr := jr.fw g.dk (Same.fw s3)
    have hw3 := hw3.same s3
    have g := g.same s3
    have j01 := j01.same s3
    have g := g.add (rj_seq n3 (.inl h3) (g.fj.app (Fjs.one ⟨r01, j01⟩)) (by simp; omega))
    walk_at "r"
    refine rd_slLs g.hR fun p4 K4 np4 s4 h4 => ?_
    rw [show (1 : Int) = ((1 : Nat) : Int) from rfl, cut_drop] at h4
    have n4 := g.dk.ne np4
    have jr := jr.fw g.dk (Same.fw s4)
    have hw3 := hw3.same s4
    have g := g.same s4
    have g := g.add (rj_seq n4 (.inl h4) (g.fj.drop 1) (by simp; omega))
    have g := g.add jr
    have g := g.add (rj_no nosq_non)
    walk_at "r"
    intro p5 np5
    have s5 := same_upd (o := .dK []) np5
    have h5 : upd K4 p5 (.dK []) p5 = some (.dK []) := upd_same
    have n5 := g.dk.ne np5
    have jr := jr.fw g.dk (Same.fw s5)
    have hw3 := hw3.same s5
    have g := g.same s5
    generalize upd K4 p5 (.dK []) = K5 at *
    have g := g.add (rj_no (nosq_dK n5 h5))
    walk_at "r"
    obtain ⟨px, dx, tt, ys, e0, hpx, _⟩ := id hw3
    cases e0
    refine ⟨_, _, _, _, _, rfl, hpx, T.w_Web.it.cl, T.n_Web_wares, wF_wares _ _, ?_⟩
    walk_at "r"
    refine ⟨_, _, rfl, rfl, by decide, by omega, by omega, fun str0 => ?_⟩
    clear hpx
    have g := g.add (rj_no (nosq_str (s := str0)))
    have g := g.add (rj_seq g.RD (.inl g.hR) g.fj (by omega))
    walk_at "r"
    refine ⟨R, _, rfl, .inl ⟨.of g.hR, fun p6 np6 => ?_⟩⟩
    have s6 := same_upd (o := .tup xs) np6
    have h6 : upd K5 p6 (.tup xs) p6 = some (.tup xs) := upd_same
    have n6 := g.dk.ne np6
    have jr := jr.fw g.dk (Same.fw s6)
    have hw3 := hw3.same s6
    have g := g.same s6
    generalize upd K5 p6 (.tup xs) = K6 at *
    have g := g.add (rj_seq n6 (.inr h6) g.fj (by omega))
    walk_at "r"
    refine rd_slLs g.hR fun p7 K7 np7 s7 h7 => ?_
    rw [show (1 : Int) = ((1 : Nat) : Int) from rfl, cut_drop] at h7
    have n7 := g.dk.ne np7
    have jr := jr.fw g.dk (Same.fw s7)
    have hw3 := hw3.same s7
    have g := g.same s7
    walk_at "r"
    refine ⟨p7, _, rfl, .inl ⟨.of h7, fun p8 np8 => ?_⟩⟩
    have s8 := same_upd (o := .tup (xs.drop 1)) np8
    have h8 : upd K7 p8 (.tup (xs.drop 1)) p8 = some (.tup (xs.drop 1)) := upd_same
    have n8 := g.dk.ne np8
    have jr := jr.fw g.dk (Same.fw s8)
    have hw3 := hw3.same s8
    have g := g.same s8
    generalize upd K7 p8 (.tup (xs.drop 1)) = K8 at *
    have g := g.add (rj_seq n8 (.inr h8) (g.fj.drop 1) (by simp; omega))
    walk_at "r"
    have g : G14 K M D Cd R (c + 16 + 1 + 4) n H K8 xs odd [V.ref p3, .ref p4, odd, .non, .ref p5, .str str0, .ref R, .ref p6, .ref p8] := g
    generalize hus : [V.ref p3, .ref p4, odd, .non, .ref p5, .str str0, .ref R, .ref p6, .ref p8] = us at *
    have hlen : us.length = 9 := by rw [← hus]; rfl
    clear hus
    intro p9 np9
    have s9 := same_upd (o := .lst us) np9
    have h9 : upd K8 p9 (.lst us) p9 = some (.lst us) := upd_same
    have n9 := g.dk.ne np9
    have jr := jr.fw g.dk (Same.fw s9)
    have hw3 := hw3.same s9
    have g := g.same s9
    generalize upd K8 p9 (.lst us) = K9 at *
    walk_at "r"
    refine rd_slLs g.hR fun p10 K10 np10 s10 h10 => ?_
    rw [cut_take] at h10
    have n10 := g.dk.ne np10
    have jr := jr.fw g.dk (Same.fw s10)
    have hw3 := hw3.same s10
    have g := g.same s10
    have h9 := s10 _ _ h9
    walk_at "r"
    intro p11 np11
    have s11 := same_upd (o := .lst [odd]) np11
    have h11 : upd K10 p11 (.lst [odd]) p11 = some (.lst [odd]) := upd_same
    have n11 := g.dk.ne np11
    have jr := jr.fw g.dk (Same.fw s11)
    have hw3 := hw3.same s11
    have g := g.same s11
    have h9 := s11 _ _ h9
    have h10 := s11 _ _ h10
    generalize upd K10 p11 (.lst [odd]) = K11 at *
    refine rd_catn h10 h11 (by simp; omega) fun p12 K12 np12 s12 h12 => ?_
    have n12 := g.dk.ne np12
    have jr := jr.fw g.dk (Same.fw s12)
    have hw3 := hw3.same s12
    have g := g.same s12
    have h9 := s12 _ _ h9
    walk_at "r"
    refine rd_slLs g.hR fun p13 K13 np13 s13 h13 => ?_
    rw [cut_drop1] at h13
    have n13 := g.dk.ne np13
    have jr := jr.fw g.dk (Same.fw s13)
    have hw3 := hw3.same s13
    have g := g.same s13
    have h9 := s13 _ _ h9
    have h12 := s13 _ _ h12
    refine rd_catn h12 h13 (by simp; omega) fun p14 K14 np14 s14 h14 => ?_
    have n14 := g.dk.ne np14
    have jr := jr.fw g.dk (Same.fw s14)
    have hw3 := hw3.same s14
    have g := g.same s14
    have h9 := s14 _ _ h9
    have jn1 : Rj K D K14 n (.ref p14) := rj_seq n14 (.inl h14) ((Fjs.app (Fjs.app (g.fj.take i) (Fjs.one g.oj)) (g.fj.drop (i + 1)))) (by simp; omega)
    walk_at "r"
    refine rd_slLs g.hR fun p15 K15 np15 s15 h15 => ?_
    rw [cut_take] at h15
    have n15 := g.dk.ne np15
    have jn1 := jn1.fw g.dk (Same.fw s15)
    have jr := jr.fw g.dk (Same.fw s15)
    have hw3 := hw3.same s15
    have g := g.same s15
    have h9 := s15 _ _ h9
    walk_at "r"
    intro p16 np16
    have s16 := same_upd (o := .lst [odd]) np16
    have h16 : upd K15 p16 (.lst [odd]) p16 = some (.lst [odd]) := upd_same
    have n16 := g.dk.ne np16
    have jn1 := jn1.fw g.dk (Same.fw s16)
    have jr := jr.fw g.dk (Same.fw s16)
    have hw3 := hw3.same s16
    have g := g.same s16
    have h9 := s16 _ _ h9
    have h15 := s16 _ _ h15
    generalize upd K15 p16 (.lst [odd]) = K16 at *
    refine rd_catn h15 h16 (by simp; omega) fun p17 K17 np17 s17 h17 => ?_
    have n17 := g.dk.ne np17
    have jn1 := jn1.fw g.dk (Same.fw s17)
    have jr := jr.fw g.dk (Same.fw s17)
    have hw3 := hw3.same s17
    have g := g.same s17
    have h9 := s17 _ _ h9
    walk_at "r"
    refine rd_slLs g.hR fun p18 K18 np18 s18 h18 => ?_
    rw [cut_drop1] at h18
    have n18 := g.dk.ne np18
    have jn1 := jn1.fw g.dk (Same.fw s18)
    have jr := jr.fw g.dk (Same.fw s18)
    have hw3 := hw3.same s18
    have g := g.same s18
    have h9 := s18 _ _ h9
    have h17 := s18 _ _ h17
    refine rd_catn h17 h18 (by simp; omega) fun p19 K19 np19 s19 h19 => ?_
    have n19 := g.dk.ne np19
    have jn1 := jn1.fw g.dk (Same.fw s19)
    have jr := jr.fw g.dk (Same.fw s19)
    have hw3 := hw3.same s19
    have g := g.same s19
    have h9 := s19 _ _ h9
    walk_at "r"
    refine ⟨p19, _, rfl, .inl ⟨.of h19, fun p20 np20 => ?_⟩⟩
    have s20 := same_upd (o := .tup (xs.take i ++ [odd] ++ xs.drop (i + 1))) np20
    have h20 : upd K19 p20 (.tup (xs.take i ++ [odd] ++ xs.drop (i + 1))) p20 = some (.tup (xs.take i ++ [odd] ++ xs.drop (i + 1))) := upd_same
    have n20 := g.dk.ne np20
    have jn1 := jn1.fw g.dk (Same.fw s20)
    have jr := jr.fw g.dk (Same.fw s20)
    have hw3 := hw3.same s20
    have g := g.same s20
    have h9 := s20 _ _ h9
    generalize upd K19 p20 (.tup (xs.take i ++ [odd] ++ xs.drop (i + 1))) = K20 at *
    have jn2 : Rj K D K20 n (.ref p20) := rj_seq n20 (.inr h20) ((Fjs.app (Fjs.app (g.fj.take i) (Fjs.one g.oj)) (g.fj.drop (i + 1)))) (by simp; omega)
    walk_at "r"
    intro p21 np21
    have s21 := same_upd (o := .lst [V.ref p14, .ref p20]) np21
    have h21 : upd K20 p21 (.lst [V.ref p14, .ref p20]) p21 = some (.lst [V.ref p14, .ref p20]) := upd_same
    have n21 := g.dk.ne np21
    have jn2 := jn2.fw g.dk (Same.fw s21)
    have jn1 := jn1.fw g.dk (Same.fw s21)
    have jr := jr.fw g.dk (Same.fw s21)
    have hw3 := hw3.same s21
    have g := g.same s21
    have h9 := s21 _ _ h9
    generalize upd K20 p21 (.lst [V.ref p14, .ref p20]) = K21 at *
    refine ⟨p21, 3, _, rfl, rfl, h21, by decide, by decide, by rw [sizeLine_eq]; show 2 * 3 ≤ 16777216; decide, fun p22 np22 => ?_⟩
    have s22 := same_upd (o := .lst (List.replicate (3 : Int).toNat [V.ref p14, .ref p20]).flatten) np22
    have h22 : upd K21 p22 (.lst (List.replicate (3 : Int).toNat [V.ref p14, .ref p20]).flatten) p22 = some (.lst [V.ref p14, .ref p20, .ref p14, .ref p20, .ref p14, .ref p20]) := upd_same
    have jn2 := jn2.fw g.dk (Same.fw s22)
    have jn1 := jn1.fw g.dk (Same.fw s22)
    have jr := jr.fw g.dk (Same.fw s22)
    have hw3 := hw3.same s22
    have g := g.same s22
    have h9 := s22 _ _ h9
    generalize upd K21 p22 (.lst (List.replicate (3 : Int).toNat [V.ref p14, .ref p20]).flatten) = K22 at *
    have g := (((((g.add jn1).add jn2).add jn1).add jn2).add jn1).add jn2
    have g : G14 K M D Cd R (c + 16 + 1 + 4) n H K22 xs odd (us ++ [V.ref p14, .ref p20, .ref p14, .ref p20, .ref p14, .ref p20]) := by
      simpa only [List.append_assoc, List.cons_append, List.nil_append] using g
    have hlen : (us ++ [V.ref p14, .ref p20, .ref p14, .ref p20, .ref p14, .ref p20]).length = 15 := by rw [List.length_append, hlen]; rfl
    refine rd_catn h9 h22 (by rw [← List.length_append, hlen]; decide) fun p23 K23 np23 s23 h23 => ?_
    have n23 := g.dk.ne np23
    have g := g.same s23
    generalize us ++ [V.ref p14, .ref p20, .ref p14, .ref p20, .ref p14, .ref p20] = ws at *
    walk_at "r"
    refine ⟨D, Cd, _, _, rfl, ⟨by decide, by decide⟩, g.dk, by omega, fun Hf r wf kf a0 b0 => ?_⟩
    obtain ⟨z, hz, ez⟩ := at_in (m := 15) hlen a0 b0
    refine rd_ixL (wf _ _ n23 h23) ez ?_
    obtain ⟨b, jb⟩ := (g.J z hz).fw g.dk wf
    exact q _ _ b (g.f.trans wf) (kf.mono (by omega)) jb
end
end My
namespace My
open PySem PySem.Spec PyProof.Rows L2
variable {K : PySem.W.Frag}
theorem mem_snoc {P : V → Prop} {us : List V} {v : V} (h : ∀ u ∈ us, P u) (g : P v) : ∀ u ∈ us ++ [v], P u := fun u m => (List.mem_append.mp m).elim (h u) fun m => by
  rw [List.mem_singleton.mp m]
  exact g
/-- a right move that was drawn -/
def M14 (H : Hp) (ss : List Stl) (v : V) : Prop := ∃ (p : Addr) (i w : Nat) (va : V) (r : Rat) (s : Stl), v = .ref p ∧ H p = some (.tup [.int (i : Nat), .int (w : Nat), va]) ∧ IsH H va r ∧ Bd 3 r ∧ 0 < r ∧ ss[i]? = some s ∧ (w = s.u ∨ w = s.v)
theorem M14.fw {M c : Nat} {D C : Addr} {H H' : Hp} {ss : List Stl} {v : V} (m : M14 H ss v) (dk : Deck M D C H c) (f : Fw D H H') : M14 H' ss v := by
  obtain ⟨p, i, w, va, r, s, e, h, hv, rest⟩ := m
  exact ⟨p, i, w, va, r, s, e, (f.ts dk) _ _ h, hv.fw dk f, rest⟩
theorem M14.jm {M c : Nat} {D C : Addr} {H : Hp} {ss : List Stl} {v : V} (m : M14 H ss v) (dk : Deck M D C H c) : ∃ t, JM K D H v t := by
  obtain ⟨p, i, w, va, r, s, rfl, h, hv, br, _⟩ := m
  exact jm_three (tup_ne dk h) h (.inl ⟨_, rfl, rfl⟩) (.inl ⟨_, rfl, rfl⟩) (hv.oj (K := K) dk (br.mono (by decide))).2.1
/-- what stands while a bad deal is drawn -/
structure E14 (K : PySem.W.Frag) (M : Nat) (CW D Cd : Addr) (c n : Nat) (ss : List Stl) (x : V) (H0 H : Hp) (odd : V) (L : Addr) (xs : List V) : Prop where
  dk : Deck M D Cd H c
  f : Fw D H0 H
  web : IsWeb K CW H x n ss
  oj : Ok14 K D H n ss odd
  hL : H L = some (.lst xs)
  LD : L ≠ D
  J : Jms K D H xs
theorem E14.same {M : Nat} {CW D Cd L : Addr} {c n : Nat} {ss : List Stl} {x : V} {H0 H H' : Hp} {odd : V} {xs : List V} (g : E14 K M CW D Cd c n ss x H0 H odd L xs) (s : Same H H') : E14 K M CW D Cd c n ss x H0 H' odd L xs :=
  ⟨g.dk.same s, g.f.trans (Same.fw s), g.web.same s, g.oj.fw g.dk (Same.fw s), s _ _ g.hL, g.LD, g.J.fw g.dk (Same.fw s)⟩
theorem E14.fw {M : Nat} {CW D Cd L : Addr} {c c' n : Nat} {ss : List Stl} {x : V} {H0 H H' : Hp} {odd : V} {xs : List V} (g : E14 K M CW D Cd c n ss x H0 H odd L xs) (f : Fw D H H') (k : Deck M D Cd H' c') : E14 K M CW D Cd c' n ss x H0 H' odd L xs :=
  ⟨k, g.f.trans f, g.web.fw f g.dk, g.oj.fw g.dk f, f _ _ g.LD g.hL, g.LD, g.J.fw g.dk f⟩
section
variable {P : Program} {w : World} {K : PySem.W.Frag} {mg : Str → Option Value} {base : Heap} {f_is_integer f_is_row f_is_fraction f_is_amount f_is_some f_are_amounts f_added f_negated f_lessened f_multiplied f_divided f_squared f_summed f_lies_below f_is_stall f_hold_of f_stalls_of f_kept_of f_held f_is_index f_is_move f_check_purse f_check_wish f_stall_led f_stall_behind f_stalls_behind f_deal_fault f_check_deal f_web_behind f_left_with f_played f_owes f_is_deal f_stands_alike f_check_alike f_change_of f_l_deck f_l_pick f_l_fold f_l_divisor f_l_made f_l_amount f_l_stall f_l_deep f_l_odd f_l_row f_l_bad_row f_l_move f_l_bad_deal f_l_is_some f_l_is_row f_l_is_below f_l_is_move f_l_due f_l_answer f_l_word f_l_word_is_due f_law f_BadDeal_init f_Web_init f_Web_eq c_BadPurse c_BadWish c_BadDeal c_Web c_ZERO : Addr} {d_is_integer d_is_row d_is_fraction d_is_amount d_is_some d_are_amounts d_added d_negated d_lessened d_multiplied d_divided d_squared d_summed d_lies_below d_is_stall d_hold_of d_stalls_of d_kept_of d_held d_is_index d_is_move d_check_purse d_check_wish d_stall_led d_stall_behind d_stalls_behind d_deal_fault d_check_deal d_web_behind d_left_with d_played d_owes d_is_deal d_stands_alike d_check_alike d_change_of d_l_deck d_l_pick d_l_fold d_l_divisor d_l_made d_l_amount d_l_stall d_l_deep d_l_odd d_l_row d_l_bad_row d_l_move d_l_bad_deal d_l_is_some d_l_is_row d_l_is_below d_l_is_move d_l_due d_l_answer d_l_word d_l_word_is_due d_law d_BadDeal_init d_Web_init d_Web_eq : FuncData}
def sp_am14 (M : Nat) : Sp := fun vs H Q _ => ∃ (D C : Addr) (c : Nat), vs = [.ref D] ∧ Deck M D C H c ∧ c ≤ 2 ^ 39 ∧ ∀ H' v r, Fw D H H' → Deck M D C H' (c + 2) → IsH H' v r → Bd 3 r → 0 < r → Q v H'
theorem ok_l_amount14 {M : Nat} (hM : 64 ≤ M) (hM2 : M ≤ 1048576) (T : Txt K mg f_is_integer f_is_row f_is_fraction f_is_amount f_is_some f_are_amounts f_added f_negated f_lessened f_multiplied f_divided f_squared f_summed f_lies_below f_is_stall f_hold_of f_stalls_of f_kept_of f_held f_is_index f_is_move f_check_purse f_check_wish f_stall_led f_stall_behind f_stalls_behind f_deal_fault f_check_deal f_web_behind f_left_with f_played f_owes f_is_deal f_stands_alike f_check_alike f_change_of f_l_deck f_l_pick f_l_fold f_l_divisor f_l_made f_l_amount f_l_stall f_l_deep f_l_odd f_l_row f_l_bad_row f_l_move f_l_bad_deal f_l_is_some f_l_is_row f_l_is_below f_l_is_move f_l_due f_l_answer f_l_word f_l_word_is_due f_law f_BadDeal_init f_Web_init f_Web_eq c_BadPurse c_BadWish c_BadDeal c_Web c_ZERO d_is_integer d_is_row d_is_fraction d_is_amount d_is_some d_are_amounts d_added d_negated d_lessened d_multiplied d_divided d_squared d_summed d_lies_below d_is_stall d_hold_of d_stalls_of d_kept_of d_held d_is_index d_is_move d_check_purse d_check_wish d_stall_led d_stall_behind d_stalls_behind d_deal_fault d_check_deal d_web_behind d_left_with d_played d_owes d_is_deal d_stands_alike d_check_alike d_change_of d_l_deck d_l_pick d_l_fold d_l_divisor d_l_made d_l_amount d_l_stall d_l_deep d_l_odd d_l_row d_l_bad_row d_l_move d_l_bad_deal d_l_is_some d_l_is_row d_l_is_below d_l_is_move d_l_due d_l_answer d_l_word d_l_word_is_due d_law d_BadDeal_init d_Web_init d_Web_eq) : FnOk P w K mg base CX0 3 f_l_amount d_l_amount ["_law_deck_here"] (sp_am14 M) := by
  have G_l_pick : FnOk P w K mg base CX0 1 f_l_pick d_l_pick ["_law_deck_here", "_law_many"] (sp_pick M) := ok_pick hM hM2 T
  have G_l_made : FnOk P w K mg base CX0 2 f_l_made d_l_made ["_law_top", "_law_bottom"] sp_madeH := ok_l_madeH T
  refine T.F_l_amount.ok sc_l_amount (fun vs H Q E h => ?_) (fun cdv A outer s H vs Q E hr h => ?_)
  · obtain ⟨D, C, c, rfl, _⟩ := h
    rfl
  · obtain ⟨D, C, c, rfl, dk, hc, q⟩ := h
    refine ⟨_, (pss_one (ps_ret (pe_call G_l_made (hr.mono (by decide)) (by rfl) T.g_l_made T.k_l_made T.b_l_made .nil pass0 (pa_cons (pe_op op_add pe_int (pe_call G_l_pick (hr.mono (by decide)) (by rfl) T.g_l_pick T.k_l_pick T.b_l_pick .nil pass0 (pa_cons (pv 0) (pa_cons pe_int pa_nil)))) (pa_cons (pe_op op_add pe_int (pe_call G_l_pick (hr.mono (by decide)) (by rfl) T.g_l_pick T.k_l_pick T.b_l_pick .nil pass0 (pa_cons (pv 0) (pa_cons pe_int pa_nil)))) pa_nil))))), ?_⟩
    walk_at "r"
    refine ⟨_, _, _, _, rfl, ⟨by decide, by decide⟩, dk, by omega, fun H1 r1 w1 k1 a1 b1 => ?_⟩
    walk_at "r"
    refine ⟨_, _, _, _, rfl, ⟨by decide, by decide⟩, k1, by omega, fun H2 r2 w2 k2 a2 b2 => ?_⟩
    walk_at "r"
    have hb : (1 + r2).natAbs < 2 ^ 3 := by omega
    refine ⟨_, _, rfl, by omega, Nat.lt_of_lt_of_le hb (pow_le (by decide)), fun H3 v s3 hv => ?_⟩
    exact q _ _ _ ((w1.trans w2).trans (Same.fw s3)) (k2.same s3) hv (Bd.divInt (by omega) (by omega) hb) (divInt_pos (by omega) (by omega))
def sp_lmove14 (K : PySem.W.Frag) (C : Addr) (M : Nat) : Sp := fun vs H Q _ => ∃ (D Cd : Addr) (c n : Nat) (x : V) (ss : List Stl), vs = [.ref D, x] ∧ Deck M D Cd H c ∧ c ≤ 2 ^ 38 ∧ IsWeb K C H x n ss ∧ 1 ≤ ss.length ∧ ss.length ≤ 16 ∧ ∀ H' v, Fw D H H' → Deck M D Cd H' (c + 4) → M14 H' ss v → Q v H'
theorem ok_l_move14 {M : Nat} (hM : 64 ≤ M) (hM2 : M ≤ 1048576) (T : Txt K mg f_is_integer f_is_row f_is_fraction f_is_amount f_is_some f_are_amounts f_added f_negated f_lessened f_multiplied f_divided f_squared f_summed f_lies_below f_is_stall f_hold_of f_stalls_of f_kept_of f_held f_is_index f_is_move f_check_purse f_check_wish f_stall_led f_stall_behind f_stalls_behind f_deal_fault f_check_deal f_web_behind f_left_with f_played f_owes f_is_deal f_stands_alike f_check_alike f_change_of f_l_deck f_l_pick f_l_fold f_l_divisor f_l_made f_l_amount f_l_stall f_l_deep f_l_odd f_l_row f_l_bad_row f_l_move f_l_bad_deal f_l_is_some f_l_is_row f_l_is_below f_l_is_move f_l_due f_l_answer f_l_word f_l_word_is_due f_law f_BadDeal_init f_Web_init f_Web_eq c_BadPurse c_BadWish c_BadDeal c_Web c_ZERO d_is_integer d_is_row d_is_fraction d_is_amount d_is_some d_are_amounts d_added d_negated d_lessened d_multiplied d_divided d_squared d_summed d_lies_below d_is_stall d_hold_of d_stalls_of d_kept_of d_held d_is_index d_is_move d_check_purse d_check_wish d_stall_led d_stall_behind d_stalls_behind d_deal_fault d_check_deal d_web_behind d_left_with d_played d_owes d_is_deal d_stands_alike d_check_alike d_change_of d_l_deck d_l_pick d_l_fold d_l_divisor d_l_made d_l_amount d_l_stall d_l_deep d_l_odd d_l_row d_l_bad_row d_l_move d_l_bad_deal d_l_is_some d_l_is_row d_l_is_below d_l_is_move d_l_due d_l_answer d_l_word d_l_word_is_due d_law d_BadDeal_init d_Web_init d_Web_eq) : FnOk P w K mg base CX0 4 f_l_move d_l_move ["_law_deck_here", "_law_web"] (sp_lmove14 K c_Web M) := by
  have G_l_pick : FnOk P w K mg base CX0 1 f_l_pick d_l_pick ["_law_deck_here", "_law_many"] (sp_pick M) := ok_pick hM hM2 T
  have G_l_amount : FnOk P w K mg base CX0 3 f_l_amount d_l_amount ["_law_deck_here"] (sp_am14 M) := ok_l_amount14 hM hM2 T
  refine T.F_l_move.ok sc_l_move (fun vs H Q E h => ?_) (fun cdv A outer s H vs Q E hr h => ?_)
  · obtain ⟨D, Cd, c, n, x, ss, rfl, _⟩ := h
    rfl
  · obtain ⟨D, Cd, c, n, x, ss, rfl, dk, hc, hw, l1, l16, q⟩ := h
    refine ⟨_, (pss_cons (ps_set (i := 2) sc_l_move.nd rfl (by first | exact Or.inl rfl | exact Or.inr rfl) (pe_call G_l_pick (hr.mono (by decide)) (by rfl) T.g_l_pick T.k_l_pick T.b_l_pick .nil pass0 (pa_cons (pv 0) (pa_cons (pe_callB call_lenN (by rfl) T.z_len (by decide +kernel) (pa_cons (pe_fld (pv 1) rfl) pa_nil)) pa_nil))))
      (pss_one (ps_ret (pe_tup (pa_cons (pv 2) (pa_cons (pe_ix ix_tup (pe_ix ix_tup (pe_fld (pv 1) rfl) (pv 2) (fun _ _ => rfl)) (pe_call G_l_pick (hr.mono (by decide)) (by rfl) T.g_l_pick T.k_l_pick T.b_l_pick .nil pass0 (pa_cons (pv 0) (pa_cons pe_int pa_nil))) (fun _ _ => rfl)) (pa_cons (pe_call G_l_amount (hr.mono (by decide)) (by rfl) T.g_l_amount T.k_l_amount T.b_l_amount .nil pass0 (pa_cons (pv 0) pa_nil)) pa_nil))))))), ?_⟩
    obtain ⟨px, dx, tt, xs, rfl, hpx, ht, hss⟩ := id hw
    have hlx := hss.len
    walk_at "r"
    refine ⟨_, _, _, _, _, rfl, hpx, T.w_Web.it.cl, T.n_Web_stalls, wF_stalls _ _, ?_⟩
    walk_at "r"
    refine ⟨D, Cd, _, _, rfl, ⟨by omega, by omega⟩, dk, by omega, fun H1 r1 w1 k1 a1 b1 => ?_⟩
    obtain ⟨i, rfl⟩ := Int.eq_ofNat_of_zero_le a1
    have hi : i < ss.length := by omega
    obtain ⟨s, hs⟩ : ∃ s, ss[i]? = some s := ⟨_, List.getElem?_eq_getElem hi⟩
    obtain ⟨_, dx1, t1, xs1, e1, hpx1, ht1, hss1⟩ := hw.fw w1 dk
    cases e1
    obtain ⟨z, hz, ⟨pz, va, vb, vr, rfl, hpz, _⟩⟩ := hss1.get hs
    walk_at "r"
    refine ⟨_, _, _, _, _, rfl, hpx1, T.w_Web.it.cl, T.n_Web_stalls, wF_stalls _ _, ?_⟩
    walk_at "r"
    refine rd_ixT ht1 (at_some hz) ?_
    walk_at "r"
    refine ⟨D, Cd, _, _, rfl, ⟨by decide, by decide⟩, k1, by omega, fun H2 r2 w2 k2 a2 b2 => ?_⟩
    have hpz := (w2.ts k1) _ _ hpz
    obtain ⟨u, hu, hus⟩ : ∃ u : Nat, atI [V.int (s.u : Nat), .int (s.v : Nat), va, vb, vr] r2 = some (.int (u : Nat)) ∧ (u = s.u ∨ u = s.v) := by
      rcases (show r2 = 0 ∨ r2 = 1 by omega) with rfl | rfl
      · exact ⟨_, rfl, .inl rfl⟩
      · exact ⟨_, rfl, .inr rfl⟩
    refine rd_ixT hpz hu ?_
    walk_at "r"
    refine ⟨D, Cd, _, rfl, k2, by omega, fun H3 vam r w3 k3 hv br r0 => ?_⟩
    walk_at "r"
    intro p np
    have s4 := same_upd (o := .tup [V.int (i : Nat), .int (u : Nat), vam]) np
    exact q _ _ (((w1.trans w2).trans w3).trans (Same.fw s4)) (k3.same s4) ⟨p, i, u, vam, r, s, rfl, upd_same, hv.same s4, br, r0, hs, hus⟩
def sp_lbaddeal (K : PySem.W.Frag) (C : Addr) (M : Nat) : Sp := fun vs H Q _ => ∃ (D Cd : Addr) (c n : Nat) (x : V) (ss : List Stl), vs = [.ref D, x] ∧ Deck M D Cd H c ∧ c ≤ 2 ^ 37 ∧ IsWeb K C H x n ss ∧ 1 ≤ n ∧ n ≤ 8 ∧ ss.length ≤ 16 ∧ ∀ H' v o, Fw D H H' → Deck M D Cd H' (c + 40) → JDs K D H' ss 20 v o → Q v H'
theorem ok_l_bad_deal {M : Nat} (hM : 64 ≤ M) (hM2 : M ≤ 1048576) (T : Txt K mg f_is_integer f_is_row f_is_fraction f_is_amount f_is_some f_are_amounts f_added f_negated f_lessened f_multiplied f_divided f_squared f_summed f_lies_below f_is_stall f_hold_of f_stalls_of f_kept_of f_held f_is_index f_is_move f_check_purse f_check_wish f_stall_led f_stall_behind f_stalls_behind f_deal_fault f_check_deal f_web_behind f_left_with f_played f_owes f_is_deal f_stands_alike f_check_alike f_change_of f_l_deck f_l_pick f_l_fold f_l_divisor f_l_made f_l_amount f_l_stall f_l_deep f_l_odd f_l_row f_l_bad_row f_l_move f_l_bad_deal f_l_is_some f_l_is_row f_l_is_below f_l_is_move f_l_due f_l_answer f_l_word f_l_word_is_due f_law f_BadDeal_init f_Web_init f_Web_eq c_BadPurse c_BadWish c_BadDeal c_Web c_ZERO d_is_integer d_is_row d_is_fraction d_is_amount d_is_some d_are_amounts d_added d_negated d_lessened d_multiplied d_divided d_squared d_summed d_lies_below d_is_stall d_hold_of d_stalls_of d_kept_of d_held d_is_index d_is_move d_check_purse d_check_wish d_stall_led d_stall_behind d_stalls_behind d_deal_fault d_check_deal d_web_behind d_left_with d_played d_owes d_is_deal d_stands_alike d_check_alike d_change_of d_l_deck d_l_pick d_l_fold d_l_divisor d_l_made d_l_amount d_l_stall d_l_deep d_l_odd d_l_row d_l_bad_row d_l_move d_l_bad_deal d_l_is_some d_l_is_row d_l_is_below d_l_is_move d_l_due d_l_answer d_l_word d_l_word_is_due d_law d_BadDeal_init d_Web_init d_Web_eq) : FnOk P w K mg base CX0 5 f_l_bad_deal d_l_bad_deal ["_law_deck_here", "_law_web"] (sp_lbaddeal K c_Web M) := by
  have G_l_pick : FnOk P w K mg base CX0 1 f_l_pick d_l_pick ["_law_deck_here", "_law_many"] (sp_pick M) := ok_pick hM hM2 T
  have G_l_move : FnOk P w K mg base CX0 4 f_l_move d_l_move ["_law_deck_here", "_law_web"] (sp_lmove14 K c_Web M) := ok_l_move14 hM hM2 T
  have G_l_odd : FnOk P w K mg base CX0 3 f_l_odd d_l_odd ["_law_deck_here", "_law_web"] (sp_lodd14 K c_Web M) := ok_l_odd14 hM hM2 T
  refine T.F_l_bad_deal.ok sc_l_bad_deal (fun vs H Q E h => ?_) (fun cdv A outer s H vs Q E hr h => ?_)
  · obtain ⟨D, Cd, c, n, x, ss, rfl, _⟩ := h
    rfl
  · obtain ⟨D, Cd, c, n, x, ss, rfl, dk, hc, hw, n1, n8, l16, q⟩ := h
    refine ⟨_, (pss_cons (ps_set (i := 2) sc_l_bad_deal.nd rfl (by first | exact Or.inl rfl | exact Or.inr rfl) (pe_lst pa_nil))
      (C8.pss_cut (ps_if (pt_cmpR op_gt (pe_callB call_lenN (by rfl) T.z_len (by decide +kernel) (pa_cons (pe_fld (pv 1) rfl) pa_nil)) pe_int (nomark _))
        (pss_one (ps_setLc (i := 2) (own := [("_law_turn", 3)]) (g := gName 3) rfl sc_l_bad_deal.nd rfl rfl (sw_true rfl rfl rfl (by decide +kernel)) (pi_range1 (by rfl) T.z_range (pa_cons (pe_call G_l_pick (hr.mono (by decide)) (by rfl) T.g_l_pick T.k_l_pick T.b_l_pick .nil pass0 (pa_cons (pv 0) (pa_cons pe_int pa_nil))) pa_nil)) (blkOk_by (own := [("_law_turn", 3)]) (N := N_l_bad_deal) (sc := defScope s_l_bad_deal) (by decide +kernel)) (fun _ _ _ _ _ => (pg_name (i := 3) sc_l_bad_deal.nd rfl (by first | exact Or.inl rfl | exact Or.inr rfl))) (fun _ _ _ _ _ => pts_nil) (fun _ _ _ _ _ => (pe_call G_l_move (hr.mono (by decide)) (by rfl) T.g_l_move T.k_l_move T.b_l_move .nil pass0 (pa_cons (pv 0) (pa_cons (pv 1) pa_nil))))))
        pss_nil)
      (pss_cons (ps_set (i := 4) sc_l_bad_deal.nd rfl (by first | exact Or.inl rfl | exact Or.inr rfl) (pe_call G_l_odd (hr.mono (by decide)) (by rfl) T.g_l_odd T.k_l_odd T.b_l_odd .nil pass0 (pa_cons (pv 0) (pa_cons (pv 1) pa_nil))))
      (C8.pss_cut (ps_if (PW.pt (pw_and (pt_cmpR op_gt (pe_callB call_lenN (by rfl) T.z_len (by decide +kernel) (pa_cons (pv 2) pa_nil)) pe_int (nomark _)) (pw_and1 (pt_cmpR op_eq (pe_call G_l_pick (hr.mono (by decide)) (by rfl) T.g_l_pick T.k_l_pick T.b_l_pick .nil pass0 (pa_cons (pv 0) (pa_cons pe_int pa_nil))) pe_int (nomark _)))))
        (pss_cons (ps_set (i := 5) sc_l_bad_deal.nd rfl (by first | exact Or.inl rfl | exact Or.inr rfl) (pe_call G_l_pick (hr.mono (by decide)) (by rfl) T.g_l_pick T.k_l_pick T.b_l_pick .nil pass0 (pa_cons (pv 0) (pa_cons (pe_callB call_lenN (by rfl) T.z_len (by decide +kernel) (pa_cons (pv 2) pa_nil)) pa_nil))))
          (pss_cons (ps_set (i := 6) sc_l_bad_deal.nd rfl (by first | exact Or.inl rfl | exact Or.inr rfl) (pe_call G_l_pick (hr.mono (by decide)) (by rfl) T.g_l_pick T.k_l_pick T.b_l_pick .nil pass0 (pa_cons (pv 0) (pa_cons pe_int pa_nil))))
          (pss_cons (ps_set (i := 7) sc_l_bad_deal.nd rfl (by first | exact Or.inl rfl | exact Or.inr rfl) (pe_ix ix_list (pv 2) (pv 5) (fun _ _ => rfl)))
          (pss_cons (ps_set (i := 8) sc_l_bad_deal.nd rfl (by first | exact Or.inl rfl | exact Or.inr rfl) (pe_lst (pa_cons (pv 4) (pa_cons (pe_callTy call_list_of (by rfl) T.z_list (by decide +kernel) (pa_cons (pv 7) pa_nil)) (pa_cons (pe_op op_catA (pv 7) (pe_tup (pa_cons pe_int pa_nil))) (pa_cons (pe_slice sl_tupA (pv 7) po_none (po_some pe_int)) (pa_cons (pe_op op_catA (pe_op op_catA (pe_slice sl_tupA (pv 7) po_none (po_some (pv 6))) (pe_tup (pa_cons (pv 4) pa_nil))) (pe_slice sl_tupA (pv 7) (po_some (pe_op op_add (pv 6) pe_int)) po_none)) pa_nil)))))))
          (pss_one (ps_set (i := 2) sc_l_bad_deal.nd rfl (by first | exact Or.inl rfl | exact Or.inr rfl) (pe_op op_cat (pe_op op_cat (pe_slice sl_list (pv 2) po_none (po_some (pv 5))) (pe_lst (pa_cons (pe_ix ix_list (pv 8) (pe_call G_l_pick (hr.mono (by decide)) (by rfl) T.g_l_pick T.k_l_pick T.b_l_pick .nil pass0 (pa_cons (pv 0) (pa_cons pe_int pa_nil))) (fun _ _ => rfl)) pa_nil))) (pe_slice sl_list (pv 2) (po_some (pe_op op_add (pv 5) pe_int)) po_none))))))))
        pss_nil)
      (pss_cons (ps_set (i := 8) sc_l_bad_deal.nd rfl (by first | exact Or.inl rfl | exact Or.inr rfl) (pe_lst (pa_cons (pv 4) (pa_cons pe_non (pa_cons pe_dnewK (pa_cons pe_str (pa_cons pe_int (pa_cons (pe_op op_cat (pv 2) (pe_lst (pa_cons (pv 4) pa_nil))) (pa_cons (pv 2) (pa_cons (pe_callTy call_tuple_of (by rfl) T.z_tuple (by decide +kernel) (pa_cons (pv 2) pa_nil)) (pa_cons (pv 2) (pa_cons (pe_callTy call_tuple_of (by rfl) T.z_tuple (by decide +kernel) (pa_cons (pv 2) pa_nil)) pa_nil))))))))))))
      (pss_one (ps_ret (pe_ix ix_list (pv 8) (pe_call G_l_pick (hr.mono (by decide)) (by rfl) T.g_l_pick T.k_l_pick T.b_l_pick .nil pass0 (pa_cons (pv 0) (pa_cons pe_int pa_nil))) (fun _ _ => rfl))))))))), ?_⟩
    walk_at "r"
    intro L0 nL0
    have s0 := same_upd (o := .lst []) nL0
    have hL0 : upd H L0 (.lst []) L0 = some (.lst []) := upd_same
    have L0D := dk.ne nL0
    have f0 := Same.fw (D := D) s0
    have dk := dk.same s0
    have hw := hw.same s0
    generalize upd H L0 (.lst []) = Ha at *
    clear s0 nL0
    walk_at "r"
    refine ⟨fun σ H' => ∃ (L : Addr) (xs : List V) (t3 : Option V), σ = [some (.ref D), some x, some (.ref L), t3, none, none, none, none, none] ∧ Fw D H H' ∧ Deck M D Cd H' (c + 17) ∧ IsWeb K c_Web H' x n ss ∧ L ≠ D ∧ H' L = some (.lst xs) ∧ xs.length ≤ 4 ∧ ∀ v ∈ xs, M14 H' ss v, ?_, ?_⟩
    · obtain ⟨px, dx, tt, ys, rfl, hpx, ht, hss⟩ := id hw
      have hlx := hss.len
      walk_at "r"
      refine ⟨_, _, _, _, _, rfl, hpx, T.w_Web.it.cl, T.n_Web_stalls, wF_stalls _ _, ?_⟩
      walk_at "r"
      walk_at "if"
      · rename_i hgt
        walk_at "r"
        refine ⟨D, Cd, _, _, rfl, ⟨by decide, by decide⟩, dk, by omega, fun H1 r1 w1 k1 a1 b1 => ?_⟩
        have hw1 := hw.fw w1 dk
        walk_at "r"
        refine ⟨by omega, by omega, fun S nS => ?_⟩
        have nSD := k1.ne nS
        have nSC := k1.neC nS
        refine lc_range (lo := 0) (n := r1.toNat) (fun i H' => ∃ xs, Fw D H1 H' ∧ H' S = some (.lst xs) ∧ xs.length = i ∧ IsWeb K c_Web H' (.ref px) n ss ∧ (∀ v ∈ xs, M14 H' ss v) ∧ Deck M D Cd H' (c + 1 + 4 * i)) ?_ ?_ ?_
        · exact ⟨[], Same.fw (same_upd nS), upd_same, rfl, hw1.same (same_upd nS), by simp, (k1.same (same_upd nS)).mono (by omega)⟩
        · rintro i H' hi ⟨xs, fw, hS', hlen, hw', hms, k⟩
          walk_at "r"
          refine ⟨rfl, ?_⟩
          walk_at "r"
          refine ⟨D, Cd, _, n, _, ss, rfl, k, by omega, hw', by omega, l16, fun H3 v w3 k3 hv => ?_⟩
          have hS3 := w3 _ _ nSD hS'
          refine ⟨xs, hS3, small1000 (by omega), ?_⟩
          have tp := tps_put (H1 := H3) (o := .lst (xs ++ [v])) hS3
          have up : ∀ {y : V}, M14 H3 ss y → M14 (upd H3 S (.lst (xs ++ [v]))) ss y := fun ⟨p, i, w, va, r, s, e, h, ⟨p2, e2, h2⟩, rest⟩ => ⟨p, i, w, va, r, s, e, tp _ _ h, ⟨p2, e2, tp _ _ h2⟩, rest⟩
          have hw3 := hw'.fw w3 k
          refine ⟨xs ++ [v], fun b o hb h => (upd_ne (ne_of_none h nS)).trans (w3 _ _ hb (fw _ _ hb h)), upd_same, by simp [hlen], ?_, fun y hy => ?_, (k3.put nSD nSC).mono (by omega)⟩
          · obtain ⟨p, dx', t', zs, e, h1, h2, h3⟩ := hw3
            exact ⟨p, dx', t', zs, e, (upd_ne (ne_of h1 hS3 (by intro z; cases z))).trans h1, tp _ _ h2, h3.ts tp⟩
          · rcases List.mem_append.mp hy with h | h
            · exact up ((hms y h).fw k w3)
            · rw [List.mem_singleton.mp h]
              exact up hv
        · rintro H' ⟨xs, fw, hS', hlen, hw', hms, k⟩
          walk_at "r"
          exact ⟨S, xs, _, rfl, (f0.trans w1).trans fw, k.mono (by omega), hw', nSD, hS', by omega, hms⟩
      · walk_at "r"
        exact ⟨L0, [], _, rfl, f0, dk.mono (by omega), hw, L0D, hL0, by decide, by simp⟩
    rintro σ H1 ⟨L, xs, t3, rfl, f1, k1, hw1, LD, hL, l4, hms⟩
    clear f0 dk hw hL0 L0D
    walk_at "r"
    refine ⟨D, Cd, _, n, _, ss, rfl, k1, by omega, hw1, fun H2 odd w2 k2 jo => ?_⟩
    have g : E14 K M c_Web D Cd (c + 17 + 4) n ss x H H2 odd L xs := ⟨k2, f1.trans w2, hw1.fw w2 k1, jo, w2 _ _ LD hL, LD, fun v m => ((hms v m).fw k1 w2).jm k2⟩
    have hms : ∀ v ∈ xs, M14 H2 ss v := fun v m => (hms v m).fw k1 w2
    clear k1 k2 f1 w2 hw1 jo hL
    walk_at "r"
    refine ⟨fun σ H' => ∃ (L' : Addr) (xs' : List V) (t3 t5 t6 t7 t8 : Option V), σ = [some (.ref D), some x, some (.ref L'), t3, some odd, t5, t6, t7, t8] ∧ E14 K M c_Web D Cd (c + 30) n ss x H H' odd L' xs' ∧ xs'.length ≤ 4, ?_, ?_⟩
    · have hL := g.hL
      have stay : E14 K M c_Web D Cd (c + 30) n ss x H H2 odd L xs := { g with dk := g.dk.mono (by omega) }
      walk_at "r"
      walk_at "if"
      · rename_i hgt
        walk_at "r"
        refine ⟨D, Cd, _, _, rfl, ⟨by decide, by decide⟩, g.dk, by omega, fun H3 r3 w3 k3 a3 b3 => ?_⟩
        have stay3 : E14 K M c_Web D Cd (c + 30) n ss x H H3 odd L xs := { g.fw w3 k3 with dk := k3.mono (by omega) }
        have hms := fun v m => (hms v m).fw g.dk w3
        have g := g.fw w3 k3
        clear w3 k3 hL stay
        walk_at "r"
        walk_at "if"
        · have hL := g.hL
          walk_at "r"
          refine ⟨D, Cd, _, _, rfl, ⟨by omega, by omega⟩, g.dk, by omega, fun H4 r4 w4 k4 a4 b4 => ?_⟩
          obtain ⟨i, rfl⟩ := Int.eq_ofNat_of_zero_le a4
          have hi : i < xs.length := by omega
          have hms := fun v m => (hms v m).fw g.dk w4
          have g := g.fw w4 k4
          clear w4 k4 hL stay3
          walk_at "r"
          refine ⟨D, Cd, _, _, rfl, ⟨by decide, by decide⟩, g.dk, by omega, fun H5 r5 w5 k5 a5 b5 => ?_⟩
          obtain ⟨j, rfl⟩ := Int.eq_ofNat_of_zero_le a5
          have hj : j < 3 := by omega
          have hms := fun v m => (hms v m).fw g.dk w5
          have g := g.fw w5 k5
          clear w5 k5
          obtain ⟨y, hy⟩ : ∃ y, xs[i]? = some y := ⟨_, List.getElem?_eq_getElem hi⟩
          obtain ⟨pm, mi, mw, va, r, sm, rfl, hm, hv, br, r0, _⟩ := hms y (List.mem_of_getElem? hy)
          walk_at "r"
          refine rd_ixL g.hL (at_some hy) ?_
          walk_at "r"
          clear hms
          have j0 : ∃ t, JM K D H5 odd t := oj_jm g.oj.oj
          refine ⟨pm, _, rfl, .inr (.of hm), fun p1 np1 => ?_⟩
          have s1 := same_upd (o := .lst [V.int (mi : Nat), .int (mw : Nat), va]) np1
          have h1 : upd H5 p1 (.lst [V.int (mi : Nat), .int (mw : Nat), va]) p1 = some (.lst [V.int (mi : Nat), .int (mw : Nat), va]) := upd_same
          have n1 := g.dk.ne np1
          have j0 := j0.elim fun t h => (⟨t, h.fw g.dk (Same.fw s1)⟩ : ∃ t, JM K D _ _ t)
          have hm := s1 _ _ hm
          have hv := hv.same s1
          have g := g.same s1
          generalize upd H5 p1 (.lst [V.int (mi : Nat), .int (mw : Nat), va]) = K1 at *
          have j1 : ∃ t, JM K D K1 (.ref p1) t := jm_lst n1 h1
          walk_at "r"
          intro p2 np2
          have s2 := same_upd (o := .tup [V.int 0]) np2
          have h2 : upd K1 p2 (.tup [V.int 0]) p2 = some (.tup [V.int 0]) := upd_same
          have n2 := g.dk.ne np2
          have j0 := j0.elim fun t h => (⟨t, h.fw g.dk (Same.fw s2)⟩ : ∃ t, JM K D _ _ t)
          have j1 := j1.elim fun t h => (⟨t, h.fw g.dk (Same.fw s2)⟩ : ∃ t, JM K D _ _ t)
          have hm := s2 _ _ hm
          have hv := hv.same s2
          have g := g.same s2
          generalize upd K1 p2 (.tup [V.int 0]) = K2 at *
          refine rd_catA hm h2 (by rw [sizeLine_eq]; show 3 + 1 ≤ 16777216; decide) fun p3 K3 s3 h3 => ?_
          have j0 := j0.elim fun t h => (⟨t, h.fw g.dk (Same.fw s3)⟩ : ∃ t, JM K D _ _ t)
          have j1 := j1.elim fun t h => (⟨t, h.fw g.dk (Same.fw s3)⟩ : ∃ t, JM K D _ _ t)
          have hm := s3 _ _ hm
          have hv := hv.same s3
          have g := g.same s3
          have j2 : ∃ t, JM K D K3 (.ref p3) t := jm_tup (tup_ne g.dk h3) h3 (show (4 : Nat) ≠ 3 by decide)
          walk_at "r"
          refine rd_slA hm fun p4 K4 s4 h4 => ?_
          have j0 := j0.elim fun t h => (⟨t, h.fw g.dk (Same.fw s4)⟩ : ∃ t, JM K D _ _ t)
          have j1 := j1.elim fun t h => (⟨t, h.fw g.dk (Same.fw s4)⟩ : ∃ t, JM K D _ _ t)
          have j2 := j2.elim fun t h => (⟨t, h.fw g.dk (Same.fw s4)⟩ : ∃ t, JM K D _ _ t)
          have hm := s4 _ _ hm
          have hv := hv.same s4
          have g := g.same s4
          have j3 : ∃ t, JM K D K4 (.ref p4) t := jm_tup (tup_ne g.dk h4) h4 (show (2 : Nat) ≠ 3 by decide)
          walk_at "r"
          refine rd_slA hm fun p5 K5 s5 h5 => ?_
          rw [cut_take] at h5
          have j0 := j0.elim fun t h => (⟨t, h.fw g.dk (Same.fw s5)⟩ : ∃ t, JM K D _ _ t)
          have j1 := j1.elim fun t h => (⟨t, h.fw g.dk (Same.fw s5)⟩ : ∃ t, JM K D _ _ t)
          have j2 := j2.elim fun t h => (⟨t, h.fw g.dk (Same.fw s5)⟩ : ∃ t, JM K D _ _ t)
          have j3 := j3.elim fun t h => (⟨t, h.fw g.dk (Same.fw s5)⟩ : ∃ t, JM K D _ _ t)
          have hm := s5 _ _ hm
          have hv := hv.same s5
          have g := g.same s5
          walk_at "r"
          intro p6 np6
          have s6 := same_upd (o := .tup [odd]) np6
          have h6 : upd K5 p6 (.tup [odd]) p6 = some (.tup [odd]) := upd_same
          have n6 := g.dk.ne np6
          have j0 := j0.elim fun t h => (⟨t, h.fw g.dk (Same.fw s6)⟩ : ∃ t, JM K D _ _ t)
          have j1 := j1.elim fun t h => (⟨t, h.fw g.dk (Same.fw s6)⟩ : ∃ t, JM K D _ _ t)
          have j2 := j2.elim fun t h => (⟨t, h.fw g.dk (Same.fw s6)⟩ : ∃ t, JM K D _ _ t)
          have j3 := j3.elim fun t h => (⟨t, h.fw g.dk (Same.fw s6)⟩ : ∃ t, JM K D _ _ t)
          have hm := s6 _ _ hm
          have hv := hv.same s6
          have g := g.same s6
          have h5 := s6 _ _ h5
          generalize upd K5 p6 (.tup [odd]) = K6 at *
          refine rd_catA h5 h6 (by rw [sizeLine_eq, List.length_take]; show min j 3 + 1 ≤ _; omega) fun p7 K7 s7 h7 => ?_
          have j0 := j0.elim fun t h => (⟨t, h.fw g.dk (Same.fw s7)⟩ : ∃ t, JM K D _ _ t)
          have j1 := j1.elim fun t h => (⟨t, h.fw g.dk (Same.fw s7)⟩ : ∃ t, JM K D _ _ t)
          have j2 := j2.elim fun t h => (⟨t, h.fw g.dk (Same.fw s7)⟩ : ∃ t, JM K D _ _ t)
          have j3 := j3.elim fun t h => (⟨t, h.fw g.dk (Same.fw s7)⟩ : ∃ t, JM K D _ _ t)
          have hm := s7 _ _ hm
          have hv := hv.same s7
          have g := g.same s7
          walk_at "r"
          refine rd_slA hm fun p8 K8 s8 h8 => ?_
          rw [show ((j : Int) + 1) = ((j + 1 : Nat) : Int) by omega, cut_drop] at h8
          have j0 := j0.elim fun t h => (⟨t, h.fw g.dk (Same.fw s8)⟩ : ∃ t, JM K D _ _ t)
          have j1 := j1.elim fun t h => (⟨t, h.fw g.dk (Same.fw s8)⟩ : ∃ t, JM K D _ _ t)
          have j2 := j2.elim fun t h => (⟨t, h.fw g.dk (Same.fw s8)⟩ : ∃ t, JM K D _ _ t)
          have j3 := j3.elim fun t h => (⟨t, h.fw g.dk (Same.fw s8)⟩ : ∃ t, JM K D _ _ t)
          have hm := s8 _ _ hm
          have hv := hv.same s8
          have g := g.same s8
          have h7 := s8 _ _ h7
          refine rd_catA h7 h8 (by rw [sizeLine_eq, List.length_append, List.length_take, List.length_drop]; show min j 3 + 1 + (3 - (j + 1)) ≤ _; omega) fun p9 K9 s9 h9 => ?_
          have j0 := j0.elim fun t h => (⟨t, h.fw g.dk (Same.fw s9)⟩ : ∃ t, JM K D _ _ t)
          have j1 := j1.elim fun t h => (⟨t, h.fw g.dk (Same.fw s9)⟩ : ∃ t, JM K D _ _ t)
          have j2 := j2.elim fun t h => (⟨t, h.fw g.dk (Same.fw s9)⟩ : ∃ t, JM K D _ _ t)
          have j3 := j3.elim fun t h => (⟨t, h.fw g.dk (Same.fw s9)⟩ : ∃ t, JM K D _ _ t)
          have hm := s9 _ _ hm
          have hv := hv.same s9
          have g := g.same s9
          have j4 : ∃ t, JM K D K9 (.ref p9) t := by
            have nn := tup_ne g.dk h9
            obtain ⟨oi, r2, t, g1, g2, g3⟩ := g.oj.oj
            obtain ⟨e1, e2, _⟩ := hv.oj (K := K) g.dk (br.mono (by decide))
            have hq := h9
            clear j0 j1 j2 j3
            match j, hj with
            | 0, _ => exact jm_three nn hq g1 (.inl ⟨_, rfl, rfl⟩) e2
            | 1, _ => exact jm_three nn hq (.inl ⟨_, rfl, rfl⟩) g1 e2
            | 2, _ => exact jm_three nn hq (.inl ⟨_, rfl, rfl⟩) (.inl ⟨_, rfl, rfl⟩) g2
          walk_at "r"
          intro p10 np10
          have s10 := same_upd (o := .lst [odd, .ref p1, .ref p3, .ref p4, .ref p9]) np10
          have h10 : upd K9 p10 (.lst [odd, .ref p1, .ref p3, .ref p4, .ref p9]) p10 = some (.lst [odd, .ref p1, .ref p3, .ref p4, .ref p9]) := upd_same
          have n10 := g.dk.ne np10
          have j0 := j0.elim fun t h => (⟨t, h.fw g.dk (Same.fw s10)⟩ : ∃ t, JM K D _ _ t)
          have j1 := j1.elim fun t h => (⟨t, h.fw g.dk (Same.fw s10)⟩ : ∃ t, JM K D _ _ t)
          have j2 := j2.elim fun t h => (⟨t, h.fw g.dk (Same.fw s10)⟩ : ∃ t, JM K D _ _ t)
          have j3 := j3.elim fun t h => (⟨t, h.fw g.dk (Same.fw s10)⟩ : ∃ t, JM K D _ _ t)
          have j4 := j4.elim fun t h => (⟨t, h.fw g.dk (Same.fw s10)⟩ : ∃ t, JM K D _ _ t)
          have hm := s10 _ _ hm
          have hv := hv.same s10
          have g := g.same s10
          generalize upd K9 p10 (.lst [odd, .ref p1, .ref p3, .ref p4, .ref p9]) = K10 at *
          walk_at "r"
          refine rd_slLs g.hL fun p11 K11 np11 s11 h11 => ?_
          rw [cut_take] at h11
          have n11 := g.dk.ne np11
          have j0 := j0.elim fun t h => (⟨t, h.fw g.dk (Same.fw s11)⟩ : ∃ t, JM K D _ _ t)
          have j1 := j1.elim fun t h => (⟨t, h.fw g.dk (Same.fw s11)⟩ : ∃ t, JM K D _ _ t)
          have j2 := j2.elim fun t h => (⟨t, h.fw g.dk (Same.fw s11)⟩ : ∃ t, JM K D _ _ t)
          have j3 := j3.elim fun t h => (⟨t, h.fw g.dk (Same.fw s11)⟩ : ∃ t, JM K D _ _ t)
          have j4 := j4.elim fun t h => (⟨t, h.fw g.dk (Same.fw s11)⟩ : ∃ t, JM K D _ _ t)
          have hm := s11 _ _ hm
          have hv := hv.same s11
          have g := g.same s11
          have h10 := s11 _ _ h10
          walk_at "r"
          refine ⟨D, Cd, _, _, rfl, ⟨by decide, by decide⟩, g.dk, by omega, fun H7 r7 w7 k7 a7 b7 => ?_⟩
          obtain ⟨z, ez, jz⟩ : ∃ z, atI [odd, .ref p1, .ref p3, .ref p4, .ref p9] r7 = some z ∧ ∃ t, JM K D H7 z t := by
            rcases (show r7 = 0 ∨ r7 = 1 ∨ r7 = 2 ∨ r7 = 3 ∨ r7 = 4 by omega) with rfl | rfl | rfl | rfl | rfl
            · exact ⟨_, rfl, j0.elim fun t h => ⟨t, h.fw g.dk w7⟩⟩
            · exact ⟨_, rfl, j1.elim fun t h => ⟨t, h.fw g.dk w7⟩⟩
            · exact ⟨_, rfl, j2.elim fun t h => ⟨t, h.fw g.dk w7⟩⟩
            · exact ⟨_, rfl, j3.elim fun t h => ⟨t, h.fw g.dk w7⟩⟩
            · exact ⟨_, rfl, j4.elim fun t h => ⟨t, h.fw g.dk w7⟩⟩
          refine rd_ixL (w7 _ _ n10 h10) ez ?_
          have h11 := w7 _ _ n11 h11
          have g := g.fw w7 k7
          clear j0 j1 j2 j3 j4 hm hv w7 k7
          walk_at "r"
          intro p12 np12
          have s12 := same_upd (o := .lst [z]) np12
          have h12 : upd H7 p12 (.lst [z]) p12 = some (.lst [z]) := upd_same
          have n12 := g.dk.ne np12
          have jz := jz.elim fun t h => (⟨t, h.fw g.dk (Same.fw s12)⟩ : ∃ t, JM K D _ _ t)
          have g := g.same s12
          have h11 := s12 _ _ h11
          generalize upd H7 p12 (.lst [z]) = K12 at *
          refine rd_catn h11 h12 (by simp; omega) fun p13 K13 np13 s13 h13 => ?_
          have n13 := g.dk.ne np13
          have jz := jz.elim fun t h => (⟨t, h.fw g.dk (Same.fw s13)⟩ : ∃ t, JM K D _ _ t)
          have g := g.same s13
          walk_at "r"
          refine rd_slLs g.hL fun p14 K14 np14 s14 h14 => ?_
          rw [cut_drop1] at h14
          have n14 := g.dk.ne np14
          have jz := jz.elim fun t h => (⟨t, h.fw g.dk (Same.fw s14)⟩ : ∃ t, JM K D _ _ t)
          have g := g.same s14
          have h13 := s14 _ _ h13
          refine rd_catn h13 h14 (by simp; omega) fun p15 K15 np15 s15 h15 => ?_
          have n15 := g.dk.ne np15
          have jz := jz.elim fun t h => (⟨t, h.fw g.dk (Same.fw s15)⟩ : ∃ t, JM K D _ _ t)
          have g := g.same s15
          walk_at "r"
          exact ⟨p15, _, _, _, _, _, _, rfl, ⟨g.dk.mono (by omega), g.f, g.web, g.oj, h15, n15, Jms.app (Jms.app (g.J.take i) (Jms.one jz)) (g.J.drop (i + 1))⟩, by simp; omega⟩
        · walk_at "r"
          exact ⟨L, xs, _, _, _, _, _, rfl, stay3, l4⟩
      · walk_at "r"
        exact ⟨L, xs, _, _, _, _, _, rfl, stay, l4⟩
    rintro σ H3 ⟨L', ys, t3, t5, t6, t7, t8, rfl, g, l4⟩
    clear hms
    have jd : ∀ v ∈ [odd, V.non], Dj K D H3 ss v := fun v m => by
      rcases List.mem_cons.mp m with rfl | m
      · exact g.oj.dj
      · rw [List.mem_singleton.mp m]
        exact dj_no nosq_non
    walk_at "r"
    intro p16 np16
    have s16 := same_upd (o := .dK []) np16
    have h16 : upd H3 p16 (.dK []) p16 = some (.dK []) := upd_same
    have n16 := g.dk.ne np16
    have jd := fun v m => (jd v m).fw g.dk (Same.fw s16)
    have g := g.same s16
    generalize upd H3 p16 (.dK []) = K16 at *
    have jd := mem_snoc jd (dj_no (nosq_dK n16 h16))
    have jd := mem_snoc (mem_snoc jd (dj_no (nosq_str (s := "")))) (dj_no (nosq_int (i := 0)))
    walk_at "r"
    intro p17 np17
    have s17 := same_upd (o := .lst [odd]) np17
    have h17 : upd K16 p17 (.lst [odd]) p17 = some (.lst [odd]) := upd_same
    have n17 := g.dk.ne np17
    have jd := fun v m => (jd v m).fw g.dk (Same.fw s17)
    have g := g.same s17
    generalize upd K16 p17 (.lst [odd]) = K17 at *
    refine rd_catn g.hL h17 (by simp; omega) fun p18 K18 np18 s18 h18 => ?_
    have n18 := g.dk.ne np18
    have jd := fun v m => (jd v m).fw g.dk (Same.fw s18)
    have g := g.same s18
    have jd := mem_snoc jd (dj_seq n18 (.inl h18) (g.J.app (Jms.one (oj_jm g.oj.oj))) (by simp; omega))
    have jd := mem_snoc jd (dj_seq g.LD (.inl g.hL) g.J (by omega))
    walk_at "r"
    refine ⟨L', _, rfl, .inl ⟨.of g.hL, fun p19 np19 => ?_⟩⟩
    have s19 := same_upd (o := .tup ys) np19
    have h19 : upd K18 p19 (.tup ys) p19 = some (.tup ys) := upd_same
    have n19 := g.dk.ne np19
    have jd := fun v m => (jd v m).fw g.dk (Same.fw s19)
    have g := g.same s19
    generalize upd K18 p19 (.tup ys) = K19 at *
    have jd := mem_snoc jd (dj_seq n19 (.inr h19) g.J (by omega))
    have jd := mem_snoc jd (dj_seq g.LD (.inl g.hL) g.J (by omega))
    walk_at "r"
    refine ⟨L', _, rfl, .inl ⟨.of g.hL, fun p20 np20 => ?_⟩⟩
    have s20 := same_upd (o := .tup ys) np20
    have h20 : upd K19 p20 (.tup ys) p20 = some (.tup ys) := upd_same
    have n20 := g.dk.ne np20
    have jd := fun v m => (jd v m).fw g.dk (Same.fw s20)
    have g := g.same s20
    generalize upd K19 p20 (.tup ys) = K20 at *
    have jd := mem_snoc jd (dj_seq n20 (.inr h20) g.J (by omega))
    walk_at "r"
    have jd : ∀ v ∈ [odd, V.non, .ref p16, .str "", .int 0, .ref p18, .ref L', .ref p19, .ref L', .ref p20], Dj K D K20 ss v := jd
    have hlen : ([odd, V.non, .ref p16, .str "", .int 0, .ref p18, .ref L', .ref p19, .ref L', .ref p20]).length = 10 := rfl
    generalize [odd, V.non, .ref p16, .str "", .int 0, .ref p18, .ref L', .ref p19, .ref L', .ref p20] = us at *
    intro p21 np21
    have s21 := same_upd (o := .lst us) np21
    have h21 : upd K20 p21 (.lst us) p21 = some (.lst us) := upd_same
    have n21 := g.dk.ne np21
    have jd := fun v m => (jd v m).fw g.dk (Same.fw s21)
    have g := g.same s21
    generalize upd K20 p21 (.lst us) = K21 at *
    walk_at "r"
    refine ⟨D, Cd, _, _, rfl, ⟨by decide, by decide⟩, g.dk, by omega, fun Hf r wf kf a0 b0 => ?_⟩
    obtain ⟨z, hz, ez⟩ := at_in (m := 10) hlen a0 b0
    refine rd_ixL (wf _ _ n21 h21) ez ?_
    obtain ⟨o, jo⟩ := (jd z hz).fw g.dk wf
    exact q _ _ o (g.f.trans wf) (kf.mono (by omega)) jo
end
end My
namespace My
open PySem PySem.Spec PyProof.Rows L2
variable {K : PySem.W.Frag}
/-! ### moves of any things: made, or refused -/
theorem jm_ok {n : Nat} {ss : List Stl} {D : Addr} {H : Hp} {v : V} {t : Jm} (j : JM K D H v t) (h : mvOk ss t = true) : ∃ (i wn : Nat) (s : Stl) (y : Rat), IsMv K H v i wn y ∧ ss[i]? = some s ∧ (wn = s.u ∨ wn = s.v) ∧ 0 < y ∧ Bd 40 y := by
  rcases j with ⟨p, vx, vy, vz, a, b, r, rfl, np, hp, ja, jb, jr, rfl⟩ | ⟨_, rfl⟩
  · cases a with
    | none => cases h
    | some i =>
      cases b with
      | none => cases h
      | some w =>
        have h : (ixOk ss.length (some i) && (wrOk ss i w && sa r)) = true := h
        rw [Bool.and_eq_true, Bool.and_eq_true] at h
        obtain ⟨h1, h2, h3⟩ := h
        have h1 : (decide (0 ≤ i) && decide (i < (ss.length : Nat))) = true := h1
        rw [Bool.and_eq_true, decide_eq_true_eq, decide_eq_true_eq] at h1
        obtain ⟨i, rfl⟩ := Int.eq_ofNat_of_zero_le h1.1
        have hi : i < ss.length := by omega
        obtain ⟨s, hs⟩ : ∃ s, ss[i]? = some s := ⟨_, List.getElem?_eq_getElem hi⟩
        unfold wrOk at h2
        rw [Int.toNat_natCast, hs] at h2
        simp only [Bool.or_eq_true, decide_eq_true_eq] at h2
        obtain ⟨y, rfl⟩ : ∃ y, r = some y := by
          cases r with
          | none => cases h3
          | some y => exact ⟨y, rfl⟩
        obtain ⟨hf, hb⟩ := jr.isF
        have ex : vx = .int (i : Nat) := by
          rcases ja with ⟨_, h1, h2⟩ | ⟨_, h2⟩
          · cases h2
            exact h1
          · cases h2
        have ey : vy = .int w := by
          rcases jb with ⟨_, h1, h2⟩ | ⟨_, h2⟩
          · cases h2
            exact h1
          · cases h2
        obtain ⟨wn, rfl⟩ := Int.eq_ofNat_of_zero_le (show 0 ≤ w by omega)
        subst ex
        subst ey
        exact ⟨i, wn, s, y, ⟨p, vz, rfl, hp, hf⟩, hs, by omega, of_decide_eq_true h3, hb⟩
  · cases h
end My
namespace My
open PySem PySem.Spec PyProof.Rows L2
variable {K : PySem.W.Frag}
theorem run_of14 {n l : Nat} {ss : List Stl} {ms : List Mv} {ks : List Nat} (hl : l ≤ 90) (hd : ∀ m ∈ ms, Dm l ss m) (hok : ∀ s ∈ ss, OkSt n s) (bts : Bts 3 ss ks) (hT : Tk ks + (2 * 3 + l + 1) * ms.length ≤ 1642) : Run n ss ms := by
  have mul_mono : ∀ j, (2 * 3 + l + 1) * (ms.take j).length ≤ (2 * 3 + l + 1) * ms.length := fun j => Nat.mul_le_mul_left _ (by rw [List.length_take]; omega)
  have fact : ∀ j, ∃ ks', Aft n 3 (2 * 3 + l + 1) ss (after ss (ms.take j)) (ms.take j) ks ks' := fun j =>
    plays_of (R := 3) (l := l) (by omega) (fun m hm => hd m (List.mem_of_mem_take hm)) hok bts (by have := mul_mono j; omega)
  refine ⟨fun j m hm => ?_, fun j => ?_, fun j => ?_⟩
  · obtain ⟨ks', af⟩ := fact j
    have htk := af.tk
    have hj : j < ms.length := (List.getElem?_eq_some_iff.mp hm).1
    have h1 : (2 * 3 + l + 1) * ((ms.take j).length + 1) ≤ (2 * 3 + l + 1) * ms.length := Nat.mul_le_mul_left _ (by rw [List.length_take]; omega)
    rw [Nat.mul_add, Nat.mul_one] at h1
    obtain ⟨s, hs, hw, x0, bx⟩ := dm_alk af.al (hd m (List.mem_of_getElem? hm))
    obtain ⟨k, hk, bk, br, hkT⟩ := af.bt.at hs
    have oks := af.ok s (List.mem_of_getElem? hs)
    have bb : BdSt (k + (2 * 3 + l + 1)) (s.behind m.w m.x) := behind_bd2 oks bk br m.w x0 bx
    exact ⟨s, hs, oks, hw, x0, bk.mono (by omega), br, bx.mono (by omega), (out_bd bk bb).mono (by omega)⟩
  · obtain ⟨ks', af⟩ := fact j
    exact af.al
  · obtain ⟨ks', af⟩ := fact j
    have htk := af.tk
    have h1 := mul_mono j
    exact af.bt.bl.mono (by omega)
theorem gd_of {n l : Nat} {ss : List Stl} {ms : List Mv} {ks : List Nat} {H : Hp} {p d : V} {rs : List Rat} (hl : l ≤ 90) (hd : ∀ m ∈ ms, Dm l ss m) (ok : OkW n 6 ss) (bts : Bts 3 ss ks) (hT : Tk ks + (2 * 3 + l + 1) * ms.length ≤ 1642) (h200 : ms.length ≤ 200)
    (hp : IsRow K H p rs) (hn : rs.length = n) (hr : ∀ r ∈ rs, 0 ≤ r ∧ Bd 40 r) (hdl : IsDl K H d ms) : GD K H n ss p d := by
  have hok : ∀ s ∈ ss, OkSt n s := fun s hs => (ok.ok s hs).1
  obtain ⟨ks', af⟩ := plays_of (R := 3) (l := l) (by omega) hd hok bts (by omega)
  have htk := af.tk
  exact ⟨rs, ms, _, _, _, hp, hn, ok.n8, ok.len, hr, hdl, h200, af.pl.vm, run_of14 hl hd hok bts hT, af.pl, ok.mono (by decide), bts.bl, af.bt.bl, by omega, by omega⟩
theorem jrw_good {D : Addr} {H : Hp} {n : Nat} {v : V} (j : JRw K D H n v true) : ∃ rs, IsRow K H v rs ∧ rs.length = n ∧ ∀ r ∈ rs, 0 ≤ r ∧ Bd 40 r := by
  rcases j with ⟨p, xs, os, rfl, np, h, hj, l, e⟩ | ⟨_, e⟩
  · have e' := e.symm
    rw [Bool.and_eq_true, decide_eq_true_eq, List.all_eq_true] at e'
    obtain ⟨e1, e2⟩ := e'
    have key : ∀ {xs : List V} {os : List (Option Rat)}, Paired (JF K D H) xs os → (∀ o ∈ os, am o = true) → ∃ rs, Fs K H xs rs ∧ rs.length = xs.length ∧ ∀ r ∈ rs, 0 ≤ r ∧ Bd 40 r := by
      intro xs os hp
      induction hp with
      | nil => exact fun _ => ⟨[], .nil, rfl, by simp⟩
      | cons h t ih =>
        intro ha
        obtain ⟨rs, f, l, g⟩ := ih fun o ho => ha o (by simp [ho])
        obtain ⟨r, rfl, r0⟩ := am_some (ha _ List.mem_cons_self)
        obtain ⟨hf, hb⟩ := h.isF
        exact ⟨r :: rs, .cons hf f, by simp [l], fun s hs => by
          rcases List.mem_cons.mp hs with rfl | hs
          · exact ⟨r0, hb⟩
          · exact g s hs⟩
    obtain ⟨rs, f, l', g⟩ := key hj e2
    exact ⟨rs, ⟨p, xs, rfl, h, f⟩, by omega, g⟩
  · cases e
theorem ms_good {D : Addr} {H : Hp} {n : Nat} {ss : List Stl} : ∀ {xs : List V} {ts : List Jm}, Paired (JM K D H) xs ts → (∀ t ∈ ts, mvOk ss t = true) → ∃ ms, Paired (IsM K H) xs ms ∧ ms.length = xs.length ∧ ∀ m ∈ ms, Dm 40 ss m := by
  intro xs ts hp
  induction hp with
  | nil => exact fun _ => ⟨[], .nil, rfl, by simp⟩
  | cons h t ih =>
    intro ha
    obtain ⟨ms, f, l, g⟩ := ih fun o ho => ha o (by simp [ho])
    obtain ⟨i, wn, s, y, h1, h2, h3, h4, h5⟩ := jm_ok (n := n) h (ha _ List.mem_cons_self)
    exact ⟨⟨i, wn, y⟩ :: ms, .cons h1 f, by simp [l], fun m hm => by
      rcases List.mem_cons.mp hm with rfl | hm
      · exact ⟨s, h2, h3, h4, h5⟩
      · exact g m hm⟩
theorem gd_small {D : Addr} {H : Hp} {n : Nat} {ss : List Stl} {p d : V} {ks : List Nat} (ok : OkW n 6 ss) (bts : Bts 3 ss ks) (hT : Tk ks ≤ 42) (j : JRw K D H n p true) (g : JDs K D H ss 20 d none) : GD K H n ss p d := by
  obtain ⟨rs, h1, h2, h3⟩ := jrw_good j
  rcases g with ⟨q, xs, ts, rfl, nq, hq, hm, l20, e⟩ | ⟨_, e⟩
  · unfold flt at e
    split at e
    · cases e
    · obtain ⟨ms, f, l, g⟩ := ms_good (n := n) hm (bad1_ok (Option.map_eq_none_iff.mp e.symm))
      have : (2 * 3 + 40 + 1) * ms.length ≤ (2 * 3 + 40 + 1) * 20 := Nat.mul_le_mul_left _ (by omega)
      exact gd_of (l := 40) (by decide) g ok bts (by omega) (by omega) h1 h2 h3 ⟨q, xs, rfl, hq, f⟩
  · cases e
theorem jrw_wish {D : Addr} {H : Hp} {n : Nat} {v : V} (j : JRw K D H n v true) : GWish K H n v := by
  obtain ⟨rs, h1, h2, h3⟩ := jrw_good j
  exact ⟨rs, h1, h2, fun r hr => ⟨(h3 r hr).1, (h3 r hr).2.mono (by decide)⟩⟩
theorem jrw_right {D R : Addr} {H : Hp} {n : Nat} {xs : List V} {rs : List Rat} (np : R ≠ D) (h : H R = some (.lst xs)) (f : Paired (IsH H) xs rs) (l : rs.length = n) (n8 : n ≤ 8) (g : ∀ r ∈ rs, 0 ≤ r ∧ Bd 3 r) : JRw K D H n (.ref R) true := by
  have hl := Paired.length f
  have key : ∀ {xs : List V} {rs : List Rat}, Paired (IsH H) xs rs → (∀ r ∈ rs, 0 ≤ r ∧ Bd 3 r) → Paired (JF K D H) xs (rs.map some) := by
    intro xs rs hp
    induction hp with
    | nil => exact fun _ => .nil
    | cons h t ih => exact fun g => .cons (.inl ⟨_, h.isF, (g _ (by simp)).2.mono (by decide), rfl⟩) (ih fun r hr => g r (by simp [hr]))
  refine .inl ⟨R, xs, rs.map some, rfl, np, .inl h, key f g, by omega, ?_⟩
  rw [decide_eq_true (show xs.length = n by omega), Bool.true_and]
  symm
  rw [List.all_eq_true]
  intro o ho
  obtain ⟨r, hr, rfl⟩ := List.mem_map.mp ho
  exact decide_eq_true (g r hr).1
structure L14 (K : PySem.W.Frag) (CW D C R a px : Addr) (n : Nat) (ns : List Int) (ss : List Stl) (c : Nat) (H : Hp) : Prop where
  dk : Deck 1048576 D C H c
  web : IsWeb K CW H (.ref px) n ss
  rt : JRw K D H n (.ref R) true
  sq : SqL K H a (ns.map V.int)
section
variable {CW D C R a px : Addr} {H H' : Hp} {n : Nat} {ns : List Int} {ss : List Stl} {c : Nat}
theorem L14.same (g : L14 K CW D C R a px n ns ss c H) (s : Same H H') : L14 K CW D C R a px n ns ss c H' := ⟨g.dk.same s, g.web.same s, g.rt.same s, s.seq g.sq⟩
theorem L14.fw {c' : Nat} (g : L14 K CW D C R a px n ns ss c H) (f : Fw D H H') (k : Deck 1048576 D C H' c') : L14 K CW D C R a px n ns ss c' H' := ⟨k, g.web.fw f g.dk, g.rt.fw g.dk f, sq_fw g.sq g.dk f⟩
theorem L14.mono {c' : Nat} (g : L14 K CW D C R a px n ns ss c H) (h : c ≤ c') : L14 K CW D C R a px n ns ss c' H := ⟨g.dk.mono h, g.web, g.rt, g.sq⟩
end
/-- the long deal -/
theorem long_jm {D : Addr} {H : Hp} {v : V} {t : Jm} (h : JM K D H v t) : ∀ k, Paired (JM K D H) (List.replicate k v) (List.replicate k t)
  | 0 => .nil
  | k + 1 => by
    rw [List.replicate_succ, List.replicate_succ]
    exact .cons h (long_jm h k)
theorem long_m {H : Hp} {v : V} {m : Mv} (h : IsM K H v m) : ∀ k, Paired (IsM K H) (List.replicate k v) (List.replicate k m)
  | 0 => .nil
  | k + 1 => by
    rw [List.replicate_succ, List.replicate_succ]
    exact .cons h (long_m h k)
theorem flt_long {ss : List Stl} {t : Jm} : flt ss (List.replicate 201 t) = some (-1) := by
  unfold flt
  rw [if_pos (by rw [List.length_replicate]; decide)]
theorem flt_told {ss : List Stl} {t : Jm} (h : mvOk ss t = true) : flt ss (List.replicate 200 t) = none := by
  unfold flt
  rw [if_neg (by rw [List.length_replicate]; decide), bad1_none fun j u hu => ?_]
  · rfl
  · rw [(List.mem_replicate.mp (List.mem_of_getElem? hu)).2]
    exact h
theorem mv_right {ss : List Stl} {i w : Nat} {s : Stl} (h : ss[i]? = some s) (hw : w = s.u ∨ w = s.v) : mvOk ss (some (some (i : Int), some (w : Int), some 1)) = true := by
  have hi : i < ss.length := (List.getElem?_eq_some_iff.mp h).1
  show ((decide (0 ≤ (i : Int)) && decide ((i : Int) < (ss.length : Nat))) && (wrOk ss i w && decide ((0 : Rat) < 1))) = true
  have e : wrOk ss i w = true := by
    unfold wrOk
    rw [Int.toNat_natCast, h]
    simp only [Bool.or_eq_true, decide_eq_true_eq]
    omega
  rw [e, decide_eq_true (show 0 ≤ (i : Int) by omega), decide_eq_true (show (i : Int) < (ss.length : Nat) by omega), decide_eq_true (by decide +kernel : (0 : Rat) < 1)]
  rfl
section
variable {P : Program} {w : World} {K : PySem.W.Frag} {mg : Str → Option Value} {base : Heap} {f_is_integer f_is_row f_is_fraction f_is_amount f_is_some f_are_amounts f_added f_negated f_lessened f_multiplied f_divided f_squared f_summed f_lies_below f_is_stall f_hold_of f_stalls_of f_kept_of f_held f_is_index f_is_move f_check_purse f_check_wish f_stall_led f_stall_behind f_stalls_behind f_deal_fault f_check_deal f_web_behind f_left_with f_played f_owes f_is_deal f_stands_alike f_check_alike f_change_of f_l_deck f_l_pick f_l_fold f_l_divisor f_l_made f_l_amount f_l_stall f_l_deep f_l_odd f_l_row f_l_bad_row f_l_move f_l_bad_deal f_l_is_some f_l_is_row f_l_is_below f_l_is_move f_l_due f_l_answer f_l_word f_l_word_is_due f_law f_BadDeal_init f_Web_init f_Web_eq c_BadPurse c_BadWish c_BadDeal c_Web c_ZERO : Addr} {d_is_integer d_is_row d_is_fraction d_is_amount d_is_some d_are_amounts d_added d_negated d_lessened d_multiplied d_divided d_squared d_summed d_lies_below d_is_stall d_hold_of d_stalls_of d_kept_of d_held d_is_index d_is_move d_check_purse d_check_wish d_stall_led d_stall_behind d_stalls_behind d_deal_fault d_check_deal d_web_behind d_left_with d_played d_owes d_is_deal d_stands_alike d_check_alike d_change_of d_l_deck d_l_pick d_l_fold d_l_divisor d_l_made d_l_amount d_l_stall d_l_deep d_l_odd d_l_row d_l_bad_row d_l_move d_l_bad_deal d_l_is_some d_l_is_row d_l_is_below d_l_is_move d_l_due d_l_answer d_l_word d_l_word_is_due d_law d_BadDeal_init d_Web_init d_Web_eq : FuncData}
def sp_law (K : PySem.W.Frag) : Sp := fun vs H Q _ => ∃ (a : Addr) (ns : List Int), vs = [.ref a] ∧ SqL K H a (ns.map V.int) ∧ ns.length ≤ 63 ∧ (∀ z ∈ ns, Builtin.Int.intBits z ≤ 1048576) ∧ ∀ H', Q (.bl true) H'
theorem ok_law (T : Txt K mg f_is_integer f_is_row f_is_fraction f_is_amount f_is_some f_are_amounts f_added f_negated f_lessened f_multiplied f_divided f_squared f_summed f_lies_below f_is_stall f_hold_of f_stalls_of f_kept_of f_held f_is_index f_is_move f_check_purse f_check_wish f_stall_led f_stall_behind f_stalls_behind f_deal_fault f_check_deal f_web_behind f_left_with f_played f_owes f_is_deal f_stands_alike f_check_alike f_change_of f_l_deck f_l_pick f_l_fold f_l_divisor f_l_made f_l_amount f_l_stall f_l_deep f_l_odd f_l_row f_l_bad_row f_l_move f_l_bad_deal f_l_is_some f_l_is_row f_l_is_below f_l_is_move f_l_due f_l_answer f_l_word f_l_word_is_due f_law f_BadDeal_init f_Web_init f_Web_eq c_BadPurse c_BadWish c_BadDeal c_Web c_ZERO d_is_integer d_is_row d_is_fraction d_is_amount d_is_some d_are_amounts d_added d_negated d_lessened d_multiplied d_divided d_squared d_summed d_lies_below d_is_stall d_hold_of d_stalls_of d_kept_of d_held d_is_index d_is_move d_check_purse d_check_wish d_stall_led d_stall_behind d_stalls_behind d_deal_fault d_check_deal d_web_behind d_left_with d_played d_owes d_is_deal d_stands_alike d_check_alike d_change_of d_l_deck d_l_pick d_l_fold d_l_divisor d_l_made d_l_amount d_l_stall d_l_deep d_l_odd d_l_row d_l_bad_row d_l_move d_l_bad_deal d_l_is_some d_l_is_row d_l_is_below d_l_is_move d_l_due d_l_answer d_l_word d_l_word_is_due d_law d_BadDeal_init d_Web_init d_Web_eq) : FnOk P w K mg base CX0 12 f_law d_law ["_law_script"] (sp_law K) := by
  have G_l_deck : FnOk P w K mg base CX0 1 f_l_deck d_l_deck ["_law_script"] (sp_deck K) := ok_l_deck T
  have G_l_pick : FnOk P w K mg base CX0 1 f_l_pick d_l_pick ["_law_deck_here", "_law_many"] (sp_pick 1048576) := ok_pick (by decide) (by decide) T
  have G_l_fold : FnOk P w K mg base CX0 1 f_l_fold d_l_fold ["_law_script"] (sp_lfold K) := ok_l_fold T
  have G_l_stall : FnOk P w K mg base CX0 4 f_l_stall d_l_stall ["_law_deck_here", "_law_wares"] (sp_lstall K 1048576 6) := ok_l_stall (by decide) (by decide) T
  have G_l_row : FnOk P w K mg base CX0 3 f_l_row d_l_row ["_law_deck_here", "_law_web"] (sp_lrow14 K c_Web 1048576) := ok_l_row14 (by decide) (by decide) T
  have G_l_bad_row : FnOk P w K mg base CX0 4 f_l_bad_row d_l_bad_row ["_law_deck_here", "_law_web"] (sp_lbadrow K c_Web 1048576) := ok_l_bad_row (by decide) (by decide) T
  have G_l_bad_deal : FnOk P w K mg base CX0 5 f_l_bad_deal d_l_bad_deal ["_law_deck_here", "_law_web"] (sp_lbaddeal K c_Web 1048576) := ok_l_bad_deal (by decide) (by decide) T
  have G_l_move : FnOk P w K mg base CX0 4 f_l_move d_l_move ["_law_deck_here", "_law_web"] (sp_lmove14 K c_Web 1048576) := ok_l_move14 (by decide) (by decide) T
  have G_l_due : FnOk P w K mg base CX0 4 f_l_due d_l_due ["_law_web", "_law_purse", "_law_deal"] (sp_ldue14 K c_Web) := ok_l_due T
  have G_l_answer : FnOk P w K mg base CX0 9 f_l_answer d_l_answer ["_law_is_played", "_law_web", "_law_purse", "_law_deal"] (sp_lans K c_Web) := ok_l_answer T
  have G_l_word_is_due : FnOk P w K mg base CX0 11 f_l_word_is_due d_l_word_is_due ["_law_web", "_law_purse", "_law_wish", "_law_deal"] (sp_lwd K c_Web) := ok_l_word_is_due T
  have G_Web_init : FnOk P w K mg base CX0 5 f_Web_init d_Web_init ["self", "wares", "stalls"] (sp_web K c_Web) := ok_Web_init T
  refine T.F_law.ok sc_law (fun vs H Q E h => ?_) (fun cdv A outer sh H vs Q E hr h => ?_)
  · obtain ⟨a, ns, rfl, _⟩ := h
    rfl
  · obtain ⟨a, ns, rfl, hS, hl, hb, q⟩ := h
    refine ⟨_, (pss_cons (ps_set (i := 1) sc_law.nd rfl (by first | exact Or.inl rfl | exact Or.inr rfl) (pe_call G_l_deck (hr.mono (by decide)) (by rfl) T.g_l_deck T.k_l_deck T.b_l_deck .nil pass0 (pa_cons (pv 0) pa_nil)))
      (pss_cons (ps_set (i := 2) sc_law.nd rfl (by first | exact Or.inl rfl | exact Or.inr rfl) (pe_op op_add pe_int (pe_call G_l_pick (hr.mono (by decide)) (by rfl) T.g_l_pick T.k_l_pick T.b_l_pick .nil pass0 (pa_cons (pv 1) (pa_cons pe_int pa_nil)))))
      (pss_cons (ps_set (i := 3) sc_law.nd rfl (by first | exact Or.inl rfl | exact Or.inr rfl) (pe_op op_mulX (pe_call G_l_pick (hr.mono (by decide)) (by rfl) T.g_l_pick T.k_l_pick T.b_l_pick .nil pass0 (pa_cons (pv 1) (pa_cons pe_int pa_nil))) (pe_callTy call_intN (by rfl) T.z_int (by decide +kernel) (pa_cons (pe_cmpR op_gt (pv 2) pe_int (nomark _)) pa_nil))))
      (pss_cons (ps_set (i := 4) sc_law.nd rfl (by first | exact Or.inl rfl | exact Or.inr rfl) (pe_make T.w_Web.mks G_Web_init (hr.mono (by decide)) (by rfl) T.w_Web.g T.b_Web_init .nil pass0 (pa_cons (pv 2) (pa_cons (pe_lc (own := [("_law_turn", 5)]) (g := gName 5) rfl sc_law.nd (pi_range1 (by rfl) T.z_range (pa_cons (pv 3) pa_nil)) (blkOk_by (own := [("_law_turn", 5)]) (N := N_law) (sc := defScope s_law) (by decide +kernel)) (fun _ _ _ _ _ => (pg_name (i := 5) sc_law.nd rfl (by first | exact Or.inl rfl | exact Or.inr rfl))) (fun _ _ _ _ _ => pts_nil) (fun _ _ _ _ _ => (pe_call G_l_stall (hr.mono (by decide)) (by rfl) T.g_l_stall T.k_l_stall T.b_l_stall .nil pass0 (pa_cons (pv 1) (pa_cons (pv 2) pa_nil))))) pa_nil))))
      (pss_cons (ps_set (i := 6) sc_law.nd rfl (by first | exact Or.inl rfl | exact Or.inr rfl) (pe_call G_l_row (hr.mono (by decide)) (by rfl) T.g_l_row T.k_l_row T.b_l_row .nil pass0 (pa_cons (pv 1) (pa_cons (pv 4) pa_nil))))
      (pss_cons (ps_for PassesOwn.never rfl (pi_range1 (by rfl) T.z_range (pa_cons (pe_op op_add pe_int (pe_callB (call_minN rfl) (by rfl) T.z_min (by decide +kernel) (pa_cons (pe_callB call_lenN (by rfl) T.z_len (by decide +kernel) (pa_cons (pv 0) pa_nil)) (pa_cons pe_int pa_nil)))) pa_nil)) (pg_name (i := 5) sc_law.nd rfl (by first | exact Or.inl rfl | exact Or.inr rfl))
        (pss_cons (ps_set (i := 7) sc_law.nd rfl (by first | exact Or.inl rfl | exact Or.inr rfl) (pe_call G_l_bad_row (hr.mono (by decide)) (by rfl) T.g_l_bad_row T.k_l_bad_row T.b_l_bad_row .nil pass0 (pa_cons (pv 1) (pa_cons (pv 4) pa_nil))))
          (pss_cons (ps_set (i := 8) sc_law.nd rfl (by first | exact Or.inl rfl | exact Or.inr rfl) (pe_call G_l_bad_row (hr.mono (by decide)) (by rfl) T.g_l_bad_row T.k_l_bad_row T.b_l_bad_row .nil pass0 (pa_cons (pv 1) (pa_cons (pv 4) pa_nil))))
          (pss_cons (ps_set (i := 9) sc_law.nd rfl (by first | exact Or.inl rfl | exact Or.inr rfl) (pe_call G_l_bad_deal (hr.mono (by decide)) (by rfl) T.g_l_bad_deal T.k_l_bad_deal T.b_l_bad_deal .nil pass0 (pa_cons (pv 1) (pa_cons (pv 4) pa_nil))))
          (pss_one (ps_for PassesOwn.never rfl (pi_list (pe_lst (pa_cons (pv 7) (pa_cons (pv 6) pa_nil)))) (pg_name (i := 10) sc_law.nd rfl (by first | exact Or.inl rfl | exact Or.inr rfl))
            (pss_cons (ps_set (i := 11) sc_law.nd rfl (by first | exact Or.inl rfl | exact Or.inr rfl) (pe_call G_l_due (hr.mono (by decide)) (by rfl) T.g_l_due T.k_l_due T.b_l_due .nil pass0 (pa_cons (pv 4) (pa_cons (pv 10) (pa_cons (pv 9) pa_nil)))))
              (pss_cons (ps_if (PW.pt (pw_or (pt_cmpR (op_neD hr.units) (pe_call G_l_answer (hr.mono (by decide)) (by rfl) T.g_l_answer T.k_l_answer T.b_l_answer .nil pass0 (pa_cons pe_bl (pa_cons (pv 4) (pa_cons (pv 10) (pa_cons (pv 9) pa_nil))))) (pv 11) (nomark _)) (pw_or1 (pt_cmpR (op_neD hr.units) (pe_call G_l_answer (hr.mono (by decide)) (by rfl) T.g_l_answer T.k_l_answer T.b_l_answer .nil pass0 (pa_cons pe_bl (pa_cons (pv 4) (pa_cons (pv 10) (pa_cons (pv 9) pa_nil))))) (pv 11) (nomark _)))))
                (pss_one (ps_ret pe_bl))
                pss_nil)
              (pss_one (ps_if (PW.pt (pw_or (pt_not (pt_val (pe_call G_l_word_is_due (hr.mono (by decide)) (by rfl) T.g_l_word_is_due T.k_l_word_is_due T.b_l_word_is_due .nil pass0 (pa_cons (pv 4) (pa_cons (pv 10) (pa_cons (pv 8) (pa_cons (pv 9) pa_nil))))))) (pw_or1 (pt_not (pt_val (pe_call G_l_word_is_due (hr.mono (by decide)) (by rfl) T.g_l_word_is_due T.k_l_word_is_due T.b_l_word_is_due .nil pass0 (pa_cons (pv 4) (pa_cons (pv 10) (pa_cons (pv 6) (pa_cons (pv 9) pa_nil))))))))))
                (pss_one (ps_ret pe_bl))
                pss_nil))))))))))
      (C8.pss_cut (ps_if (PW.pt (pw_and (pt_cmpR op_gt (pv 3) pe_int (nomark _)) (pw_and1 (pt_cmpR op_eq (pe_op op_mod (pe_call G_l_fold (hr.mono (by decide)) (by rfl) T.g_l_fold T.k_l_fold T.b_l_fold .nil pass0 (pa_cons (pv 0) pa_nil)) pe_int) pe_int (nomark _)))))
        (pss_cons (ps_set (i := 12) sc_law.nd rfl (by first | exact Or.inl rfl | exact Or.inr rfl) (pe_call G_l_move (hr.mono (by decide)) (by rfl) T.g_l_move T.k_l_move T.b_l_move .nil pass0 (pa_cons (pv 1) (pa_cons (pv 4) pa_nil))))
          (pss_cons (ps_set (i := 13) sc_law.nd rfl (by first | exact Or.inl rfl | exact Or.inr rfl) (pe_op op_rep (pe_lst (pa_cons (pe_tup (pa_cons (pe_ix ix_tup (pv 12) pe_int (fun _ _ => rfl)) (pa_cons (pe_ix ix_tup (pv 12) pe_int (fun _ _ => rfl)) (pa_cons (pe_tup (pa_cons pe_int (pa_cons pe_int pa_nil))) pa_nil)))) pa_nil)) pe_int))
          (pss_cons (ps_if (pt_cmpR (op_neD hr.units) (pe_call G_l_answer (hr.mono (by decide)) (by rfl) T.g_l_answer T.k_l_answer T.b_l_answer .nil pass0 (pa_cons pe_bl (pa_cons (pv 4) (pa_cons (pv 6) (pa_cons (pv 13) pa_nil))))) (pe_tup (pa_cons pe_str (pa_cons (pe_un un_neg pe_int) pa_nil))) (nomark _))
            (pss_one (ps_ret pe_bl))
            pss_nil)
          (pss_one (ps_if (pt_cmpR (op_neD hr.units) (pe_call G_l_answer (hr.mono (by decide)) (by rfl) T.g_l_answer T.k_l_answer T.b_l_answer .nil pass0 (pa_cons pe_bl (pa_cons (pv 4) (pa_cons (pv 6) (pa_cons (pe_callTy call_tuple_of (by rfl) T.z_tuple (by decide +kernel) (pa_cons (pe_slice sl_list (pv 13) (po_some pe_int) po_none) pa_nil)) pa_nil))))) (pe_tup (pa_cons pe_str (pa_cons pe_int pa_nil))) (nomark _))
            (pss_one (ps_ret pe_bl))
            pss_nil)))))
        pss_nil)
      (pss_one (ps_ret (pe_cmpR (op_eqD hr.units) (pe_call G_l_answer (hr.mono (by decide)) (by rfl) T.g_l_answer T.k_l_answer T.b_l_answer .nil pass0 (pa_cons pe_bl (pa_cons (pv 4) (pa_cons (pv 6) (pa_cons (pe_lst pa_nil) pa_nil))))) (pe_tup (pa_cons pe_str (pa_cons pe_int pa_nil))) (nomark _))))))))))), ?_⟩
    walk_at "r"
    refine ⟨_, _, rfl, hS, hl, hb, fun H1 D C s1 k1 => ?_⟩
    have q1 := s1.seq hS
    walk_at "r"
    refine ⟨_, _, _, _, rfl, ⟨by decide, by decide⟩, k1, by decide, fun H2 r1 w2 k2 a1 b1 => ?_⟩
    have q2 := sq_fw q1 k1 w2
    obtain ⟨n, hn⟩ := Int.eq_ofNat_of_zero_le (show 0 ≤ 1 + r1 by omega)
    walk_at "r"
    rw [hn]
    refine ⟨_, _, _, _, rfl, ⟨by decide, by decide⟩, k2, by decide, fun H4 r3 w4 k4 a3 b3 => ?_⟩
    have q4 := sq_fw q2 k2 w4
    walk_at "r"
    rotate_left
    · exact cmul_small (by omega) (by split <;> decide)
    obtain ⟨m, hm, m6, m2⟩ : ∃ m : Nat, r3 * (if decide ((n : Int) > 1) = true then 1 else 0) = (m : Int) ∧ m ≤ 6 ∧ (0 < m → 2 ≤ n) := by
      by_cases c : (n : Int) > 1
      · rw [decide_eq_true c, if_pos rfl, Int.mul_one]
        exact ⟨r3.toNat, by omega, by omega, fun _ => by omega⟩
      · rw [decide_eq_false c, if_neg Bool.false_ne_true, Int.mul_zero]
        exact ⟨0, rfl, by omega, fun h => absurd h (Nat.lt_irrefl 0)⟩
    rw [hm]
    walk_at "r"
    refine ⟨by omega, by omega, fun S nS => ?_⟩
    have nSD := k4.ne nS
    have nSC := k4.neC nS
    refine lc_range (lo := 0) (n := m) (fun i H' => ∃ xs ss, H' S = some (.lst xs) ∧ xs.length = i ∧ Sts K H' xs ss ∧ (∀ s ∈ ss, OkSt n s ∧ BdSt 6 s ∧ Bd 3 s.r) ∧ Deck 1048576 D C H' (3 + 6 * i) ∧ Kept K S a ns H') ?_ ?_ ?_
    · exact ⟨[], [], upd_same, rfl, .nil, by simp, (k4.same (same_upd nS)).mono (by omega), kept_new q4 nS⟩
    · rintro i H' hi ⟨xs, ss, hS', hlen, hst, hok, k, kq⟩
      have n2 := m2 (by omega)
      walk_at "r"
      refine ⟨rfl, ?_⟩
      walk_at "r"
      refine ⟨_, _, _, n, rfl, n2, by omega, k, by omega, fun H5 v s w5 k5 iv ok5 bd5 br5 => ?_⟩
      refine ⟨xs, w5 _ _ nSD hS', small1000 (by omega), ?_⟩
      have ts5 : Tps H5 (upd H5 S (.lst (xs ++ [v]))) := fun b zs hb => by
        refine (upd_ne fun e => ?_).trans hb
        rw [e, w5 _ _ nSD hS'] at hb
        cases hb
      refine ⟨xs ++ [v], ss ++ [s], upd_same, by simp [hlen], ((hst.ts (w5.ts k)).snoc iv).ts ts5, fun t ht => ?_, (k5.put nSD nSC).mono (by omega), (kq.fw k w5).put⟩
      rcases List.mem_append.mp ht with h | h
      · exact hok t h
      · rw [List.mem_singleton.mp h]
        exact ⟨ok5, bd5, br5⟩
    · rintro H5 ⟨xs, ss, hS5, hlen, hst, hok, k5, kq⟩
      have q5 := kq.sq
      have hlen2 := hst.len
      walk_at "r"
      intro x6 dx6 nx nd ne
      have xS := ne_of_none hS5 nx
      have dS := ne_of_none hS5 nd
      refine ⟨x6, dx6, S, n, xs, ss, rfl, upd_same, .inl ((upd_ne xS).trans ((upd_ne dS).trans hS5)), by omega, by omega, by omega, ?_, fun s hs => ⟨(hok s hs).1, (hok s hs).2.1.mono (by decide)⟩, fun H6 hweb kp => ⟨rfl, ?_⟩⟩
      · refine hst.ts fun b zs hb => ?_
        rw [upd_ne (ne_of_none hb nx), upd_ne (ne_of_none hb nd)]
        exact hb
      have s6 : Same H5 H6 := Same.made nx nd kp
      have okw : OkW n 6 ss := ⟨by omega, by omega, by omega, fun s hs => ⟨(hok s hs).1, (hok s hs).2.1⟩⟩
      have oks : ∀ s ∈ ss, OkSt n s := fun s hs => (hok s hs).1
      obtain ⟨ks, bts, hks⟩ := bts_of (k := 6) (R := 3) (ss := ss) fun s hs => (hok s hs).2
      have hT : Tk ks ≤ 42 := by
        have : ss.length * (6 + 1) ≤ 6 * (6 + 1) := Nat.mul_le_mul_right _ (by omega)
        omega
      have l6 : ss.length ≤ 6 := by omega
      have lm : ss.length = m := by omega
      have k6 := (k5.same s6).mono (show 3 + 6 * m ≤ 60 by omega)
      have q6 := s6.seq q5
      have n8 : 1 ≤ n ∧ n ≤ 5 := by omega
      clear nx nd ne xS dS kp s6 q5 kq k5 hst hS5 q4 q2 q1 w4 w2 k4 k2 k1 s1 b1 a1 nS nSC hlen hok hks
      walk_at "r"
      refine ⟨D, C, _, n, _, ss, rfl, k6, by decide, hweb, by omega, fun H7 R ys rs w7 k7 RD nR hR hst hlr hrs => ?_⟩
      have g0 : L14 K c_Web D C R a x6 n ns ss 100 H7 := ⟨k7.mono (by decide), hweb.fw w7 k6, jrw_right RD hR hst hlr (by omega) hrs, sq_fw q6 k6 w7⟩
      clear hweb w7 k7 nR hR hst q6 k6
      walk_at "r"
      refine rd_lenS ?_ g0.sq
      walk_at "r"
      have hm20 : min ((ns.map V.int).length : Int) 12 ≤ 12 := Int.min_le_right _ _
      refine ⟨by omega, by omega, ?_⟩
      refine for_range (lo := 0) (n := (3 + min ((ns.map V.int).length : Int) 12).toNat) (fun i σ H' => ∃ (t5 t7 t8 t9 t10 t11 : Option V), σ = [some (.ref a), some (.ref D), some (.int (n : Nat)), some (.int (m : Nat)), some (.ref x6), t5, some (.ref R), t7, t8, t9, t10, t11, none, none] ∧ L14 K c_Web D C R a x6 n ns ss (100 + 200 * i) H') ?_ ?_ ?_
      · exact ⟨_, _, _, _, _, _, rfl, g0⟩
      · rintro i σ H8 hi ⟨t5, t7, t8, t9, t10, t11, rfl, g⟩
        walk_at "r"
        refine ⟨D, C, _, n, _, ss, rfl, g.dk, by omega, g.web, by omega, by omega, fun H9 vp bp w9 k9 jp => ?_⟩
        have g := g.fw w9 k9
        clear w9 k9
        walk_at "r"
        refine ⟨D, C, _, n, _, ss, rfl, g.dk, by omega, g.web, by omega, by omega, fun Ha vu bu wa ka ju => ?_⟩
        have jp := jp.fw g.dk wa
        have g := g.fw wa ka
        clear wa ka
        walk_at "r"
        refine ⟨D, C, _, n, _, ss, rfl, g.dk, by omega, g.web, by omega, by omega, by omega, fun Hb vd o wb kb jd => ?_⟩
        have jp := jp.fw g.dk wb
        have ju := ju.fw g.dk wb
        have g := g.fw wb kb
        clear wb kb
        walk_at "r"
        intro F nF
        have sc := same_upd (o := .lst [vp, .ref R]) nF
        have hF : upd Hb F (.lst [vp, .ref R]) F = some (.lst [vp, .ref R]) := upd_same
        have jp := jp.same sc
        have ju := ju.same sc
        have jd := jd.fw g.dk (Same.fw sc)
        have g := g.same sc
        generalize upd Hb F (.lst [vp, .ref R]) = Hc at *
        clear sc nF
        refine ⟨F, rfl, ⟨_, .of hF⟩, ?_⟩
        refine for_list (K := K) (a := F) (xs := [vp, V.ref R]) (fun j σ H' => ∃ (t5 t10 t11 : Option V), σ = [some (.ref a), some (.ref D), some (.int (n : Nat)), some (.int (m : Nat)), some (.ref x6), t5, some (.ref R), some vp, some vu, some vd, t10, t11, none, none] ∧ Same Hc H') ?_ ?_ ?_ ?_
        · exact ⟨_, _, _, rfl, Same.refl _⟩
        · rintro j σ H' _ ⟨t5, t10, t11, rfl, sx⟩
          exact .of (sx _ _ hF)
        · rintro j v σ Hd hj ⟨t5, t10, t11, rfl, sx⟩
          have jd := jd.fw g.dk (Same.fw sx)
          obtain ⟨bv, jv⟩ : ∃ b, JRw K D Hd n v b := by
            match j, hj with
            | 0, hj =>
              cases hj
              exact ⟨bp, jp.same sx⟩
            | 1, hj =>
              cases hj
              exact ⟨true, g.rt.same sx⟩
          have ju := ju.same sx
          have g := g.same sx
          clear jp hj
          have gd : bv = true → o = none → GD K Hd n ss v vd := fun c1 c2 => by
            subst c1
            subst c2
            exact gd_small okw bts hT jv jd
          have gw : bu = true → GWish K Hd n vu := fun c => by
            subst c
            exact jrw_wish ju
          have gr : true = true → GWish K Hd n (.ref R) := fun _ => jrw_wish g.rt
          have jd' := jd.jdl (by decide)
          clear jd
          walk_at "r"
          refine ⟨_, v, vd, D, n, ss, bv, o, rfl, g.web, oks, jv, jd', fun He u1 se iw1 => ?_⟩
          walk_at "r"
          have gwS : ∀ {H' : Hp} {u : V}, Same Hd H' → GWish K Hd n u → GWish K H' n u := fun s ⟨ws, h1, h2⟩ => ⟨ws, h1.same s, h2⟩
          refine ⟨true, _, v, vd, D, n, ss, bv, o, rfl, g.web.same se, jv.same se, jd'.same se, fun c1 c2 => (gd c1 c2).same se, fun Hf u2 sf iw2 => ?_⟩
          walk_at "r"
          refine neWd iw2 (iw1.same sf) (dueW_ok _ _) (dueW_ok _ _) ?_
          rw [decide_eq_true rfl, decide_eq_true rfl, Bool.and_self]
          have k6 := se.trans sf
          walk_at "r"
          refine ⟨false, _, v, vd, D, n, ss, bv, o, rfl, g.web.same k6, jv.same k6, jd'.same k6, fun c1 c2 => (gd c1 c2).same k6, fun Hg u3 sg iw3 => ?_⟩
          walk_at "r"
          refine neWd iw3 ((iw1.same sf).same sg) (dueW_ok _ _) (dueW_ok _ _) ?_
          rw [decide_eq_true rfl, decide_eq_true rfl, Bool.and_self]
          have k7 := k6.trans sg
          walk_at "r"
          refine ⟨_, v, vu, vd, D, n, ss, bv, bu, o, rfl, g.web.same k7, oks, jv.same k7, ju.same k7, jd'.same k7, fun c1 c2 => (gd c1 c2).same k7, fun c => gwS k7 (gw c), fun Hh sh' => ?_⟩
          have k8 := k7.trans sh'
          walk_at "r"
          refine ⟨_, v, _, vd, D, n, ss, bv, true, o, rfl, g.web.same k8, oks, jv.same k8, g.rt.same k8, jd'.same k8, fun c1 c2 => (gd c1 c2).same k8, fun c => gwS k8 (gr c), fun Hi si => ?_⟩
          walk_at "r"
          exact ⟨_, _, _, rfl, sx.trans (k8.trans si)⟩
        · rintro σ H' ⟨t5, t10, t11, rfl, sx⟩
          walk_at "r"
          exact ⟨_, _, _, _, _, _, rfl, (g.same sx).mono (by omega)⟩
      rintro σ H8 ⟨t5, t7, t8, t9, t10, t11, rfl, g⟩
      have g := g.mono (show 100 + 200 * (3 + min ((ns.map V.int).length : Int) 12).toNat ≤ 3200 by omega)
      walk_at "r"
      refine ⟨fun σ H' => ∃ (t5 t7 t8 t9 t10 t11 t12 t13 : Option V), σ = [some (.ref a), some (.ref D), some (.int (n : Nat)), some (.int (m : Nat)), some (.ref x6), t5, some (.ref R), t7, t8, t9, t10, t11, t12, t13] ∧ L14 K c_Web D C R a x6 n ns ss 3300 H', ?_, ?_⟩
      · have stay := g.mono (show 3200 ≤ 3300 by decide)
        walk_at "r"
        walk_at "if"
        · rename_i hgt
          walk_at "r"
          refine ⟨a, ns, rfl, g.sq, hl, hb, fun H9 rr s9 hrr => ?_⟩
          have stay := stay.same s9
          have g := g.same s9
          clear s9
          walk_at "r"
          walk_at "if"
          · walk_at "r"
            refine ⟨D, C, _, n, _, ss, rfl, g.dk, by decide, g.web, by omega, by omega, fun Ha vm wa ka im => ?_⟩
            have g := g.fw wa ka
            clear wa ka stay
            obtain ⟨pm, mi, mw, va, r, s, rfl, hpm, _, _, _, hs, hws⟩ := im
            walk_at "r"
            intro pe npe
            have sb := same_upd (o := .tup [V.int 1, .int 1]) npe
            have hpe : upd Ha pe (.tup [V.int 1, .int 1]) pe = some (.tup [V.int 1, .int 1]) := upd_same
            have hpm := sb _ _ hpm
            have g := g.same sb
            generalize upd Ha pe (.tup [V.int 1, .int 1]) = Hb at *
            clear sb npe
            walk_at "r"
            intro pt npt
            have sb := same_upd (o := .tup [V.int (mi : Nat), .int (mw : Nat), .ref pe]) npt
            have hpt : upd Hb pt (.tup [V.int (mi : Nat), .int (mw : Nat), .ref pe]) pt = some (.tup [V.int (mi : Nat), .int (mw : Nat), .ref pe]) := upd_same
            have hpe := sb _ _ hpe
            have g := g.same sb
            generalize upd Hb pt (.tup [V.int (mi : Nat), .int (mw : Nat), .ref pe]) = Hc at *
            clear sb npt hpm
            have fe : IsF K Hc (.ref pe) 1 := ⟨pe, rfl, .inl hpe⟩
            have b1 : Bd 1 (1 : Rat) := ⟨by decide +kernel, by decide +kernel⟩
            have im : IsM K Hc (.ref pt) ⟨mi, mw, 1⟩ := ⟨pt, _, rfl, hpt, fe⟩
            have jm : JM K D Hc (.ref pt) (some (some (mi : Int), some (mw : Int), some 1)) := .inl ⟨pt, _, _, _, _, _, _, rfl, tup_ne g.dk hpt, hpt, .inl ⟨_, rfl, rfl⟩, .inl ⟨_, rfl, rfl⟩, .inl ⟨1, fe, b1.mono (by decide), rfl⟩, rfl⟩
            clear hpe hpt fe
            walk_at "r"
            intro La nLa
            have sb := same_upd (o := .lst [V.ref pt]) nLa
            have hLa : upd Hc La (.lst [V.ref pt]) La = some (.lst [V.ref pt]) := upd_same
            have im := im.same sb
            have jm := jm.same sb
            have g := g.same sb
            generalize upd Hc La (.lst [V.ref pt]) = Hd at *
            clear sb nLa
            refine ⟨La, 201, _, rfl, rfl, hLa, by decide, by decide, by rw [sizeLine_eq]; show 1 * 201 ≤ 16777216; decide, fun Lb nLb => ?_⟩
            have sb := same_upd (o := .lst (List.replicate (201 : Int).toNat [V.ref pt]).flatten) nLb
            have hLb : upd Hd Lb (.lst (List.replicate (201 : Int).toNat [V.ref pt]).flatten) Lb = some (.lst (List.replicate 201 (V.ref pt))) := upd_same.trans (by rw [show (201 : Int).toNat = 201 from rfl, List.flatten_replicate_singleton])
            have LbD := g.dk.ne nLb
            have im := im.same sb
            have jm := jm.same sb
            have g := g.same sb
            generalize upd Hd Lb (.lst (List.replicate (201 : Int).toNat [V.ref pt]).flatten) = He at *
            clear sb nLb hLa
            have jl : JDl K D He ss (.ref Lb) (some (-1)) := .inl ⟨Lb, _, _, rfl, LbD, .inl hLb, long_jm jm 201, by rw [List.length_replicate]; decide, flt_long.symm⟩
            walk_at "r"
            refine ⟨true, _, _, _, D, n, ss, true, some (-1), rfl, g.web, g.rt, jl, (fun _ c => by cases c), fun Hf u2 sf iw2 => ?_⟩
            have im := im.same sf
            have jm := jm.same sf
            have hLb := sf _ _ hLb
            have g := g.same sf
            clear sf jl
            walk_at "r"
            intro pr npr
            have sb := same_upd (o := .tup [V.str "deal", .int (-1)]) npr
            refine neWd (iw2.same sb) ⟨pr, rfl, upd_same⟩ (dueW_ok _ _) deal_ok ?_
            rw [show (decide ((dueW true (some (-1))).1 = ("deal" : Str)) && decide ((dueW true (some (-1))).2 = -1)) = true from by decide +kernel]
            have im := im.same sb
            have jm := jm.same sb
            have hLb := sb _ _ hLb
            have g := g.same sb
            generalize upd Hf pr (.tup [V.str "deal", .int (-1)]) = Hg at *
            clear sb npr iw2
            walk_at "r"
            refine rd_slLs hLb fun Lc Hh nLc sb hLc => ?_
            rw [show (1 : Int) = ((1 : Nat) : Int) from rfl, cut_drop, List.drop_replicate] at hLc
            have im := im.same sb
            have jm := jm.same sb
            have g := g.same sb
            clear sb nLc hLb
            walk_at "r"
            refine ⟨Lc, _, rfl, .inl ⟨.of hLc, fun pd npd => ?_⟩⟩
            have sb := same_upd (o := .tup (List.replicate (201 - 1) (V.ref pt))) npd
            have hpd : upd Hh pd (.tup (List.replicate (201 - 1) (V.ref pt))) pd = some (.tup (List.replicate 200 (V.ref pt))) := upd_same
            have pdD := g.dk.ne npd
            have im := im.same sb
            have jm := jm.same sb
            have g := g.same sb
            generalize upd Hh pd (.tup (List.replicate (201 - 1) (V.ref pt))) = Hi at *
            clear sb npd hLc
            have jt : JDl K D Hi ss (.ref pd) none := .inl ⟨pd, _, _, rfl, pdD, .inr hpd, long_jm jm 200, by rw [List.length_replicate]; decide, (flt_told (mv_right hs hws)).symm⟩
            obtain ⟨rs', hr1, hr2, hr3⟩ := jrw_good g.rt
            have gdl : GD K Hi n ss (.ref R) (.ref pd) := gd_of (l := 1) (ms := List.replicate 200 ⟨mi, mw, 1⟩) (by decide) (fun mv hm => by
              rw [(List.mem_replicate.mp hm).2]
              exact ⟨s, hs, hws, (by decide +kernel : (0 : Rat) < 1), b1⟩) okw bts (by rw [List.length_replicate]; omega) (by rw [List.length_replicate]; decide) hr1 hr2 hr3 ⟨pd, _, rfl, .inr hpd, long_m im 200⟩
            walk_at "r"
            refine ⟨false, _, _, _, D, n, ss, true, none, rfl, g.web, g.rt, jt, (fun _ _ => gdl), fun Hj u3 sj iw3 => ?_⟩
            have g := g.same sj
            walk_at "r"
            intro ps nps
            have sb := same_upd (o := .tup [V.str "told", .int 0]) nps
            refine neWd (iw3.same sb) ⟨ps, rfl, upd_same⟩ (dueW_ok _ _) told_ok ?_
            rw [show (decide ((dueW true none).1 = ("told" : Str)) && decide ((dueW true none).2 = 0)) = true from by decide +kernel]
            walk_at "r"
            exact ⟨_, _, _, _, _, _, _, _, rfl, (g.same sb).mono (by decide)⟩
          · walk_at "r"
            exact ⟨_, _, _, _, _, _, _, _, rfl, stay⟩
        · walk_at "r"
          exact ⟨_, _, _, _, _, _, _, _, rfl, stay⟩
      rintro σ H9 ⟨t5, t7, t8, t9, t10, t11, t12, t13, rfl, g⟩
      walk_at "r"
      intro Lz nLz
      have sb := same_upd (o := .lst []) nLz
      have hLz : upd H9 Lz (.lst []) Lz = some (.lst []) := upd_same
      have LzD := g.dk.ne nLz
      have g := g.same sb
      generalize upd H9 Lz (.lst []) = Ha at *
      have js : JDs K D Ha ss 20 (.ref Lz) none := .inl ⟨Lz, [], [], rfl, LzD, .inl hLz, .nil, by decide, rfl⟩
      walk_at "r"
      refine ⟨true, _, _, _, D, n, ss, true, none, rfl, g.web, g.rt, js.jdl (by decide), (fun _ _ => gd_small okw bts hT g.rt js), fun Hj u3 sj iw3 => ?_⟩
      walk_at "r"
      intro ps nps
      have sb := same_upd (o := .tup [V.str "told", .int 0]) nps
      refine eqWd (iw3.same sb) ⟨ps, rfl, upd_same⟩ (dueW_ok _ _) told_ok ?_
      rw [show (decide ((dueW true none).1 = ("told" : Str)) && decide ((dueW true none).2 = 0)) = true from by decide +kernel]
      exact q _
theorem ok_all (T : Txt K mg f_is_integer f_is_row f_is_fraction f_is_amount f_is_some f_are_amounts f_added f_negated f_lessened f_multiplied f_divided f_squared f_summed f_lies_below f_is_stall f_hold_of f_stalls_of f_kept_of f_held f_is_index f_is_move f_check_purse f_check_wish f_stall_led f_stall_behind f_stalls_behind f_deal_fault f_check_deal f_web_behind f_left_with f_played f_owes f_is_deal f_stands_alike f_check_alike f_change_of f_l_deck f_l_pick f_l_fold f_l_divisor f_l_made f_l_amount f_l_stall f_l_deep f_l_odd f_l_row f_l_bad_row f_l_move f_l_bad_deal f_l_is_some f_l_is_row f_l_is_below f_l_is_move f_l_due f_l_answer f_l_word f_l_word_is_due f_law f_BadDeal_init f_Web_init f_Web_eq c_BadPurse c_BadWish c_BadDeal c_Web c_ZERO d_is_integer d_is_row d_is_fraction d_is_amount d_is_some d_are_amounts d_added d_negated d_lessened d_multiplied d_divided d_squared d_summed d_lies_below d_is_stall d_hold_of d_stalls_of d_kept_of d_held d_is_index d_is_move d_check_purse d_check_wish d_stall_led d_stall_behind d_stalls_behind d_deal_fault d_check_deal d_web_behind d_left_with d_played d_owes d_is_deal d_stands_alike d_check_alike d_change_of d_l_deck d_l_pick d_l_fold d_l_divisor d_l_made d_l_amount d_l_stall d_l_deep d_l_odd d_l_row d_l_bad_row d_l_move d_l_bad_deal d_l_is_some d_l_is_row d_l_is_below d_l_is_move d_l_due d_l_answer d_l_word d_l_word_is_due d_law d_BadDeal_init d_Web_init d_Web_eq) : FnOk P w K mg base CX0 12 f_law d_law ["_law_script"] (sp_law K) := ok_law T
end
end My
namespace My
open PySem PySem.Spec PyProof.Rows L2
theorem all_mk {l : PySem.W.OpenLaw} {w : World} {K : PySem.W.Frag} {h : Heap} {mg : Str → Option Value} {fa : Addr} (X : K.In h) (G : h.Ns mainGlobals mg) (hfa : mg "law" = some (.ref fa))
    {c_BadPurse : Addr}
    {c_BadWish : Addr}
    {c_BadDeal : Addr} {nm_BadDeal q_BadDeal : Str} {N_BadDeal : Addr} {bs_BadDeal bm_BadDeal : List Value} {sn_BadDeal : List Str} {sub_BadDeal : List Value} {ab_BadDeal : Bool} {col_BadDeal : Option Bool} {dd_BadDeal : Option Addr} {k0_BadDeal k1_BadDeal k2_BadDeal k3_BadDeal k5_BadDeal : Option Value}
    {c_Web : Addr}
    {c_ZERO : Addr} {dd_ZERO : Option Addr} {its_ZERO : Array Value} {n_ZERO : Nat} {sl_ZERO : Array (Option Value)}
    {tk_MOST_MOVES : Tok}
    {tk_MOST_STALLS : Tok}
    {tk_MOST_WARES : Tok}
    {od0 an0 : Option Addr} {sl0 : Array (Option Value)} {oc0 kV0 dc0 pm0 cd0 ct0 : Value} {f_is_integer : Addr}
    {od1 an1 : Option Addr} {sl1 : Array (Option Value)} {oc1 kV1 dc1 pm1 cd1 ct1 : Value} {f_is_row : Addr}
    {od2 an2 : Option Addr} {sl2 : Array (Option Value)} {oc2 kV2 dc2 pm2 cd2 ct2 : Value} {f_is_fraction : Addr}
    {od3 an3 : Option Addr} {sl3 : Array (Option Value)} {oc3 kV3 dc3 pm3 cd3 ct3 : Value} {f_is_amount : Addr}
    {od4 an4 : Option Addr} {sl4 : Array (Option Value)} {oc4 kV4 dc4 pm4 cd4 ct4 : Value} {f_is_some : Addr}
    {od5 an5 : Option Addr} {sl5 : Array (Option Value)} {oc5 kV5 dc5 pm5 cd5 ct5 : Value} {f_are_amounts : Addr}
    {od6 an6 : Option Addr} {sl6 : Array (Option Value)} {oc6 kV6 dc6 pm6 cd6 ct6 : Value} {f_added : Addr}
    {od7 an7 : Option Addr} {sl7 : Array (Option Value)} {oc7 kV7 dc7 pm7 cd7 ct7 : Value} {f_negated : Addr}
    {od8 an8 : Option Addr} {sl8 : Array (Option Value)} {oc8 kV8 dc8 pm8 cd8 ct8 : Value} {f_lessened : Addr}
    {od9 an9 : Option Addr} {sl9 : Array (Option Value)} {oc9 kV9 dc9 pm9 cd9 ct9 : Value} {f_multiplied : Addr}
    {od10 an10 : Option Addr} {sl10 : Array (Option Value)} {oc10 kV10 dc10 pm10 cd10 ct10 : Value} {f_divided : Addr}
    {od11 an11 : Option Addr} {sl11 : Array (Option Value)} {oc11 kV11 dc11 pm11 cd11 ct11 : Value} {f_squared : Addr}
    {od12 an12 : Option Addr} {sl12 : Array (Option Value)} {oc12 kV12 dc12 pm12 cd12 ct12 : Value} {f_summed : Addr}
    {od13 an13 : Option Addr} {sl13 : Array (Option Value)} {oc13 kV13 dc13 pm13 cd13 ct13 : Value} {f_lies_below : Addr}
    {od14 an14 : Option Addr} {sl14 : Array (Option Value)} {oc14 kV14 dc14 pm14 cd14 ct14 : Value} {f_is_stall : Addr}
    {od15 an15 : Option Addr} {sl15 : Array (Option Value)} {oc15 kV15 dc15 pm15 cd15 ct15 : Value} {f_hold_of : Addr}
    {od16 an16 : Option Addr} {sl16 : Array (Option Value)} {oc16 kV16 dc16 pm16 cd16 ct16 : Value} {f_stalls_of : Addr}
    {od17 an17 : Option Addr} {sl17 : Array (Option Value)} {oc17 kV17 dc17 pm17 cd17 ct17 : Value} {f_kept_of : Addr}
    {od18 an18 : Option Addr} {sl18 : Array (Option Value)} {oc18 kV18 dc18 pm18 cd18 ct18 : Value} {f_held : Addr}
    {od19 an19 : Option Addr} {sl19 : Array (Option Value)} {oc19 kV19 dc19 pm19 cd19 ct19 : Value} {f_is_index : Addr}
    {od20 an20 : Option Addr} {sl20 : Array (Option Value)} {oc20 kV20 dc20 pm20 cd20 ct20 : Value} {f_is_move : Addr}
    {od21 an21 : Option Addr} {sl21 : Array (Option Value)} {oc21 kV21 dc21 pm21 cd21 ct21 : Value} {f_check_purse : Addr}
    {od22 an22 : Option Addr} {sl22 : Array (Option Value)} {oc22 kV22 dc22 pm22 cd22 ct22 : Value} {f_check_wish : Addr}
    {od23 an23 : Option Addr} {sl23 : Array (Option Value)} {oc23 kV23 dc23 pm23 cd23 ct23 : Value} {f_stall_led : Addr}
    {od24 an24 : Option Addr} {sl24 : Array (Option Value)} {oc24 kV24 dc24 pm24 cd24 ct24 : Value} {f_stall_behind : Addr}
    {od25 an25 : Option Addr} {sl25 : Array (Option Value)} {oc25 kV25 dc25 pm25 cd25 ct25 : Value} {f_stalls_behind : Addr}
    {od26 an26 : Option Addr} {sl26 : Array (Option Value)} {oc26 kV26 dc26 pm26 cd26 ct26 : Value} {f_deal_fault : Addr}
    {od27 an27 : Option Addr} {sl27 : Array (Option Value)} {oc27 kV27 dc27 pm27 cd27 ct27 : Value} {f_check_deal : Addr}
    {od28 an28 : Option Addr} {sl28 : Array (Option Value)} {oc28 kV28 dc28 pm28 cd28 ct28 : Value} {f_web_behind : Addr}
    {od29 an29 : Option Addr} {sl29 : Array (Option Value)} {oc29 kV29 dc29 pm29 cd29 ct29 : Value} {f_left_with : Addr}
    {od30 an30 : Option Addr} {sl30 : Array (Option Value)} {oc30 kV30 dc30 pm30 cd30 ct30 : Value} {f_played : Addr}
    {od31 an31 : Option Addr} {sl31 : Array (Option Value)} {oc31 kV31 dc31 pm31 cd31 ct31 : Value} {f_owes : Addr}
    {od32 an32 : Option Addr} {sl32 : Array (Option Value)} {oc32 kV32 dc32 pm32 cd32 ct32 : Value} {f_is_deal : Addr}
    {od33 an33 : Option Addr} {sl33 : Array (Option Value)} {oc33 kV33 dc33 pm33 cd33 ct33 : Value} {f_stands_alike : Addr}
    {od34 an34 : Option Addr} {sl34 : Array (Option Value)} {oc34 kV34 dc34 pm34 cd34 ct34 : Value} {f_check_alike : Addr}
    {od35 an35 : Option Addr} {sl35 : Array (Option Value)} {oc35 kV35 dc35 pm35 cd35 ct35 : Value} {f_change_of : Addr}
    {od36 an36 : Option Addr} {sl36 : Array (Option Value)} {oc36 kV36 dc36 pm36 cd36 ct36 : Value} {f_l_deck : Addr}
    {od37 an37 : Option Addr} {sl37 : Array (Option Value)} {oc37 kV37 dc37 pm37 cd37 ct37 : Value} {f_l_pick : Addr}
    {od38 an38 : Option Addr} {sl38 : Array (Option Value)} {oc38 kV38 dc38 pm38 cd38 ct38 : Value} {f_l_fold : Addr}
    {od39 an39 : Option Addr} {sl39 : Array (Option Value)} {oc39 kV39 dc39 pm39 cd39 ct39 : Value} {f_l_divisor : Addr}
    {od40 an40 : Option Addr} {sl40 : Array (Option Value)} {oc40 kV40 dc40 pm40 cd40 ct40 : Value} {f_l_made : Addr}
    {od41 an41 : Option Addr} {sl41 : Array (Option Value)} {oc41 kV41 dc41 pm41 cd41 ct41 : Value} {f_l_amount : Addr}
    {od42 an42 : Option Addr} {sl42 : Array (Option Value)} {oc42 kV42 dc42 pm42 cd42 ct42 : Value} {f_l_stall : Addr}
    {od43 an43 : Option Addr} {sl43 : Array (Option Value)} {oc43 kV43 dc43 pm43 cd43 ct43 : Value} {f_l_deep : Addr}
    {od44 an44 : Option Addr} {sl44 : Array (Option Value)} {oc44 kV44 dc44 pm44 cd44 ct44 : Value} {f_l_odd : Addr}
    {od45 an45 : Option Addr} {sl45 : Array (Option Value)} {oc45 kV45 dc45 pm45 cd45 ct45 : Value} {f_l_row : Addr}
    {od46 an46 : Option Addr} {sl46 : Array (Option Value)} {oc46 kV46 dc46 pm46 cd46 ct46 : Value} {f_l_bad_row : Addr}
    {od47 an47 : Option Addr} {sl47 : Array (Option Value)} {oc47 kV47 dc47 pm47 cd47 ct47 : Value} {f_l_move : Addr}
    {od48 an48 : Option Addr} {sl48 : Array (Option Value)} {oc48 kV48 dc48 pm48 cd48 ct48 : Value} {f_l_bad_deal : Addr}
    {od49 an49 : Option Addr} {sl49 : Array (Option Value)} {oc49 kV49 dc49 pm49 cd49 ct49 : Value} {f_l_is_some : Addr}
    {od50 an50 : Option Addr} {sl50 : Array (Option Value)} {oc50 kV50 dc50 pm50 cd50 ct50 : Value} {f_l_is_row : Addr}
    {od51 an51 : Option Addr} {sl51 : Array (Option Value)} {oc51 kV51 dc51 pm51 cd51 ct51 : Value} {f_l_is_below : Addr}
    {od52 an52 : Option Addr} {sl52 : Array (Option Value)} {oc52 kV52 dc52 pm52 cd52 ct52 : Value} {f_l_is_move : Addr}
    {od53 an53 : Option Addr} {sl53 : Array (Option Value)} {oc53 kV53 dc53 pm53 cd53 ct53 : Value} {f_l_due : Addr}
    {od54 an54 : Option Addr} {sl54 : Array (Option Value)} {oc54 kV54 dc54 pm54 cd54 ct54 : Value} {f_l_answer : Addr}
    {od55 an55 : Option Addr} {sl55 : Array (Option Value)} {oc55 kV55 dc55 pm55 cd55 ct55 : Value} {f_l_word : Addr}
    {od56 an56 : Option Addr} {sl56 : Array (Option Value)} {oc56 kV56 dc56 pm56 cd56 ct56 : Value} {f_l_word_is_due : Addr}
    {od57 an57 : Option Addr} {sl57 : Array (Option Value)} {oc57 kV57 dc57 pm57 cd57 ct57 : Value} {f_law : Addr}
    {od58 an58 : Option Addr} {sl58 : Array (Option Value)} {oc58 kV58 dc58 pm58 cd58 ct58 : Value} {f_BadDeal_init : Addr}
    {od59 an59 : Option Addr} {sl59 : Array (Option Value)} {oc59 kV59 dc59 pm59 cd59 ct59 : Value} {f_Web_init : Addr}
    {od60 an60 : Option Addr} {sl60 : Array (Option Value)} {oc60 kV60 dc60 pm60 cd60 ct60 : Value} {f_Web_eq : Addr}
    (z_abs : PySem.W.nsIn K mainGlobals "abs" = some none)
    (z_all : PySem.W.nsIn K mainGlobals "all" = some none)
    (z_any : PySem.W.nsIn K mainGlobals "any" = some none)
    (z_bool : PySem.W.nsIn K mainGlobals "bool" = some none)
    (z_enumerate : PySem.W.nsIn K mainGlobals "enumerate" = some none)
    (z_int : PySem.W.nsIn K mainGlobals "int" = some none)
    (z_isinstance : PySem.W.nsIn K mainGlobals "isinstance" = some none)
    (z_len : PySem.W.nsIn K mainGlobals "len" = some none)
    (z_list : PySem.W.nsIn K mainGlobals "list" = some none)
    (z_min : PySem.W.nsIn K mainGlobals "min" = some none)
    (z_range : PySem.W.nsIn K mainGlobals "range" = some none)
    (z_tuple : PySem.W.nsIn K mainGlobals "tuple" = some none)
    (z_zip : PySem.W.nsIn K mainGlobals "zip" = some none)
    (m_gcd : PySem.W.nsIn K mainGlobals "gcd" = some (some (.builtin "math.gcd")))
    (a_BadPurse : PySem.W.nsIn K mainGlobals "BadPurse" = some (some (.ref c_BadPurse)))
    (ex_BadPurse : PySem.W.excIn K c_BadPurse veChain "ValueError.__new__" = true)
    (kp_BadPurse : PySem.W.keepIn K (.ref c_BadPurse) = true)
    (be_BadPurse : PySem.W.subIn K (.ref c_BadPurse) (.type "BaseException") = some true)
    (ty_BadPurse : PySem.W.typeIn K (.ref c_BadPurse) = some (.type "type"))
    (ic_BadPurse : PySem.W.isClsIn K c_BadPurse = true)
    (sf_BadPurse : PySem.W.subIn K (.ref c_BadPurse) (.ref c_BadPurse) = some true)
    (a_BadWish : PySem.W.nsIn K mainGlobals "BadWish" = some (some (.ref c_BadWish)))
    (ex_BadWish : PySem.W.excIn K c_BadWish veChain "ValueError.__new__" = true)
    (kp_BadWish : PySem.W.keepIn K (.ref c_BadWish) = true)
    (be_BadWish : PySem.W.subIn K (.ref c_BadWish) (.type "BaseException") = some true)
    (ty_BadWish : PySem.W.typeIn K (.ref c_BadWish) = some (.type "type"))
    (ic_BadWish : PySem.W.isClsIn K c_BadWish = true)
    (sf_BadWish : PySem.W.subIn K (.ref c_BadWish) (.ref c_BadWish) = some true)
    (a_BadDeal : PySem.W.nsIn K mainGlobals "BadDeal" = some (some (.ref c_BadDeal)))
    (ob_BadDeal : K.lookup c_BadDeal = some (PySem.excClassObj nm_BadDeal q_BadDeal c_BadDeal N_BadDeal bs_BadDeal bm_BadDeal true sn_BadDeal sub_BadDeal ab_BadDeal col_BadDeal dd_BadDeal k0_BadDeal k1_BadDeal k2_BadDeal k3_BadDeal k5_BadDeal "ValueError.__new__"))
    (rv_BadDeal : PySem.HandSPX.refsVE bm_BadDeal = true)
    (sa_BadDeal : PySem.W.findIn K (.ref c_BadDeal) "__setattr__" = some (some (.builtin "object.__setattr__")))
    (ga_BadDeal : PySem.W.findIn K (.ref c_BadDeal) "__getattribute__" = some (some (.builtin "BaseException.__getattribute__")))
    (gg_BadDeal : PySem.W.findIn K (.ref c_BadDeal) "__getattr__" = some none)
    (no_BadDeal : PySem.W.findIn K (.ref c_BadDeal) "index" = some none)
    (in_BadDeal : PySem.W.findIn K (.ref c_BadDeal) "__init__" = some (some (.ref f_BadDeal_init)))
    (ti_BadDeal : PySem.W.typeIn K (.ref f_BadDeal_init) = some (.type "function"))
    (be_BadDeal : PySem.W.subIn K (.ref c_BadDeal) (.type "BaseException") = some true)
    (ty_BadDeal : PySem.W.typeIn K (.ref c_BadDeal) = some (.type "type"))
    (kp_BadDeal : PySem.W.keepIn K (.ref c_BadDeal) = true)
    (hd_BadDeal : PySem.W.hasDictIn K c_BadDeal = true)
    (ic_BadDeal : PySem.W.isClsIn K c_BadDeal = true)
    (sf_BadDeal : PySem.W.subIn K (.ref c_BadDeal) (.ref c_BadDeal) = some true)
    (a_Web : PySem.W.nsIn K mainGlobals "Web" = some (some (.ref c_Web)))
    (mk_Web : PySem.W.makesIn K c_Web = true)
    (in_Web : PySem.W.findIn K (.ref c_Web) "__init__" = some (some (.ref f_Web_init)))
    (fn_Web : PySem.W.isFn K (.ref f_Web_init) = true)
    (kp_Web : PySem.W.keepIn K (.ref c_Web) = true)
    (pg_Web : PySem.W.plainGet K c_Web Str.empty = true)
    (hd_Web : PySem.W.hasDictIn K c_Web = true)
    (po_Web : PySem.W.plainOver K c_Web = true)
    (sa_Web : PySem.W.findIn K (.ref c_Web) "__setattr__" = some (some (.builtin "object.__setattr__")))
    (ha_Web : PySem.W.findIn K (.ref c_Web) "__class__" = some (some (.builtin "object.__class__")))
    (hn_Web : PySem.W.specialIn K (.builtin "object.__class__") "__get__" = some (some (.builtin "getset_descriptor.__get__")))
    (ht_Web : PySem.W.takesIn K (.builtin "object.__class__") = some true)
    (mo_Web : PySem.W.mroIn K c_Web (.type "object") = some true)
    (i_int_Web : PySem.W.kitOne K (.ref c_Web) (.type "int") = some false)
    (i_bool_Web : PySem.W.kitOne K (.ref c_Web) (.type "bool") = some false)
    (i_tuple_Web : PySem.W.kitOne K (.ref c_Web) (.type "tuple") = some false)
    (i_list_Web : PySem.W.kitOne K (.ref c_Web) (.type "list") = some false)
    (na_Web_wares : PySem.W.findIn K (.ref c_Web) "wares" = some none)
    (na_Web_stalls : PySem.W.findIn K (.ref c_Web) "stalls" = some none)
    (x_BadDeal_BadPurse : PySem.W.subIn K (.ref c_BadDeal) (.ref c_BadPurse) = some false)
    (x_BadWish_BadPurse : PySem.W.subIn K (.ref c_BadWish) (.ref c_BadPurse) = some false)
    (v_ZERO : PySem.W.nsIn K mainGlobals "ZERO" = some (some (.ref c_ZERO)))
    (o_ZERO : K.lookup c_ZERO = some ⟨.type "tuple", dd_ZERO, .seq its_ZERO n_ZERO, sl_ZERO⟩)
    (tv_ZERO : Vals [V.int 0, V.int 1] its_ZERO.toList ∧ its_ZERO.size ≤ sizeLine)
    (v_MOST_MOVES : PySem.W.nsIn K mainGlobals "MOST_MOVES" = some (some (.int 200 tk_MOST_MOVES)))
    (v_MOST_STALLS : PySem.W.nsIn K mainGlobals "MOST_STALLS" = some (some (.int 16 tk_MOST_STALLS)))
    (v_MOST_WARES : PySem.W.nsIn K mainGlobals "MOST_WARES" = some (some (.int 8 tk_MOST_WARES)))
    (a_is_integer : PySem.W.nsIn K mainGlobals "is_integer" = some (some (.ref f_is_integer)))
    (l_is_integer : K.lookup f_is_integer = some ⟨oc0, od0, .func (PySem.W.fnOf "is_integer" "is_integer" (defArgs s_is_integer) (defBody s_is_integer) (defScope s_is_integer) .none kV0 dc0 pm0 an0 cd0 ct0), sl0⟩)
    (c_is_integer : PySem.W.codeIn K cd0 "is_integer" = true)
    (k_is_integer : PySem.W.keepIn K (.ref f_is_integer) = true)
    (a_is_row : PySem.W.nsIn K mainGlobals "is_row" = some (some (.ref f_is_row)))
    (l_is_row : K.lookup f_is_row = some ⟨oc1, od1, .func (PySem.W.fnOf "is_row" "is_row" (defArgs s_is_row) (defBody s_is_row) (defScope s_is_row) .none kV1 dc1 pm1 an1 cd1 ct1), sl1⟩)
    (c_is_row : PySem.W.codeIn K cd1 "is_row" = true)
    (k_is_row : PySem.W.keepIn K (.ref f_is_row) = true)
    (a_is_fraction : PySem.W.nsIn K mainGlobals "is_fraction" = some (some (.ref f_is_fraction)))
    (l_is_fraction : K.lookup f_is_fraction = some ⟨oc2, od2, .func (PySem.W.fnOf "is_fraction" "is_fraction" (defArgs s_is_fraction) (defBody s_is_fraction) (defScope s_is_fraction) .none kV2 dc2 pm2 an2 cd2 ct2), sl2⟩)
    (c_is_fraction : PySem.W.codeIn K cd2 "is_fraction" = true)
    (k_is_fraction : PySem.W.keepIn K (.ref f_is_fraction) = true)
    (a_is_amount : PySem.W.nsIn K mainGlobals "is_amount" = some (some (.ref f_is_amount)))
    (l_is_amount : K.lookup f_is_amount = some ⟨oc3, od3, .func (PySem.W.fnOf "is_amount" "is_amount" (defArgs s_is_amount) (defBody s_is_amount) (defScope s_is_amount) .none kV3 dc3 pm3 an3 cd3 ct3), sl3⟩)
    (c_is_amount : PySem.W.codeIn K cd3 "is_amount" = true)
    (k_is_amount : PySem.W.keepIn K (.ref f_is_amount) = true)
    (a_is_some : PySem.W.nsIn K mainGlobals "is_some" = some (some (.ref f_is_some)))
    (l_is_some : K.lookup f_is_some = some ⟨oc4, od4, .func (PySem.W.fnOf "is_some" "is_some" (defArgs s_is_some) (defBody s_is_some) (defScope s_is_some) .none kV4 dc4 pm4 an4 cd4 ct4), sl4⟩)
    (c_is_some : PySem.W.codeIn K cd4 "is_some" = true)
    (k_is_some : PySem.W.keepIn K (.ref f_is_some) = true)
    (a_are_amounts : PySem.W.nsIn K mainGlobals "are_amounts" = some (some (.ref f_are_amounts)))
    (l_are_amounts : K.lookup f_are_amounts = some ⟨oc5, od5, .func (PySem.W.fnOf "are_amounts" "are_amounts" (defArgs s_are_amounts) (defBody s_are_amounts) (defScope s_are_amounts) .none kV5 dc5 pm5 an5 cd5 ct5), sl5⟩)
    (c_are_amounts : PySem.W.codeIn K cd5 "are_amounts" = true)
    (k_are_amounts : PySem.W.keepIn K (.ref f_are_amounts) = true)
    (a_added : PySem.W.nsIn K mainGlobals "added" = some (some (.ref f_added)))
    (l_added : K.lookup f_added = some ⟨oc6, od6, .func (PySem.W.fnOf "added" "added" (defArgs s_added) (defBody s_added) (defScope s_added) .none kV6 dc6 pm6 an6 cd6 ct6), sl6⟩)
    (c_added : PySem.W.codeIn K cd6 "added" = true)
    (k_added : PySem.W.keepIn K (.ref f_added) = true)
    (a_negated : PySem.W.nsIn K mainGlobals "negated" = some (some (.ref f_negated)))
    (l_negated : K.lookup f_negated = some ⟨oc7, od7, .func (PySem.W.fnOf "negated" "negated" (defArgs s_negated) (defBody s_negated) (defScope s_negated) .none kV7 dc7 pm7 an7 cd7 ct7), sl7⟩)
    (c_negated : PySem.W.codeIn K cd7 "negated" = true)
    (k_negated : PySem.W.keepIn K (.ref f_negated) = true)
    (a_lessened : PySem.W.nsIn K mainGlobals "lessened" = some (some (.ref f_lessened)))
    (l_lessened : K.lookup f_lessened = some ⟨oc8, od8, .func (PySem.W.fnOf "lessened" "lessened" (defArgs s_lessened) (defBody s_lessened) (defScope s_lessened) .none kV8 dc8 pm8 an8 cd8 ct8), sl8⟩)
    (c_lessened : PySem.W.codeIn K cd8 "lessened" = true)
    (k_lessened : PySem.W.keepIn K (.ref f_lessened) = true)
    (a_multiplied : PySem.W.nsIn K mainGlobals "multiplied" = some (some (.ref f_multiplied)))
    (l_multiplied : K.lookup f_multiplied = some ⟨oc9, od9, .func (PySem.W.fnOf "multiplied" "multiplied" (defArgs s_multiplied) (defBody s_multiplied) (defScope s_multiplied) .none kV9 dc9 pm9 an9 cd9 ct9), sl9⟩)
    (c_multiplied : PySem.W.codeIn K cd9 "multiplied" = true)
    (k_multiplied : PySem.W.keepIn K (.ref f_multiplied) = true)
    (a_divided : PySem.W.nsIn K mainGlobals "divided" = some (some (.ref f_divided)))
    (l_divided : K.lookup f_divided = some ⟨oc10, od10, .func (PySem.W.fnOf "divided" "divided" (defArgs s_divided) (defBody s_divided) (defScope s_divided) .none kV10 dc10 pm10 an10 cd10 ct10), sl10⟩)
    (c_divided : PySem.W.codeIn K cd10 "divided" = true)
    (k_divided : PySem.W.keepIn K (.ref f_divided) = true)
    (a_squared : PySem.W.nsIn K mainGlobals "squared" = some (some (.ref f_squared)))
    (l_squared : K.lookup f_squared = some ⟨oc11, od11, .func (PySem.W.fnOf "squared" "squared" (defArgs s_squared) (defBody s_squared) (defScope s_squared) .none kV11 dc11 pm11 an11 cd11 ct11), sl11⟩)
    (c_squared : PySem.W.codeIn K cd11 "squared" = true)
    (k_squared : PySem.W.keepIn K (.ref f_squared) = true)
    (a_summed : PySem.W.nsIn K mainGlobals "summed" = some (some (.ref f_summed)))
    (l_summed : K.lookup f_summed = some ⟨oc12, od12, .func (PySem.W.fnOf "summed" "summed" (defArgs s_summed) (defBody s_summed) (defScope s_summed) .none kV12 dc12 pm12 an12 cd12 ct12), sl12⟩)
    (c_summed : PySem.W.codeIn K cd12 "summed" = true)
    (k_summed : PySem.W.keepIn K (.ref f_summed) = true)
    (a_lies_below : PySem.W.nsIn K mainGlobals "lies_below" = some (some (.ref f_lies_below)))
    (l_lies_below : K.lookup f_lies_below = some ⟨oc13, od13, .func (PySem.W.fnOf "lies_below" "lies_below" (defArgs s_lies_below) (defBody s_lies_below) (defScope s_lies_below) .none kV13 dc13 pm13 an13 cd13 ct13), sl13⟩)
    (c_lies_below : PySem.W.codeIn K cd13 "lies_below" = true)
    (k_lies_below : PySem.W.keepIn K (.ref f_lies_below) = true)
    (a_is_stall : PySem.W.nsIn K mainGlobals "is_stall" = some (some (.ref f_is_stall)))
    (l_is_stall : K.lookup f_is_stall = some ⟨oc14, od14, .func (PySem.W.fnOf "is_stall" "is_stall" (defArgs s_is_stall) (defBody s_is_stall) (defScope s_is_stall) .none kV14 dc14 pm14 an14 cd14 ct14), sl14⟩)
    (c_is_stall : PySem.W.codeIn K cd14 "is_stall" = true)
    (k_is_stall : PySem.W.keepIn K (.ref f_is_stall) = true)
    (a_hold_of : PySem.W.nsIn K mainGlobals "hold_of" = some (some (.ref f_hold_of)))
    (l_hold_of : K.lookup f_hold_of = some ⟨oc15, od15, .func (PySem.W.fnOf "hold_of" "hold_of" (defArgs s_hold_of) (defBody s_hold_of) (defScope s_hold_of) .none kV15 dc15 pm15 an15 cd15 ct15), sl15⟩)
    (c_hold_of : PySem.W.codeIn K cd15 "hold_of" = true)
    (k_hold_of : PySem.W.keepIn K (.ref f_hold_of) = true)
    (a_stalls_of : PySem.W.nsIn K mainGlobals "stalls_of" = some (some (.ref f_stalls_of)))
    (l_stalls_of : K.lookup f_stalls_of = some ⟨oc16, od16, .func (PySem.W.fnOf "stalls_of" "stalls_of" (defArgs s_stalls_of) (defBody s_stalls_of) (defScope s_stalls_of) .none kV16 dc16 pm16 an16 cd16 ct16), sl16⟩)
    (c_stalls_of : PySem.W.codeIn K cd16 "stalls_of" = true)
    (k_stalls_of : PySem.W.keepIn K (.ref f_stalls_of) = true)
    (a_kept_of : PySem.W.nsIn K mainGlobals "kept_of" = some (some (.ref f_kept_of)))
    (l_kept_of : K.lookup f_kept_of = some ⟨oc17, od17, .func (PySem.W.fnOf "kept_of" "kept_of" (defArgs s_kept_of) (defBody s_kept_of) (defScope s_kept_of) .none kV17 dc17 pm17 an17 cd17 ct17), sl17⟩)
    (c_kept_of : PySem.W.codeIn K cd17 "kept_of" = true)
    (k_kept_of : PySem.W.keepIn K (.ref f_kept_of) = true)
    (a_held : PySem.W.nsIn K mainGlobals "held" = some (some (.ref f_held)))
    (l_held : K.lookup f_held = some ⟨oc18, od18, .func (PySem.W.fnOf "held" "held" (defArgs s_held) (defBody s_held) (defScope s_held) .none kV18 dc18 pm18 an18 cd18 ct18), sl18⟩)
    (c_held : PySem.W.codeIn K cd18 "held" = true)
    (k_held : PySem.W.keepIn K (.ref f_held) = true)
    (a_is_index : PySem.W.nsIn K mainGlobals "is_index" = some (some (.ref f_is_index)))
    (l_is_index : K.lookup f_is_index = some ⟨oc19, od19, .func (PySem.W.fnOf "is_index" "is_index" (defArgs s_is_index) (defBody s_is_index) (defScope s_is_index) .none kV19 dc19 pm19 an19 cd19 ct19), sl19⟩)
    (c_is_index : PySem.W.codeIn K cd19 "is_index" = true)
    (k_is_index : PySem.W.keepIn K (.ref f_is_index) = true)
    (a_is_move : PySem.W.nsIn K mainGlobals "is_move" = some (some (.ref f_is_move)))
    (l_is_move : K.lookup f_is_move = some ⟨oc20, od20, .func (PySem.W.fnOf "is_move" "is_move" (defArgs s_is_move) (defBody s_is_move) (defScope s_is_move) .none kV20 dc20 pm20 an20 cd20 ct20), sl20⟩)
    (c_is_move : PySem.W.codeIn K cd20 "is_move" = true)
    (k_is_move : PySem.W.keepIn K (.ref f_is_move) = true)
    (a_check_purse : PySem.W.nsIn K mainGlobals "check_purse" = some (some (.ref f_check_purse)))
    (l_check_purse : K.lookup f_check_purse = some ⟨oc21, od21, .func (PySem.W.fnOf "check_purse" "check_purse" (defArgs s_check_purse) (defBody s_check_purse) (defScope s_check_purse) .none kV21 dc21 pm21 an21 cd21 ct21), sl21⟩)
    (c_check_purse : PySem.W.codeIn K cd21 "check_purse" = true)
    (k_check_purse : PySem.W.keepIn K (.ref f_check_purse) = true)
    (a_check_wish : PySem.W.nsIn K mainGlobals "check_wish" = some (some (.ref f_check_wish)))
    (l_check_wish : K.lookup f_check_wish = some ⟨oc22, od22, .func (PySem.W.fnOf "check_wish" "check_wish" (defArgs s_check_wish) (defBody s_check_wish) (defScope s_check_wish) .none kV22 dc22 pm22 an22 cd22 ct22), sl22⟩)
    (c_check_wish : PySem.W.codeIn K cd22 "check_wish" = true)
    (k_check_wish : PySem.W.keepIn K (.ref f_check_wish) = true)
    (a_stall_led : PySem.W.nsIn K mainGlobals "stall_led" = some (some (.ref f_stall_led)))
    (l_stall_led : K.lookup f_stall_led = some ⟨oc23, od23, .func (PySem.W.fnOf "stall_led" "stall_led" (defArgs s_stall_led) (defBody s_stall_led) (defScope s_stall_led) .none kV23 dc23 pm23 an23 cd23 ct23), sl23⟩)
    (c_stall_led : PySem.W.codeIn K cd23 "stall_led" = true)
    (k_stall_led : PySem.W.keepIn K (.ref f_stall_led) = true)
    (a_stall_behind : PySem.W.nsIn K mainGlobals "stall_behind" = some (some (.ref f_stall_behind)))
    (l_stall_behind : K.lookup f_stall_behind = some ⟨oc24, od24, .func (PySem.W.fnOf "stall_behind" "stall_behind" (defArgs s_stall_behind) (defBody s_stall_behind) (defScope s_stall_behind) .none kV24 dc24 pm24 an24 cd24 ct24), sl24⟩)
    (c_stall_behind : PySem.W.codeIn K cd24 "stall_behind" = true)
    (k_stall_behind : PySem.W.keepIn K (.ref f_stall_behind) = true)
    (a_stalls_behind : PySem.W.nsIn K mainGlobals "stalls_behind" = some (some (.ref f_stalls_behind)))
    (l_stalls_behind : K.lookup f_stalls_behind = some ⟨oc25, od25, .func (PySem.W.fnOf "stalls_behind" "stalls_behind" (defArgs s_stalls_behind) (defBody s_stalls_behind) (defScope s_stalls_behind) .none kV25 dc25 pm25 an25 cd25 ct25), sl25⟩)
    (c_stalls_behind : PySem.W.codeIn K cd25 "stalls_behind" = true)
    (k_stalls_behind : PySem.W.keepIn K (.ref f_stalls_behind) = true)
    (a_deal_fault : PySem.W.nsIn K mainGlobals "deal_fault" = some (some (.ref f_deal_fault)))
    (l_deal_fault : K.lookup f_deal_fault = some ⟨oc26, od26, .func (PySem.W.fnOf "deal_fault" "deal_fault" (defArgs s_deal_fault) (defBody s_deal_fault) (defScope s_deal_fault) .none kV26 dc26 pm26 an26 cd26 ct26), sl26⟩)
    (c_deal_fault : PySem.W.codeIn K cd26 "deal_fault" = true)
    (k_deal_fault : PySem.W.keepIn K (.ref f_deal_fault) = true)
    (a_check_deal : PySem.W.nsIn K mainGlobals "check_deal" = some (some (.ref f_check_deal)))
    (l_check_deal : K.lookup f_check_deal = some ⟨oc27, od27, .func (PySem.W.fnOf "check_deal" "check_deal" (defArgs s_check_deal) (defBody s_check_deal) (defScope s_check_deal) .none kV27 dc27 pm27 an27 cd27 ct27), sl27⟩)
    (c_check_deal : PySem.W.codeIn K cd27 "check_deal" = true)
    (k_check_deal : PySem.W.keepIn K (.ref f_check_deal) = true)
    (a_web_behind : PySem.W.nsIn K mainGlobals "web_behind" = some (some (.ref f_web_behind)))
    (l_web_behind : K.lookup f_web_behind = some ⟨oc28, od28, .func (PySem.W.fnOf "web_behind" "web_behind" (defArgs s_web_behind) (defBody s_web_behind) (defScope s_web_behind) .none kV28 dc28 pm28 an28 cd28 ct28), sl28⟩)
    (c_web_behind : PySem.W.codeIn K cd28 "web_behind" = true)
    (k_web_behind : PySem.W.keepIn K (.ref f_web_behind) = true)
    (a_left_with : PySem.W.nsIn K mainGlobals "left_with" = some (some (.ref f_left_with)))
    (l_left_with : K.lookup f_left_with = some ⟨oc29, od29, .func (PySem.W.fnOf "left_with" "left_with" (defArgs s_left_with) (defBody s_left_with) (defScope s_left_with) .none kV29 dc29 pm29 an29 cd29 ct29), sl29⟩)
    (c_left_with : PySem.W.codeIn K cd29 "left_with" = true)
    (k_left_with : PySem.W.keepIn K (.ref f_left_with) = true)
    (a_played : PySem.W.nsIn K mainGlobals "played" = some (some (.ref f_played)))
    (l_played : K.lookup f_played = some ⟨oc30, od30, .func (PySem.W.fnOf "played" "played" (defArgs s_played) (defBody s_played) (defScope s_played) .none kV30 dc30 pm30 an30 cd30 ct30), sl30⟩)
    (c_played : PySem.W.codeIn K cd30 "played" = true)
    (k_played : PySem.W.keepIn K (.ref f_played) = true)
    (a_owes : PySem.W.nsIn K mainGlobals "owes" = some (some (.ref f_owes)))
    (l_owes : K.lookup f_owes = some ⟨oc31, od31, .func (PySem.W.fnOf "owes" "owes" (defArgs s_owes) (defBody s_owes) (defScope s_owes) .none kV31 dc31 pm31 an31 cd31 ct31), sl31⟩)
    (c_owes : PySem.W.codeIn K cd31 "owes" = true)
    (k_owes : PySem.W.keepIn K (.ref f_owes) = true)
    (a_is_deal : PySem.W.nsIn K mainGlobals "is_deal" = some (some (.ref f_is_deal)))
    (l_is_deal : K.lookup f_is_deal = some ⟨oc32, od32, .func (PySem.W.fnOf "is_deal" "is_deal" (defArgs s_is_deal) (defBody s_is_deal) (defScope s_is_deal) .none kV32 dc32 pm32 an32 cd32 ct32), sl32⟩)
    (c_is_deal : PySem.W.codeIn K cd32 "is_deal" = true)
    (k_is_deal : PySem.W.keepIn K (.ref f_is_deal) = true)
    (a_stands_alike : PySem.W.nsIn K mainGlobals "stands_alike" = some (some (.ref f_stands_alike)))
    (l_stands_alike : K.lookup f_stands_alike = some ⟨oc33, od33, .func (PySem.W.fnOf "stands_alike" "stands_alike" (defArgs s_stands_alike) (defBody s_stands_alike) (defScope s_stands_alike) .none kV33 dc33 pm33 an33 cd33 ct33), sl33⟩)
    (c_stands_alike : PySem.W.codeIn K cd33 "stands_alike" = true)
    (k_stands_alike : PySem.W.keepIn K (.ref f_stands_alike) = true)
    (a_check_alike : PySem.W.nsIn K mainGlobals "check_alike" = some (some (.ref f_check_alike)))
    (l_check_alike : K.lookup f_check_alike = some ⟨oc34, od34, .func (PySem.W.fnOf "check_alike" "check_alike" (defArgs s_check_alike) (defBody s_check_alike) (defScope s_check_alike) .none kV34 dc34 pm34 an34 cd34 ct34), sl34⟩)
    (c_check_alike : PySem.W.codeIn K cd34 "check_alike" = true)
    (k_check_alike : PySem.W.keepIn K (.ref f_check_alike) = true)
    (a_change_of : PySem.W.nsIn K mainGlobals "change_of" = some (some (.ref f_change_of)))
    (l_change_of : K.lookup f_change_of = some ⟨oc35, od35, .func (PySem.W.fnOf "change_of" "change_of" (defArgs s_change_of) (defBody s_change_of) (defScope s_change_of) .none kV35 dc35 pm35 an35 cd35 ct35), sl35⟩)
    (c_change_of : PySem.W.codeIn K cd35 "change_of" = true)
    (k_change_of : PySem.W.keepIn K (.ref f_change_of) = true)
    (a_l_deck : PySem.W.nsIn K mainGlobals "_law_deck" = some (some (.ref f_l_deck)))
    (l_l_deck : K.lookup f_l_deck = some ⟨oc36, od36, .func (PySem.W.fnOf "_law_deck" "_law_deck" (defArgs s_l_deck) (defBody s_l_deck) (defScope s_l_deck) .none kV36 dc36 pm36 an36 cd36 ct36), sl36⟩)
    (c_l_deck : PySem.W.codeIn K cd36 "_law_deck" = true)
    (k_l_deck : PySem.W.keepIn K (.ref f_l_deck) = true)
    (a_l_pick : PySem.W.nsIn K mainGlobals "_law_pick" = some (some (.ref f_l_pick)))
    (l_l_pick : K.lookup f_l_pick = some ⟨oc37, od37, .func (PySem.W.fnOf "_law_pick" "_law_pick" (defArgs s_l_pick) (defBody s_l_pick) (defScope s_l_pick) .none kV37 dc37 pm37 an37 cd37 ct37), sl37⟩)
    (c_l_pick : PySem.W.codeIn K cd37 "_law_pick" = true)
    (k_l_pick : PySem.W.keepIn K (.ref f_l_pick) = true)
    (a_l_fold : PySem.W.nsIn K mainGlobals "_law_fold" = some (some (.ref f_l_fold)))
    (l_l_fold : K.lookup f_l_fold = some ⟨oc38, od38, .func (PySem.W.fnOf "_law_fold" "_law_fold" (defArgs s_l_fold) (defBody s_l_fold) (defScope s_l_fold) .none kV38 dc38 pm38 an38 cd38 ct38), sl38⟩)
    (c_l_fold : PySem.W.codeIn K cd38 "_law_fold" = true)
    (k_l_fold : PySem.W.keepIn K (.ref f_l_fold) = true)
    (a_l_divisor : PySem.W.nsIn K mainGlobals "_law_divisor" = some (some (.ref f_l_divisor)))
    (l_l_divisor : K.lookup f_l_divisor = some ⟨oc39, od39, .func (PySem.W.fnOf "_law_divisor" "_law_divisor" (defArgs s_l_divisor) (defBody s_l_divisor) (defScope s_l_divisor) .none kV39 dc39 pm39 an39 cd39 ct39), sl39⟩)
    (c_l_divisor : PySem.W.codeIn K cd39 "_law_divisor" = true)
    (k_l_divisor : PySem.W.keepIn K (.ref f_l_divisor) = true)
    (a_l_made : PySem.W.nsIn K mainGlobals "_law_made" = some (some (.ref f_l_made)))
    (l_l_made : K.lookup f_l_made = some ⟨oc40, od40, .func (PySem.W.fnOf "_law_made" "_law_made" (defArgs s_l_made) (defBody s_l_made) (defScope s_l_made) .none kV40 dc40 pm40 an40 cd40 ct40), sl40⟩)
    (c_l_made : PySem.W.codeIn K cd40 "_law_made" = true)
    (k_l_made : PySem.W.keepIn K (.ref f_l_made) = true)
    (a_l_amount : PySem.W.nsIn K mainGlobals "_law_amount" = some (some (.ref f_l_amount)))
    (l_l_amount : K.lookup f_l_amount = some ⟨oc41, od41, .func (PySem.W.fnOf "_law_amount" "_law_amount" (defArgs s_l_amount) (defBody s_l_amount) (defScope s_l_amount) .none kV41 dc41 pm41 an41 cd41 ct41), sl41⟩)
    (c_l_amount : PySem.W.codeIn K cd41 "_law_amount" = true)
    (k_l_amount : PySem.W.keepIn K (.ref f_l_amount) = true)
    (a_l_stall : PySem.W.nsIn K mainGlobals "_law_stall" = some (some (.ref f_l_stall)))
    (l_l_stall : K.lookup f_l_stall = some ⟨oc42, od42, .func (PySem.W.fnOf "_law_stall" "_law_stall" (defArgs s_l_stall) (defBody s_l_stall) (defScope s_l_stall) .none kV42 dc42 pm42 an42 cd42 ct42), sl42⟩)
    (c_l_stall : PySem.W.codeIn K cd42 "_law_stall" = true)
    (k_l_stall : PySem.W.keepIn K (.ref f_l_stall) = true)
    (a_l_deep : PySem.W.nsIn K mainGlobals "_law_deep" = some (some (.ref f_l_deep)))
    (l_l_deep : K.lookup f_l_deep = some ⟨oc43, od43, .func (PySem.W.fnOf "_law_deep" "_law_deep" (defArgs s_l_deep) (defBody s_l_deep) (defScope s_l_deep) .none kV43 dc43 pm43 an43 cd43 ct43), sl43⟩)
    (c_l_deep : PySem.W.codeIn K cd43 "_law_deep" = true)
    (k_l_deep : PySem.W.keepIn K (.ref f_l_deep) = true)
    (a_l_odd : PySem.W.nsIn K mainGlobals "_law_odd" = some (some (.ref f_l_odd)))
    (l_l_odd : K.lookup f_l_odd = some ⟨oc44, od44, .func (PySem.W.fnOf "_law_odd" "_law_odd" (defArgs s_l_odd) (defBody s_l_odd) (defScope s_l_odd) .none kV44 dc44 pm44 an44 cd44 ct44), sl44⟩)
    (c_l_odd : PySem.W.codeIn K cd44 "_law_odd" = true)
    (k_l_odd : PySem.W.keepIn K (.ref f_l_odd) = true)
    (a_l_row : PySem.W.nsIn K mainGlobals "_law_row" = some (some (.ref f_l_row)))
    (l_l_row : K.lookup f_l_row = some ⟨oc45, od45, .func (PySem.W.fnOf "_law_row" "_law_row" (defArgs s_l_row) (defBody s_l_row) (defScope s_l_row) .none kV45 dc45 pm45 an45 cd45 ct45), sl45⟩)
    (c_l_row : PySem.W.codeIn K cd45 "_law_row" = true)
    (k_l_row : PySem.W.keepIn K (.ref f_l_row) = true)
    (a_l_bad_row : PySem.W.nsIn K mainGlobals "_law_bad_row" = some (some (.ref f_l_bad_row)))
    (l_l_bad_row : K.lookup f_l_bad_row = some ⟨oc46, od46, .func (PySem.W.fnOf "_law_bad_row" "_law_bad_row" (defArgs s_l_bad_row) (defBody s_l_bad_row) (defScope s_l_bad_row) .none kV46 dc46 pm46 an46 cd46 ct46), sl46⟩)
    (c_l_bad_row : PySem.W.codeIn K cd46 "_law_bad_row" = true)
    (k_l_bad_row : PySem.W.keepIn K (.ref f_l_bad_row) = true)
    (a_l_move : PySem.W.nsIn K mainGlobals "_law_move" = some (some (.ref f_l_move)))
    (l_l_move : K.lookup f_l_move = some ⟨oc47, od47, .func (PySem.W.fnOf "_law_move" "_law_move" (defArgs s_l_move) (defBody s_l_move) (defScope s_l_move) .none kV47 dc47 pm47 an47 cd47 ct47), sl47⟩)
    (c_l_move : PySem.W.codeIn K cd47 "_law_move" = true)
    (k_l_move : PySem.W.keepIn K (.ref f_l_move) = true)
    (a_l_bad_deal : PySem.W.nsIn K mainGlobals "_law_bad_deal" = some (some (.ref f_l_bad_deal)))
    (l_l_bad_deal : K.lookup f_l_bad_deal = some ⟨oc48, od48, .func (PySem.W.fnOf "_law_bad_deal" "_law_bad_deal" (defArgs s_l_bad_deal) (defBody s_l_bad_deal) (defScope s_l_bad_deal) .none kV48 dc48 pm48 an48 cd48 ct48), sl48⟩)
    (c_l_bad_deal : PySem.W.codeIn K cd48 "_law_bad_deal" = true)
    (k_l_bad_deal : PySem.W.keepIn K (.ref f_l_bad_deal) = true)
    (a_l_is_some : PySem.W.nsIn K mainGlobals "_law_is_some" = some (some (.ref f_l_is_some)))
    (l_l_is_some : K.lookup f_l_is_some = some ⟨oc49, od49, .func (PySem.W.fnOf "_law_is_some" "_law_is_some" (defArgs s_l_is_some) (defBody s_l_is_some) (defScope s_l_is_some) .none kV49 dc49 pm49 an49 cd49 ct49), sl49⟩)
    (c_l_is_some : PySem.W.codeIn K cd49 "_law_is_some" = true)
    (k_l_is_some : PySem.W.keepIn K (.ref f_l_is_some) = true)
    (a_l_is_row : PySem.W.nsIn K mainGlobals "_law_is_row" = some (some (.ref f_l_is_row)))
    (l_l_is_row : K.lookup f_l_is_row = some ⟨oc50, od50, .func (PySem.W.fnOf "_law_is_row" "_law_is_row" (defArgs s_l_is_row) (defBody s_l_is_row) (defScope s_l_is_row) .none kV50 dc50 pm50 an50 cd50 ct50), sl50⟩)
    (c_l_is_row : PySem.W.codeIn K cd50 "_law_is_row" = true)
    (k_l_is_row : PySem.W.keepIn K (.ref f_l_is_row) = true)
    (a_l_is_below : PySem.W.nsIn K mainGlobals "_law_is_below" = some (some (.ref f_l_is_below)))
    (l_l_is_below : K.lookup f_l_is_below = some ⟨oc51, od51, .func (PySem.W.fnOf "_law_is_below" "_law_is_below" (defArgs s_l_is_below) (defBody s_l_is_below) (defScope s_l_is_below) .none kV51 dc51 pm51 an51 cd51 ct51), sl51⟩)
    (c_l_is_below : PySem.W.codeIn K cd51 "_law_is_below" = true)
    (k_l_is_below : PySem.W.keepIn K (.ref f_l_is_below) = true)
    (a_l_is_move : PySem.W.nsIn K mainGlobals "_law_is_move" = some (some (.ref f_l_is_move)))
    (l_l_is_move : K.lookup f_l_is_move = some ⟨oc52, od52, .func (PySem.W.fnOf "_law_is_move" "_law_is_move" (defArgs s_l_is_move) (defBody s_l_is_move) (defScope s_l_is_move) .none kV52 dc52 pm52 an52 cd52 ct52), sl52⟩)
    (c_l_is_move : PySem.W.codeIn K cd52 "_law_is_move" = true)
    (k_l_is_move : PySem.W.keepIn K (.ref f_l_is_move) = true)
    (a_l_due : PySem.W.nsIn K mainGlobals "_law_due" = some (some (.ref f_l_due)))
    (l_l_due : K.lookup f_l_due = some ⟨oc53, od53, .func (PySem.W.fnOf "_law_due" "_law_due" (defArgs s_l_due) (defBody s_l_due) (defScope s_l_due) .none kV53 dc53 pm53 an53 cd53 ct53), sl53⟩)
    (c_l_due : PySem.W.codeIn K cd53 "_law_due" = true)
    (k_l_due : PySem.W.keepIn K (.ref f_l_due) = true)
    (a_l_answer : PySem.W.nsIn K mainGlobals "_law_answer" = some (some (.ref f_l_answer)))
    (l_l_answer : K.lookup f_l_answer = some ⟨oc54, od54, .func (PySem.W.fnOf "_law_answer" "_law_answer" (defArgs s_l_answer) (defBody s_l_answer) (defScope s_l_answer) .none kV54 dc54 pm54 an54 cd54 ct54), sl54⟩)
    (c_l_answer : PySem.W.codeIn K cd54 "_law_answer" = true)
    (k_l_answer : PySem.W.keepIn K (.ref f_l_answer) = true)
    (a_l_word : PySem.W.nsIn K mainGlobals "_law_word" = some (some (.ref f_l_word)))
    (l_l_word : K.lookup f_l_word = some ⟨oc55, od55, .func (PySem.W.fnOf "_law_word" "_law_word" (defArgs s_l_word) (defBody s_l_word) (defScope s_l_word) .none kV55 dc55 pm55 an55 cd55 ct55), sl55⟩)
    (c_l_word : PySem.W.codeIn K cd55 "_law_word" = true)
    (k_l_word : PySem.W.keepIn K (.ref f_l_word) = true)
    (a_l_word_is_due : PySem.W.nsIn K mainGlobals "_law_word_is_due" = some (some (.ref f_l_word_is_due)))
    (l_l_word_is_due : K.lookup f_l_word_is_due = some ⟨oc56, od56, .func (PySem.W.fnOf "_law_word_is_due" "_law_word_is_due" (defArgs s_l_word_is_due) (defBody s_l_word_is_due) (defScope s_l_word_is_due) .none kV56 dc56 pm56 an56 cd56 ct56), sl56⟩)
    (c_l_word_is_due : PySem.W.codeIn K cd56 "_law_word_is_due" = true)
    (k_l_word_is_due : PySem.W.keepIn K (.ref f_l_word_is_due) = true)
    (a_law : PySem.W.nsIn K mainGlobals "law" = some (some (.ref f_law)))
    (l_law : K.lookup f_law = some ⟨oc57, od57, .func (PySem.W.fnOf "law" "law" (defArgs s_law) (defBody s_law) (defScope s_law) .none kV57 dc57 pm57 an57 cd57 ct57), sl57⟩)
    (c_law : PySem.W.codeIn K cd57 "law" = true)
    (k_law : PySem.W.keepIn K (.ref f_law) = true)
    (l_BadDeal_init : K.lookup f_BadDeal_init = some ⟨oc58, od58, .func (PySem.W.fnOf "__init__" "BadDeal.__init__" (defArgs s_BadDeal_init) (defBody s_BadDeal_init) (defScope s_BadDeal_init) .none kV58 dc58 pm58 an58 cd58 ct58), sl58⟩)
    (c_BadDeal_init : PySem.W.codeIn K cd58 "BadDeal.__init__" = true)
    (k_BadDeal_init : PySem.W.keepIn K (.ref f_BadDeal_init) = true)
    (l_Web_init : K.lookup f_Web_init = some ⟨oc59, od59, .func (PySem.W.fnOf "__init__" "Web.__init__" (defArgs s_Web_init) (defBody s_Web_init) (defScope s_Web_init) .none kV59 dc59 pm59 an59 cd59 ct59), sl59⟩)
    (c_Web_init : PySem.W.codeIn K cd59 "Web.__init__" = true)
    (k_Web_init : PySem.W.keepIn K (.ref f_Web_init) = true)
    (mi_Web_eq : PySem.W.findIn K (.ref c_Web) "__eq__" = some (some (.ref f_Web_eq)))
    (l_Web_eq : K.lookup f_Web_eq = some ⟨oc60, od60, .func (PySem.W.fnOf "__eq__" "Web.__eq__" (defArgs s_Web_eq) (defBody s_Web_eq) (defScope s_Web_eq) .none kV60 dc60 pm60 an60 cd60 ct60), sl60⟩)
    (c_Web_eq : PySem.W.codeIn K cd60 "Web.__eq__" = true)
    (k_Web_eq : PySem.W.keepIn K (.ref f_Web_eq) = true)
    (mf_Web_eq : PySem.W.isFn K (.ref f_Web_eq) = true)
    (mn_Web : PySem.W.findIn K (.ref c_Web) "__ne__" = some (some (.builtin "object.__ne__")))
    : ∃ fd : FuncData, (∀ (s : Shared) (v : Value), BindsTo s fd ⟨[v], []⟩ [("_law_script", v)]) ∧ ∀ base : Heap, K.In base → base.Ns mainGlobals mg → FnOk l.prog w K mg base CX0 12 fa fd ["_law_script"] (sp_law K) := by
  have e := hfa.symm.trans (PySem.W.mg_of X G a_law)
  cases e
  have T : Txt K mg f_is_integer f_is_row f_is_fraction f_is_amount f_is_some f_are_amounts f_added f_negated f_lessened f_multiplied f_divided f_squared f_summed f_lies_below f_is_stall f_hold_of f_stalls_of f_kept_of f_held f_is_index f_is_move f_check_purse f_check_wish f_stall_led f_stall_behind f_stalls_behind f_deal_fault f_check_deal f_web_behind f_left_with f_played f_owes f_is_deal f_stands_alike f_check_alike f_change_of f_l_deck f_l_pick f_l_fold f_l_divisor f_l_made f_l_amount f_l_stall f_l_deep f_l_odd f_l_row f_l_bad_row f_l_move f_l_bad_deal f_l_is_some f_l_is_row f_l_is_below f_l_is_move f_l_due f_l_answer f_l_word f_l_word_is_due fa f_BadDeal_init f_Web_init f_Web_eq c_BadPurse c_BadWish c_BadDeal c_Web c_ZERO _ _ _ _ _ _ _ _ _ _ _ _ _ _ _ _ _ _ _ _ _ _ _ _ _ _ _ _ _ _ _ _ _ _ _ _ _ _ _ _ _ _ _ _ _ _ _ _ _ _ _ _ _ _ _ _ _ _ _ _ _ := {
    z_abs := PySem.W.mg_none_of X G z_abs
    z_all := PySem.W.mg_none_of X G z_all
    z_any := PySem.W.mg_none_of X G z_any
    z_bool := PySem.W.mg_none_of X G z_bool
    z_enumerate := PySem.W.mg_none_of X G z_enumerate
    z_int := PySem.W.mg_none_of X G z_int
    z_isinstance := PySem.W.mg_none_of X G z_isinstance
    z_len := PySem.W.mg_none_of X G z_len
    z_list := PySem.W.mg_none_of X G z_list
    z_min := PySem.W.mg_none_of X G z_min
    z_range := PySem.W.mg_none_of X G z_range
    z_tuple := PySem.W.mg_none_of X G z_tuple
    z_zip := PySem.W.mg_none_of X G z_zip
    m_gcd := PySem.W.mg_of X G m_gcd
    c_BadPurse := ⟨PySem.W.mg_of X G a_BadPurse, ex_BadPurse, kp_BadPurse, be_BadPurse, ty_BadPurse, ic_BadPurse, sf_BadPurse⟩
    c_BadWish := ⟨PySem.W.mg_of X G a_BadWish, ex_BadWish, kp_BadWish, be_BadWish, ty_BadWish, ic_BadWish, sf_BadWish⟩
    c_BadDeal := ⟨PySem.W.mg_of X G a_BadDeal, ⟨⟨_, _, _, _, _, _, _, _, _, _, _, _, _, _, _, ob_BadDeal, rv_BadDeal⟩, sa_BadDeal, be_BadDeal, ty_BadDeal, kp_BadDeal⟩, in_BadDeal, ti_BadDeal, no_BadDeal, ⟨ga_BadDeal, gg_BadDeal, be_BadDeal, hd_BadDeal⟩, ic_BadDeal, sf_BadDeal⟩
    w_Web := ⟨PySem.W.mg_of X G a_Web, ⟨mk_Web, in_Web, fn_Web, kp_Web⟩, ⟨⟨pg_Web, hd_Web, po_Web, sa_Web⟩, ha_Web, hn_Web, ht_Web, mo_Web, i_int_Web, i_bool_Web, i_tuple_Web, i_list_Web⟩⟩
    n_Web_wares := na_Web_wares
    n_Web_stalls := na_Web_stalls
    x_BadDeal_BadPurse := x_BadDeal_BadPurse
    x_BadWish_BadPurse := x_BadWish_BadPurse
    v_ZERO := PySem.W.mg_of X G v_ZERO
    t_ZERO := .inr ⟨_, _, _, o_ZERO, rfl, rfl, tv_ZERO.2, tv_ZERO.1⟩
    v_MOST_MOVES := ⟨_, PySem.W.mg_of X G v_MOST_MOVES, ⟨_, rfl⟩⟩
    v_MOST_STALLS := ⟨_, PySem.W.mg_of X G v_MOST_STALLS, ⟨_, rfl⟩⟩
    v_MOST_WARES := ⟨_, PySem.W.mg_of X G v_MOST_WARES, ⟨_, rfl⟩⟩
    g_is_integer := PySem.W.mg_of X G a_is_integer
    F_is_integer := fun_mk (st := s_is_integer) l_is_integer c_is_integer k_is_integer
    k_is_integer := k_is_integer
    b_is_integer := (fun_mk (st := s_is_integer) l_is_integer c_is_integer k_is_integer).binds (ps := ["thing"]) fun _ _ _ _ _ _ us hl => match us, hl with | [_], _ => rfl
    g_is_row := PySem.W.mg_of X G a_is_row
    F_is_row := fun_mk (st := s_is_row) l_is_row c_is_row k_is_row
    k_is_row := k_is_row
    b_is_row := (fun_mk (st := s_is_row) l_is_row c_is_row k_is_row).binds (ps := ["thing"]) fun _ _ _ _ _ _ us hl => match us, hl with | [_], _ => rfl
    g_is_fraction := PySem.W.mg_of X G a_is_fraction
    F_is_fraction := fun_mk (st := s_is_fraction) l_is_fraction c_is_fraction k_is_fraction
    k_is_fraction := k_is_fraction
    b_is_fraction := (fun_mk (st := s_is_fraction) l_is_fraction c_is_fraction k_is_fraction).binds (ps := ["thing"]) fun _ _ _ _ _ _ us hl => match us, hl with | [_], _ => rfl
    g_is_amount := PySem.W.mg_of X G a_is_amount
    F_is_amount := fun_mk (st := s_is_amount) l_is_amount c_is_amount k_is_amount
    k_is_amount := k_is_amount
    b_is_amount := (fun_mk (st := s_is_amount) l_is_amount c_is_amount k_is_amount).binds (ps := ["thing"]) fun _ _ _ _ _ _ us hl => match us, hl with | [_], _ => rfl
    g_is_some := PySem.W.mg_of X G a_is_some
    F_is_some := fun_mk (st := s_is_some) l_is_some c_is_some k_is_some
    k_is_some := k_is_some
    b_is_some := (fun_mk (st := s_is_some) l_is_some c_is_some k_is_some).binds (ps := ["thing"]) fun _ _ _ _ _ _ us hl => match us, hl with | [_], _ => rfl
    g_are_amounts := PySem.W.mg_of X G a_are_amounts
    F_are_amounts := fun_mk (st := s_are_amounts) l_are_amounts c_are_amounts k_are_amounts
    k_are_amounts := k_are_amounts
    b_are_amounts := (fun_mk (st := s_are_amounts) l_are_amounts c_are_amounts k_are_amounts).binds (ps := ["things", "number"]) fun _ _ _ _ _ _ us hl => match us, hl with | [_, _], _ => rfl
    g_added := PySem.W.mg_of X G a_added
    F_added := fun_mk (st := s_added) l_added c_added k_added
    k_added := k_added
    b_added := (fun_mk (st := s_added) l_added c_added k_added).binds (ps := ["one", "other"]) fun _ _ _ _ _ _ us hl => match us, hl with | [_, _], _ => rfl
    g_negated := PySem.W.mg_of X G a_negated
    F_negated := fun_mk (st := s_negated) l_negated c_negated k_negated
    k_negated := k_negated
    b_negated := (fun_mk (st := s_negated) l_negated c_negated k_negated).binds (ps := ["one"]) fun _ _ _ _ _ _ us hl => match us, hl with | [_], _ => rfl
    g_lessened := PySem.W.mg_of X G a_lessened
    F_lessened := fun_mk (st := s_lessened) l_lessened c_lessened k_lessened
    k_lessened := k_lessened
    b_lessened := (fun_mk (st := s_lessened) l_lessened c_lessened k_lessened).binds (ps := ["one", "other"]) fun _ _ _ _ _ _ us hl => match us, hl with | [_, _], _ => rfl
    g_multiplied := PySem.W.mg_of X G a_multiplied
    F_multiplied := fun_mk (st := s_multiplied) l_multiplied c_multiplied k_multiplied
    k_multiplied := k_multiplied
    b_multiplied := (fun_mk (st := s_multiplied) l_multiplied c_multiplied k_multiplied).binds (ps := ["one", "other"]) fun _ _ _ _ _ _ us hl => match us, hl with | [_, _], _ => rfl
    g_divided := PySem.W.mg_of X G a_divided
    F_divided := fun_mk (st := s_divided) l_divided c_divided k_divided
    k_divided := k_divided
    b_divided := (fun_mk (st := s_divided) l_divided c_divided k_divided).binds (ps := ["one", "other"]) fun _ _ _ _ _ _ us hl => match us, hl with | [_, _], _ => rfl
    g_squared := PySem.W.mg_of X G a_squared
    F_squared := fun_mk (st := s_squared) l_squared c_squared k_squared
    k_squared := k_squared
    b_squared := (fun_mk (st := s_squared) l_squared c_squared k_squared).binds (ps := ["one"]) fun _ _ _ _ _ _ us hl => match us, hl with | [_], _ => rfl
    g_summed := PySem.W.mg_of X G a_summed
    F_summed := fun_mk (st := s_summed) l_summed c_summed k_summed
    k_summed := k_summed
    b_summed := (fun_mk (st := s_summed) l_summed c_summed k_summed).binds (ps := ["fractions"]) fun _ _ _ _ _ _ us hl => match us, hl with | [_], _ => rfl
    g_lies_below := PySem.W.mg_of X G a_lies_below
    F_lies_below := fun_mk (st := s_lies_below) l_lies_below c_lies_below k_lies_below
    k_lies_below := k_lies_below
    b_lies_below := (fun_mk (st := s_lies_below) l_lies_below c_lies_below k_lies_below).binds (ps := ["one", "other"]) fun _ _ _ _ _ _ us hl => match us, hl with | [_, _], _ => rfl
    g_is_stall := PySem.W.mg_of X G a_is_stall
    F_is_stall := fun_mk (st := s_is_stall) l_is_stall c_is_stall k_is_stall
    k_is_stall := k_is_stall
    b_is_stall := (fun_mk (st := s_is_stall) l_is_stall c_is_stall k_is_stall).binds (ps := ["wares", "thing"]) fun _ _ _ _ _ _ us hl => match us, hl with | [_, _], _ => rfl
    g_hold_of := PySem.W.mg_of X G a_hold_of
    F_hold_of := fun_mk (st := s_hold_of) l_hold_of c_hold_of k_hold_of
    k_hold_of := k_hold_of
    b_hold_of := (fun_mk (st := s_hold_of) l_hold_of c_hold_of k_hold_of).binds (ps := ["stall", "ware"]) fun _ _ _ _ _ _ us hl => match us, hl with | [_, _], _ => rfl
    g_stalls_of := PySem.W.mg_of X G a_stalls_of
    F_stalls_of := fun_mk (st := s_stalls_of) l_stalls_of c_stalls_of k_stalls_of
    k_stalls_of := k_stalls_of
    b_stalls_of := (fun_mk (st := s_stalls_of) l_stalls_of c_stalls_of k_stalls_of).binds (ps := ["ware", "stalls"]) fun _ _ _ _ _ _ us hl => match us, hl with | [_, _], _ => rfl
    g_kept_of := PySem.W.mg_of X G a_kept_of
    F_kept_of := fun_mk (st := s_kept_of) l_kept_of c_kept_of k_kept_of
    k_kept_of := k_kept_of
    b_kept_of := (fun_mk (st := s_kept_of) l_kept_of c_kept_of k_kept_of).binds (ps := ["ware", "stalls"]) fun _ _ _ _ _ _ us hl => match us, hl with | [_, _], _ => rfl
    g_held := PySem.W.mg_of X G a_held
    F_held := fun_mk (st := s_held) l_held c_held k_held
    k_held := k_held
    b_held := (fun_mk (st := s_held) l_held c_held k_held).binds (ps := ["web"]) fun _ _ _ _ _ _ us hl => match us, hl with | [_], _ => rfl
    g_is_index := PySem.W.mg_of X G a_is_index
    F_is_index := fun_mk (st := s_is_index) l_is_index c_is_index k_is_index
    k_is_index := k_is_index
    b_is_index := (fun_mk (st := s_is_index) l_is_index c_is_index k_is_index).binds (ps := ["web", "thing"]) fun _ _ _ _ _ _ us hl => match us, hl with | [_, _], _ => rfl
    g_is_move := PySem.W.mg_of X G a_is_move
    F_is_move := fun_mk (st := s_is_move) l_is_move c_is_move k_is_move
    k_is_move := k_is_move
    b_is_move := (fun_mk (st := s_is_move) l_is_move c_is_move k_is_move).binds (ps := ["web", "thing"]) fun _ _ _ _ _ _ us hl => match us, hl with | [_, _], _ => rfl
    g_check_purse := PySem.W.mg_of X G a_check_purse
    F_check_purse := fun_mk (st := s_check_purse) l_check_purse c_check_purse k_check_purse
    k_check_purse := k_check_purse
    b_check_purse := (fun_mk (st := s_check_purse) l_check_purse c_check_purse k_check_purse).binds (ps := ["web", "purse"]) fun _ _ _ _ _ _ us hl => match us, hl with | [_, _], _ => rfl
    g_check_wish := PySem.W.mg_of X G a_check_wish
    F_check_wish := fun_mk (st := s_check_wish) l_check_wish c_check_wish k_check_wish
    k_check_wish := k_check_wish
    b_check_wish := (fun_mk (st := s_check_wish) l_check_wish c_check_wish k_check_wish).binds (ps := ["web", "wish"]) fun _ _ _ _ _ _ us hl => match us, hl with | [_, _], _ => rfl
    g_stall_led := PySem.W.mg_of X G a_stall_led
    F_stall_led := fun_mk (st := s_stall_led) l_stall_led c_stall_led k_stall_led
    k_stall_led := k_stall_led
    b_stall_led := (fun_mk (st := s_stall_led) l_stall_led c_stall_led k_stall_led).binds (ps := ["stall", "amount"]) fun _ _ _ _ _ _ us hl => match us, hl with | [_, _], _ => rfl
    g_stall_behind := PySem.W.mg_of X G a_stall_behind
    F_stall_behind := fun_mk (st := s_stall_behind) l_stall_behind c_stall_behind k_stall_behind
    k_stall_behind := k_stall_behind
    b_stall_behind := (fun_mk (st := s_stall_behind) l_stall_behind c_stall_behind k_stall_behind).binds (ps := ["stall", "ware", "amount"]) fun _ _ _ _ _ _ us hl => match us, hl with | [_, _, _], _ => rfl
    g_stalls_behind := PySem.W.mg_of X G a_stalls_behind
    F_stalls_behind := fun_mk (st := s_stalls_behind) l_stalls_behind c_stalls_behind k_stalls_behind
    k_stalls_behind := k_stalls_behind
    b_stalls_behind := (fun_mk (st := s_stalls_behind) l_stalls_behind c_stalls_behind k_stalls_behind).binds (ps := ["stalls", "move"]) fun _ _ _ _ _ _ us hl => match us, hl with | [_, _], _ => rfl
    g_deal_fault := PySem.W.mg_of X G a_deal_fault
    F_deal_fault := fun_mk (st := s_deal_fault) l_deal_fault c_deal_fault k_deal_fault
    k_deal_fault := k_deal_fault
    b_deal_fault := (fun_mk (st := s_deal_fault) l_deal_fault c_deal_fault k_deal_fault).binds (ps := ["web", "thing"]) fun _ _ _ _ _ _ us hl => match us, hl with | [_, _], _ => rfl
    g_check_deal := PySem.W.mg_of X G a_check_deal
    F_check_deal := fun_mk (st := s_check_deal) l_check_deal c_check_deal k_check_deal
    k_check_deal := k_check_deal
    b_check_deal := (fun_mk (st := s_check_deal) l_check_deal c_check_deal k_check_deal).binds (ps := ["web", "purse", "deal"]) fun _ _ _ _ _ _ us hl => match us, hl with | [_, _, _], _ => rfl
    g_web_behind := PySem.W.mg_of X G a_web_behind
    F_web_behind := fun_mk (st := s_web_behind) l_web_behind c_web_behind k_web_behind
    k_web_behind := k_web_behind
    b_web_behind := (fun_mk (st := s_web_behind) l_web_behind c_web_behind k_web_behind).binds (ps := ["web", "deal"]) fun _ _ _ _ _ _ us hl => match us, hl with | [_, _], _ => rfl
    g_left_with := PySem.W.mg_of X G a_left_with
    F_left_with := fun_mk (st := s_left_with) l_left_with c_left_with k_left_with
    k_left_with := k_left_with
    b_left_with := (fun_mk (st := s_left_with) l_left_with c_left_with k_left_with).binds (ps := ["web", "purse", "behind"]) fun _ _ _ _ _ _ us hl => match us, hl with | [_, _, _], _ => rfl
    g_played := PySem.W.mg_of X G a_played
    F_played := fun_mk (st := s_played) l_played c_played k_played
    k_played := k_played
    b_played := (fun_mk (st := s_played) l_played c_played k_played).binds (ps := ["web", "purse", "deal"]) fun _ _ _ _ _ _ us hl => match us, hl with | [_, _, _], _ => rfl
    g_owes := PySem.W.mg_of X G a_owes
    F_owes := fun_mk (st := s_owes) l_owes c_owes k_owes
    k_owes := k_owes
    b_owes := (fun_mk (st := s_owes) l_owes c_owes k_owes).binds (ps := ["web", "purse", "deal"]) fun _ _ _ _ _ _ us hl => match us, hl with | [_, _, _], _ => rfl
    g_is_deal := PySem.W.mg_of X G a_is_deal
    F_is_deal := fun_mk (st := s_is_deal) l_is_deal c_is_deal k_is_deal
    k_is_deal := k_is_deal
    b_is_deal := (fun_mk (st := s_is_deal) l_is_deal c_is_deal k_is_deal).binds (ps := ["web", "purse", "wish", "thing"]) fun _ _ _ _ _ _ us hl => match us, hl with | [_, _, _, _], _ => rfl
    g_stands_alike := PySem.W.mg_of X G a_stands_alike
    F_stands_alike := fun_mk (st := s_stands_alike) l_stands_alike c_stands_alike k_stands_alike
    k_stands_alike := k_stands_alike
    b_stands_alike := (fun_mk (st := s_stands_alike) l_stands_alike c_stands_alike k_stands_alike).binds (ps := ["one", "other"]) fun _ _ _ _ _ _ us hl => match us, hl with | [_, _], _ => rfl
    g_check_alike := PySem.W.mg_of X G a_check_alike
    F_check_alike := fun_mk (st := s_check_alike) l_check_alike c_check_alike k_check_alike
    k_check_alike := k_check_alike
    b_check_alike := (fun_mk (st := s_check_alike) l_check_alike c_check_alike k_check_alike).binds (ps := ["one_web", "other_web"]) fun _ _ _ _ _ _ us hl => match us, hl with | [_, _], _ => rfl
    g_change_of := PySem.W.mg_of X G a_change_of
    F_change_of := fun_mk (st := s_change_of) l_change_of c_change_of k_change_of
    k_change_of := k_change_of
    b_change_of := (fun_mk (st := s_change_of) l_change_of c_change_of k_change_of).binds (ps := ["one_web", "other_web"]) fun _ _ _ _ _ _ us hl => match us, hl with | [_, _], _ => rfl
    g_l_deck := PySem.W.mg_of X G a_l_deck
    F_l_deck := fun_mk (st := s_l_deck) l_l_deck c_l_deck k_l_deck
    k_l_deck := k_l_deck
    b_l_deck := (fun_mk (st := s_l_deck) l_l_deck c_l_deck k_l_deck).binds (ps := ["_law_script"]) fun _ _ _ _ _ _ us hl => match us, hl with | [_], _ => rfl
    g_l_pick := PySem.W.mg_of X G a_l_pick
    F_l_pick := fun_mk (st := s_l_pick) l_l_pick c_l_pick k_l_pick
    k_l_pick := k_l_pick
    b_l_pick := (fun_mk (st := s_l_pick) l_l_pick c_l_pick k_l_pick).binds (ps := ["_law_deck_here", "_law_many"]) fun _ _ _ _ _ _ us hl => match us, hl with | [_, _], _ => rfl
    g_l_fold := PySem.W.mg_of X G a_l_fold
    F_l_fold := fun_mk (st := s_l_fold) l_l_fold c_l_fold k_l_fold
    k_l_fold := k_l_fold
    b_l_fold := (fun_mk (st := s_l_fold) l_l_fold c_l_fold k_l_fold).binds (ps := ["_law_script"]) fun _ _ _ _ _ _ us hl => match us, hl with | [_], _ => rfl
    g_l_divisor := PySem.W.mg_of X G a_l_divisor
    F_l_divisor := fun_mk (st := s_l_divisor) l_l_divisor c_l_divisor k_l_divisor
    k_l_divisor := k_l_divisor
    b_l_divisor := (fun_mk (st := s_l_divisor) l_l_divisor c_l_divisor k_l_divisor).binds (ps := ["_law_one", "_law_other"]) fun _ _ _ _ _ _ us hl => match us, hl with | [_, _], _ => rfl
    g_l_made := PySem.W.mg_of X G a_l_made
    F_l_made := fun_mk (st := s_l_made) l_l_made c_l_made k_l_made
    k_l_made := k_l_made
    b_l_made := (fun_mk (st := s_l_made) l_l_made c_l_made k_l_made).binds (ps := ["_law_top", "_law_bottom"]) fun _ _ _ _ _ _ us hl => match us, hl with | [_, _], _ => rfl
    g_l_amount := PySem.W.mg_of X G a_l_amount
    F_l_amount := fun_mk (st := s_l_amount) l_l_amount c_l_amount k_l_amount
    k_l_amount := k_l_amount
    b_l_amount := (fun_mk (st := s_l_amount) l_l_amount c_l_amount k_l_amount).binds (ps := ["_law_deck_here"]) fun _ _ _ _ _ _ us hl => match us, hl with | [_], _ => rfl
    g_l_stall := PySem.W.mg_of X G a_l_stall
    F_l_stall := fun_mk (st := s_l_stall) l_l_stall c_l_stall k_l_stall
    k_l_stall := k_l_stall
    b_l_stall := (fun_mk (st := s_l_stall) l_l_stall c_l_stall k_l_stall).binds (ps := ["_law_deck_here", "_law_wares"]) fun _ _ _ _ _ _ us hl => match us, hl with | [_, _], _ => rfl
    g_l_deep := PySem.W.mg_of X G a_l_deep
    F_l_deep := fun_mk (st := s_l_deep) l_l_deep c_l_deep k_l_deep
    k_l_deep := k_l_deep
    b_l_deep := (fun_mk (st := s_l_deep) l_l_deep c_l_deep k_l_deep).binds (ps := ["_law_deck_here"]) fun _ _ _ _ _ _ us hl => match us, hl with | [_], _ => rfl
    g_l_odd := PySem.W.mg_of X G a_l_odd
    F_l_odd := fun_mk (st := s_l_odd) l_l_odd c_l_odd k_l_odd
    k_l_odd := k_l_odd
    b_l_odd := (fun_mk (st := s_l_odd) l_l_odd c_l_odd k_l_odd).binds (ps := ["_law_deck_here", "_law_web"]) fun _ _ _ _ _ _ us hl => match us, hl with | [_, _], _ => rfl
    g_l_row := PySem.W.mg_of X G a_l_row
    F_l_row := fun_mk (st := s_l_row) l_l_row c_l_row k_l_row
    k_l_row := k_l_row
    b_l_row := (fun_mk (st := s_l_row) l_l_row c_l_row k_l_row).binds (ps := ["_law_deck_here", "_law_web"]) fun _ _ _ _ _ _ us hl => match us, hl with | [_, _], _ => rfl
    g_l_bad_row := PySem.W.mg_of X G a_l_bad_row
    F_l_bad_row := fun_mk (st := s_l_bad_row) l_l_bad_row c_l_bad_row k_l_bad_row
    k_l_bad_row := k_l_bad_row
    b_l_bad_row := (fun_mk (st := s_l_bad_row) l_l_bad_row c_l_bad_row k_l_bad_row).binds (ps := ["_law_deck_here", "_law_web"]) fun _ _ _ _ _ _ us hl => match us, hl with | [_, _], _ => rfl
    g_l_move := PySem.W.mg_of X G a_l_move
    F_l_move := fun_mk (st := s_l_move) l_l_move c_l_move k_l_move
    k_l_move := k_l_move
    b_l_move := (fun_mk (st := s_l_move) l_l_move c_l_move k_l_move).binds (ps := ["_law_deck_here", "_law_web"]) fun _ _ _ _ _ _ us hl => match us, hl with | [_, _], _ => rfl
    g_l_bad_deal := PySem.W.mg_of X G a_l_bad_deal
    F_l_bad_deal := fun_mk (st := s_l_bad_deal) l_l_bad_deal c_l_bad_deal k_l_bad_deal
    k_l_bad_deal := k_l_bad_deal
    b_l_bad_deal := (fun_mk (st := s_l_bad_deal) l_l_bad_deal c_l_bad_deal k_l_bad_deal).binds (ps := ["_law_deck_here", "_law_web"]) fun _ _ _ _ _ _ us hl => match us, hl with | [_, _], _ => rfl
    g_l_is_some := PySem.W.mg_of X G a_l_is_some
    F_l_is_some := fun_mk (st := s_l_is_some) l_l_is_some c_l_is_some k_l_is_some
    k_l_is_some := k_l_is_some
    b_l_is_some := (fun_mk (st := s_l_is_some) l_l_is_some c_l_is_some k_l_is_some).binds (ps := ["_law_thing", "_law_least"]) fun _ _ _ _ _ _ us hl => match us, hl with | [_, _], _ => rfl
    g_l_is_row := PySem.W.mg_of X G a_l_is_row
    F_l_is_row := fun_mk (st := s_l_is_row) l_l_is_row c_l_is_row k_l_is_row
    k_l_is_row := k_l_is_row
    b_l_is_row := (fun_mk (st := s_l_is_row) l_l_is_row c_l_is_row k_l_is_row).binds (ps := ["_law_web", "_law_thing"]) fun _ _ _ _ _ _ us hl => match us, hl with | [_, _], _ => rfl
    g_l_is_below := PySem.W.mg_of X G a_l_is_below
    F_l_is_below := fun_mk (st := s_l_is_below) l_l_is_below c_l_is_below k_l_is_below
    k_l_is_below := k_l_is_below
    b_l_is_below := (fun_mk (st := s_l_is_below) l_l_is_below c_l_is_below k_l_is_below).binds (ps := ["_law_thing", "_law_many"]) fun _ _ _ _ _ _ us hl => match us, hl with | [_, _], _ => rfl
    g_l_is_move := PySem.W.mg_of X G a_l_is_move
    F_l_is_move := fun_mk (st := s_l_is_move) l_l_is_move c_l_is_move k_l_is_move
    k_l_is_move := k_l_is_move
    b_l_is_move := (fun_mk (st := s_l_is_move) l_l_is_move c_l_is_move k_l_is_move).binds (ps := ["_law_web", "_law_thing"]) fun _ _ _ _ _ _ us hl => match us, hl with | [_, _], _ => rfl
    g_l_due := PySem.W.mg_of X G a_l_due
    F_l_due := fun_mk (st := s_l_due) l_l_due c_l_due k_l_due
    k_l_due := k_l_due
    b_l_due := (fun_mk (st := s_l_due) l_l_due c_l_due k_l_due).binds (ps := ["_law_web", "_law_purse", "_law_deal"]) fun _ _ _ _ _ _ us hl => match us, hl with | [_, _, _], _ => rfl
    g_l_answer := PySem.W.mg_of X G a_l_answer
    F_l_answer := fun_mk (st := s_l_answer) l_l_answer c_l_answer k_l_answer
    k_l_answer := k_l_answer
    b_l_answer := (fun_mk (st := s_l_answer) l_l_answer c_l_answer k_l_answer).binds (ps := ["_law_is_played", "_law_web", "_law_purse", "_law_deal"]) fun _ _ _ _ _ _ us hl => match us, hl with | [_, _, _, _], _ => rfl
    g_l_word := PySem.W.mg_of X G a_l_word
    F_l_word := fun_mk (st := s_l_word) l_l_word c_l_word k_l_word
    k_l_word := k_l_word
    b_l_word := (fun_mk (st := s_l_word) l_l_word c_l_word k_l_word).binds (ps := ["_law_web", "_law_purse", "_law_wish", "_law_deal"]) fun _ _ _ _ _ _ us hl => match us, hl with | [_, _, _, _], _ => rfl
    g_l_word_is_due := PySem.W.mg_of X G a_l_word_is_due
    F_l_word_is_due := fun_mk (st := s_l_word_is_due) l_l_word_is_due c_l_word_is_due k_l_word_is_due
    k_l_word_is_due := k_l_word_is_due
    b_l_word_is_due := (fun_mk (st := s_l_word_is_due) l_l_word_is_due c_l_word_is_due k_l_word_is_due).binds (ps := ["_law_web", "_law_purse", "_law_wish", "_law_deal"]) fun _ _ _ _ _ _ us hl => match us, hl with | [_, _, _, _], _ => rfl
    g_law := PySem.W.mg_of X G a_law
    F_law := fun_mk (st := s_law) l_law c_law k_law
    k_law := k_law
    b_law := (fun_mk (st := s_law) l_law c_law k_law).binds (ps := ["_law_script"]) fun _ _ _ _ _ _ us hl => match us, hl with | [_], _ => rfl
    F_BadDeal_init := fun_mk (st := s_BadDeal_init) l_BadDeal_init c_BadDeal_init k_BadDeal_init
    b_BadDeal_init := (fun_mk (st := s_BadDeal_init) l_BadDeal_init c_BadDeal_init k_BadDeal_init).binds (ps := ["self", "index"]) fun _ _ _ _ _ _ us hl => match us, hl with | [_, _], _ => rfl
    F_Web_init := fun_mk (st := s_Web_init) l_Web_init c_Web_init k_Web_init
    b_Web_init := (fun_mk (st := s_Web_init) l_Web_init c_Web_init k_Web_init).binds (ps := ["self", "wares", "stalls"]) fun _ _ _ _ _ _ us hl => match us, hl with | [_, _, _], _ => rfl
    i_Web_eq := mi_Web_eq
    fn_Web_eq := mf_Web_eq
    ne_Web := mn_Web
    F_Web_eq := fun_mk (st := s_Web_eq) l_Web_eq c_Web_eq k_Web_eq
    b_Web_eq := (fun_mk (st := s_Web_eq) l_Web_eq c_Web_eq k_Web_eq).binds (ps := ["self", "other"]) fun _ _ _ _ _ _ us hl => match us, hl with | [_, _], _ => rfl
  }
  exact ⟨_, fun s v => .of_eq rfl, fun base _ _ => ok_all T⟩
end My
open PySem PySem.W PyProof.Rows
set_option maxRecDepth 100000 in
set_option maxHeartbeats 0 in
theorem PySem.Challenge.cw_rootstalls_k14_deals_refused_holds : PySem.Challenge.rw_rootstalls_k14_deals_refused.Holds := by
  w_on; o_law; k_head; (case hw => w_witness2)
  k_fill
  refine L2.walk_ofB (l := PySem.Challenge.rw_rootstalls_k14_deals_refused) (n := 63) (k := 12) (x := "_law_script") (CX := fun _ => L2.CX0) (sp := fun w => My.sp_law _) rfl (by decide) rfl ⟨rfl, by decide, by decide⟩ (fun w h Y => PySem.W.kIn_of Y) ?F (fun _ _ a ns hl hb _ hS => ⟨a, ns, rfl, hS, hl, hb, fun _ => rfl⟩) (fun _ _ _ _ _ h => h)
  case F =>
    intro w mg fa h KX G hmg
    refine' My.all_mk KX G hmg ?z_abs ?z_all ?z_any ?z_bool ?z_enumerate ?z_int ?z_isinstance ?z_len ?z_list ?z_min ?z_range ?z_tuple ?z_zip ?m_gcd ?a_BadPurse ?ex_BadPurse ?kp_BadPurse ?be_BadPurse ?ty_BadPurse ?ic_BadPurse ?sf_BadPurse ?a_BadWish ?ex_BadWish ?kp_BadWish ?be_BadWish ?ty_BadWish ?ic_BadWish ?sf_BadWish ?a_BadDeal ?ob_BadDeal ?rv_BadDeal ?sa_BadDeal ?ga_BadDeal ?gg_BadDeal ?no_BadDeal ?in_BadDeal ?ti_BadDeal ?be_BadDeal ?ty_BadDeal ?kp_BadDeal ?hd_BadDeal ?ic_BadDeal ?sf_BadDeal ?a_Web ?mk_Web ?in_Web ?fn_Web ?kp_Web ?pg_Web ?hd_Web ?po_Web ?sa_Web ?ha_Web ?hn_Web ?ht_Web ?mo_Web ?i_int_Web ?i_bool_Web ?i_tuple_Web ?i_list_Web ?na_Web_wares ?na_Web_stalls ?x_BadDeal_BadPurse ?x_BadWish_BadPurse ?v_ZERO ?o_ZERO ?tv_ZERO ?v_MOST_MOVES ?v_MOST_STALLS ?v_MOST_WARES ?a_is_integer ?l_is_integer ?c_is_integer ?k_is_integer ?a_is_row ?l_is_row ?c_is_row ?k_is_row ?a_is_fraction ?l_is_fraction ?c_is_fraction ?k_is_fraction ?a_is_amount ?l_is_amount ?c_is_amount ?k_is_amount ?a_is_some ?l_is_some ?c_is_some ?k_is_some ?a_are_amounts ?l_are_amounts ?c_are_amounts ?k_are_amounts ?a_added ?l_added ?c_added ?k_added ?a_negated ?l_negated ?c_negated ?k_negated ?a_lessened ?l_lessened ?c_lessened ?k_lessened ?a_multiplied ?l_multiplied ?c_multiplied ?k_multiplied ?a_divided ?l_divided ?c_divided ?k_divided ?a_squared ?l_squared ?c_squared ?k_squared ?a_summed ?l_summed ?c_summed ?k_summed ?a_lies_below ?l_lies_below ?c_lies_below ?k_lies_below ?a_is_stall ?l_is_stall ?c_is_stall ?k_is_stall ?a_hold_of ?l_hold_of ?c_hold_of ?k_hold_of ?a_stalls_of ?l_stalls_of ?c_stalls_of ?k_stalls_of ?a_kept_of ?l_kept_of ?c_kept_of ?k_kept_of ?a_held ?l_held ?c_held ?k_held ?a_is_index ?l_is_index ?c_is_index ?k_is_index ?a_is_move ?l_is_move ?c_is_move ?k_is_move ?a_check_purse ?l_check_purse ?c_check_purse ?k_check_purse ?a_check_wish ?l_check_wish ?c_check_wish ?k_check_wish ?a_stall_led ?l_stall_led ?c_stall_led ?k_stall_led ?a_stall_behind ?l_stall_behind ?c_stall_behind ?k_stall_behind ?a_stalls_behind ?l_stalls_behind ?c_stalls_behind ?k_stalls_behind ?a_deal_fault ?l_deal_fault ?c_deal_fault ?k_deal_fault ?a_check_deal ?l_check_deal ?c_check_deal ?k_check_deal ?a_web_behind ?l_web_behind ?c_web_behind ?k_web_behind ?a_left_with ?l_left_with ?c_left_with ?k_left_with ?a_played ?l_played ?c_played ?k_played ?a_owes ?l_owes ?c_owes ?k_owes ?a_is_deal ?l_is_deal ?c_is_deal ?k_is_deal ?a_stands_alike ?l_stands_alike ?c_stands_alike ?k_stands_alike ?a_check_alike ?l_check_alike ?c_check_alike ?k_check_alike ?a_change_of ?l_change_of ?c_change_of ?k_change_of ?a_l_deck ?l_l_deck ?c_l_deck ?k_l_deck ?a_l_pick ?l_l_pick ?c_l_pick ?k_l_pick ?a_l_fold ?l_l_fold ?c_l_fold ?k_l_fold ?a_l_divisor ?l_l_divisor ?c_l_divisor ?k_l_divisor ?a_l_made ?l_l_made ?c_l_made ?k_l_made ?a_l_amount ?l_l_amount ?c_l_amount ?k_l_amount ?a_l_stall ?l_l_stall ?c_l_stall ?k_l_stall ?a_l_deep ?l_l_deep ?c_l_deep ?k_l_deep ?a_l_odd ?l_l_odd ?c_l_odd ?k_l_odd ?a_l_row ?l_l_row ?c_l_row ?k_l_row ?a_l_bad_row ?l_l_bad_row ?c_l_bad_row ?k_l_bad_row ?a_l_move ?l_l_move ?c_l_move ?k_l_move ?a_l_bad_deal ?l_l_bad_deal ?c_l_bad_deal ?k_l_bad_deal ?a_l_is_some ?l_l_is_some ?c_l_is_some ?k_l_is_some ?a_l_is_row ?l_l_is_row ?c_l_is_row ?k_l_is_row ?a_l_is_below ?l_l_is_below ?c_l_is_below ?k_l_is_below ?a_l_is_move ?l_l_is_move ?c_l_is_move ?k_l_is_move ?a_l_due ?l_l_due ?c_l_due ?k_l_due ?a_l_answer ?l_l_answer ?c_l_answer ?k_l_answer ?a_l_word ?l_l_word ?c_l_word ?k_l_word ?a_l_word_is_due ?l_l_word_is_due ?c_l_word_is_due ?k_l_word_is_due ?a_law ?l_law ?c_law ?k_law ?l_BadDeal_init ?c_BadDeal_init ?k_BadDeal_init ?l_Web_init ?c_Web_init ?k_Web_init ?mi_Web_eq ?l_Web_eq ?c_Web_eq ?k_Web_eq ?mf_Web_eq ?mn_Web
    (case z_abs => k_is)
    (case z_all => k_is)
    (case z_any => k_is)
    (case z_bool => k_is)
    (case z_enumerate => k_is)
    (case z_int => k_is)
    (case z_isinstance => k_is)
    (case z_len => k_is)
    (case z_list => k_is)
    (case z_min => k_is)
    (case z_range => k_is)
    (case z_tuple => k_is)
    (case z_zip => k_is)
    (case m_gcd => k_is)
    (case a_BadPurse => k_is)
    (case ex_BadPurse => first | k_exc | k_is)
    (case kp_BadPurse => k_is)
    (case be_BadPurse => k_is)
    (case ty_BadPurse => k_is)
    (case ic_BadPurse => k_is)
    (case sf_BadPurse => first | rfl | k_is)
    (case a_BadWish => k_is)
    (case ex_BadWish => first | k_exc | k_is)
    (case kp_BadWish => k_is)
    (case be_BadWish => k_is)
    (case ty_BadWish => k_is)
    (case ic_BadWish => k_is)
    (case sf_BadWish => first | rfl | k_is)
    (case a_BadDeal => k_is)
    (case ob_BadDeal => k_is)
    (case rv_BadDeal => first | rfl | k_is | decide +kernel)
    (case sa_BadDeal => k_is)
    (case ga_BadDeal => k_is)
    (case gg_BadDeal => k_is)
    (case no_BadDeal => k_is)
    (case in_BadDeal => k_is)
    (case ti_BadDeal => k_is)
    (case be_BadDeal => k_is)
    (case ty_BadDeal => k_is)
    (case kp_BadDeal => k_is)
    (case hd_BadDeal => k_is)
    (case ic_BadDeal => k_is)
    (case sf_BadDeal => first | rfl | k_is)
    (case a_Web => k_is)
    (case mk_Web => k_is)
    (case in_Web => k_is)
    (case fn_Web => k_is)
    (case kp_Web => k_is)
    (case pg_Web => k_is)
    (case hd_Web => k_is)
    (case po_Web => k_is)
    (case sa_Web => k_is)
    (case ha_Web => k_is)
    (case hn_Web => k_is)
    (case ht_Web => k_is)
    (case mo_Web => k_is)
    (case i_int_Web => first | rfl | k_is | decide +kernel)
    (case i_bool_Web => first | rfl | k_is | decide +kernel)
    (case i_tuple_Web => first | rfl | k_is | decide +kernel)
    (case i_list_Web => first | rfl | k_is | decide +kernel)
    (case na_Web_wares => k_is)
    (case na_Web_stalls => k_is)
    (case x_BadDeal_BadPurse => k_is)
    (case x_BadWish_BadPurse => k_is)
    (case v_ZERO => k_is)
    (case o_ZERO => k_is)
    (case tv_ZERO => exact ⟨(.cons ⟨_, rfl⟩ (.cons ⟨_, rfl⟩ .nil)), by decide⟩)
    (case v_MOST_MOVES => k_is)
    (case v_MOST_STALLS => k_is)
    (case v_MOST_WARES => k_is)
    (case a_is_integer => k_is)
    (case l_is_integer => k_is)
    (case c_is_integer => k_is)
    (case k_is_integer => k_is)
    (case a_is_row => k_is)
    (case l_is_row => k_is)
    (case c_is_row => k_is)
    (case k_is_row => k_is)
    (case a_is_fraction => k_is)
    (case l_is_fraction => k_is)
    (case c_is_fraction => k_is)
    (case k_is_fraction => k_is)
    (case a_is_amount => k_is)
    (case l_is_amount => k_is)
    (case c_is_amount => k_is)
    (case k_is_amount => k_is)
    (case a_is_some => k_is)
    (case l_is_some => k_is)
    (case c_is_some => k_is)
    (case k_is_some => k_is)
    (case a_are_amounts => k_is)
    (case l_are_amounts => k_is)
    (case c_are_amounts => k_is)
    (case k_are_amounts => k_is)
    (case a_added => k_is)
    (case l_added => k_is)
    (case c_added => k_is)
    (case k_added => k_is)
    (case a_negated => k_is)
    (case l_negated => k_is)
    (case c_negated => k_is)
    (case k_negated => k_is)
    (case a_lessened => k_is)
    (case l_lessened => k_is)
    (case c_lessened => k_is)
    (case k_lessened => k_is)
    (case a_multiplied => k_is)
    (case l_multiplied => k_is)
    (case c_multiplied => k_is)
    (case k_multiplied => k_is)
    (case a_divided => k_is)
    (case l_divided => k_is)
    (case c_divided => k_is)
    (case k_divided => k_is)
    (case a_squared => k_is)
    (case l_squared => k_is)
    (case c_squared => k_is)
    (case k_squared => k_is)
    (case a_summed => k_is)
    (case l_summed => k_is)
    (case c_summed => k_is)
    (case k_summed => k_is)
    (case a_lies_below => k_is)
    (case l_lies_below => k_is)
    (case c_lies_below => k_is)
    (case k_lies_below => k_is)
    (case a_is_stall => k_is)
    (case l_is_stall => k_is)
    (case c_is_stall => k_is)
    (case k_is_stall => k_is)
    (case a_hold_of => k_is)
    (case l_hold_of => k_is)
    (case c_hold_of => k_is)
    (case k_hold_of => k_is)
    (case a_stalls_of => k_is)
    (case l_stalls_of => k_is)
    (case c_stalls_of => k_is)
    (case k_stalls_of => k_is)
    (case a_kept_of => k_is)
    (case l_kept_of => k_is)
    (case c_kept_of => k_is)
    (case k_kept_of => k_is)
    (case a_held => k_is)
    (case l_held => k_is)
    (case c_held => k_is)
    (case k_held => k_is)
    (case a_is_index => k_is)
    (case l_is_index => k_is)
    (case c_is_index => k_is)
    (case k_is_index => k_is)
    (case a_is_move => k_is)
    (case l_is_move => k_is)
    (case c_is_move => k_is)
    (case k_is_move => k_is)
    (case a_check_purse => k_is)
    (case l_check_purse => k_is)
    (case c_check_purse => k_is)
    (case k_check_purse => k_is)
    (case a_check_wish => k_is)
    (case l_check_wish => k_is)
    (case c_check_wish => k_is)
    (case k_check_wish => k_is)
    (case a_stall_led => k_is)
    (case l_stall_led => k_is)
    (case c_stall_led => k_is)
    (case k_stall_led => k_is)
    (case a_stall_behind => k_is)
    (case l_stall_behind => k_is)
    (case c_stall_behind => k_is)
    (case k_stall_behind => k_is)
    (case a_stalls_behind => k_is)
    (case l_stalls_behind => k_is)
    (case c_stalls_behind => k_is)
    (case k_stalls_behind => k_is)
    (case a_deal_fault => k_is)
    (case l_deal_fault => k_is)
    (case c_deal_fault => k_is)
    (case k_deal_fault => k_is)
    (case a_check_deal => k_is)
    (case l_check_deal => k_is)
    (case c_check_deal => k_is)
    (case k_check_deal => k_is)
    (case a_web_behind => k_is)
    (case l_web_behind => k_is)
    (case c_web_behind => k_is)
    (case k_web_behind => k_is)
    (case a_left_with => k_is)
    (case l_left_with => k_is)
    (case c_left_with => k_is)
    (case k_left_with => k_is)
    (case a_played => k_is)
    (case l_played => k_is)
    (case c_played => k_is)
    (case k_played => k_is)
    (case a_owes => k_is)
    (case l_owes => k_is)
    (case c_owes => k_is)
    (case k_owes => k_is)
    (case a_is_deal => k_is)
    (case l_is_deal => k_is)
    (case c_is_deal => k_is)
    (case k_is_deal => k_is)
    (case a_stands_alike => k_is)
    (case l_stands_alike => k_is)
    (case c_stands_alike => k_is)
    (case k_stands_alike => k_is)
    (case a_check_alike => k_is)
    (case l_check_alike => k_is)
    (case c_check_alike => k_is)
    (case k_check_alike => k_is)
    (case a_change_of => k_is)
    (case l_change_of => k_is)
    (case c_change_of => k_is)
    (case k_change_of => k_is)
    (case a_l_deck => k_is)
    (case l_l_deck => k_is)
    (case c_l_deck => k_is)
    (case k_l_deck => k_is)
    (case a_l_pick => k_is)
    (case l_l_pick => k_is)
    (case c_l_pick => k_is)
    (case k_l_pick => k_is)
    (case a_l_fold => k_is)
    (case l_l_fold => k_is)
    (case c_l_fold => k_is)
    (case k_l_fold => k_is)
    (case a_l_divisor => k_is)
    (case l_l_divisor => k_is)
    (case c_l_divisor => k_is)
    (case k_l_divisor => k_is)
    (case a_l_made => k_is)
    (case l_l_made => k_is)
    (case c_l_made => k_is)
    (case k_l_made => k_is)
    (case a_l_amount => k_is)
    (case l_l_amount => k_is)
    (case c_l_amount => k_is)
    (case k_l_amount => k_is)
    (case a_l_stall => k_is)
    (case l_l_stall => k_is)
    (case c_l_stall => k_is)
    (case k_l_stall => k_is)
    (case a_l_deep => k_is)
    (case l_l_deep => k_is)
    (case c_l_deep => k_is)
    (case k_l_deep => k_is)
    (case a_l_odd => k_is)
    (case l_l_odd => k_is)
    (case c_l_odd => k_is)
    (case k_l_odd => k_is)
    (case a_l_row => k_is)
    (case l_l_row => k_is)
    (case c_l_row => k_is)
    (case k_l_row => k_is)
    (case a_l_bad_row => k_is)
    (case l_l_bad_row => k_is)
    (case c_l_bad_row => k_is)
    (case k_l_bad_row => k_is)
    (case a_l_move => k_is)
    (case l_l_move => k_is)
    (case c_l_move => k_is)
    (case k_l_move => k_is)
    (case a_l_bad_deal => k_is)
    (case l_l_bad_deal => k_is)
    (case c_l_bad_deal => k_is)
    (case k_l_bad_deal => k_is)
    (case a_l_is_some => k_is)
    (case l_l_is_some => k_is)
    (case c_l_is_some => k_is)
    (case k_l_is_some => k_is)
    (case a_l_is_row => k_is)
    (case l_l_is_row => k_is)
    (case c_l_is_row => k_is)
    (case k_l_is_row => k_is)
    (case a_l_is_below => k_is)
    (case l_l_is_below => k_is)
    (case c_l_is_below => k_is)
    (case k_l_is_below => k_is)
    (case a_l_is_move => k_is)
    (case l_l_is_move => k_is)
    (case c_l_is_move => k_is)
    (case k_l_is_move => k_is)
    (case a_l_due => k_is)
    (case l_l_due => k_is)
    (case c_l_due => k_is)
    (case k_l_due => k_is)
    (case a_l_answer => k_is)
    (case l_l_answer => k_is)
    (case c_l_answer => k_is)
    (case k_l_answer => k_is)
    (case a_l_word => k_is)
    (case l_l_word => k_is)
    (case c_l_word => k_is)
    (case k_l_word => k_is)
    (case a_l_word_is_due => k_is)
    (case l_l_word_is_due => k_is)
    (case c_l_word_is_due => k_is)
    (case k_l_word_is_due => k_is)
    (case a_law => k_is)
    (case l_law => k_is)
    (case c_law => k_is)
    (case k_law => k_is)
    (case l_BadDeal_init => k_is)
    (case c_BadDeal_init => k_is)
    (case k_BadDeal_init => k_is)
    (case l_Web_init => k_is)
    (case c_Web_init => k_is)
    (case k_Web_init => k_is)
    (case mi_Web_eq => k_is)
    (case l_Web_eq => k_is)
    (case c_Web_eq => k_is)
    (case k_Web_eq => k_is)
    (case mf_Web_eq => k_is)
    (case mn_Web => k_is)
