import PyProof.Rows.All
import Wide.All
import OpenK.AllK
import Wide.FinOn
import HandS.ForMost
import HandS.WideBits
import HandS.Gcd
import HandS.IsInst
import HandS.Style
import HandS.SetFor
import HandS.EndBits
import HandS.Codes
import HandS.ForExc
import HandS.Small
import HandS.Exc
import HandS.ExcOwn
import HandS.TryOnly
import HandS.WordsExc
import HandS.ExcInit
import HandS.ExcField
import Flt.RightSqrt
import HandS.GenYield
import HandS.OwnEq
import HandS.TupAny
import PyProof.Draws
import KE.DataMinMax
import HandS.Zip
import KE.GoesZip
import PySem.Challenge.RW_rootstalls_k09_whole_moves
set_option Elab.async false
set_option linter.all false
set_option maxRecDepth 100000
set_option maxHeartbeats 4000000
namespace My
/-! ### fractions in lowest terms are the rationals -/
theorem rat_of {n : Int} {d : Nat} {r : Rat} (hd : d ≠ 0) (hc : n.natAbs.Coprime d) (h : Rat.divInt n (d : Int) = r) : r.num = n ∧ r.den = d := by
  subst h
  rw [← Rat.mk_eq_divInt (nz := hd) (c := hc)]
  exact ⟨rfl, rfl⟩
theorem rat_cross {n d : Int} {r : Rat} (hd : d ≠ 0) : Rat.divInt n d = r ↔ n * r.den = r.num * d := by
  have h := Rat.num_divInt_den r
  have hz : (r.den : Int) ≠ 0 := by
    have := r.den_pos
    omega
  constructor
  · intro e
    rw [← h] at e
    exact (Rat.divInt_eq_divInt_iff hd hz).mp e
  · intro e
    rw [← h]
    exact (Rat.divInt_eq_divInt_iff hd hz).mpr e
theorem den_pos (r : Rat) : (0 : Int) < r.den := by
  have := r.den_pos
  omega
theorem gcd_den (r : Rat) : Nat.gcd r.num.natAbs r.den = 1 := r.reduced
/-- the sum -/
theorem add_form (r s : Rat) (g ad bd : Nat) (top : Int) (g1 : Nat) (hg : g = r.den.gcd s.den) (had : ad = r.den / g) (hbd : bd = s.den / g) (ht : top = r.num * bd + s.num * ad) (h1 : g1 = top.natAbs.gcd g) :
    (r + s).num = top / g1 ∧ (r + s).den = ad * (s.den / g1) := by
  have hd := r.den_pos
  have hs := s.den_pos
  have gpos : 0 < g := hg ▸ Nat.gcd_pos_of_pos_left _ hd
  have ae : ad * g = r.den := had ▸ Nat.div_mul_cancel (hg ▸ Nat.gcd_dvd_left ..)
  have be : bd * g = s.den := hbd ▸ Nat.div_mul_cancel (hg ▸ Nat.gcd_dvd_right ..)
  have adpos : 0 < ad := by
    rcases Nat.eq_zero_or_pos ad with e | e
    · rw [e] at ae
      omega
    · exact e
  have aux : top.natAbs.gcd g = top.natAbs.gcd (ad * s.den) := by
    rw [ht]
    exact Rat.add.aux r s hg had hbd
  have g1pos : 0 < g1 := h1 ▸ Nat.gcd_pos_of_pos_right _ gpos
  have d1 : g1 ∣ top.natAbs := h1 ▸ Nat.gcd_dvd_left ..
  have d2 : g1 ∣ g := h1 ▸ Nat.gcd_dvd_right ..
  have d3 : g1 ∣ s.den := Nat.dvd_trans d2 ⟨bd, by rw [← be, Nat.mul_comm]⟩
  have e1 : ad * (s.den / g1) = ad * s.den / g1 := (Nat.mul_div_assoc ad d3).symm
  have d4 : g1 ∣ ad * s.den := Nat.dvd_trans d3 (Nat.dvd_mul_left ..)
  rw [e1]
  have tz : (g1 : Int) ∣ top := Int.ofNat_dvd_left.mpr d1
  have tm : top / g1 * g1 = top := Int.ediv_mul_cancel tz
  have dm : ad * s.den / g1 * g1 = ad * s.den := Nat.div_mul_cancel d4
  have nz : ad * s.den / g1 ≠ 0 := by
    intro e
    rw [e] at dm
    have : 0 < ad * s.den := Nat.mul_pos adpos hs
    omega
  refine rat_of nz ?_ ?_
  · have na : (top / (g1 : Int)).natAbs = top.natAbs / g1 := by
      rw [Int.natAbs_ediv_of_dvd tz, Int.natAbs_natCast]
    rw [na, h1, aux]
    exact Nat.coprime_div_gcd_div_gcd (Nat.gcd_pos_of_pos_right _ (Nat.mul_pos adpos hs))
  · have z1 : (g1 : Int) ≠ 0 := by omega
    have z2 : (g : Int) ≠ 0 := by omega
    rw [← Rat.divInt_mul_right z1, tm, ← Int.natCast_mul, dm, ← Rat.divInt_mul_right z2]
    have er := Rat.num_divInt_den r
    have es := Rat.num_divInt_den s
    have rz : (r.den : Int) ≠ 0 := by omega
    have sz : (s.den : Int) ≠ 0 := by omega
    have key := Rat.divInt_add_divInt r.num s.num rz sz
    rw [er, es] at key
    rw [key]
    have k1 : top * g = r.num * s.den + s.num * r.den := by
      rw [ht, ← be, ← ae, Int.natCast_mul, Int.natCast_mul, Int.add_mul, Int.mul_assoc, Int.mul_assoc]
    have k2 : ((ad * s.den : Nat) : Int) * (g : Int) = r.den * s.den := by
      rw [← ae, Int.natCast_mul, Int.natCast_mul, Int.mul_assoc, Int.mul_comm (s.den : Int), ← Int.mul_assoc]
    rw [k1, k2]
/-- the product -/
theorem mul_form (r s : Rat) (g1 g2 : Nat) (h1 : g1 = r.num.natAbs.gcd s.den) (h2 : g2 = s.num.natAbs.gcd r.den) :
    (r * s).num = r.num / g1 * (s.num / g2) ∧ (r * s).den = r.den / g2 * (s.den / g1) := by
  subst h1 h2
  have e : r * s = Rat.mul r s := rfl
  rw [e]
  unfold Rat.mul
  refine ⟨?_, ?_⟩
  · show r.num.divExact _ _ * s.num.divExact _ _ = _
    rw [Int.divExact_eq_tdiv, Int.divExact_eq_tdiv, Int.tdiv_eq_ediv_of_dvd, Int.tdiv_eq_ediv_of_dvd]
    · exact Int.ofNat_dvd_left.mpr (Nat.gcd_dvd_left ..)
    · exact Int.ofNat_dvd_left.mpr (Nat.gcd_dvd_left ..)
  · show r.den.divExact _ _ * s.den.divExact _ _ = _
    rw [Nat.divExact_eq_div, Nat.divExact_eq_div]
/-- lowest terms of any pair -/
theorem low_form (n d : Int) (hd : d ≠ 0) : (Rat.divInt n d).num = (if d < 0 then n / (-(n.natAbs.gcd d.natAbs : Nat) : Int) else n / (n.natAbs.gcd d.natAbs : Nat)) ∧
    ((Rat.divInt n d).den : Int) = (if d < 0 then d / (-(n.natAbs.gcd d.natAbs : Nat) : Int) else d / (n.natAbs.gcd d.natAbs : Nat)) := by
  have pos : ∀ (n d : Int), 0 < d → (Rat.divInt n d).num = n / (n.natAbs.gcd d.natAbs : Nat) ∧ ((Rat.divInt n d).den : Int) = d / (n.natAbs.gcd d.natAbs : Nat) := by
    intro n d h
    have gp : 0 < n.natAbs.gcd d.natAbs := Nat.gcd_pos_of_pos_right _ (by omega)
    have z1 : ((n.natAbs.gcd d.natAbs : Nat) : Int) ≠ 0 := by omega
    have dn : ((n.natAbs.gcd d.natAbs : Nat) : Int) ∣ n := Int.ofNat_dvd_left.mpr (Nat.gcd_dvd_left ..)
    have dd : ((n.natAbs.gcd d.natAbs : Nat) : Int) ∣ d := Int.ofNat_dvd_left.mpr (Nat.gcd_dvd_right ..)
    have e : d / ((n.natAbs.gcd d.natAbs : Nat) : Int) = ((d.natAbs / n.natAbs.gcd d.natAbs : Nat) : Int) := by
      rw [Int.natCast_ediv]
      congr 1
      omega
    have dpos : d.natAbs / n.natAbs.gcd d.natAbs ≠ 0 := Nat.ne_of_gt (Nat.div_pos (Nat.le_of_dvd (by omega) (Nat.gcd_dvd_right ..)) gp)
    have key := rat_of (n := n / ((n.natAbs.gcd d.natAbs : Nat) : Int)) (d := d.natAbs / n.natAbs.gcd d.natAbs) (r := Rat.divInt n d) dpos
      (by
        rw [Int.natAbs_ediv_of_dvd dn, Int.natAbs_natCast]
        exact Nat.coprime_div_gcd_div_gcd gp)
      (by rw [← e, ← Rat.divInt_mul_right z1, Int.ediv_mul_cancel dn, Int.ediv_mul_cancel dd])
    exact ⟨key.1, by rw [key.2, e]⟩
  rcases Int.lt_or_gt_of_ne hd with h | h
  · rw [if_pos h, if_pos h, ← Rat.neg_divInt_neg]
    have k := pos (-n) (-d) (by omega)
    rw [Int.natAbs_neg, Int.natAbs_neg] at k
    rw [k.1, k.2]
    have dn : ((n.natAbs.gcd d.natAbs : Nat) : Int) ∣ n := Int.ofNat_dvd_left.mpr (Nat.gcd_dvd_left ..)
    have dd : ((n.natAbs.gcd d.natAbs : Nat) : Int) ∣ d := Int.ofNat_dvd_left.mpr (Nat.gcd_dvd_right ..)
    rw [Int.neg_ediv_of_dvd dn, Int.neg_ediv_of_dvd dd, Int.ediv_neg, Int.ediv_neg]
    exact ⟨rfl, rfl⟩
  · have k := pos n d h
    rw [if_neg (by omega), if_neg (by omega)]
    exact k
theorem low_self (r : Rat) : Rat.divInt r.num r.den = r := Rat.num_divInt_den r
/-! ### sizes -/
def Bd (k : Nat) (r : Rat) : Prop := r.num.natAbs < 2 ^ k ∧ r.den < 2 ^ k
theorem Bd.mono {k l : Nat} {r : Rat} (h : Bd k r) (hl : k ≤ l) : Bd l r := ⟨Nat.lt_of_lt_of_le h.1 (Nat.pow_le_pow_right (by decide) hl), Nat.lt_of_lt_of_le h.2 (Nat.pow_le_pow_right (by decide) hl)⟩
theorem nat_mul_lt {a b k l : Nat} (ha : a < 2 ^ k) (hb : b < 2 ^ l) : a * b < 2 ^ (k + l) := by
  rw [Nat.pow_add]
  exact Nat.mul_lt_mul'' ha hb
theorem Bd.divInt {k : Nat} {n d : Int} (hd : d ≠ 0) (h1 : n.natAbs < 2 ^ k) (h2 : d.natAbs < 2 ^ k) : Bd k (Rat.divInt n d) := by
  obtain ⟨a, b⟩ := low_form n d hd
  have dn : ((n.natAbs.gcd d.natAbs : Nat) : Int) ∣ n := Int.ofNat_dvd_left.mpr (Nat.gcd_dvd_left ..)
  have dd : ((n.natAbs.gcd d.natAbs : Nat) : Int) ∣ d := Int.ofNat_dvd_left.mpr (Nat.gcd_dvd_right ..)
  have dp := (Rat.divInt n d).den_pos
  refine ⟨Nat.lt_of_le_of_lt ?_ h1, Nat.lt_of_le_of_lt ?_ h2⟩
  · rw [a]
    split
    · rw [Int.ediv_neg, Int.natAbs_neg, Int.natAbs_ediv_of_dvd dn]
      exact Nat.div_le_self _ _
    · rw [Int.natAbs_ediv_of_dvd dn]
      exact Nat.div_le_self _ _
  · have e : (Rat.divInt n d).den = ((Rat.divInt n d).den : Int).natAbs := (Int.natAbs_natCast _).symm
    rw [e, b]
    split
    · rw [Int.ediv_neg, Int.natAbs_neg, Int.natAbs_ediv_of_dvd dd]
      exact Nat.div_le_self _ _
    · rw [Int.natAbs_ediv_of_dvd dd]
      exact Nat.div_le_self _ _
theorem Bd.add {k l : Nat} {r s : Rat} (hr : Bd k r) (hs : Bd l s) : Bd (k + l + 1) (r + s) := by
  have rz : (r.den : Int) ≠ 0 := Int.ne_of_gt (den_pos r)
  have sz : (s.den : Int) ≠ 0 := Int.ne_of_gt (den_pos s)
  have key := Rat.divInt_add_divInt r.num s.num rz sz
  rw [low_self, low_self] at key
  rw [key]
  have a := nat_mul_lt hr.1 hs.2
  have b := nat_mul_lt hs.1 hr.2
  have c := nat_mul_lt hr.2 hs.2
  rw [Nat.add_comm l k] at b
  refine Bd.divInt (Int.mul_ne_zero rz sz) ?_ ?_
  · have h1 : (r.num * (s.den : Int) + s.num * (r.den : Int)).natAbs ≤ (r.num * (s.den : Int)).natAbs + (s.num * (r.den : Int)).natAbs := Int.natAbs_add_le _ _
    rw [Int.natAbs_mul, Int.natAbs_mul, Int.natAbs_natCast, Int.natAbs_natCast] at h1
    rw [Nat.pow_succ]
    omega
  · rw [Int.natAbs_mul, Int.natAbs_natCast, Int.natAbs_natCast, Nat.pow_succ]
    omega
theorem Bd.mul {k l : Nat} {r s : Rat} (hr : Bd k r) (hs : Bd l s) : Bd (k + l) (r * s) := by
  have rz : (r.den : Int) ≠ 0 := Int.ne_of_gt (den_pos r)
  have sz : (s.den : Int) ≠ 0 := Int.ne_of_gt (den_pos s)
  have key := Rat.divInt_mul_divInt r.num s.num (d₁ := r.den) (d₂ := s.den)
  rw [low_self, low_self] at key
  rw [key]
  refine Bd.divInt (Int.mul_ne_zero rz sz) ?_ ?_
  · rw [Int.natAbs_mul]
    exact nat_mul_lt hr.1 hs.1
  · rw [Int.natAbs_mul, Int.natAbs_natCast, Int.natAbs_natCast]
    exact nat_mul_lt hr.2 hs.2
theorem Bd.neg {k : Nat} {r : Rat} (hr : Bd k r) : Bd k (-r) := by
  refine ⟨?_, ?_⟩
  · rw [Rat.neg_num, Int.natAbs_neg]
    exact hr.1
  · rw [Rat.neg_den]
    exact hr.2
theorem Bd.sub {k l : Nat} {r s : Rat} (hr : Bd k r) (hs : Bd l s) : Bd (k + l + 1) (r - s) := by
  rw [Rat.sub_eq_add_neg]
  exact hr.add hs.neg
theorem inv_num {s : Rat} (h : s ≠ 0) : (if s.num < 0 then -(s.den : Int) else s.den) = (s⁻¹).num ∧ (if s.num < 0 then -s.num else s.num) = (s⁻¹).den := by
  have hn : s.num ≠ 0 := fun e => h (Rat.num_eq_zero.mp e)
  rw [Rat.num_inv, Rat.den_inv, if_neg hn]
  split
  · rename_i g
    rw [Int.sign_eq_neg_one_of_neg g]
    omega
  · rename_i g
    rw [Int.sign_eq_one_of_pos (by omega)]
    omega
theorem Bd.inv {k : Nat} {s : Rat} (h : s ≠ 0) (hs : Bd k s) : Bd k s⁻¹ := by
  obtain ⟨a, b⟩ := inv_num h
  have dp := den_pos s
  refine ⟨?_, ?_⟩
  · rw [← a]
    have := hs.2
    split <;> omega
  · have := hs.1
    have e : (s⁻¹).den = ((s⁻¹).den : Int).natAbs := (Int.natAbs_natCast _).symm
    rw [e, ← b]
    split <;> omega
theorem Bd.div {k l : Nat} {r s : Rat} (h : s ≠ 0) (hr : Bd k r) (hs : Bd l s) : Bd (k + l) (r / s) := by
  rw [Rat.div_def]
  exact hr.mul (hs.inv h)
end My
namespace My
open PySem PySem.Spec PyProof.Rows L2
theorem and_sw {A B : Prop} (b : B) (a : A) : A ∧ B := ⟨a, b⟩
theorem if_dec {p : Prop} [Decidable p] {A B : Prop} (h1 : p → A) (h2 : ¬ p → B) : if decide p = true then A else B := by
  by_cases h : p
  · rw [if_pos (decide_eq_true h)]
    exact h1 h
  · rw [if_neg (fun q => h (of_decide_eq_true q))]
    exact h2 h
theorem if_ndec {p : Prop} [Decidable p] {A B : Prop} (h1 : ¬ p → A) (h2 : p → B) : if (!decide p) = true then A else B := by
  by_cases h : p
  · rw [decide_eq_true h]
    exact iteF (h2 h)
  · rw [decide_eq_false h]
    exact iteT (h1 h)
/-- // by a divisor that is not 0, below 2 ^ 9000 -/
def CDivX (_ j : Int) : Prop := j ≠ 0 ∧ j.natAbs.log2 < 9000
section
variable {X : Cx}
theorem op_fdivX : OpR X (binaryOp .FloorDiv) (rI CDivX fun i j => .int (i.fdiv j)) := opI fun _ _ _ _ _ _ _ hc q => floordiv_int hc.1 q (.inl (PyProof.noPylong_of_log2 hc.2))
end
theorem cdivx {i j : Int} {b : Nat} (h : j ≠ 0) (hb : j.natAbs < 2 ^ b) (h9 : b ≤ 9000) : CDivX i j := by
  refine ⟨h, ?_⟩
  by_cases h0 : b = 0
  · subst h0
    omega
  · exact Nat.lt_of_lt_of_le (PySem.Flt.log2_lt_of (by omega) hb) h9
/-! ### heaps: all that was there, but what stands at D, stands -/
def Fw (D : Addr) (H H' : Hp) : Prop := ∀ b o, b ≠ D → H b = some o → H' b = some o
theorem Fw.refl (D : Addr) (H : Hp) : Fw D H H := fun _ _ _ h => h
theorem Fw.trans {D : Addr} {H H1 H2 : Hp} (a : Fw D H H1) (b : Fw D H1 H2) : Fw D H H2 := fun c o n h => b c o n (a c o n h)
theorem Same.fw {D : Addr} {H H' : Hp} (s : Same H H') : Fw D H H' := fun b o _ h => s b o h
theorem same_upd {H : Hp} {p : Addr} {o : HO} (h : H p = none) : Same H (upd H p o) := fun b x e => by
  rw [upd_ne (ne_of_none e h)]
  exact e
theorem fw_upd {D : Addr} {H : Hp} {o : HO} : Fw D H (upd H D o) := fun b x n e => by
  rw [upd_ne n]
  exact e
/-! ### the deck -/
def Deck (M : Nat) (D C : Addr) (H : Hp) (c : Nat) : Prop := ∃ (cells : List Int) (pl rest cnt : Int), C ≠ D ∧ H D = some (.lst [.ref C, .int pl, .int rest, .int cnt]) ∧ H C = some (.lst (cells.map V.int)) ∧
  cells.length ≤ 63 ∧ (∀ z ∈ cells, z.natAbs < 2 ^ M) ∧ (0 ≤ rest ∧ rest.natAbs < 2 ^ M) ∧ 0 ≤ cnt ∧ cnt ≤ c
theorem Deck.same {M : Nat} {D C : Addr} {H H' : Hp} {c : Nat} (d : Deck M D C H c) (s : Same H H') : Deck M D C H' c := by
  obtain ⟨cells, pl, rest, cnt, h0, h1, h2, h3⟩ := d
  exact ⟨cells, pl, rest, cnt, h0, s _ _ h1, s _ _ h2, h3⟩
theorem Deck.mono {M : Nat} {D C : Addr} {H : Hp} {c c' : Nat} (d : Deck M D C H c) (h : c ≤ c') : Deck M D C H c' := by
  obtain ⟨cells, pl, rest, cnt, h0, h1, h2, h3, h4, h5, h6, h7⟩ := d
  exact ⟨cells, pl, rest, cnt, h0, h1, h2, h3, h4, h5, h6, by omega⟩
theorem Deck.ne {M : Nat} {D C p : Addr} {H : Hp} {c : Nat} (d : Deck M D C H c) (h : H p = none) : p ≠ D := by
  obtain ⟨cells, pl, rest, cnt, h0, h1, h2⟩ := d
  exact (ne_of_none h1 h).symm
theorem Deck.neC {M : Nat} {D C p : Addr} {H : Hp} {c : Nat} (d : Deck M D C H c) (h : H p = none) : p ≠ C := by
  obtain ⟨cells, pl, rest, cnt, h0, h1, h2, _⟩ := d
  exact (ne_of_none h2 h).symm
theorem Deck.put {M : Nat} {D C p : Addr} {H : Hp} {c : Nat} {o : HO} (d : Deck M D C H c) (n1 : p ≠ D) (n2 : p ≠ C) : Deck M D C (upd H p o) c := by
  obtain ⟨cells, pl, rest, cnt, h0, h1, h2, h3⟩ := d
  exact ⟨cells, pl, rest, cnt, h0, (upd_ne (Ne.symm n1)).trans h1, (upd_ne (Ne.symm n2)).trans h2, h3⟩
theorem pow_le {a b : Nat} (h : a ≤ b) : (2 : Nat) ^ a ≤ 2 ^ b := Nat.pow_le_pow_right (by decide) h
theorem div_small {i j : Int} {M : Nat} (h0 : 0 ≤ i) (h : i.natAbs < 2 ^ M) (hj : 0 < j) : 0 ≤ i.fdiv j ∧ (i.fdiv j).natAbs < 2 ^ M := by
  rw [Int.fdiv_eq_ediv_of_nonneg i (by omega)]
  have a := Int.ediv_nonneg h0 (Int.le_of_lt hj)
  have b : i / j ≤ i := Int.ediv_le_self j h0
  exact ⟨a, by omega⟩
end My
namespace My
open PySem PySem.Spec PyProof.Rows L2
theorem at_ints {cells : List Int} {i : Int} (h0 : 0 ≤ i) (h1 : i < ((cells.map V.int).length : Nat)) : ∃ z, z ∈ cells ∧ atI (cells.map V.int) i = some (.int z) := by
  obtain ⟨j, rfl⟩ := Int.eq_ofNat_of_zero_le h0
  rw [List.length_map] at h1
  have hj : j < cells.length := by omega
  refine ⟨cells[j], List.getElem_mem hj, atI_nat ?_⟩
  rw [List.getElem?_map, List.getElem?_eq_getElem hj]
  rfl
theorem bits_lt {z : Int} {M : Nat} (h : Builtin.Int.intBits z ≤ M) : z.natAbs < 2 ^ M := by
  unfold Builtin.Int.intBits at h
  split at h
  · rename_i e
    have e' : z = 0 := by simpa using e
    subst e'
    exact Nat.two_pow_pos M
  · have := Nat.lt_log2_self (n := z.natAbs)
    exact Nat.lt_of_lt_of_le this (pow_le h)
theorem pw_big {z cnt : Int} {c M : Nat} (hz : z.natAbs < 2 ^ M) (hM : 64 ≤ M) (h0 : 0 ≤ cnt) (h1 : cnt ≤ c) (hc : c ≤ 2 ^ 40) : (z + 7919 * (cnt + 1) + 1).natAbs < 2 ^ (M + 1) := by
  have e : (2 : Nat) ^ 64 ≤ 2 ^ M := pow_le hM
  rw [Nat.pow_succ]
  generalize (2 : Nat) ^ M = p at *
  omega
theorem fdiv_dvd {a b : Int} (h : b ∣ a) : a.fdiv b = a / b := by
  obtain ⟨c, rfl⟩ := h
  by_cases hb : b = 0
  · subst hb
    rw [Int.zero_mul]
    simp
  · rw [Int.mul_fdiv_cancel_left _ hb, Int.mul_ediv_cancel_left _ hb]
theorem mod_rng (x : Int) {m : Int} (h : 0 < m) : 0 ≤ x % m ∧ x % m < m := ⟨Int.emod_nonneg _ (by omega), Int.emod_lt_of_pos _ h⟩
end My
namespace My
open PySem PySem.Spec PyProof.Rows L2
theorem cpow_of {i j : Int} (h : 0 ≤ j ∧ j ≤ 1000000 ∧ i.natAbs < 2 ^ 64) : CPow i j := h
theorem ten18 : (0 : Int) ≤ 10 ^ (18 : Int).toNat := by decide
theorem cmul_small {i j : Int} (h : i.natAbs < 2 ^ 64) (h2 : j.natAbs < 2 ^ 64) : CMulX i j := mulx_ok h h2 (by decide)
theorem cmul_big {i j : Int} {M : Nat} (h : i.natAbs < 2 ^ M) (h2 : j.natAbs < 2 ^ 64) (hM : M ≤ 100000000) : CMulX i j := mulx_ok h h2 (by omega)
theorem pick_mul2 (x : Int) {m k : Int} (h0 : 0 < m) (hm : m.natAbs < 2 ^ 32) (hk : k.natAbs < 2 ^ 32) {d : Int} (hd : 0 < d) : CMulX (x % m) ((x % m).fdiv d + k) := by
  obtain ⟨a, b⟩ := mod_rng x h0
  rw [Int.fdiv_eq_ediv_of_nonneg _ (by omega)]
  have c := Int.ediv_nonneg a (Int.le_of_lt hd)
  have e : (x % m) / d ≤ x % m := Int.ediv_le_self d a
  exact cmul_small (by omega) (by omega)
end My
namespace My
open PySem PySem.Spec PyProof.Rows L2
variable {K : PySem.W.Frag}
/-! ### isinstance -/
section
variable {K : PySem.W.Frag} {H : Hp} {Q : VK}
theorem isi_int_int {i : Int} (q : Q (.bl true) H) : rIsi K [.int i, .ty "int"] H Q := ⟨_, _, _, _, _, rfl, .ty _, .base (.int _), kit_ty (by decide +kernel), q⟩
theorem isi_int_bool {i : Int} (q : Q (.bl false) H) : rIsi K [.int i, .ty "bool"] H Q := ⟨_, _, _, _, _, rfl, .ty _, .base (.int _), kit_ty (by decide +kernel), q⟩
theorem isi_bl_bool {b : Bool} (q : Q (.bl true) H) : rIsi K [.bl b, .ty "bool"] H Q := ⟨_, _, _, _, _, rfl, .ty _, .base (.bl _), kit_ty (by decide +kernel), q⟩
theorem isi_tup_tup {p : Addr} {xs : List V} (h : H p = some (.tup xs)) (q : Q (.bl true) H) : rIsi K [.ref p, .ty "tuple"] H Q := ⟨_, _, _, _, _, rfl, .ty _, .base (.tup h), kit_ty (by decide +kernel), q⟩
end
/-! ### a fraction that stands in the heap -/
abbrev frV (r : Rat) : List V := [.int r.num, .int r.den]
/-- a tuple: in the heap, or one of the module's own -/
def Tp (K : PySem.W.Frag) (H : Hp) (p : Addr) (xs : List V) : Prop := H p = some (.tup xs) ∨ SqT K (fun _ => none) p xs
theorem Tp.same {H H' : Hp} {p : Addr} {xs : List V} (s : Same H H') (h : Tp K H p xs) : Tp K H' p xs := h.imp (fun h => s _ _ h) id
theorem Tp.sq {H : Hp} {p : Addr} {xs : List V} (h : Tp K H p xs) : SqT K H p xs := by
  rcases h with h | (h | ⟨_, h⟩) | h
  · exact .of h
  · cases h
  · cases h
  · exact .inr h
def IsF (K : PySem.W.Frag) (H : Hp) (v : V) (r : Rat) : Prop := ∃ p, v = .ref p ∧ Tp K H p (frV r)
theorem IsF.same {H H' : Hp} {v : V} {r : Rat} (s : Same H H') (h : IsF K H v r) : IsF K H' v r := by
  obtain ⟨p, e, h⟩ := h
  exact ⟨p, e, h.same s⟩
theorem Tp.new {H : Hp} {p : Addr} {xs : List V} : Tp K (upd H p (.tup xs)) p xs := .inl upd_same
theorem at_same {H H' : Hp} {p : Addr} {o : HO} (s : Same H H') (h : H p = some o) : H' p = some o := s _ _ h
theorem Tp.fw {M : Nat} {D C : Addr} {c : Nat} {H H' : Hp} {p : Addr} {xs : List V} (d : Deck M D C H c) (s : Fw D H H') (h : Tp K H p xs) : Tp K H' p xs := by
  obtain ⟨cells, pl, rest, cnt, h0, h1, h2⟩ := d
  exact h.imp (fun h => s _ _ (ne_of h h1 (by intro z; cases z)) h) id
theorem IsF.fw {M : Nat} {D C : Addr} {c : Nat} {H H' : Hp} {v : V} {r : Rat} (d : Deck M D C H c) (s : Fw D H H') (h : IsF K H v r) : IsF K H' v r := by
  obtain ⟨p, e, h⟩ := h
  exact ⟨p, e, h.fw d s⟩
/-- all tuples stand -/
def Tps (H H' : Hp) : Prop := ∀ b xs, H b = some (.tup xs) → H' b = some (.tup xs)
theorem Tp.ts {H H' : Hp} {p : Addr} {xs : List V} (f : Tps H H') (h : Tp K H p xs) : Tp K H' p xs := h.imp (fun h => f _ _ h) id
theorem isi_tp {K' : PySem.W.Frag} {H : Hp} {Q : VK} {p : Addr} {xs : List V} (h : Tp K' H p xs) (hk : K' = K) (q : Q (.bl true) H) : rIsi K [.ref p, .ty "tuple"] H Q := by
  subst hk
  rcases h with h | (h | ⟨_, h⟩) | ⟨o, its, n, h1, h2, _⟩
  · exact ⟨_, _, _, _, _, rfl, .ty _, .base (.tup h), kit_ty (by decide +kernel), q⟩
  · cases h
  · cases h
  · exact ⟨_, _, _, _, _, rfl, .ty _, .kTuple h1 h2, kit_ty (by decide +kernel), q⟩
theorem isF_new {H : Hp} {p : Addr} {a b : Int} {r : Rat} (h1 : r.num = a) (h2 : (r.den : Int) = b) : IsF K (upd H p (.tup [.int a, .int b])) (.ref p) r := by
  subst h1 h2
  exact ⟨p, rfl, .new⟩
def frD (r : Rat) : PyData := .tuple [.int r.num, .int r.den]
theorem IsF.dp {K : PySem.W.Frag} {H : Hp} {v : V} {r : Rat} (h : IsF K H v r) : Dp K H v (frD r) := by
  obtain ⟨p, rfl, h⟩ := h
  exact .tup h.sq (.cons (.int _) (.cons (.int _) .nil))
theorem frD_shaped (r : Rat) : SeqAt.shaped (frD r) = true := by rfl
theorem frD_eqv (r s : Rat) : PyData.eqv (frD r) (frD s) = decide (r = s) := by
  have e : PyData.eqv (frD r) (frD s) = (decide (r.num = s.num) && decide ((r.den : Int) = s.den)) := by
    simp only [frD, PyData.eqv, PyData.eqvAll, Bool.and_true, Bool.beq_eq_decide_eq]
  rw [e, Bool.eq_iff_iff]
  simp only [Bool.and_eq_true, decide_eq_true_eq]
  constructor
  · rintro ⟨a, b⟩
    exact Rat.ext a (by omega)
  · rintro rfl
    exact ⟨rfl, rfl⟩
theorem eqF {K : PySem.W.Frag} {H : Hp} {v w : V} {r s : Rat} {Q : VK} (h1 : IsF K H v r) (h2 : IsF K H w s) (q : Q (.bl (decide (r = s))) H) : rEqD K v w H Q := ⟨_, _, h1.dp, h2.dp, frD_shaped r, frD_shaped s, by rw [frD_eqv]; exact q⟩
theorem neF {K : PySem.W.Frag} {H : Hp} {v w : V} {r s : Rat} {Q : VK} (h1 : IsF K H v r) (h2 : IsF K H w s) (q : Q (.bl (!decide (r = s))) H) : rNeD K v w H Q := ⟨_, _, h1.dp, h2.dp, frD_shaped r, frD_shaped s, by rw [frD_eqv]; exact q⟩
end My
namespace My
open PySem PySem.Spec PyProof.Rows L2
/-! ### calls of built-ins by named readings -/
def rInt : List V → Hp → VK → Prop := fun xs H Q => (∃ i, xs = [.int i] ∧ Q (.int i) H) ∨ ∃ k, xs = [.bl k] ∧ Q (.int (if k then 1 else 0)) H
def rLen (K : PySem.W.Frag) : List V → Hp → VK → Prop := fun xs H Q => ∃ p ys, xs = [.ref p] ∧ (SqL K H p ys ∨ SqT K H p ys) ∧ Q (.int ys.length) H
def rAbs : List V → Hp → VK → Prop := fun xs H Q => ∃ i, xs = [.int i] ∧ Q (.int (if i < 0 then -i else i)) H
def rMin : List V → Hp → VK → Prop := fun xs H Q => ∃ i j, xs = [.int i, .int j] ∧ Q (.int (if j < i then j else i)) H
theorem call_intN {X : Cx} : CallR X (.type "int") rInt := call_int1
theorem call_lenN {X : Cx} : CallR X (.builtin "len") (rLen X.K) := call_len_seq
theorem call_absN {X : Cx} : CallR X (.builtin "abs") rAbs := call_abs
theorem call_minN {X : Cx} (hc : X.calm = true) : CallR X (.builtin "min") rMin := call_min2 hc
/-! ### a reading, one step a rule: each says what its left side asks first -/
section
variable {σ : L2.St} {H : Hp} {Q : VK} {K : PySem.W.Frag} {D : Ends} {ta tb te : TE} {t : TA} {i : Nat} {v x y : V}
theorem rd_var (e : σ[i]? = some (some v)) (q : Q v H) : tVar i σ H Q := ⟨v, e, q⟩
theorem rd_C (q : Q v H) : tC v σ H Q := q
theorem rd_op {r : R2} (h : ta σ H fun x H1 => tb σ H1 fun y H2 => r x y H2 Q) : tOp r ta tb σ H Q := h
theorem rd_un {r : V → Hp → VK → Prop} (h : ta σ H fun x H1 => r x H1 Q) : tUn r ta σ H Q := h
theorem rd_CB {r : List V → Hp → VK → Prop} (h : t σ H fun vs H1 => r vs H1 Q) : tCB r t σ H Q := h
theorem rd_nil {Q : List V → Hp → Prop} (q : Q [] H) : tNil σ H Q := q
theorem rd_cons {Q : List V → Hp → Prop} (h : ta σ H fun x H1 => t σ H1 fun xs H2 => Q (x :: xs) H2) : tCons ta t σ H Q := h
theorem rd_call {sp : Sp} {dvs : List V} {E : XK} (h : t σ H fun vs H1 => sp (vs ++ dvs) H1 Q E) : tCall sp dvs E t σ H Q := h
theorem rd_rI {C : Int → Int → Prop} {g : Int → Int → V} {i j : Int} (q : Q (g i j) H) (c : C i j) : rI C g (.int i) (.int j) H Q := ⟨i, j, rfl, rfl, c, q⟩
theorem rd_rI0 {g : Int → Int → V} {i j : Int} (q : Q (g i j) H) : rI0 g (.int i) (.int j) H Q := ⟨i, j, rfl, rfl, q⟩
theorem rd_rU {g : Int → V} {i : Int} (q : Q (g i) H) : rU g (.int i) H Q := ⟨i, rfl, q⟩
theorem rd_eq (s : scal x y = true) (q : Q (.bl (decide (x = y))) H) : rEq x y H Q := ⟨s, q⟩
theorem rd_ne (s : scal x y = true) (q : Q (.bl (!decide (x = y))) H) : rNe x y H Q := ⟨s, q⟩
theorem int_eq {i j : Int} : (V.int i = V.int j) = (i = j) := by simp
theorem rd_eqI {i j : Int} (q : Q (.bl (decide (i = j))) H) : rEq (.int i) (.int j) H Q := ⟨rfl, by simpa using q⟩
theorem rd_neI {i j : Int} (q : Q (.bl (!decide (i = j))) H) : rNe (.int i) (.int j) H Q := ⟨rfl, by simpa using q⟩
theorem rd_ixL {p : Addr} {xs : List V} {i : Int} {v : V} (h : H p = some (.lst xs)) (e : atI xs i = some v) (q : Q v H) : rIxL K (.ref p) (.int i) H Q := ⟨p, xs, i, v, rfl, rfl, .of h, e, q⟩
theorem rd_ixT {p : Addr} {xs : List V} {i : Int} {v : V} (h : H p = some (.tup xs)) (e : atI xs i = some v) (q : Q v H) : rIxT K (.ref p) (.int i) H Q := ⟨p, xs, i, v, rfl, rfl, .of h, e, q⟩
theorem rd_ixTp {K' : PySem.W.Frag} {p : Addr} {xs : List V} {i : Int} {v : V} (h : Tp K' H p xs) (hk : K' = K) (e : atI xs i = some v) (q : Q v H) : rIxT K (.ref p) (.int i) H Q := ⟨p, xs, i, v, rfl, rfl, hk ▸ h.sq, e, q⟩
theorem rd_setL {p : Addr} {xs : List V} {k : Int} {j : Nat} {Q : Hp → Prop} (h : H p = some (.lst xs)) (e : ixN xs.length k = some j) (q : Q (upd H p (.lst (xs.set j v)))) : rSetL (.ref p) (.int k) v H Q := ⟨p, xs, k, j, rfl, rfl, h, e, q⟩
theorem rd_gcd {a b : Int} (q : Q (.int ((Nat.gcd a.natAbs b.natAbs : Nat) : Int)) H) : rGcd [.int a, .int b] H Q := ⟨a, b, rfl, q⟩
theorem rd_bits (h : te σ H fun x H1 => ∃ i, x = .int i ∧ Q (.int (Builtin.Int.intBits i : Nat)) H1) : tBits te σ H Q := h
theorem rd_tup (h : t σ H fun xs H1 => xs.length ≤ sizeLine ∧ ∀ p, H1 p = none → Q (.ref p) (upd H1 p (.tup xs))) : tTup t σ H Q := h
theorem rd_lst (h : t σ H fun xs H1 => xs.length ≤ sizeLine ∧ ∀ p, H1 p = none → Q (.ref p) (upd H1 p (.lst xs))) : tLst t σ H Q := h
theorem rd_sl {r : V → Option Int → Option Int → Hp → VK → Prop} {tl th : TO} (h : te σ H fun x H1 => tl σ H1 fun l H2 => th σ H2 fun u H3 => r x l u H3 Q) : tSl r te tl th σ H Q := h
theorem rd_part {Q : Option Int → Hp → Prop} (h : te σ H fun x H1 => ∃ i, x = .int i ∧ Q (some i) H1) : tPart te σ H Q := h
theorem rd_nopart {Q : Option Int → Hp → Prop} (h : Q none H) : tNoPart σ H Q := h
theorem rd_slL {a : Addr} {xs : List V} {lo hi : Option Int} (h : SqL K H a xs) (q : ∀ p, H p = none → Q (.ref p) (upd H p (.lst (cutV xs lo hi)))) : rSlL K (.ref a) lo hi H Q := ⟨a, xs, rfl, h, q⟩
theorem rd_bm {T : String} {r : V → List V → Hp → VK → Prop} (h : te σ H fun x H1 => tyV K T x H1 ∧ t σ H1 fun xs H2 => r x xs H2 Q) : tBM K T r te t σ H Q := h
theorem rd_chain {r r' : R2} (h : ta σ H fun x H1 => tb σ H1 fun y H2 => r x y H2 fun z H3 => ∃ k, z = .bl k ∧ (if k = true then te σ H3 fun w' H4 => r' y w' H4 Q else Q (.bl false) H3)) : tChain r r' ta tb te σ H Q := h
theorem rd_andV (h : ta σ H fun x H1 => ∃ c, x = .bl c ∧ if c = true then tb σ H1 Q else Q (.bl false) H1) : tAndV ta tb σ H Q := h
theorem rd_orV (h : ta σ H fun x H1 => ∃ c, x = .bl c ∧ if c = true then Q (.bl true) H1 else tb σ H1 Q) : tOrV ta tb σ H Q := h
theorem rd_notV (h : ta σ H fun x H1 => ∃ c, x = .bl c ∧ Q (.bl (!c)) H1) : tNotV ta σ H Q := h
theorem rd_ifE {c : TT} (h : c σ H fun c H1 => if c = true then ta σ H1 Q else tb σ H1 Q) : tIf c ta tb σ H Q := h
section
variable {Q : Bool → Hp → Prop} {u u' : TT}
theorem rd_test (h : te σ H fun x H' => ∃ k, x = .bl k ∧ Q k H') : tTest te σ H Q := h
theorem rd_B (h : te σ H fun x H1 => ∃ c, x = .bl c ∧ Q c H1) : tB te σ H Q := h
theorem rd_not (h : u σ H fun c H1 => Q (!c) H1) : tNot u σ H Q := h
theorem rd_and (h : u σ H fun c H1 => if c = true then u' σ H1 Q else Q false H1) : tAnd u u' σ H Q := h
theorem rd_or (h : u σ H fun c H1 => if c = true then Q true H1 else u' σ H1 Q) : tOr u u' σ H Q := h
theorem rd_yes (q : Q true H) : tYes σ H Q := q
end
section
variable {s s' : TS} {g : TG} {gs : TGs}
theorem rd_seq (h : s { D with nx := s' D } σ H) : tSeq s s' D σ H := h
theorem rd_next (h : D.nx σ H) : tNext D σ H := h
theorem rd_drop (h : te σ H fun _ H1 => D.nx σ H1) : tDrop te D σ H := h
theorem rd_ret (h : te σ H D.rt) : tRet te D σ H := h
theorem rd_ifS {c : TT} (h : c σ H fun b H1 => if b = true then s D σ H1 else s' D σ H1) : tIfS c s s' D σ H := h
theorem rd_asg (h : te σ H fun x H1 => g x σ H1 D.nx) : tAsg te g D σ H := h
theorem rd_gName {Q : L2.St → Hp → Prop} (h : Q (σ.set i (some v)) H) : gName i v σ H Q := h
theorem rd_gSub {Q : L2.St → Hp → Prop} {ts : TSet} (h : ta σ H fun o H1 => tb σ H1 fun i H2 => ts o i v H2 fun H3 => Q σ H3) : gSub ta tb ts v σ H Q := h
theorem rd_gTup {Q : L2.St → Hp → Prop} {p : Addr} {xs : List V} {n : Nat} (h : H p = some (.tup xs)) (e : xs.length = n) (q : gs xs σ H Q) : gTup K n gs (.ref p) σ H Q := ⟨p, xs, rfl, .of h, e, q⟩
theorem rd_gTp {K' : PySem.W.Frag} {Q : L2.St → Hp → Prop} {p : Addr} {xs : List V} {n : Nat} (h : Tp K' H p xs) (hk : K' = K) (e : xs.length = n) (q : gs xs σ H Q) : gTup K n gs (.ref p) σ H Q := ⟨p, xs, rfl, hk ▸ h.sq, e, q⟩
theorem rd_gNil {Q : L2.St → Hp → Prop} (q : Q σ H) : gNil [] σ H Q := ⟨rfl, q⟩
theorem rd_gCons {Q : L2.St → Hp → Prop} {r : List V} (h : g v σ H fun σ' H' => gs r σ' H' Q) : gCons g gs (v :: r) σ H Q := ⟨v, r, rfl, h⟩
theorem rd_for {wi : TI} (h : wi σ H fun J H1 => ∃ W : Nat → Nat → L2.St → Hp → Prop, (∃ m, W 0 m σ H1) ∧ ∀ i m σ H, W i m σ H →
  (J.stop i H ∧ D.nx σ H) ∨ (J.go i H ∧ ∃ N : L2.St → Hp → Prop, (∀ σ' H', N σ' H' → ∃ m', m' < m ∧ W (i + 1) m' σ' H') ∧ ∀ x H', J.yld i H x H' → g x σ H' fun σ2 H2 => s { D with nx := N, ct := N, bk := D.nx } σ2 H2)) : tFor wi g s D σ H := h
theorem rd_rng1 {R : It → Hp → Prop} (h : t σ H fun vs H1 => ∃ j : Int, vs = [.int j] ∧ -(2 ^ 62) ≤ j ∧ j < 2 ^ 62 ∧ R (Itr 0 j.toNat) H1) : iRng1 t σ H R := h
theorem rd_itL {R : It → Hp → Prop} (h : te σ H fun x H1 => ∃ a, x = .ref a ∧ (∃ xs, SqL K H1 a xs) ∧ R (Itl K a) H1) : iList K te σ H R := h
theorem rd_itT {R : It → Hp → Prop} (h : te σ H fun x H1 => ∃ a, x = .ref a ∧ (∃ xs, SqT K H1 a xs) ∧ R (Itt K a) H1) : iTup K te σ H R := h
end
theorem if_T {p : Prop} [Decidable p] {A B : Prop} (hp : p) (h : A) : if decide p = true then A else B := by
  rw [if_pos (decide_eq_true hp)]
  exact h
theorem if_F {p : Prop} [Decidable p] {A B : Prop} (hp : ¬ p) (h : B) : if decide p = true then A else B := by
  rw [if_neg (fun q => hp (of_decide_eq_true q))]
  exact h
theorem if_nF {p : Prop} [Decidable p] {A B : Prop} (hp : p) (h : B) : if (!decide p) = true then A else B := by
  rw [decide_eq_true hp]
  exact iteF h
theorem if_nT {p : Prop} [Decidable p] {A B : Prop} (hp : ¬ p) (h : A) : if (!decide p) = true then A else B := by
  rw [decide_eq_false hp]
  exact iteT h
theorem ite_nt {A B : Prop} (h : B) : if (!true) = true then A else B := iteF h
theorem ite_nf {A B : Prop} (h : A) : if (!false) = true then A else B := iteT h
theorem rd_len {xs : List V} {R : Prop} (q : R) (h : xs.length.ble sizeLine = true) : xs.length ≤ sizeLine ∧ R := ⟨Nat.le_of_ble_eq_true h, q⟩
theorem rd_lenL {p : Addr} {xs : List V} (q : Q (.int xs.length) H) (h : H p = some (.lst xs)) : rLen K [.ref p] H Q := ⟨p, xs, rfl, .inl (.of h), q⟩
theorem rd_lenS {p : Addr} {xs : List V} (q : Q (.int xs.length) H) (h : SqL K H p xs) : rLen K [.ref p] H Q := ⟨p, xs, rfl, .inl h, q⟩
theorem rd_lenT {p : Addr} {xs : List V} (q : Q (.int xs.length) H) (h : H p = some (.tup xs)) : rLen K [.ref p] H Q := ⟨p, xs, rfl, .inr (.of h), q⟩
theorem rd_lenTp {K' : PySem.W.Frag} {p : Addr} {xs : List V} (q : Q (.int xs.length) H) (h : Tp K' H p xs) (hk : K' = K) : rLen K [.ref p] H Q := ⟨p, xs, rfl, .inr (hk ▸ h.sq), q⟩
theorem rd_int {i : Int} (q : Q (.int i) H) : rInt [.int i] H Q := .inl ⟨i, rfl, q⟩
theorem rd_intB {k : Bool} (q : Q (.int (if k then 1 else 0)) H) : rInt [.bl k] H Q := .inr ⟨k, rfl, q⟩
theorem rd_abs {i : Int} (q : Q (.int (i.natAbs : Nat)) H) : rAbs [.int i] H Q := ⟨i, rfl, by
  have e : (if i < 0 then -i else i) = (i.natAbs : Int) := by split <;> omega
  rw [e]
  exact q⟩
theorem rd_min {i j : Int} (q : Q (.int (min i j)) H) : rMin [.int i, .int j] H Q := ⟨i, j, rfl, by
  have e : (if j < i then j else i) = min i j := by split <;> omega
  rw [e]
  exact q⟩
theorem rd_neB {a b : Bool} (q : Q (.bl (!decide (a = b))) H) : rNe (.bl a) (.bl b) H Q := ⟨rfl, by simpa using q⟩
theorem rd_eqB {a b : Bool} (q : Q (.bl (decide (a = b))) H) : rEq (.bl a) (.bl b) H Q := ⟨rfl, by simpa using q⟩
theorem rd_neS {a b : Str} (q : Q (.bl (!decide (a = b))) H) : rNe (.str a) (.str b) H Q := ⟨rfl, by simpa using q⟩
theorem rd_eqS {a b : Str} (q : Q (.bl (decide (a = b))) H) : rEq (.str a) (.str b) H Q := ⟨rfl, by simpa using q⟩
theorem rd_isBl {a b : Bool} (q : Q (.bl (decide (a = b))) H) : rIsB (.bl a) (.bl b) H Q := ⟨a, b, rfl, rfl, q⟩
end
end My
namespace My
open PySem PySem.Spec PyProof.Rows L2
theorem rd_lc {wi : TI} {g : TG} {tt : TT} {te : TE} {vs : List Nat} {σ : L2.St} {H : Hp} {Q : VK} (h : wi σ H fun J H1 => ∀ D, H1 D = none → ∃ W : Nat → Nat → Hp → Prop, (∃ m, W 0 m (upd H1 D (.lst []))) ∧ ∀ i m H, W i m H →
  (J.stop i H ∧ Q (.ref D) H) ∨ (J.go i H ∧ ∃ Nx : Hp → Prop, (∀ H', Nx H' → ∃ m', m' < m ∧ W (i + 1) m' H') ∧ ∀ x H', J.yld i H x H' → g x (wipe σ vs) H' fun σ2 H2 => wipe σ2 vs = wipe σ vs ∧ tt σ2 H2 fun b H3 =>
    if b = true then te σ2 H3 fun y H4 => ∃ acc, H4 D = some (.lst acc) ∧ acc.length < sizeLine ∧ Nx (upd H4 D (.lst (acc ++ [y]))) else Nx H3)) : tLc wi g tt te vs σ H Q := h
theorem cut_all {xs : List V} {n : Nat} (h : xs.length ≤ n) : cutV xs none (some (n : Int)) = xs := by
  unfold cutV
  rw [HT.sIx_none, HT.sIx_nat, List.drop_zero]
  exact List.take_of_length_le (by omega)
theorem take_succ_map {ns : List Int} {i : Nat} {x : V} (h : (ns.map V.int)[i]? = some x) : ∃ z, x = .int z ∧ z ∈ ns ∧ (ns.take (i + 1)).map V.int = (ns.take i).map V.int ++ [x] := by
  rw [List.getElem?_map] at h
  cases e : ns[i]? with
  | none =>
    rw [e] at h
    cases h
  | some z =>
    rw [e] at h
    have hx : x = .int z := (Option.some.inj h).symm
    refine ⟨z, hx, List.mem_of_getElem? e, ?_⟩
    rw [List.take_add_one, e, List.map_append, hx]
    rfl
/-! ### list.count of flags -/
def eqb (k : Bool) (v : Value) : Bool := match v with
  | .bool b => b == k
  | _ => false
theorem eqb_at {A : Around} {s : Shared} {k : Bool} : ∀ {us : List Value} {bs : List Bool}, Vals (bs.map V.bl) us → ∀ y ∈ us, SeqAt.EqAt A s y (.bool k) (eqb k y)
  | [], bs, r => fun y hy => nomatch hy
  | u :: us, [], r => nomatch r
  | u :: us, b :: bs, r => fun y hy => by
    cases r with
    | cons r1 r2 =>
      rcases List.mem_cons.mp hy with e | e
      · rw [e]
        cases (show u = Value.bool b from r1)
        exact SeqAt.EqAt.bool_bool b k
      · exact eqb_at r2 y e
theorem eqb_count {k : Bool} : ∀ {us : List Value} {bs : List Bool}, Vals (bs.map V.bl) us → us.countP (eqb k) = bs.count k
  | [], [], _ => rfl
  | [], b :: bs, r => nomatch r
  | u :: us, [], r => nomatch r
  | u :: us, b :: bs, r => by
    cases r with
    | cons r1 r2 =>
      cases (show u = Value.bool b from r1)
      rw [List.countP_cons, List.count_cons, eqb_count r2] <;> rfl
def rCntB (K : PySem.W.Frag) : V → List V → Hp → VK → Prop := fun x xs H Q => ∃ (p : Addr) (bs : List Bool) (k : Bool), x = .ref p ∧ xs = [.bl k] ∧ SqL K H p (bs.map V.bl) ∧ Q (.int (bs.count k : Nat)) H
theorem mt_bcount {X : Cx} : MtR X "list.count" (rCntB X.K) := by
  intro pins s σ H x xs v us Q I rx rxs h
  obtain ⟨p, bs, k, rfl, rfl, hs, q⟩ := h
  cases rx
  obtain ⟨u, rfl, ru⟩ := rxs.one
  cases (show u = Value.bool k from ru)
  obtain ⟨its, rv, ⟨⟨cls, dd, data, sl⟩, n, ho, hc, hdn, hd⟩, hlen⟩ := I.list hs
  simp only at hc hd
  subst hc hd
  refine call_meets PySem.F.slot_list_count ⟨_, ho, rfl⟩ PySem.F.entry_list_count (PySem.F.args_list_count_2 _ _)
    (SeqAt.list_countAt p its.toArray n dd sl (.bool k) (eqb k)) ⟨ho, fun y hy => eqb_at rv y (by simpa using hy), ?_⟩
  have ec : its.toArray.toList.countP (eqb k) = bs.count k := eqb_count rv
  refine ⟨.int (bs.count k : Nat), H, I.tok _, ⟨s.toks, ?_⟩, q⟩
  show Value.int ((its.toArray.toList.countP (eqb k) : Nat) : Int) s.toks = Value.int ((bs.count k : Nat) : Int) s.toks
  rw [ec]
/-! ### greatest common divisors by remainders -/
structure Euc (G b i : Nat) (x y : Nat) : Prop where
  g : x.gcd y = G
  h : y * 2 ^ (i / 2) ≤ b
  m : i ≠ 0 → y < x ∧ x * 2 ^ ((i - 1) / 2) ≤ b
theorem Euc.step {G b i x y : Nat} (e : Euc G b i x y) (hy : y ≠ 0) : Euc G b (i + 1) y (x % y) := by
  have lt : x % y < y := Nat.mod_lt _ (by omega)
  refine ⟨?_, ?_, fun _ => ⟨lt, ?_⟩⟩
  · rw [← e.g, Nat.gcd_comm x y, Nat.gcd_comm y (x % y)]
    exact (Nat.gcd_rec y x).symm
  · rcases Nat.mod_two_eq_zero_or_one i with p | p
    · have q : (i + 1) / 2 = i / 2 := by omega
      rw [q]
      exact Nat.le_trans (Nat.mul_le_mul_right _ (Nat.le_of_lt lt)) e.h
    · have q : (i + 1) / 2 = (i - 1) / 2 + 1 := by omega
      obtain ⟨m1, m2⟩ := e.m (by omega)
      have half : 2 * (x % y) ≤ x := by
        have d := Nat.div_add_mod x y
        have dp : 1 ≤ x / y := Nat.div_pos (Nat.le_of_lt m1) (by omega)
        have : y ≤ y * (x / y) := Nat.le_mul_of_pos_right y dp
        omega
      rw [q, Nat.pow_succ]
      calc x % y * (2 ^ ((i - 1) / 2) * 2) = (2 * (x % y)) * 2 ^ ((i - 1) / 2) := by rw [Nat.mul_comm (2 ^ _) 2, ← Nat.mul_assoc, Nat.mul_comm (x % y) 2]
        _ ≤ x * 2 ^ ((i - 1) / 2) := Nat.mul_le_mul_right _ half
        _ ≤ b := m2
  · have q : (i + 1 - 1) / 2 = i / 2 := by omega
    rw [q]
    exact e.h
theorem Euc.done {G b k x y : Nat} (e : Euc G b (2 * k + 2) x y) (hb : b < 2 ^ k) : y = 0 ∧ x = G := by
  have h := e.h
  have q : (2 * k + 2) / 2 = k + 1 := by omega
  rw [q] at h
  have hy : y = 0 := by
    rcases Nat.eq_zero_or_pos y with z | z
    · exact z
    · have p : 2 ^ (k + 1) ≤ y * 2 ^ (k + 1) := Nat.le_mul_of_pos_left _ z
      rw [Nat.pow_succ] at p
      have : 0 < 2 ^ k := Nat.two_pow_pos k
      rw [Nat.pow_succ] at h
      omega
  have g := e.g
  rw [hy, Nat.gcd_zero_right] at g
  exact ⟨hy, g⟩
end My
namespace My
open PySem PySem.Spec PyProof.Rows L2
theorem cdv {j : Int} (h : 0 < j) (hb : j.natAbs < 2 ^ 8000) (i : Int) : CDivX i j := cdivx (by omega) hb (by decide)
theorem cmx {i j : Int} (h1 : i.natAbs < 2 ^ 20000) (h2 : j.natAbs < 2 ^ 20000) : CMulX i j := mulx_ok h1 h2 (by decide)
theorem div_nat (a b : Nat) : (a : Int).fdiv (b : Int) = ((a / b : Nat) : Int) := by
  rw [Int.fdiv_eq_ediv_of_nonneg _ (by omega), Int.natCast_ediv]
theorem p45 {n : Nat} (h : n < 2 ^ 4000) : n < 2 ^ 8000 := Nat.lt_of_lt_of_le h (pow_le (by decide))
theorem p46 {n : Nat} (h : n < 2 ^ 4000) : n < 2 ^ 20000 := Nat.lt_of_lt_of_le h (pow_le (by decide))
theorem added_math {r s : Rat} (hr : Bd 4000 r) (hs : Bd 4000 s) : ∀ g top sh : Int, g = ((Nat.gcd (r.den : Int).natAbs (s.den : Int).natAbs : Nat) : Int) → top = r.num * (s.den : Int).fdiv g + s.num * (r.den : Int).fdiv g →
    sh = ((Nat.gcd top.natAbs g.natAbs : Nat) : Int) → (∀ i, CDivX i g) ∧ CMulX r.num ((s.den : Int).fdiv g) ∧ CMulX s.num ((r.den : Int).fdiv g) ∧ (∀ i, CDivX i sh) ∧ CMulX ((r.den : Int).fdiv g) ((s.den : Int).fdiv sh) ∧
      (r + s).num = top.fdiv sh ∧ ((r + s).den : Int) = (r.den : Int).fdiv g * (s.den : Int).fdiv sh := by
  intro g top sh hg ht hsh
  have hd := r.den_pos
  have hs' := s.den_pos
  rw [Int.natAbs_natCast, Int.natAbs_natCast] at hg
  have gpos : 0 < r.den.gcd s.den := Nat.gcd_pos_of_pos_left _ hd
  have gle : r.den.gcd s.den ≤ r.den := Nat.gcd_le_left _ hd
  have gna : g.natAbs = r.den.gcd s.den := by rw [hg, Int.natAbs_natCast]
  have shpos : 0 < top.natAbs.gcd (r.den.gcd s.den) := Nat.gcd_pos_of_pos_right _ gpos
  have shle : top.natAbs.gcd (r.den.gcd s.den) ≤ r.den.gcd s.den := Nat.gcd_le_right _ gpos
  rw [gna] at hsh
  have hr2 := hr.2
  have hs2 := hs.2
  have e1 : (s.den : Int).fdiv g = ((s.den / r.den.gcd s.den : Nat) : Int) := by rw [hg, div_nat]
  have e2 : (r.den : Int).fdiv g = ((r.den / r.den.gcd s.den : Nat) : Int) := by rw [hg, div_nat]
  have l1 : s.den / r.den.gcd s.den ≤ s.den := Nat.div_le_self _ _
  have l2 : r.den / r.den.gcd s.den ≤ r.den := Nat.div_le_self _ _
  have form := add_form r s (r.den.gcd s.den) (r.den / r.den.gcd s.den) (s.den / r.den.gcd s.den) top (top.natAbs.gcd (r.den.gcd s.den)) rfl rfl rfl (by rw [ht, e1, e2]) rfl
  have e3 : (s.den : Int).fdiv sh = ((s.den / top.natAbs.gcd (r.den.gcd s.den) : Nat) : Int) := by rw [hsh, div_nat]
  have l3 : s.den / top.natAbs.gcd (r.den.gcd s.den) ≤ s.den := Nat.div_le_self _ _
  refine ⟨cdv (by omega) (by rw [gna]; exact p45 (by omega)), ?_, ?_, cdv (by omega) ?_, ?_, ?_, ?_⟩
  · rw [e1]
    exact cmx (p46 hr.1) (by rw [Int.natAbs_natCast]; exact p46 (by omega))
  · rw [e2]
    exact cmx (p46 hs.1) (by rw [Int.natAbs_natCast]; exact p46 (by omega))
  · rw [hsh, Int.natAbs_natCast]
    exact p45 (by omega)
  · rw [e2, e3]
    exact cmx (by rw [Int.natAbs_natCast]; exact p46 (by omega)) (by rw [Int.natAbs_natCast]; exact p46 (by omega))
  · rw [form.1, hsh, Int.fdiv_eq_ediv_of_nonneg _ (by omega)]
  · rw [form.2, e2, e3, Int.natCast_mul]
theorem mul_math {r s : Rat} (hr : Bd 4000 r) (hs : Bd 4000 s) : ∀ a b : Int, a = ((Nat.gcd r.num.natAbs (s.den : Int).natAbs : Nat) : Int) → b = ((Nat.gcd s.num.natAbs (r.den : Int).natAbs : Nat) : Int) →
    (∀ i, CDivX i a) ∧ (∀ i, CDivX i b) ∧ CMulX (r.num.fdiv a) (s.num.fdiv b) ∧ CMulX ((r.den : Int).fdiv b) ((s.den : Int).fdiv a) ∧
      (r * s).num = r.num.fdiv a * s.num.fdiv b ∧ ((r * s).den : Int) = (r.den : Int).fdiv b * (s.den : Int).fdiv a := by
  intro a b ha hb
  rw [Int.natAbs_natCast] at ha hb
  have hd := r.den_pos
  have hs' := s.den_pos
  have ap : 0 < r.num.natAbs.gcd s.den := Nat.gcd_pos_of_pos_right _ hs'
  have bp : 0 < s.num.natAbs.gcd r.den := Nat.gcd_pos_of_pos_right _ hd
  have al : r.num.natAbs.gcd s.den ≤ s.den := Nat.gcd_le_right _ hs'
  have bl : s.num.natAbs.gcd r.den ≤ r.den := Nat.gcd_le_right _ hd
  have da : a ∣ r.num := by rw [ha]; exact Int.ofNat_dvd_left.mpr (Nat.gcd_dvd_left ..)
  have db : b ∣ s.num := by rw [hb]; exact Int.ofNat_dvd_left.mpr (Nat.gcd_dvd_left ..)
  have hr2 := hr.2
  have hs2 := hs.2
  obtain ⟨f1, f2⟩ := mul_form r s _ _ rfl rfl
  have e1 : r.num.fdiv a = r.num / a := fdiv_dvd da
  have e2 : s.num.fdiv b = s.num / b := fdiv_dvd db
  have e3 : (r.den : Int).fdiv b = ((r.den / s.num.natAbs.gcd r.den : Nat) : Int) := by rw [hb, div_nat]
  have e4 : (s.den : Int).fdiv a = ((s.den / r.num.natAbs.gcd s.den : Nat) : Int) := by rw [ha, div_nat]
  have l3 : r.den / s.num.natAbs.gcd r.den ≤ r.den := Nat.div_le_self _ _
  have l4 : s.den / r.num.natAbs.gcd s.den ≤ s.den := Nat.div_le_self _ _
  have n1 : (r.num / a).natAbs ≤ r.num.natAbs := by
    rw [Int.natAbs_ediv_of_dvd da]
    exact Nat.div_le_self _ _
  have n2 : (s.num / b).natAbs ≤ s.num.natAbs := by
    rw [Int.natAbs_ediv_of_dvd db]
    exact Nat.div_le_self _ _
  have hr1 := hr.1
  have hs1 := hs.1
  refine ⟨cdv (by omega) (by rw [ha, Int.natAbs_natCast]; exact p45 (by omega)), cdv (by omega) (by rw [hb, Int.natAbs_natCast]; exact p45 (by omega)), ?_, ?_, ?_, ?_⟩
  · rw [e1, e2]
    exact cmx (p46 (by omega)) (p46 (by omega))
  · rw [e3, e4]
    exact cmx (by rw [Int.natAbs_natCast]; exact p46 (by omega)) (by rw [Int.natAbs_natCast]; exact p46 (by omega))
  · rw [f1, e1, e2, ha, hb]
  · rw [f2, e3, e4, Int.natCast_mul]
end My
namespace My
open PySem PySem.Spec PyProof.Rows L2
theorem low_math {n b : Int} (hb : 0 < b) (hl : b.natAbs < 2 ^ 8000) : ∀ g : Int, g = ((n.natAbs.gcd b.natAbs : Nat) : Int) → (∀ i, CDivX i g) ∧ (Rat.divInt n b).num = n.fdiv g ∧ ((Rat.divInt n b).den : Int) = b.fdiv g := by
  rintro g rfl
  have gp : 0 < n.natAbs.gcd b.natAbs := Nat.gcd_pos_of_pos_right _ (by omega)
  have gl : n.natAbs.gcd b.natAbs ≤ b.natAbs := Nat.gcd_le_right _ (by omega)
  obtain ⟨e1, e2⟩ := low_form n b (by omega)
  rw [if_neg (by omega)] at e1 e2
  refine ⟨cdv (by omega) (by rw [Int.natAbs_natCast]; omega), ?_, ?_⟩
  · rw [e1, fdiv_dvd (Int.ofNat_dvd_left.mpr (Nat.gcd_dvd_left ..))]
  · rw [e2, fdiv_dvd (Int.ofNat_dvd_left.mpr (Nat.gcd_dvd_right ..))]
theorem sign_na {t r : Int} (a : 0 ≤ r) (b : r < 2) : (t * (1 - 2 * r)).natAbs = t.natAbs := by
  have h : r = 0 ∨ r = 1 := by omega
  rcases h with rfl | rfl
  · simp
  · rw [Int.natAbs_mul]
    simp
end My
namespace My
open PySem PySem.Spec PyProof.Rows L2
/-! ### an own error class without __init__, made without arguments -/
abbrev veChain : List Value := [.type "ValueError", .type "Exception", .type "BaseException", .type "object"]
theorem pmk_own0 {X : Cx} {C : Addr} {bmB : List Value} {B newId initId : String} {x : Str} {p pos : Pos} (F : ExcBaseFacts B newId initId bmB) (q : PySem.W.excIn X.K C bmB newId = true) (gC : X.mg x = some (.ref C))
    (kC : PySem.W.keepIn X.K (.ref C) = true) (r : Raises X (.ref C)) (hg : Gl X x) (hdb : (x == ("__debug__" : Str)) = false := by decide) :
    PMk X (.Call (.Name x p) [] [] pos) (fun _ H Q => Q (.ref C) none H) := by
  intro pins s σ H Q I h
  refine wpAny_Call_Name_kw (ld_glob I hg gC ?_ hdb)
  refine PySem.W.callWith_K0 I.kIn kC ?_
  show wpAny _ _ (call (.ref C) []) _ _ _
  obtain ⟨hp, g, d, t, os⟩ := s
  obtain ⟨bm, N, nm, qn, bs, hdct, sn, sub, ab, col, dd, k0, k1, k2, k3, k5, mN, hC, hN, hni, T⟩ := exc_obj I.kIn q
  refine wpAny_call_exc_subT F T hC hN hni (fun h' e hm => ?_) (Nat.zero_le _)
  exact mk_of I hm r h (I.hok.gone hm.new)
/-- what the top holds of such a class -/
structure ExC (K : PySem.W.Frag) (mg : Str → Option Value) (x : Str) (C : Addr) : Prop where
  g : mg x = some (.ref C)
  ex : PySem.W.excIn K C veChain "ValueError.__new__" = true
  kp : PySem.W.keepIn K (.ref C) = true
  be : PySem.W.subIn K (.ref C) (.type "BaseException") = some true
  ty : PySem.W.typeIn K (.ref C) = some (.type "type")
  ic : PySem.W.isClsIn K C = true
  sf : PySem.W.subIn K (.ref C) (.ref C) = some true
theorem exm_sub {K : PySem.W.Frag} {C S : Addr} {b : Bool} (h1 : PySem.W.subIn K (.ref S) (.type "BaseException") = some true) (h2 : PySem.W.isClsIn K S = true) (h3 : PySem.W.typeIn K (.ref S) = some (.type "type")) (h4 : PySem.W.subIn K (.ref C) (.ref S) = some b) :
    PySem.W.exmOne K (.ref C) (.ref S) = some b := by
  have e1 : (PySem.W.subIn K (.ref S) (.type "BaseException") == some true) = true := by rw [h1] <;> rfl
  have e2 : ((PySem.W.clsIn K S).isSome && PySem.W.typeIn K (.ref S) == some (.type "type")) = true := by
    have h2' : (PySem.W.clsIn K S).isSome = true := h2
    rw [h2', h3] <;> rfl
  show (if (PySem.W.subIn K (.ref S) (.type "BaseException") == some true) = true then (if ((PySem.W.clsIn K S).isSome && PySem.W.typeIn K (.ref S) == some (.type "type")) = true then PySem.W.subIn K (.ref C) (.ref S) else none) else none) = some b
  rw [if_pos e1, if_pos e2]
  exact h4
theorem ExC.te {K : PySem.W.Frag} {mg : Str → Option Value} {x : Str} {C : Addr} (e : ExC K mg x C) : PySem.W.exmOne K (.ref C) (.ref C) = some true := exm_sub e.be e.ic e.ty e.sf
/-- raise X() -/
theorem ps_raise0 {X : Cx} {W : WX} {C : Addr} {x : Str} {p pos pos2 : Pos} (hc : X.calm = true) (e : ExC X.K X.mg x C) (tk : Takes X W) (hg : Gl X x := by rfl) (hdb : (x == ("__debug__" : Str)) = false := by decide) :
    PS X (.Raise (some (.Call (.Name x p) [] [] pos)) none pos2) (fun _ σ H => W (.ref C) none σ H) :=
  ps_raise hc tk (pmk_own0 PySem.F.excBase_ValueError e.ex e.g e.kp (raises_own e.be e.ty) hg hdb)
theorem rd_callS {sp : Sp} {E : L2.St → XK} {t : TA} {σ : L2.St} {H : Hp} {Q : VK} (h : t σ H fun vs H1 => sp vs H1 Q (E σ)) : tCallS sp E t σ H Q := h
theorem rd_newK {σ : L2.St} {H : Hp} {Q : VK} (h : ∀ p, H p = none → Q (.ref p) (upd H p (.dK []))) : tDNewK σ H Q := h
theorem at_any {xs : List V} {i : Int} (h0 : 0 ≤ i) (h1 : i < (xs.length : Nat)) : ∃ v, v ∈ xs ∧ atI xs i = some v := by
  obtain ⟨j, rfl⟩ := Int.eq_ofNat_of_zero_le h0
  have hj : j < xs.length := by omega
  exact ⟨xs[j], List.getElem_mem hj, atI_nat (List.getElem?_eq_getElem hj)⟩
/-! ### things that are no integers -/
inductive Odd (D : Addr) (H : Hp) : V → Prop where
  | non : Odd D H .non
  | bl (b : Bool) : Odd D H (.bl b)
  | str (s : Str) : Odd D H (.str s)
  | lst {p : Addr} {xs : List V} (n : p ≠ D) (h : H p = some (.lst xs)) : Odd D H (.ref p)
  | tup {p : Addr} {xs : List V} (n : p ≠ D) (h : H p = some (.tup xs)) : Odd D H (.ref p)
  | dK {p : Addr} {kvs : List (Key × V)} (n : p ≠ D) (h : H p = some (.dK kvs)) : Odd D H (.ref p)
theorem Odd.fw {D : Addr} {H H' : Hp} {v : V} (o : Odd D H v) (f : Fw D H H') : Odd D H' v := by
  cases o with
  | non => exact .non
  | bl b => exact .bl b
  | str s => exact .str s
  | lst n h => exact .lst n (f _ _ n h)
  | tup n h => exact .tup n (f _ _ n h)
  | dK n h => exact .dK n (f _ _ n h)
theorem Odd.isi {D : Addr} {H : Hp} {v : V} (o : Odd D H v) (K : PySem.W.Frag) : ∃ b1 b2 : Bool, (b1 && !b2) = false ∧ (∀ Q : VK, Q (.bl b1) H → rIsi K [v, .ty "int"] H Q) ∧ (∀ Q : VK, Q (.bl b2) H → rIsi K [v, .ty "bool"] H Q) := by
  cases o with
  | non => exact ⟨false, false, rfl, fun Q q => ⟨_, _, _, _, _, rfl, .ty _, .base .non, kit_ty (by decide +kernel), q⟩, fun Q q => ⟨_, _, _, _, _, rfl, .ty _, .base .non, kit_ty (by decide +kernel), q⟩⟩
  | bl b => exact ⟨true, true, rfl, fun Q q => ⟨_, _, _, _, _, rfl, .ty _, .base (.bl _), kit_ty (by decide +kernel), q⟩, fun Q q => ⟨_, _, _, _, _, rfl, .ty _, .base (.bl _), kit_ty (by decide +kernel), q⟩⟩
  | str s => exact ⟨false, false, rfl, fun Q q => ⟨_, _, _, _, _, rfl, .ty _, .base (.str _), kit_ty (by decide +kernel), q⟩, fun Q q => ⟨_, _, _, _, _, rfl, .ty _, .base (.str _), kit_ty (by decide +kernel), q⟩⟩
  | lst n h => exact ⟨false, false, rfl, fun Q q => ⟨_, _, _, _, _, rfl, .ty _, .base (.lst h), kit_ty (by decide +kernel), q⟩, fun Q q => ⟨_, _, _, _, _, rfl, .ty _, .base (.lst h), kit_ty (by decide +kernel), q⟩⟩
  | tup n h => exact ⟨false, false, rfl, fun Q q => ⟨_, _, _, _, _, rfl, .ty _, .base (.tup h), kit_ty (by decide +kernel), q⟩, fun Q q => ⟨_, _, _, _, _, rfl, .ty _, .base (.tup h), kit_ty (by decide +kernel), q⟩⟩
  | dK n h => exact ⟨false, false, rfl, fun Q q => ⟨_, _, _, _, _, rfl, .ty _, .base (.dK h), kit_ty (by decide +kernel), q⟩, fun Q q => ⟨_, _, _, _, _, rfl, .ty _, .base (.dK h), kit_ty (by decide +kernel), q⟩⟩
end My
namespace My
open PySem PySem.Spec PyProof.Rows L2
/-! ### for i, x in enumerate(t), t a tuple -/
section
variable {prog : Program} {w : World} {A : Around} {E : Value → Shared → Prop} {s : Shared}
theorem tupNext {it t : Addr} {i : Nat} {its : Array Value} {x : Value} {Q : Value → Shared → Prop} (h1 : IsTupIter s.heap it t i) (h2 : IsTup s.heap t its) (hx : its[i]? = some x)
    (q : ∀ h', IsTupIter h' it t (i + 1) → Heap.SameBut it s.heap h' → Q x { s with heap := h' }) : wpAny (model prog w) A (Builtin.SmallTypes.nextOf (.ref it)) Q E s := by
  unfold Builtin.SmallTypes.nextOf
  exact wpAny_bind (special_tup_item h1 h2 hx fun h' a b => wpAny_pure (q h' a b))
theorem tupNo {it t : Addr} {i : Nat} {its : Array Value} {Q : Value → Shared → Prop} (hh : A.handled = none) (h1 : IsTupIter s.heap it t i) (h2 : IsTup s.heap t its) (hx : its[i]? = none)
    (q : ∀ h' e, Heap.ExtBut it s.heap h' → (∃ o, h'.get? e = some o ∧ o.cls = .type "StopIteration") → E (.ref e) { s with heap := h' }) : wpAny (model prog w) A (Builtin.SmallTypes.nextOf (.ref it)) Q E s := by
  unfold Builtin.SmallTypes.nextOf
  refine wpAny_bind (special_tup_end hh h1 h2 hx fun e h' sx eb => ?_)
  obtain ⟨a, o, vs, rfl, ho, hc, _⟩ := sx
  exact q h' a eb ⟨o, ho, hc⟩
theorem tupDraws {it t : Addr} {its : Array Value} (hh : A.handled = none) (ne : t ≠ it) : Draws prog w A it [it, t] its.size (fun i x => its[i]? = some x) (fun i h => IsTupIter h it t i ∧ IsTup h t its) where
  live := fun i h st => by
    obtain ⟨⟨o, ho, _⟩, _⟩ := st
    exact ⟨o, ho⟩
  frame := fun i h h' st k => by
    obtain ⟨⟨o, ho, r⟩, ⟨o2, ho2, r2⟩⟩ := st
    exact ⟨⟨o, k it (by simp) o ho, r⟩, ⟨o2, k t (by simp) o2 ho2, r2⟩⟩
  item := fun i s Q E hi st q => tupNext st.1 st.2 (x := its[i]) (by simp [hi]) fun h' a b => q _ h' s.toks (by simp [hi]) ⟨a, st.2.extBut b.extBut ne⟩ b
  done := fun s Q E st q => tupNo hh st.1 st.2 (by simp) q
theorem newEnumT (t : Addr) (its : Array Value) (n : Nat) (dct : Option Addr) (sl : Array (Option Value)) :
    Meets (Builtin.«enumerate.__new__» ⟨[.type "enumerate", .ref t], []⟩) (fun _ R s => s.heap.get? t = some { cls := .type "tuple", dict := dct, data := .seq its n, slots := sl } ∧
      R (.ok (.ret (.ref (s.heap.push { cls := .type "tuple_iterator", data := .fields #[.ref t, .int 0 0] }).objs.size)))
        { s with heap := (s.heap.push { cls := .type "tuple_iterator", data := .fields #[.ref t, .int 0 0] }).push { cls := .type "enumerate", data := .fields #[.none, .bool false, .ref s.heap.objs.size, rawInt 0, .none, .none] } }) :=
  Meets.of_wp fun prog w A R s h => by
    obtain ⟨hp, g, d, tk, os⟩ := s
    obtain ⟨ht, hR⟩ := h
    have hsub := sub_enumerate
    have hT : IsTup (Shared.heap ⟨hp, g, d, tk, os⟩) t its := ⟨_, ht, rfl, n, rfl⟩
    wp_walk using AutoSeq1.wpAny_loadPart' ht
    refine wpAny_stack_any (fun st => wpAny_pure ?_)
    split
    · rename_i c _ _ _ _ _
      cases (c == Value.type "enumerate") <;> (wp_walk using AutoSeq1.wpAny_loadPart' ht, iter_tuple hT; exact ⟨_, rfl, hR⟩)
    · wp_walk using AutoSeq1.wpAny_loadPart' ht, iter_tuple hT
      exact ⟨_, rfl, hR⟩
theorem callEnumT {t : Addr} {its : Array Value} {Q : Value → Shared → Prop} (hT : IsTup s.heap t its)
    (q : ∀ h', IsEnum h' (s.heap.objs.size + 1) s.heap.objs.size 0 .none → IsTupIter h' s.heap.objs.size t 0 → (∀ b o, s.heap.get? b = some o → h'.get? b = some o) → Q (.ref (s.heap.objs.size + 1)) { s with heap := h' }) :
    wpAny (model prog w) A (call (.type "enumerate") [.ref t]) Q E s := by
  obtain ⟨⟨c, dct, dt, sl⟩, ht, hc, n, hd⟩ := hT
  simp only at hc hd
  subst hc hd
  refine callType_new F.called_enumerate (by decide) (F.typeCall_enumerate_1 _) (F.newCall_enumerate_1 _) (fun obj => F.args_object_init_2 obj _) F.entry_enumerate_new (newEnumT t its n dct sl) ⟨ht, ?_⟩
  generalize hh1 : s.heap.push { cls := .type "tuple_iterator", data := .fields #[.ref t, .int 0 0] } = h1
  have z1 : h1.objs.size = s.heap.objs.size + 1 := by rw [← hh1, Heap.size_push]
  have k1 : ∀ b o, s.heap.get? b = some o → h1.get? b = some o := fun b o e => by rw [← hh1]; exact Heap.get?_push_of_some _ e
  have i1 : h1.get? s.heap.objs.size = some { cls := .type "tuple_iterator", data := .fields #[.ref t, .int 0 0] } := by rw [← hh1]; exact Heap.get?_push_size _ rfl
  show _ ∧ _
  rw [z1]
  have e1 := Heap.get?_push_size h1 (o := { cls := .type "enumerate", data := .fields #[.none, .bool false, .ref s.heap.objs.size, rawInt 0, .none, .none] }) rfl
  rw [z1] at e1
  exact ⟨⟨_, e1, rfl⟩, q _ e1 ⟨_, Heap.get?_push_of_some _ i1, rfl, rfl⟩ fun b o e => Heap.get?_push_of_some _ (k1 b o e)⟩
end
def IteT (K : PySem.W.Frag) (a : Addr) : It :=
  ⟨fun i H => ∃ (xs : List V) (x : V), SqT K H a xs ∧ xs[i]? = some x, fun i H v H' => ∃ T x, v = .ref T ∧ H T = none ∧ H' = upd H T (.tup [.int (i : Nat), x]) ∧ ∀ xs, SqT K H a xs → xs[i]? = some x, fun i H => ∃ xs : List V, SqT K H a xs ∧ xs.length = i⟩
theorem turnEnumT {P : Program} {w : World} {K : PySem.W.Frag} {elts : List Expr} {kk : Nat} {tpos : Pos} (a e it : Addr) :
    Turn P w K (.Tuple elts kk tpos) (IteT K a) [e, it] e (fun i h => (∃ old, IsEnum h e it ((i : Nat) : Int) old) ∧ IsTupIter h it a i ∧ e ≠ it) where
  mem := by simp
  obj := fun i h st b hb => by
    obtain ⟨⟨old, he⟩, ⟨o, ho, hc, hd⟩, _⟩ := st
    rcases (show b = e ∨ b = it by simpa using hb) with rfl | rfl
    · exact ⟨_, he, fun v q => nomatch q⟩
    · exact ⟨o, ho, fun v q => by rw [hd] at q; cases q⟩
  keep := fun i h h' st k => by
    obtain ⟨⟨old, he⟩, ⟨o, ho, r⟩, hne⟩ := st
    exact ⟨⟨old, k e (by simp) _ he⟩, ⟨o, k it (by simp) o ho, r⟩, hne⟩
  item := by
    intro X hP hw hK hc i pins s σ H E I hf st hg
    subst hP hw hK
    obtain ⟨⟨old, he⟩, hit, hne⟩ := st
    obtain ⟨xs, x, hq, hx⟩ := hg
    obtain ⟨its, rv, p, hz⟩ := I.tuple hq
    obtain ⟨u, hu, ru⟩ := rv.get hx
    have elt := Heap.lt_size he
    have ilt : it < s.heap.objs.size := by obtain ⟨_, q, _⟩ := hit; exact Heap.lt_size q
    have hh := I.ok.hd hc
    have hti : a ≠ it := fun z => by
      obtain ⟨o1, e1, c1, _⟩ := hit
      obtain ⟨o2, e2, c2, _⟩ := p
      rw [z, e1] at e2
      cases e2
      rw [c1] at c2
      exact absurd c2 (by decide)
    have hte : e ≠ a := fun z => by
      obtain ⟨o2, e2, c2, _⟩ := p
      rw [← z, he] at e2
      cases e2
      exact absurd (show (Value.type "enumerate" : Value) = .type "tuple" from c2) (by decide)
    have ii : i < its.toArray.size := by
      have hl := rv.length
      have : i < xs.length := by
        rcases Nat.lt_or_ge i xs.length with h | h
        · exact h
        · rw [List.getElem?_eq_none h] at hx
          cases hx
      simp
      omega
    refine wpAny_pyNext_enum_itemD (tupDraws (A := X.A.in1) hh hti) he ⟨hit, p⟩ ii hne (by simp [hne, hte]) fun u' h' tk hu' ho st' hT hsz hk => ?_
    obtain rfl : u = u' := by
      have e2 : its.toArray[i]? = some u := by simpa using hu
      rw [e2] at hu'
      exact Option.some.inj hu'
    refine ⟨_, rfl, wpAny_letOwnedTupleGo_enum (s := { s with heap := h', toks := tk + 1 }) ho fun h'' he' sb => ?_⟩
    have hT2 := (sb.2 _ (Nat.ne_of_gt elt)).trans hT
    have new : ObjOk X.prog X.w (upd H s.heap.objs.size (.tup [.int (i : Nat), x])) h'' s.heap.objs.size (.tup [.int (i : Nat), x]) := ⟨by show 2 ≤ sizeLine; decide, [.int i tk, u], .cons ⟨_, rfl⟩ (.cons ru .nil), ⟨_, hT2, rfl, _, rfl⟩⟩
    have I1 : Inv X pins σ (upd H s.heap.objs.size (.tup [.int (i : Nat), x])) { s with heap := h'', toks := tk + 1 } :=
      I.turnedNew (t' := tk + 1) (ch := [e, it]) (fun b ob hb q => by
        have b1 : b ≠ e := fun z => hb (by simp [z])
        have b2 : b ≠ it := fun z => hb (by simp [z])
        exact (sb.2 b b1).trans (hk b ob b1 b2 q)) hf (Nat.le_refl _) new
    refine ⟨.ref s.heap.objs.size, _, I1, rfl, ⟨_, x, rfl, I.hok.fresh (Nat.le_refl _), rfl, fun ys hy => by rw [I.tuple_inj hy hq]; exact hx⟩, ⟨⟨u, ?_⟩, ?_, hne⟩, fun b hb => ?_⟩
    · rw [show ((i + 1 : Nat) : Int) = (i : Int) + 1 by omega]
      exact he'
    · obtain ⟨o, ho', r⟩ := st'.1
      exact ⟨o, (sb.2 it (Ne.symm hne)).trans ho', r⟩
    · have hb' : b < s.heap.objs.size := by
        rcases (show b = e ∨ b = it by simpa using hb) with rfl | rfl
        · exact elt
        · exact ilt
      rw [upd_ne (Nat.ne_of_lt hb')]
      exact (hf b hb).1
  done := by
    intro X hP hw hK hc i pins s σ H E I hf st hg
    subst hP hw hK
    obtain ⟨⟨old, he⟩, hit, hne⟩ := st
    obtain ⟨xs, hq, hx⟩ := hg
    obtain ⟨its, rv, p, hz⟩ := I.tuple hq
    obtain ⟨f0, f1, f2, f3, f4, f5⟩ := hf it (by simp)
    have hl := rv.length
    have hh := I.ok.hd hc
    have hti : a ≠ it := fun z => by
      obtain ⟨o1, e1, c1, _⟩ := hit
      obtain ⟨o2, e2, c2, _⟩ := p
      rw [z, e1] at e2
      cases e2
      rw [c1] at c2
      exact absurd c2 (by decide)
    have en : i = its.toArray.size := by
      simp
      omega
    rw [en] at he hit
    exact wpAny_pyNext_enum_endD (tupDraws (A := X.A.in1) hh hti) he ⟨hit, p⟩ fun h' eb => ⟨rfl, I.turned (t' := s.toks) (fun b o hb q => eb b o hb q) f0 f1 f3 f4 f5⟩
  self := fun A i s Q E st h => by
    obtain ⟨⟨_, he⟩, _⟩ := st
    exact wpAny_pyIter_enum he h
/-- enumerate over a list or a tuple -/
def iEnumX (K : PySem.W.Frag) (ta : TA) : TI := fun σ H R => ta σ H fun vs H1 => ∃ a xs, vs = [.ref a] ∧ ((SqL K H1 a xs ∧ R (Ite K a) H1) ∨ (SqT K H1 a xs ∧ R (IteT K a) H1))
theorem pi_enumX {X : Cx} {e : Expr} {ta : TA} {p pos tpos : Pos} {elts : List Expr} {kk : Nat} (hg : Gl X "enumerate") (hm : X.mg "enumerate" = none) (ha : PA X [e] ta) (hs : starEach [e] X.env = [(false, eval e X.env)] := by rfl) :
    PI X (.Tuple elts kk tpos) (.Call (.Name "enumerate" p) [e] [] pos) (iEnumX X.K ta) := by
  refine ⟨fun pins s σ H R I h => ?_⟩
  refine Call_ (ld_blt I hg hm boot_enumerate (PyProof.Rows.callWith_type1 (thn (ha.run pos pins s σ H _ I h) fun us s1 q1 => ?_) hs rfl))
  obtain ⟨vs, H1, I1, r1, a, xs, ex, q⟩ := q1
  subst ex
  obtain ⟨u, rfl, ru⟩ := vals1 r1
  cases ru
  have go : ∀ (h' : Heap) (J : It) (tn : Nat → Heap → Prop), (∀ b o, s1.heap.get? b = some o → h'.get? b = some o) → IsEnum h' (s1.heap.objs.size + 1) s1.heap.objs.size 0 .none → Turn X.prog X.w X.K (.Tuple elts kk tpos) J [s1.heap.objs.size + 1, s1.heap.objs.size] (s1.heap.objs.size + 1) tn → tn 0 h' → R J H1 →
      wpAny (model X.prog X.w) X.A (pyIter (.ref (s1.heap.objs.size + 1))) (PIE X pins σ (.Tuple elts kk tpos) R) X.xe { s1 with heap := h' } := fun h' J tn hk he T t0 q => by
    refine wpAny_pyIter_enum he ?_
    refine ⟨s1.heap.objs.size + 1, [s1.heap.objs.size + 1, s1.heap.objs.size], tn, J, H1, rfl, I1.kept (t' := s1.toks) hk, T, t0, fun b hb => ?_, q⟩
    have hle : s1.heap.objs.size ≤ b := by
      rcases (show b = s1.heap.objs.size + 1 ∨ b = s1.heap.objs.size by simpa using hb) with rfl | rfl
      · exact Nat.le_succ _
      · exact Nat.le_refl _
    exact I1.fpOk hle (I1.hok.fresh hle)
  rcases q with ⟨hq, q⟩ | ⟨hq, q⟩
  · obtain ⟨its, rv, p', hz⟩ := I1.list hq
    exact call_enumerate_list p'.isList fun h' he hit hsz hk => go h' _ _ hk he (turn_enum a _ _) ⟨⟨.none, he⟩, hit, Nat.succ_ne_self _⟩ q
  · obtain ⟨its, rv, p', hz⟩ := I1.tuple hq
    exact callEnumT p' fun h' he hit hk => go h' _ _ hk he (turnEnumT a _ _) ⟨⟨.none, he⟩, hit, Nat.succ_ne_self _⟩ q
theorem rd_enumX {K : PySem.W.Frag} {ta : TA} {R : It → Hp → Prop} {σ : L2.St} {H : Hp} (h : ta σ H fun vs H1 => ∃ a xs, vs = [.ref a] ∧ ((SqL K H1 a xs ∧ R (Ite K a) H1) ∨ (SqT K H1 a xs ∧ R (IteT K a) H1))) : iEnumX K ta σ H R := h
theorem for_enumT {K : PySem.W.Frag} {a : Addr} {xs : List V} {g : TG} {tb : TS} {D : Ends} {σ : L2.St} {H : Hp} (Pv : Nat → L2.St → Hp → Prop) (h0 : Pv 0 σ H) (hl : ∀ i σ H, i ≤ xs.length → Pv i σ H → SqT K H a xs)
    (hs : ∀ i x T σ H, xs[i]? = some x → Pv i σ H → H T = none → g (.ref T) σ (upd H T (.tup [.int (i : Nat), x])) fun σ2 H2 => tb { D with nx := Pv (i + 1), ct := Pv (i + 1), bk := D.nx } σ2 H2) (hd : ∀ σ H, Pv xs.length σ H → D.nx σ H) :
    ∃ W : Nat → Nat → L2.St → Hp → Prop, (∃ m, W 0 m σ H) ∧ ∀ i m σ H, W i m σ H →
      ((IteT K a).stop i H ∧ D.nx σ H) ∨ ((IteT K a).go i H ∧ ∃ N : L2.St → Hp → Prop, (∀ σ' H', N σ' H' → ∃ m', m' < m ∧ W (i + 1) m' σ' H') ∧ ∀ x H', (IteT K a).yld i H x H' → g x σ H' fun σ2 H2 => tb { D with nx := N, ct := N, bk := D.nx } σ2 H2) := by
  refine ⟨fun i m σ H => m = xs.length - i ∧ i ≤ xs.length ∧ Pv i σ H, ⟨xs.length, by simp, Nat.zero_le _, h0⟩, ?_⟩
  rintro i m σ H ⟨rfl, hi, p⟩
  have q := hl i σ H hi p
  by_cases hlt : i < xs.length
  · refine .inr ⟨⟨xs, xs[i], q, by simp [hlt]⟩, Pv (i + 1), fun σ' H' p' => ⟨xs.length - (i + 1), by omega, rfl, hlt, p'⟩, fun x H' y => ?_⟩
    obtain ⟨T, x, rfl, nT, rfl, y⟩ := y
    exact hs i x T σ H (y xs q) p nT
  · have e : i = xs.length := by omega
    subst e
    exact .inl ⟨⟨xs, q, rfl⟩, hd σ H p⟩
end My
namespace My
open PySem PySem.Spec PyProof.Rows L2
/-! ### max of a tuple of two ints -/
def rMaxT (K : PySem.W.Frag) : List V → Hp → VK → Prop := fun vs H Q => ∃ (a : Addr) (i j : Int), vs = [V.ref a] ∧ SqT K H a [.int i, .int j] ∧ ∀ m, m = i ∨ m = j → Q (.int m) H
theorem cr_maxT {X : Cx} (hc : X.calm = true) (hu : X.A.units + 64 < cLine) : CallR X (.builtin "max") (rMaxT X.K) := by
  intro pins s σ H vs us Q I r h
  obtain ⟨a, i, j, rfl, hs, q⟩ := h
  obtain ⟨its, rv, hl, _⟩ := I.tuple hs
  rw [Vals.ref1 r]
  have hv : ∃ (u1 u2 : Value), its = [u1, u2] ∧ RelV (.int i) u1 ∧ RelV (.int j) u2 := by
    cases rv with
    | cons r1 r2 =>
      cases r2 with
      | cons r2 r3 =>
        cases r3
        exact ⟨_, _, rfl, r1, r2⟩
  clear rv
  obtain ⟨_, _, rfl, ⟨t1, rfl⟩, ⟨t2, rfl⟩⟩ := hv
  have e : PyData.depthAll [PyData.int i, .int j] ≤ 2 := by simp [PyData.depthAll, PyData.depth]
  have hm : PySem.W.maxD (.int i) [.int j] = .int i ∨ PySem.W.maxD (.int i) [.int j] = .int j := by
    unfold PySem.W.maxD
    simp only [List.foldl]
    split <;> simp
  have hr : ReadsAll s.heap [Value.int i t1, Value.int j t2] [PyData.int i, .int j] [] := .cons (as := []) (.int _ _) (.cons (as := []) (.int _ _) .nil)
  have ha : PySem.W.AlikeAll [PyData.int i, .int j] := by
    refine ⟨fun x hx y hy => ?_, fun x hx => ?_⟩
    · simp only [List.mem_cons, List.not_mem_nil, or_false] at hx hy
      rcases hx with rfl | rfl <;> rcases hy with rfl | rfl <;> rfl
    · simp only [List.mem_cons, List.not_mem_nil, or_false] at hx
      rcases hx with rfl | rfl <;> simp
  refine PySem.W.max_tuple_data (x := .int i) (xs := [.int j]) (as := []) (I.ok.hd hc) hl hr ha ?_ fun k v h' tk bs hk hr hk' => ?_
  · omega
  · rcases hm with e | e <;> (rw [e] at hr; cases hr)
    · exact ⟨.int i, H, I.kept hk', ⟨_, rfl⟩, q i (.inl rfl)⟩
    · exact ⟨.int j, H, I.kept hk', ⟨_, rfl⟩, q j (.inr rfl)⟩
end My
namespace My
open PySem PySem.Spec PyProof.Rows L2
variable {K : PySem.W.Frag}
/-! ### own error classes with one field -/
structure ExF (K : PySem.W.Frag) (mg : Str → Option Value) (x : Str) (C fI : Addr) (fl : Str) : Prop where
  g : mg x = some (.ref C)
  ox : OexC K C
  iC : PySem.W.findIn K (.ref C) "__init__" = some (some (.ref fI))
  tI : PySem.W.typeIn K (.ref fI) = some (.type "function")
  no : PySem.W.findIn K (.ref C) fl = some none
  xf : XfC K C
  ic : PySem.W.isClsIn K C = true
  sf : PySem.W.subIn K (.ref C) (.ref C) = some true
theorem ExF.te {K : PySem.W.Frag} {mg : Str → Option Value} {x : Str} {C fI : Addr} {fl : Str} (e : ExF K mg x C fI fl) : PySem.W.exmOne K (.ref C) (.ref C) = some true := exm_sub e.ox.exC e.ic e.ox.tyC e.sf
/-- what such an __init__ does -/
def sp_xinit (C : Addr) (fl : Str) : Sp := fun vs H Q _ => ∃ p v, vs = [.ref p, v] ∧ H p = some (exo p C none) ∧ ∀ dx, H dx = none → dx ≠ p → Q .non (upd (upd H dx (exd dx [(fl, v)])) p (exo p C (some dx)))
theorem rd_ost {K : PySem.W.Frag} {f : Str} {to te : TE} {D : Ends} {σ : L2.St} {H : Hp} (h : te σ H fun y H1 => to σ H1 fun x H2 => ∃ a C : Addr, x = .ref a ∧ OexC K C ∧ PySem.W.findIn K (.ref C) f = some none ∧
    ((H2 a = some (exo a C none) ∧ ∀ dx, H2 dx = none → dx ≠ a → D.nx σ (upd (upd H2 dx (exd dx [(f, y)])) a (exo a C (some dx)))) ∨
      ∃ (dx : Addr) (fs : List (Str × V)), H2 a = some (exo a C (some dx)) ∧ H2 dx = some (exd dx fs) ∧ fs.length ≤ 900 ∧ D.nx σ (upd H2 dx (exd dx ((f, y) :: fs))))) : tOst K f to te D σ H := h
theorem del_upd_back {H1 : Hp} {a d : Addr} {o1 o2 o3 : HO} {fs : List (Str × V)} (ha : H1 a = none) (hd : H1 d = none) (hn : d ≠ a) :
    upd (del (upd (upd (upd H1 a o1) d o2) a o3) a) d (.xd fs) = upd H1 d (.xd fs) := by
  funext b
  by_cases hb : b = d
  · rw [hb, upd_same, upd_same]
  · rw [upd_ne hb, upd_ne hb]
    by_cases hb2 : b = a
    · rw [hb2, del_same, ha]
    · rw [del_ne hb2, upd_ne hb2, upd_ne hb, upd_ne hb2]
theorem lk1 {f : Str} {v : V} : ([(f, v)] : List (Str × V)).lookup f = some v := by
  have e : (f == f) = true := beq_self_eq_true f
  simp only [List.lookup, e]
/-- raise X(e) -/
def tRaise1 (C : Addr) (fl : Str) (W : WX) (ta : TA) : TS := fun _ σ H => tMkO C (sp_xinit C fl) [] ta σ H fun cls d H' => W cls d σ H'
theorem rd_raise1 {C : Addr} {fl : Str} {W : WX} {ta : TA} {D : Ends} {σ : L2.St} {H : Hp} (h : ta σ H fun vs H1 => vs.length ≤ 1000 ∧ ∀ a, H1 a = none → sp_xinit C fl (.ref a :: (vs ++ [])) (upd H1 a (exo a C none))
    (fun v H2 => v = .non ∧ ∃ (d : Addr) (fs : List (Str × V)), H2 a = some (exo a C (some d)) ∧ H2 d = some (exd d fs) ∧ H1 d = none ∧ W (.ref C) (some d) σ (upd (del H2 a) d (.xd fs))) (fun _ _ _ => False)) : tRaise1 C fl W ta D σ H := h
theorem rd_x1 {C : Addr} {fl : Str} {v : V} {H1 : Hp} {Q : Value → Option Addr → Hp → Prop} (h : ∀ d, H1 d = none → Q (.ref C) (some d) (upd H1 d (.xd [(fl, v)]))) :
    [v].length ≤ 1000 ∧ ∀ a, H1 a = none → sp_xinit C fl (.ref a :: ([v] ++ [])) (upd H1 a (exo a C none))
      (fun v H2 => v = .non ∧ ∃ (d : Addr) (fs : List (Str × V)), H2 a = some (exo a C (some d)) ∧ H2 d = some (exd d fs) ∧ H1 d = none ∧ Q (.ref C) (some d) (upd (del H2 a) d (.xd fs))) (fun _ _ _ => False) := by
  refine ⟨by show 1 ≤ 1000; decide, fun a na => ⟨a, v, rfl, upd_same, fun dx nd ne => ⟨rfl, dx, [(fl, v)], upd_same, ?_, ?_, ?_⟩⟩⟩
  · rw [upd_ne ne, upd_same]
  · rw [upd_ne ne] at nd
    exact nd
  · rw [upd_ne ne] at nd
    rw [del_upd_back na nd ne]
    exact h dx nd
theorem ps_raise1 {X : Cx} {W : WX} {C fI : Addr} {x : Str} {fl : Str} {k : Nat} {fd : FuncData} {ta : TA} {e : Expr} {es : List Expr} {p pos pos2 : Pos} (hc : X.calm = true) (E : ExF X.K X.mg x C fI fl)
    (F1 : FnOk X.prog X.w X.K X.mg X.base CX0 k fI fd ["self", fl] (sp_xinit C fl)) (hr : Room (k + 1) X.A) (tk : Takes X W) (hb : Binds X.K fd ["self", fl] []) (ha : PA X (e :: es) ta) (hg : Gl X x := by rfl)
    (hdb : (x == ("__debug__" : Str)) = false := by decide) (he : starEach (e :: es) X.env = (false, eval e X.env) :: starEach es X.env := by rfl) (hpl : (backTo pos (starEach es X.env)).any (·.1) = false := by rfl) :
    PS X (.Raise (some (.Call (.Name x p) (e :: es) [] pos)) none pos2) (tRaise1 C fl W ta) :=
  ps_raise (pos := pos2) hc tk (pmk_oex (pos := pos) E.ox E.iC E.tI F1 hr hb .nil pass0 hg E.g ha hdb he hpl)
/-- e.f of the caught error -/
theorem rd_xf {a : Addr} {cls : Value} {d : Option Addr} {C : Addr} {f : Str} {te : TE} {σ : L2.St} {H : Hp} {Q : VK} (h : te σ H fun x H1 => x = .ref a ∧ cls = .ref C ∧ ∃ (dd : Addr) (fs : List (Str × V)) (v : V), d = some dd ∧ H1 dd = some (.xd fs) ∧ fs.lookup f = some v ∧ Q v H1) : tXf a cls d C f te σ H Q := h
theorem rd_xf1 {a : Addr} {C dd : Addr} {f : Str} {v : V} {H : Hp} {Q : VK} (h : H dd = some (.xd [(f, v)])) (q : Q v H) : (V.ref a) = .ref a ∧ (Value.ref C) = .ref C ∧ ∃ (dd2 : Addr) (fs : List (Str × V)) (v : V), some dd = some dd2 ∧ H dd2 = some (.xd fs) ∧ fs.lookup f = some v ∧ Q v H := ⟨rfl, rfl, dd, _, v, rfl, h, lk1, q⟩
/-! ### own classes with fields -/
structure InsT (K : PySem.W.Frag) (C : Addr) : Prop where
  cl : Cls K C
  ha : PySem.W.findIn K (.ref C) "__class__" = some (some (.builtin "object.__class__"))
  hn : PySem.W.specialIn K (.builtin "object.__class__") "__get__" = some (some (.builtin "getset_descriptor.__get__"))
  ht : PySem.W.takesIn K (.builtin "object.__class__") = some true
  mo : PySem.W.mroIn K C (.type "object") = some true
  ki : PySem.W.kitOne K (.ref C) (.type "int") = some false
  kb : PySem.W.kitOne K (.ref C) (.type "bool") = some false
  kt : PySem.W.kitOne K (.ref C) (.type "tuple") = some false
  kl : PySem.W.kitOne K (.ref C) (.type "list") = some false
structure WebC (K : PySem.W.Frag) (mg : Str → Option Value) (x : Str) (C fI : Addr) : Prop where
  g : mg x = some (.ref C)
  mks : Mk K C fI
  it : InsT K C
theorem rd_fldS {K : PySem.W.Frag} {ta tv : TE} {f : Str} {D : Ends} {σ : L2.St} {H : Hp} (h : tv σ H fun y H1 => ta σ H1 fun x H2 => ∃ a C dx fs, x = .ref a ∧ H2 a = some (.ins C dx fs) ∧ Cls K C ∧ NoAttr K C f ∧ fs.length < 1000 ∧ D.nx σ (upd H2 a (.ins C dx (putF f y fs)))) : sFld K ta tv f D σ H := h
theorem rd_make {C : Addr} {sp : Sp} {dvs : List V} {E : XK} {t : TA} {σ : L2.St} {H : Hp} {Q : VK} (h : t σ H fun vs H1 => ∀ x dx, H1 x = none → H1 dx = none → dx ≠ x → sp (.ref x :: (vs ++ dvs)) (upd (upd H1 dx (.own x)) x (.ins C dx [])) (fun v H2 => v = .non ∧ Q (.ref x) H2) E) : tMake C sp dvs E t σ H Q := h
theorem rd_enum {K : PySem.W.Frag} {ta : TA} {R : It → Hp → Prop} {σ : L2.St} {H : Hp} (h : ta σ H fun vs H1 => ∃ a xs, vs = [.ref a] ∧ SqL K H1 a xs ∧ R (Ite K a) H1) : iEnum K ta σ H R := h
/-! ### things of all kinds; D: the deck, which alone is changed -/
inductive Od (K : PySem.W.Frag) (D : Addr) (H : Hp) : V → Prop where
  | non : Od K D H .non
  | bl (b : Bool) : Od K D H (.bl b)
  | str (s : Str) : Od K D H (.str s)
  | lst {p : Addr} {xs : List V} (n : p ≠ D) (h : H p = some (.lst xs)) : Od K D H (.ref p)
  | tup {p : Addr} {xs : List V} (n : p ≠ D) (h : H p = some (.tup xs)) : Od K D H (.ref p)
  | dK {p : Addr} {kvs : List (Key × V)} (n : p ≠ D) (h : H p = some (.dK kvs)) : Od K D H (.ref p)
  | ins {p C dx : Addr} {fs : List (Str × V)} (n : p ≠ D) (h : H p = some (.ins C dx fs)) (c : InsT K C) : Od K D H (.ref p)
theorem Od.fw {K : PySem.W.Frag} {D : Addr} {H H' : Hp} {v : V} (o : Od K D H v) (f : Fw D H H') : Od K D H' v := by
  cases o with
  | non => exact .non
  | bl b => exact .bl b
  | str s => exact .str s
  | lst n h => exact .lst n (f _ _ n h)
  | tup n h => exact .tup n (f _ _ n h)
  | dK n h => exact .dK n (f _ _ n h)
  | ins n h c => exact .ins n (f _ _ n h) c
/-- what isinstance says of it -/
theorem Od.isi {K : PySem.W.Frag} {D : Addr} {H : Hp} {v : V} (o : Od K D H v) : ∃ b1 b2 b3 : Bool, (b1 && !b2) = false ∧ (∀ Q : VK, Q (.bl b1) H → rIsi K [v, .ty "int"] H Q) ∧ (∀ Q : VK, Q (.bl b2) H → rIsi K [v, .ty "bool"] H Q) ∧ (∀ Q : VK, Q (.bl b3) H → rIsi K [v, .ty "tuple"] H Q) ∧ (b3 = true → ∃ p xs, v = .ref p ∧ p ≠ D ∧ H p = some (.tup xs)) := by
  cases o with
  | non => exact ⟨false, false, false, rfl, fun Q q => ⟨_, _, _, _, _, rfl, .ty _, .base .non, kit_ty (by decide +kernel), q⟩, fun Q q => ⟨_, _, _, _, _, rfl, .ty _, .base .non, kit_ty (by decide +kernel), q⟩, fun Q q => ⟨_, _, _, _, _, rfl, .ty _, .base .non, kit_ty (by decide +kernel), q⟩, fun z => Bool.noConfusion z⟩
  | bl b => exact ⟨true, true, false, rfl, fun Q q => ⟨_, _, _, _, _, rfl, .ty _, .base (.bl _), kit_ty (by decide +kernel), q⟩, fun Q q => ⟨_, _, _, _, _, rfl, .ty _, .base (.bl _), kit_ty (by decide +kernel), q⟩, fun Q q => ⟨_, _, _, _, _, rfl, .ty _, .base (.bl _), kit_ty (by decide +kernel), q⟩, fun z => Bool.noConfusion z⟩
  | str s => exact ⟨false, false, false, rfl, fun Q q => ⟨_, _, _, _, _, rfl, .ty _, .base (.str _), kit_ty (by decide +kernel), q⟩, fun Q q => ⟨_, _, _, _, _, rfl, .ty _, .base (.str _), kit_ty (by decide +kernel), q⟩, fun Q q => ⟨_, _, _, _, _, rfl, .ty _, .base (.str _), kit_ty (by decide +kernel), q⟩, fun z => Bool.noConfusion z⟩
  | lst n h => exact ⟨false, false, false, rfl, fun Q q => ⟨_, _, _, _, _, rfl, .ty _, .base (.lst h), kit_ty (by decide +kernel), q⟩, fun Q q => ⟨_, _, _, _, _, rfl, .ty _, .base (.lst h), kit_ty (by decide +kernel), q⟩, fun Q q => ⟨_, _, _, _, _, rfl, .ty _, .base (.lst h), kit_ty (by decide +kernel), q⟩, fun z => Bool.noConfusion z⟩
  | tup n h => exact ⟨false, false, true, rfl, fun Q q => ⟨_, _, _, _, _, rfl, .ty _, .base (.tup h), kit_ty (by decide +kernel), q⟩, fun Q q => ⟨_, _, _, _, _, rfl, .ty _, .base (.tup h), kit_ty (by decide +kernel), q⟩, fun Q q => ⟨_, _, _, _, _, rfl, .ty _, .base (.tup h), kit_ty (by decide +kernel), q⟩, fun _ => ⟨_, _, rfl, n, h⟩⟩
  | dK n h => exact ⟨false, false, false, rfl, fun Q q => ⟨_, _, _, _, _, rfl, .ty _, .base (.dK h), kit_ty (by decide +kernel), q⟩, fun Q q => ⟨_, _, _, _, _, rfl, .ty _, .base (.dK h), kit_ty (by decide +kernel), q⟩, fun Q q => ⟨_, _, _, _, _, rfl, .ty _, .base (.dK h), kit_ty (by decide +kernel), q⟩, fun z => Bool.noConfusion z⟩
  | ins n h c => exact ⟨false, false, false, rfl, fun Q q => ⟨_, _, _, _, _, rfl, .ty _, .base (.ins h c.cl c.ha c.hn c.ht c.mo), c.ki, q⟩, fun Q q => ⟨_, _, _, _, _, rfl, .ty _, .base (.ins h c.cl c.ha c.hn c.ht c.mo), c.kb, q⟩, fun Q q => ⟨_, _, _, _, _, rfl, .ty _, .base (.ins h c.cl c.ha c.hn c.ht c.mo), c.kt, q⟩, fun z => Bool.noConfusion z⟩
/-- what is no fraction -/
inductive NoF (K : PySem.W.Frag) (D : Addr) (H : Hp) : V → Prop where
  | int (i : Int) : NoF K D H (.int i)
  | not {v : V} (o : Od K D H v) (h : ∀ p xs, v = .ref p → H p = some (.tup xs) → xs.length ≠ 2) : NoF K D H v
  | fst {p : Addr} {x y : V} (n : p ≠ D) (h : H p = some (.tup [x, y])) (o : Od K D H x) : NoF K D H (.ref p)
  | snd {p : Addr} {i : Int} {y : V} (n : p ≠ D) (h : H p = some (.tup [.int i, y])) (o : Od K D H y) : NoF K D H (.ref p)
  | low {p : Addr} {i j : Int} (n : p ≠ D) (h : H p = some (.tup [.int i, .int j])) (z : ¬ (0 < j ∧ Nat.gcd i.natAbs j.natAbs = 1)) (b : j.natAbs < 2 ^ 4000) : NoF K D H (.ref p)
theorem NoF.fw {K : PySem.W.Frag} {D : Addr} {H H' : Hp} {v : V} (o : NoF K D H v) (f : Fw D H H') : NoF K D H' v := by
  cases o with
  | int i => exact .int i
  | not o h =>
    refine .not (o.fw f) fun p xs e h2 => ?_
    subst e
    cases o with
    | lst n h3 =>
      rw [f _ _ n h3] at h2
      cases h2
    | tup n h3 =>
      rw [f _ _ n h3] at h2
      cases h2
      exact h _ _ rfl h3
    | dK n h3 =>
      rw [f _ _ n h3] at h2
      cases h2
    | ins n h3 c =>
      rw [f _ _ n h3] at h2
      cases h2
  | fst n h o => exact .fst n (f _ _ n h) (o.fw f)
  | snd n h o => exact .snd n (f _ _ n h) (o.fw f)
  | low n h z b => exact .low n (f _ _ n h) z b
/-- a thing with the word whether it is a fraction -/
def JF (K : PySem.W.Frag) (D : Addr) (H : Hp) (v : V) (b : Option Rat) : Prop := (∃ r, IsF K H v r ∧ Bd 40 r ∧ b = some r) ∨ (NoF K D H v ∧ b = none)
theorem isi_int_tup {K : PySem.W.Frag} {H : Hp} {Q : VK} {i : Int} (q : Q (.bl false) H) : rIsi K [.int i, .ty "tuple"] H Q := ⟨_, _, _, _, _, rfl, .ty _, .base (.int _), kit_ty (by decide +kernel), q⟩
end My
namespace My
open PySem PySem.Spec PyProof.Rows L2
variable {K : PySem.W.Frag}
theorem for_enum {K : PySem.W.Frag} {a : Addr} {xs : List V} {g : TG} {tb : TS} {D : Ends} {σ : L2.St} {H : Hp} (Pv : Nat → L2.St → Hp → Prop) (h0 : Pv 0 σ H) (hl : ∀ i σ H, i ≤ xs.length → Pv i σ H → SqL K H a xs)
    (hs : ∀ i x T σ H, xs[i]? = some x → Pv i σ H → H T = none → g (.ref T) σ (upd H T (.tup [.int (i : Nat), x])) fun σ2 H2 => tb { D with nx := Pv (i + 1), ct := Pv (i + 1), bk := D.nx } σ2 H2) (hd : ∀ σ H, Pv xs.length σ H → D.nx σ H) :
    ∃ W : Nat → Nat → L2.St → Hp → Prop, (∃ m, W 0 m σ H) ∧ ∀ i m σ H, W i m σ H →
      ((Ite K a).stop i H ∧ D.nx σ H) ∨ ((Ite K a).go i H ∧ ∃ N : L2.St → Hp → Prop, (∀ σ' H', N σ' H' → ∃ m', m' < m ∧ W (i + 1) m' σ' H') ∧ ∀ x H', (Ite K a).yld i H x H' → g x σ H' fun σ2 H2 => tb { D with nx := N, ct := N, bk := D.nx } σ2 H2) := by
  refine ⟨fun i m σ H => m = xs.length - i ∧ i ≤ xs.length ∧ Pv i σ H, ⟨xs.length, by simp, Nat.zero_le _, h0⟩, ?_⟩
  rintro i m σ H ⟨rfl, hi, p⟩
  have q := hl i σ H hi p
  by_cases hlt : i < xs.length
  · refine .inr ⟨⟨xs, xs[i], q, by simp [hlt]⟩, Pv (i + 1), fun σ' H' p' => ⟨xs.length - (i + 1), by omega, rfl, hlt, p'⟩, fun x H' y => ?_⟩
    obtain ⟨T, x, rfl, nT, rfl, y⟩ := y
    exact hs i x T σ H (y xs q) p nT
  · have e : i = xs.length := by omega
    subst e
    exact .inl ⟨⟨xs, q, Nat.le_refl _⟩, hd σ H p⟩
/-! ### right stalls and webs of them -/
structure Stl where
  u : Nat
  v : Nat
  a : Rat
  b : Rat
  r : Rat
structure OkSt (n : Nat) (s : Stl) : Prop where
  u : s.u < n
  v : s.v < n
  ne : s.u ≠ s.v
  a : 0 < s.a
  b : 0 < s.b
  r : 0 < s.r
  e : s.a * s.b = s.r * s.r
structure BdSt (k : Nat) (s : Stl) : Prop where
  a : Bd k s.a
  b : Bd k s.b
  r : Bd k s.r
def IsSt (K : PySem.W.Frag) (H : Hp) (x : V) (s : Stl) : Prop := ∃ p va vb vr, x = .ref p ∧ H p = some (.tup [.int (s.u : Nat), .int (s.v : Nat), va, vb, vr]) ∧ IsF K H va s.a ∧ IsF K H vb s.b ∧ IsF K H vr s.r
theorem IsSt.same {H H' : Hp} {x : V} {s : Stl} (f : Same H H') (h : IsSt K H x s) : IsSt K H' x s := by
  obtain ⟨p, va, vb, vr, e, h, a, b, c⟩ := h
  exact ⟨p, va, vb, vr, e, f _ _ h, a.same f, b.same f, c.same f⟩
def Sts (K : PySem.W.Frag) (H : Hp) (xs : List V) (ss : List Stl) : Prop := Paired (IsSt K H) xs ss
theorem Sts.same {H H' : Hp} {xs : List V} {ss : List Stl} (f : Same H H') (h : Sts K H xs ss) : Sts K H' xs ss := by
  unfold Sts at *
  induction h with
  | nil => exact .nil
  | cons h t ih => exact .cons (h.same f) ih
theorem Sts.len {H : Hp} {xs : List V} {ss : List Stl} (h : Sts K H xs ss) : xs.length = ss.length := Paired.length h
theorem Sts.at {H : Hp} {xs : List V} {ss : List Stl} (h : Sts K H xs ss) : ∀ {i : Nat} {x : V}, xs[i]? = some x → ∃ s, ss[i]? = some s ∧ IsSt K H x s := by
  unfold Sts at h
  induction h with
  | nil =>
    intro i x e
    simp at e
  | cons h t ih =>
    intro i x e
    match i with
    | 0 =>
      simp at e
      subst e
      exact ⟨_, rfl, h⟩
    | i + 1 => exact ih (by simpa using e)
theorem IsF.ts {H H' : Hp} {x : V} {r : Rat} (f : Tps H H') (h : IsF K H x r) : IsF K H' x r := by
  obtain ⟨p, e, h⟩ := h
  exact ⟨p, e, h.ts f⟩
theorem IsSt.ts {H H' : Hp} {x : V} {s : Stl} (f : Tps H H') (h : IsSt K H x s) : IsSt K H' x s := by
  obtain ⟨p, va, vb, vr, e, h, a, b, c⟩ := h
  exact ⟨p, va, vb, vr, e, f _ _ h, a.ts f, b.ts f, c.ts f⟩
theorem Sts.ts {H H' : Hp} {xs : List V} {ss : List Stl} (f : Tps H H') (h : Sts K H xs ss) : Sts K H' xs ss := by
  unfold Sts at *
  induction h with
  | nil => exact .nil
  | cons h t ih => exact .cons (h.ts f) ih
def wF (n : Nat) (t : Addr) : List (Str × V) := [("wares", .int (n : Nat)), ("stalls", .ref t)]
def IsWeb (K : PySem.W.Frag) (C : Addr) (H : Hp) (x : V) (n : Nat) (ss : List Stl) : Prop := ∃ p dx t xs, x = .ref p ∧ H p = some (.ins C dx (wF n t)) ∧ H t = some (.tup xs) ∧ Sts K H xs ss
theorem IsWeb.same {C : Addr} {H H' : Hp} {x : V} {n : Nat} {ss : List Stl} (f : Same H H') (h : IsWeb K C H x n ss) : IsWeb K C H' x n ss := by
  obtain ⟨p, dx, t, xs, e, h1, h2, h3⟩ := h
  exact ⟨p, dx, t, xs, e, f _ _ h1, f _ _ h2, h3.same f⟩
theorem lk_here {k : Str} {v : V} {r : List (Str × V)} : List.lookup k ((k, v) :: r) = some v := by
  have e : (k == k) = true := beq_self_eq_true k
  simp only [List.lookup, e]
theorem lk_past {k g : Str} {v : V} {r : List (Str × V)} (h : (k == g) = false) : List.lookup k ((g, v) :: r) = List.lookup k r := by
  simp only [List.lookup, h]
theorem wF_wares (n : Nat) (t : Addr) : (wF n t).lookup ("wares" : Str) = some (.int (n : Nat)) := lk_here
theorem wF_stalls (n : Nat) (t : Addr) : (wF n t).lookup ("stalls" : Str) = some (.ref t) := (lk_past (by decide +kernel)).trans lk_here
theorem wF_new (n : Nat) (t : Addr) : putF "stalls" (.ref t) (putF "wares" (.int (n : Nat)) []) = wF n t := by
  have h : ¬ (("wares" : Str) = "stalls") := by decide +kernel
  show putF "stalls" (.ref t) [("wares", .int (n : Nat))] = _
  simp [putF, h, wF]
theorem rd_fld {K : PySem.W.Frag} {ta : TE} {f : Str} {σ : L2.St} {H : Hp} {Q : VK} (h : ta σ H fun x H1 => ∃ a C dx fs v, x = .ref a ∧ H1 a = some (.ins C dx fs) ∧ Cls K C ∧ NoAttr K C f ∧ fs.lookup f = some v ∧ Q v H1) : tFld K ta f σ H Q := h
/-- what a stall is behind a move -/
def Stl.first (s : Stl) (x : Rat) : Stl := ⟨s.u, s.v, x, s.r * s.r / x, s.r⟩
def Stl.secnd (s : Stl) (y : Rat) : Stl := ⟨s.u, s.v, s.r * s.r / y, y, s.r⟩
def Stl.behind (s : Stl) (w : Nat) (x : Rat) : Stl := if w = s.u then s.first (s.a + x) else s.secnd (s.b + x)
def Stl.out (s t : Stl) (w : Nat) : Rat := if w = s.u then s.b - t.b else s.a - t.a
/-- a move of the web -/
def IsMv (K : PySem.W.Frag) (H : Hp) (v : V) (i w : Nat) (x : Rat) : Prop := ∃ p vx, v = .ref p ∧ H p = some (.tup [.int (i : Nat), .int (w : Nat), vx]) ∧ IsF K H vx x
theorem IsMv.same {H H' : Hp} {v : V} {i w : Nat} {x : Rat} (f : Same H H') (h : IsMv K H v i w x) : IsMv K H' v i w x := by
  obtain ⟨p, vx, e, h, a⟩ := h
  exact ⟨p, vx, e, f _ _ h, a.same f⟩
theorem Sts.get {H : Hp} {xs : List V} {ss : List Stl} (h : Sts K H xs ss) : ∀ {i : Nat} {s : Stl}, ss[i]? = some s → ∃ x, xs[i]? = some x ∧ IsSt K H x s := by
  unfold Sts at h
  induction h with
  | nil =>
    intro i x e
    simp at e
  | cons h t ih =>
    intro i x e
    match i with
    | 0 =>
      simp at e
      subst e
      exact ⟨_, rfl, h⟩
    | i + 1 => exact ih (by simpa using e)
end My
namespace My
open PySem PySem.Spec PyProof.Rows L2
def topS (i : Nat) : Stmt := PySem.Challenge.pw_rootstalls_k09_whole_moves.main.body.getD i (.Pass ⟨0, 0, 0, 0⟩)
abbrev s_is_integer : Stmt := topS 7
abbrev N_is_integer : List Str := ["thing"]
theorem sc_is_integer : FnScope N_is_integer ["thing"] (defScope s_is_integer) := ⟨rfl, rfl, rfl, by decide +kernel, rfl, by decide +kernel, by decide +kernel⟩
abbrev s_is_row : Stmt := topS 8
abbrev N_is_row : List Str := ["thing"]
theorem sc_is_row : FnScope N_is_row ["thing"] (defScope s_is_row) := ⟨rfl, rfl, rfl, by decide +kernel, rfl, by decide +kernel, by decide +kernel⟩
abbrev s_is_fraction : Stmt := topS 9
abbrev N_is_fraction : List Str := ["thing", "top", "bottom"]
theorem sc_is_fraction : FnScope N_is_fraction ["thing"] (defScope s_is_fraction) := ⟨rfl, rfl, rfl, by decide +kernel, rfl, by decide +kernel, by decide +kernel⟩
abbrev s_is_some : Stmt := topS 10
abbrev N_is_some : List Str := ["thing"]
theorem sc_is_some : FnScope N_is_some ["thing"] (defScope s_is_some) := ⟨rfl, rfl, rfl, by decide +kernel, rfl, by decide +kernel, by decide +kernel⟩
abbrev s_added : Stmt := topS 11
abbrev N_added : List Str := ["one", "other", "common", "part", "top", "shared"]
theorem sc_added : FnScope N_added ["one", "other"] (defScope s_added) := ⟨rfl, rfl, rfl, by decide +kernel, rfl, by decide +kernel, by decide +kernel⟩
abbrev s_negated : Stmt := topS 12
abbrev N_negated : List Str := ["one"]
theorem sc_negated : FnScope N_negated ["one"] (defScope s_negated) := ⟨rfl, rfl, rfl, by decide +kernel, rfl, by decide +kernel, by decide +kernel⟩
abbrev s_lessened : Stmt := topS 13
abbrev N_lessened : List Str := ["one", "other"]
theorem sc_lessened : FnScope N_lessened ["one", "other"] (defScope s_lessened) := ⟨rfl, rfl, rfl, by decide +kernel, rfl, by decide +kernel, by decide +kernel⟩
abbrev s_multiplied : Stmt := topS 14
abbrev N_multiplied : List Str := ["one", "other", "left", "right"]
theorem sc_multiplied : FnScope N_multiplied ["one", "other"] (defScope s_multiplied) := ⟨rfl, rfl, rfl, by decide +kernel, rfl, by decide +kernel, by decide +kernel⟩
abbrev s_divided : Stmt := topS 15
abbrev N_divided : List Str := ["one", "other"]
theorem sc_divided : FnScope N_divided ["one", "other"] (defScope s_divided) := ⟨rfl, rfl, rfl, by decide +kernel, rfl, by decide +kernel, by decide +kernel⟩
abbrev s_squared : Stmt := topS 16
abbrev N_squared : List Str := ["one"]
theorem sc_squared : FnScope N_squared ["one"] (defScope s_squared) := ⟨rfl, rfl, rfl, by decide +kernel, rfl, by decide +kernel, by decide +kernel⟩
abbrev s_is_stall : Stmt := topS 20
abbrev N_is_stall : List Str := ["wares", "thing", "one", "other", "kept", "other_kept", "root", "ware"]
theorem sc_is_stall : FnScope N_is_stall ["wares", "thing"] (defScope s_is_stall) := ⟨rfl, rfl, rfl, by decide +kernel, rfl, by decide +kernel, by decide +kernel⟩
abbrev s_is_index : Stmt := topS 23
abbrev N_is_index : List Str := ["web", "thing"]
theorem sc_is_index : FnScope N_is_index ["web", "thing"] (defScope s_is_index) := ⟨rfl, rfl, rfl, by decide +kernel, rfl, by decide +kernel, by decide +kernel⟩
abbrev s_is_move : Stmt := topS 24
abbrev N_is_move : List Str := ["web", "thing", "index", "ware", "amount"]
theorem sc_is_move : FnScope N_is_move ["web", "thing"] (defScope s_is_move) := ⟨rfl, rfl, rfl, by decide +kernel, rfl, by decide +kernel, by decide +kernel⟩
abbrev s_stall_led : Stmt := topS 25
abbrev N_stall_led : List Str := ["stall", "amount"]
theorem sc_stall_led : FnScope N_stall_led ["stall", "amount"] (defScope s_stall_led) := ⟨rfl, rfl, rfl, by decide +kernel, rfl, by decide +kernel, by decide +kernel⟩
abbrev s_stall_behind : Stmt := topS 26
abbrev N_stall_behind : List Str := ["stall", "ware", "amount", "one", "other", "kept", "other_kept", "root", "other_more"]
theorem sc_stall_behind : FnScope N_stall_behind ["stall", "ware", "amount"] (defScope s_stall_behind) := ⟨rfl, rfl, rfl, by decide +kernel, rfl, by decide +kernel, by decide +kernel⟩
abbrev s_taken_out : Stmt := topS 27
abbrev N_taken_out : List Str := ["before", "behind", "ware"]
theorem sc_taken_out : FnScope N_taken_out ["before", "behind", "ware"] (defScope s_taken_out) := ⟨rfl, rfl, rfl, by decide +kernel, rfl, by decide +kernel, by decide +kernel⟩
abbrev s_out_of : Stmt := topS 28
abbrev N_out_of : List Str := ["web", "move", "index", "ware", "amount", "stall"]
theorem sc_out_of : FnScope N_out_of ["web", "move"] (defScope s_out_of) := ⟨rfl, rfl, rfl, by decide +kernel, rfl, by decide +kernel, by decide +kernel⟩
abbrev s_stalls_behind : Stmt := topS 29
abbrev N_stalls_behind : List Str := ["stalls", "move", "index", "ware", "amount"]
theorem sc_stalls_behind : FnScope N_stalls_behind ["stalls", "move"] (defScope s_stalls_behind) := ⟨rfl, rfl, rfl, by decide +kernel, rfl, by decide +kernel, by decide +kernel⟩
abbrev s_moved : Stmt := topS 30
abbrev N_moved : List Str := ["web", "move"]
theorem sc_moved : FnScope N_moved ["web", "move"] (defScope s_moved) := ⟨rfl, rfl, rfl, by decide +kernel, rfl, by decide +kernel, by decide +kernel⟩
abbrev s_l_deck : Stmt := topS 32
abbrev N_l_deck : List Str := ["_law_script", "_law_cell"]
theorem sc_l_deck : FnScope N_l_deck ["_law_script"] (defScope s_l_deck) := ⟨rfl, rfl, rfl, by decide +kernel, rfl, by decide +kernel, by decide +kernel⟩
abbrev s_l_pick : Stmt := topS 33
abbrev N_l_pick : List Str := ["_law_deck_here", "_law_many", "_law_found", "_law_cells", "_law_cell", "_law_number"]
theorem sc_l_pick : FnScope N_l_pick ["_law_deck_here", "_law_many"] (defScope s_l_pick) := ⟨rfl, rfl, rfl, by decide +kernel, rfl, by decide +kernel, by decide +kernel⟩
abbrev s_l_divisor : Stmt := topS 34
abbrev N_l_divisor : List Str := ["_law_one", "_law_other", "_law_turn", "_law_rest"]
theorem sc_l_divisor : FnScope N_l_divisor ["_law_one", "_law_other"] (defScope s_l_divisor) := ⟨rfl, rfl, rfl, by decide +kernel, rfl, by decide +kernel, by decide +kernel⟩
abbrev s_l_made : Stmt := topS 35
abbrev N_l_made : List Str := ["_law_top", "_law_bottom", "_law_divisor_here"]
theorem sc_l_made : FnScope N_l_made ["_law_top", "_law_bottom"] (defScope s_l_made) := ⟨rfl, rfl, rfl, by decide +kernel, rfl, by decide +kernel, by decide +kernel⟩
abbrev s_l_added : Stmt := topS 36
abbrev N_l_added : List Str := ["_law_one", "_law_other"]
theorem sc_l_added : FnScope N_l_added ["_law_one", "_law_other"] (defScope s_l_added) := ⟨rfl, rfl, rfl, by decide +kernel, rfl, by decide +kernel, by decide +kernel⟩
abbrev s_l_taken : Stmt := topS 37
abbrev N_l_taken : List Str := ["_law_one", "_law_other"]
theorem sc_l_taken : FnScope N_l_taken ["_law_one", "_law_other"] (defScope s_l_taken) := ⟨rfl, rfl, rfl, by decide +kernel, rfl, by decide +kernel, by decide +kernel⟩
abbrev s_l_amount : Stmt := topS 38
abbrev N_l_amount : List Str := ["_law_deck_here", "_law_size"]
theorem sc_l_amount : FnScope N_l_amount ["_law_deck_here"] (defScope s_l_amount) := ⟨rfl, rfl, rfl, by decide +kernel, rfl, by decide +kernel, by decide +kernel⟩
abbrev s_l_stall : Stmt := topS 39
abbrev N_l_stall : List Str := ["_law_deck_here", "_law_wares", "_law_one", "_law_other", "_law_root", "_law_factor", "_law_first"]
theorem sc_l_stall : FnScope N_l_stall ["_law_deck_here", "_law_wares"] (defScope s_l_stall) := ⟨rfl, rfl, rfl, by decide +kernel, rfl, by decide +kernel, by decide +kernel⟩
abbrev s_l_behind : Stmt := topS 40
abbrev N_l_behind : List Str := ["_law_stall_here", "_law_ware", "_law_amount_here", "_law_at", "_law_here", "_law_root", "_law_rest"]
theorem sc_l_behind : FnScope N_l_behind ["_law_stall_here", "_law_ware", "_law_amount_here"] (defScope s_l_behind) := ⟨rfl, rfl, rfl, by decide +kernel, rfl, by decide +kernel, by decide +kernel⟩
abbrev s_l_is_moved : Stmt := topS 41
abbrev N_l_is_moved : List Str := ["_law_web", "_law_move", "_law_stalls", "_law_stall_here", "_law_later", "_law_at", "_law_due", "_law_found", "_law_other"]
theorem sc_l_is_moved : FnScope N_l_is_moved ["_law_web", "_law_move"] (defScope s_l_is_moved) := ⟨rfl, rfl, rfl, by decide +kernel, rfl, by decide +kernel, by decide +kernel⟩
abbrev s_l_is_parted : Stmt := topS 42
abbrev N_l_is_parted : List Str := ["_law_web", "_law_move", "_law_part", "_law_whole", "_law_here", "_law_first", "_law_second"]
theorem sc_l_is_parted : FnScope N_l_is_parted ["_law_web", "_law_move", "_law_part"] (defScope s_l_is_parted) := ⟨rfl, rfl, rfl, by decide +kernel, rfl, by decide +kernel, by decide +kernel⟩
abbrev s_law : Stmt := topS 43
abbrev N_law : List Str := ["_law_script", "_law_deck_here", "_law_wares", "_law_many", "_law_stalls", "_law_turn", "_law_web", "_law_at", "_law_side", "_law_move", "_law_back"]
theorem sc_law : FnScope N_law ["_law_script"] (defScope s_law) := ⟨rfl, rfl, rfl, by decide +kernel, rfl, by decide +kernel, by decide +kernel⟩
abbrev s_Web_init : Stmt := inClass (topS 21) 0
abbrev N_Web_init : List Str := ["self", "wares", "stalls", "index", "stall"]
theorem sc_Web_init : FnScope N_Web_init ["self", "wares", "stalls"] (defScope s_Web_init) := ⟨rfl, rfl, rfl, by decide +kernel, rfl, by decide +kernel, by decide +kernel⟩
abbrev s_Web_eq : Stmt := inClass (topS 21) 1
abbrev N_Web_eq : List Str := ["self", "other"]
theorem sc_Web_eq : FnScope N_Web_eq ["self", "other"] (defScope s_Web_eq) := ⟨rfl, rfl, rfl, by decide +kernel, rfl, by decide +kernel, by decide +kernel⟩
structure Txt (K : PySem.W.Frag) (mg : Str → Option Value) (f_is_integer f_is_row f_is_fraction f_is_some f_added f_negated f_lessened f_multiplied f_divided f_squared f_is_stall f_is_index f_is_move f_stall_led f_stall_behind f_taken_out f_out_of f_stalls_behind f_moved f_l_deck f_l_pick f_l_divisor f_l_made f_l_added f_l_taken f_l_amount f_l_stall f_l_behind f_l_is_moved f_l_is_parted f_law f_Web_init f_Web_eq c_Web : Addr) (d_is_integer d_is_row d_is_fraction d_is_some d_added d_negated d_lessened d_multiplied d_divided d_squared d_is_stall d_is_index d_is_move d_stall_led d_stall_behind d_taken_out d_out_of d_stalls_behind d_moved d_l_deck d_l_pick d_l_divisor d_l_made d_l_added d_l_taken d_l_amount d_l_stall d_l_behind d_l_is_moved d_l_is_parted d_law d_Web_init d_Web_eq : FuncData) : Prop where
  z_abs : mg "abs" = none
  z_bool : mg "bool" = none
  z_enumerate : mg "enumerate" = none
  z_int : mg "int" = none
  z_isinstance : mg "isinstance" = none
  z_len : mg "len" = none
  z_list : mg "list" = none
  z_max : mg "max" = none
  z_min : mg "min" = none
  z_range : mg "range" = none
  z_tuple : mg "tuple" = none
  m_gcd : mg "gcd" = some (.builtin "math.gcd")
  w_Web : WebC K mg "Web" c_Web f_Web_init
  n_Web_wares : NoAttr K c_Web "wares"
  n_Web_stalls : NoAttr K c_Web "stalls"
  v_MOST_STALLS : ∃ u, mg "MOST_STALLS" = some u ∧ RelV (.int 16) u
  v_MOST_WARES : ∃ u, mg "MOST_WARES" = some u ∧ RelV (.int 8) u
  g_is_integer : mg "is_integer" = some (.ref f_is_integer)
  F_is_integer : Fun K "is_integer" "is_integer" s_is_integer f_is_integer d_is_integer
  k_is_integer : PySem.W.keepIn K (.ref f_is_integer) = true
  b_is_integer : Binds K d_is_integer ["thing"] []
  g_is_row : mg "is_row" = some (.ref f_is_row)
  F_is_row : Fun K "is_row" "is_row" s_is_row f_is_row d_is_row
  k_is_row : PySem.W.keepIn K (.ref f_is_row) = true
  b_is_row : Binds K d_is_row ["thing"] []
  g_is_fraction : mg "is_fraction" = some (.ref f_is_fraction)
  F_is_fraction : Fun K "is_fraction" "is_fraction" s_is_fraction f_is_fraction d_is_fraction
  k_is_fraction : PySem.W.keepIn K (.ref f_is_fraction) = true
  b_is_fraction : Binds K d_is_fraction ["thing"] []
  g_is_some : mg "is_some" = some (.ref f_is_some)
  F_is_some : Fun K "is_some" "is_some" s_is_some f_is_some d_is_some
  k_is_some : PySem.W.keepIn K (.ref f_is_some) = true
  b_is_some : Binds K d_is_some ["thing"] []
  g_added : mg "added" = some (.ref f_added)
  F_added : Fun K "added" "added" s_added f_added d_added
  k_added : PySem.W.keepIn K (.ref f_added) = true
  b_added : Binds K d_added ["one", "other"] []
  g_negated : mg "negated" = some (.ref f_negated)
  F_negated : Fun K "negated" "negated" s_negated f_negated d_negated
  k_negated : PySem.W.keepIn K (.ref f_negated) = true
  b_negated : Binds K d_negated ["one"] []
  g_lessened : mg "lessened" = some (.ref f_lessened)
  F_lessened : Fun K "lessened" "lessened" s_lessened f_lessened d_lessened
  k_lessened : PySem.W.keepIn K (.ref f_lessened) = true
  b_lessened : Binds K d_lessened ["one", "other"] []
  g_multiplied : mg "multiplied" = some (.ref f_multiplied)
  F_multiplied : Fun K "multiplied" "multiplied" s_multiplied f_multiplied d_multiplied
  k_multiplied : PySem.W.keepIn K (.ref f_multiplied) = true
  b_multiplied : Binds K d_multiplied ["one", "other"] []
  g_divided : mg "divided" = some (.ref f_divided)
  F_divided : Fun K "divided" "divided" s_divided f_divided d_divided
  k_divided : PySem.W.keepIn K (.ref f_divided) = true
  b_divided : Binds K d_divided ["one", "other"] []
  g_squared : mg "squared" = some (.ref f_squared)
  F_squared : Fun K "squared" "squared" s_squared f_squared d_squared
  k_squared : PySem.W.keepIn K (.ref f_squared) = true
  b_squared : Binds K d_squared ["one"] []
  g_is_stall : mg "is_stall" = some (.ref f_is_stall)
  F_is_stall : Fun K "is_stall" "is_stall" s_is_stall f_is_stall d_is_stall
  k_is_stall : PySem.W.keepIn K (.ref f_is_stall) = true
  b_is_stall : Binds K d_is_stall ["wares", "thing"] []
  g_is_index : mg "is_index" = some (.ref f_is_index)
  F_is_index : Fun K "is_index" "is_index" s_is_index f_is_index d_is_index
  k_is_index : PySem.W.keepIn K (.ref f_is_index) = true
  b_is_index : Binds K d_is_index ["web", "thing"] []
  g_is_move : mg "is_move" = some (.ref f_is_move)
  F_is_move : Fun K "is_move" "is_move" s_is_move f_is_move d_is_move
  k_is_move : PySem.W.keepIn K (.ref f_is_move) = true
  b_is_move : Binds K d_is_move ["web", "thing"] []
  g_stall_led : mg "stall_led" = some (.ref f_stall_led)
  F_stall_led : Fun K "stall_led" "stall_led" s_stall_led f_stall_led d_stall_led
  k_stall_led : PySem.W.keepIn K (.ref f_stall_led) = true
  b_stall_led : Binds K d_stall_led ["stall", "amount"] []
  g_stall_behind : mg "stall_behind" = some (.ref f_stall_behind)
  F_stall_behind : Fun K "stall_behind" "stall_behind" s_stall_behind f_stall_behind d_stall_behind
  k_stall_behind : PySem.W.keepIn K (.ref f_stall_behind) = true
  b_stall_behind : Binds K d_stall_behind ["stall", "ware", "amount"] []
  g_taken_out : mg "taken_out" = some (.ref f_taken_out)
  F_taken_out : Fun K "taken_out" "taken_out" s_taken_out f_taken_out d_taken_out
  k_taken_out : PySem.W.keepIn K (.ref f_taken_out) = true
  b_taken_out : Binds K d_taken_out ["before", "behind", "ware"] []
  g_out_of : mg "out_of" = some (.ref f_out_of)
  F_out_of : Fun K "out_of" "out_of" s_out_of f_out_of d_out_of
  k_out_of : PySem.W.keepIn K (.ref f_out_of) = true
  b_out_of : Binds K d_out_of ["web", "move"] []
  g_stalls_behind : mg "stalls_behind" = some (.ref f_stalls_behind)
  F_stalls_behind : Fun K "stalls_behind" "stalls_behind" s_stalls_behind f_stalls_behind d_stalls_behind
  k_stalls_behind : PySem.W.keepIn K (.ref f_stalls_behind) = true
  b_stalls_behind : Binds K d_stalls_behind ["stalls", "move"] []
  g_moved : mg "moved" = some (.ref f_moved)
  F_moved : Fun K "moved" "moved" s_moved f_moved d_moved
  k_moved : PySem.W.keepIn K (.ref f_moved) = true
  b_moved : Binds K d_moved ["web", "move"] []
  g_l_deck : mg "_law_deck" = some (.ref f_l_deck)
  F_l_deck : Fun K "_law_deck" "_law_deck" s_l_deck f_l_deck d_l_deck
  k_l_deck : PySem.W.keepIn K (.ref f_l_deck) = true
  b_l_deck : Binds K d_l_deck ["_law_script"] []
  g_l_pick : mg "_law_pick" = some (.ref f_l_pick)
  F_l_pick : Fun K "_law_pick" "_law_pick" s_l_pick f_l_pick d_l_pick
  k_l_pick : PySem.W.keepIn K (.ref f_l_pick) = true
  b_l_pick : Binds K d_l_pick ["_law_deck_here", "_law_many"] []
  g_l_divisor : mg "_law_divisor" = some (.ref f_l_divisor)
  F_l_divisor : Fun K "_law_divisor" "_law_divisor" s_l_divisor f_l_divisor d_l_divisor
  k_l_divisor : PySem.W.keepIn K (.ref f_l_divisor) = true
  b_l_divisor : Binds K d_l_divisor ["_law_one", "_law_other"] []
  g_l_made : mg "_law_made" = some (.ref f_l_made)
  F_l_made : Fun K "_law_made" "_law_made" s_l_made f_l_made d_l_made
  k_l_made : PySem.W.keepIn K (.ref f_l_made) = true
  b_l_made : Binds K d_l_made ["_law_top", "_law_bottom"] []
  g_l_added : mg "_law_added" = some (.ref f_l_added)
  F_l_added : Fun K "_law_added" "_law_added" s_l_added f_l_added d_l_added
  k_l_added : PySem.W.keepIn K (.ref f_l_added) = true
  b_l_added : Binds K d_l_added ["_law_one", "_law_other"] []
  g_l_taken : mg "_law_taken" = some (.ref f_l_taken)
  F_l_taken : Fun K "_law_taken" "_law_taken" s_l_taken f_l_taken d_l_taken
  k_l_taken : PySem.W.keepIn K (.ref f_l_taken) = true
  b_l_taken : Binds K d_l_taken ["_law_one", "_law_other"] []
  g_l_amount : mg "_law_amount" = some (.ref f_l_amount)
  F_l_amount : Fun K "_law_amount" "_law_amount" s_l_amount f_l_amount d_l_amount
  k_l_amount : PySem.W.keepIn K (.ref f_l_amount) = true
  b_l_amount : Binds K d_l_amount ["_law_deck_here"] []
  g_l_stall : mg "_law_stall" = some (.ref f_l_stall)
  F_l_stall : Fun K "_law_stall" "_law_stall" s_l_stall f_l_stall d_l_stall
  k_l_stall : PySem.W.keepIn K (.ref f_l_stall) = true
  b_l_stall : Binds K d_l_stall ["_law_deck_here", "_law_wares"] []
  g_l_behind : mg "_law_behind" = some (.ref f_l_behind)
  F_l_behind : Fun K "_law_behind" "_law_behind" s_l_behind f_l_behind d_l_behind
  k_l_behind : PySem.W.keepIn K (.ref f_l_behind) = true
  b_l_behind : Binds K d_l_behind ["_law_stall_here", "_law_ware", "_law_amount_here"] []
  g_l_is_moved : mg "_law_is_moved" = some (.ref f_l_is_moved)
  F_l_is_moved : Fun K "_law_is_moved" "_law_is_moved" s_l_is_moved f_l_is_moved d_l_is_moved
  k_l_is_moved : PySem.W.keepIn K (.ref f_l_is_moved) = true
  b_l_is_moved : Binds K d_l_is_moved ["_law_web", "_law_move"] []
  g_l_is_parted : mg "_law_is_parted" = some (.ref f_l_is_parted)
  F_l_is_parted : Fun K "_law_is_parted" "_law_is_parted" s_l_is_parted f_l_is_parted d_l_is_parted
  k_l_is_parted : PySem.W.keepIn K (.ref f_l_is_parted) = true
  b_l_is_parted : Binds K d_l_is_parted ["_law_web", "_law_move", "_law_part"] []
  g_law : mg "law" = some (.ref f_law)
  F_law : Fun K "law" "law" s_law f_law d_law
  k_law : PySem.W.keepIn K (.ref f_law) = true
  b_law : Binds K d_law ["_law_script"] []
  F_Web_init : Fun K "__init__" "Web.__init__" s_Web_init f_Web_init d_Web_init
  b_Web_init : Binds K d_Web_init ["self", "wares", "stalls"] []
  F_Web_eq : Fun K "__eq__" "Web.__eq__" s_Web_eq f_Web_eq d_Web_eq
  b_Web_eq : Binds K d_Web_eq ["self", "other"] []
  i_Web_eq : PySem.W.findIn K (.ref c_Web) "__eq__" = some (some (.ref f_Web_eq))
  fn_Web_eq : PySem.W.isFn K (.ref f_Web_eq) = true
  ne_Web : PySem.W.findIn K (.ref c_Web) "__ne__" = some (some (.builtin "object.__ne__"))
end My
/-! the steps of a reading, one after another; side conditions come last -/
local macro_rules | `(tactic| walk_at "hp") => `(tactic| (repeat (first | (with_reducible assumption) | (with_reducible exact L2.upd_same) | (refine (L2.upd_ne (by first | assumption | (apply Ne.symm; assumption))).trans ?_))))
local macro_rules | `(tactic| walk_at "sd") => `(tactic| first | assumption | decide | omega | (exact My.cpow_of (by decide)) | (exact My.cdivx (b := 64) (by decide) (by decide) (by decide)) | (exact My.cdivx (by omega) (by assumption) (by decide)))
local macro_rules | `(tactic| walk_at "rX") => `(tactic| fail)
local macro_rules | `(tactic| walk_at "rV") => `(tactic| first
  | (with_reducible refine My.rd_C ?_)
  | ((with_reducible refine' My.rd_var ?k1 ?_); (case k1 => rfl))
  | (with_reducible refine My.rd_op ?_) | (with_reducible refine My.rd_cons ?_) | (with_reducible refine My.rd_nil ?_) | (with_reducible refine My.rd_CB ?_) | (with_reducible refine My.rd_call ?_)
  | (with_reducible refine My.rd_rI0 ?_)
  | (with_reducible refine My.rd_rI ?_ (by walk_at "sd"))
  | (with_reducible refine My.rd_rI ?_ ?_)
  | ((with_reducible refine' My.rd_ixL ?k1 ?k2 ?_); (case k1 => walk_at "hp"); (case k2 => rfl))
  | ((with_reducible refine' My.rd_ixT ?k1 ?k2 ?_); (case k1 => walk_at "hp"); (case k2 => rfl))
  | ((with_reducible refine' My.rd_ixTp ?k1 ?k3 ?k2 ?_); (case k1 => walk_at "tp"); (case k2 => rfl); (case k3 => rfl))
  | (with_reducible refine My.rd_un ?_) | (with_reducible refine My.rd_rU ?_)
  | (with_reducible refine My.rd_eqI ?_) | (with_reducible refine My.rd_neI ?_) | (with_reducible refine My.rd_eqB ?_) | (with_reducible refine My.rd_neB ?_) | (with_reducible refine My.rd_eqS ?_) | (with_reducible refine My.rd_neS ?_)
  | (with_reducible refine My.rd_gcd ?_) | (with_reducible refine My.rd_bits ?_)
  | ((with_reducible refine' My.rd_lenL ?_ ?k1); (case k1 => walk_at "hp"))
  | ((with_reducible refine' My.rd_lenT ?_ ?k1); (case k1 => walk_at "hp"))
  | ((with_reducible refine' My.rd_lenTp ?_ ?k1 ?k3); (case k1 => walk_at "tp"); (case k3 => rfl))
  | (with_reducible refine My.rd_int ?_) | (with_reducible refine My.rd_abs ?_) | (with_reducible refine My.rd_min ?_) | (with_reducible refine My.rd_intB ?_)
  | (with_reducible refine ⟨_, rfl, ?_⟩)
  | (with_reducible refine My.rd_len ?_ rfl)
  | (with_reducible refine My.rd_tup ?_) | (with_reducible refine My.rd_lst ?_)
  | (with_reducible refine My.isi_int_int ?_) | (with_reducible refine My.isi_int_bool ?_) | (with_reducible refine My.isi_bl_bool ?_)
  | ((with_reducible refine' My.isi_tup_tup ?k1 ?_); (case k1 => walk_at "hp"))
  | ((with_reducible refine' My.isi_tp ?k1 ?k3 ?_); (case k1 => walk_at "tp"); (case k3 => rfl))
  | (with_reducible refine My.rd_isBl ?_))
local macro_rules | `(tactic| walk_at "rS") => `(tactic| first
  | (with_reducible refine My.rd_seq ?_) | (with_reducible refine My.rd_next ?_) | (with_reducible refine My.rd_asg ?_) | (with_reducible refine My.rd_gName ?_) | (with_reducible refine My.rd_ret ?_)
  | (with_reducible refine My.rd_ifS ?_) | (with_reducible refine My.rd_test ?_) | (with_reducible refine My.rd_B ?_) | (with_reducible refine My.rd_not ?_) | (with_reducible refine My.rd_and ?_) | (with_reducible refine My.rd_or ?_)
  | (with_reducible refine My.rd_andV ?_) | (with_reducible refine My.rd_orV ?_) | (with_reducible refine My.rd_notV ?_) | (with_reducible refine My.rd_ifE ?_) | (with_reducible refine My.rd_chain ?_)
  | (with_reducible refine My.rd_gSub ?_) | ((with_reducible refine' My.rd_setL ?k1 ?k2 ?_); (case k1 => walk_at "hp"); (case k2 => rfl))
  | ((with_reducible refine' My.rd_gTup ?k1 ?k2 ?_); (case k1 => walk_at "hp"); (case k2 => rfl)) | ((with_reducible refine' My.rd_gTp ?k1 ?k3 ?k2 ?_); (case k1 => walk_at "tp"); (case k2 => rfl); (case k3 => rfl)) | (with_reducible refine My.rd_gCons ?_) | (with_reducible refine My.rd_gNil ?_)
  | (with_reducible refine My.rd_drop ?_) | (with_reducible refine My.rd_for ?_) | (with_reducible refine My.rd_rng1 ?_) | (with_reducible refine My.rd_itL ?_) | (with_reducible refine My.rd_itT ?_)
  | (with_reducible refine My.rd_sl ?_) | (with_reducible refine My.rd_part ?_) | (with_reducible refine My.rd_nopart ?_) | (with_reducible refine My.rd_bm ?_) | (with_reducible refine My.rd_yes ?_) | (with_reducible refine My.rd_lc ?_)
  | (with_reducible refine My.ite_nt ?_) | (with_reducible refine My.ite_nf ?_)
  | (with_reducible refine L2.iteF ?_) | (with_reducible refine L2.iteT ?_))
local macro_rules | `(tactic| walk_at "dc") => `(tactic| first | (with_reducible assumption) | ((with_reducible show _ = _); rfl) | omega | decide)
local macro_rules | `(tactic| walk_at "rI") => `(tactic| first
  | ((with_reducible refine' My.if_T ?k1 ?_); (case k1 => walk_at "dc"))
  | ((with_reducible refine' My.if_F ?k1 ?_); (case k1 => walk_at "dc"))
  | ((with_reducible refine' My.if_nF ?k1 ?_); (case k1 => walk_at "dc"))
  | ((with_reducible refine' My.if_nT ?k1 ?_); (case k1 => walk_at "dc")))
local macro_rules | `(tactic| walk_at "r") => `(tactic| (repeat (first | (walk_at "rV") | (walk_at "rS") | (walk_at "rI") | (walk_at "rX"))))
local macro_rules | `(tactic| walk_at "if") => `(tactic| first | (with_reducible refine My.if_dec (fun h => ?_) (fun h => ?_)) | (with_reducible refine My.if_ndec (fun h => ?_) (fun h => ?_)))
local macro_rules | `(tactic| walk_at "st") => `(tactic| (set_option pp.maxSteps 150 in trace_state))
local macro_rules | `(tactic| walk_at "rX") => `(tactic| first | (with_reducible refine My.rd_callS ?_) | (with_reducible refine My.rd_newK ?_) | (with_reducible refine My.rd_raise1 ?_) | (with_reducible refine My.rd_x1 ?_) | (with_reducible refine My.rd_fldS ?_) | (with_reducible refine My.rd_fld ?_) | (with_reducible refine My.rd_make ?_) | (with_reducible refine My.rd_enum ?_) | (with_reducible refine My.rd_enumX ?_) | (with_reducible refine My.rd_ost ?_) | (with_reducible refine My.rd_xf ?_) | (with_reducible refine My.isi_int_tup ?_))
local macro_rules | `(tactic| walk_at "sm") => `(tactic| first | (with_reducible assumption) | (with_reducible exact L2.Same.refl _) | ((with_reducible refine L2.Same.trans ?_ (by with_reducible assumption)); walk_at "sm"))
local macro_rules | `(tactic| walk_at "tp") => `(tactic| first | (with_reducible assumption) | ((with_reducible refine My.Tp.same ?_ (by with_reducible assumption)); walk_at "sm"))
local macro_rules | `(tactic| walk_at "hp") => `(tactic| ((with_reducible refine My.at_same ?_ (by with_reducible assumption)); walk_at "sm"))
local macro_rules | `(tactic| walk_at "kp") => `(tactic| first | (with_reducible assumption) | ((with_reducible refine My.IsF.same ?_ (by with_reducible assumption)); walk_at "sm") | ((with_reducible refine My.IsSt.same ?_ (by with_reducible assumption)); walk_at "sm") | ((with_reducible refine My.IsWeb.same ?_ (by with_reducible assumption)); walk_at "sm") | ((with_reducible refine My.IsMv.same ?_ (by with_reducible assumption)); walk_at "sm") | ((with_reducible refine My.Sts.same ?_ (by with_reducible assumption)); walk_at "sm") | ((with_reducible refine My.Tp.same ?_ (by with_reducible assumption)); walk_at "sm") | ((with_reducible refine My.at_same ?_ (by with_reducible assumption)); walk_at "sm"))
namespace My
open PySem PySem.Spec PyProof.Rows L2
section
variable {P : Program} {w : World} {K : PySem.W.Frag} {mg : Str → Option Value} {base : Heap} {f_is_integer f_is_row f_is_fraction f_is_some f_added f_negated f_lessened f_multiplied f_divided f_squared f_is_stall f_is_index f_is_move f_stall_led f_stall_behind f_taken_out f_out_of f_stalls_behind f_moved f_l_deck f_l_pick f_l_divisor f_l_made f_l_added f_l_taken f_l_amount f_l_stall f_l_behind f_l_is_moved f_l_is_parted f_law f_Web_init f_Web_eq c_Web : Addr} {d_is_integer d_is_row d_is_fraction d_is_some d_added d_negated d_lessened d_multiplied d_divided d_squared d_is_stall d_is_index d_is_move d_stall_led d_stall_behind d_taken_out d_out_of d_stalls_behind d_moved d_l_deck d_l_pick d_l_divisor d_l_made d_l_added d_l_taken d_l_amount d_l_stall d_l_behind d_l_is_moved d_l_is_parted d_law d_Web_init d_Web_eq : FuncData}
def sp_pick (M : Nat) : Sp := fun vs H Q _ => ∃ (D C : Addr) (many : Int) (c : Nat), vs = [.ref D, .int many] ∧ (0 < many ∧ many.natAbs < 2 ^ 64) ∧ Deck M D C H c ∧ c ≤ 2 ^ 40 ∧
  ∀ H' r, Fw D H H' → Deck M D C H' (c + 1) → 0 ≤ r → r < many → Q (.int r) H'
theorem ok_pick {M : Nat} (hM : 64 ≤ M) (hM2 : M ≤ 1048576) (T : Txt K mg f_is_integer f_is_row f_is_fraction f_is_some f_added f_negated f_lessened f_multiplied f_divided f_squared f_is_stall f_is_index f_is_move f_stall_led f_stall_behind f_taken_out f_out_of f_stalls_behind f_moved f_l_deck f_l_pick f_l_divisor f_l_made f_l_added f_l_taken f_l_amount f_l_stall f_l_behind f_l_is_moved f_l_is_parted f_law f_Web_init f_Web_eq c_Web d_is_integer d_is_row d_is_fraction d_is_some d_added d_negated d_lessened d_multiplied d_divided d_squared d_is_stall d_is_index d_is_move d_stall_led d_stall_behind d_taken_out d_out_of d_stalls_behind d_moved d_l_deck d_l_pick d_l_divisor d_l_made d_l_added d_l_taken d_l_amount d_l_stall d_l_behind d_l_is_moved d_l_is_parted d_law d_Web_init d_Web_eq) : FnOk P w K mg base CX0 1 f_l_pick d_l_pick ["_law_deck_here", "_law_many"] (sp_pick M) := by
  refine T.F_l_pick.ok sc_l_pick (fun vs H Q E h => ?_) (fun cdv A outer s H vs Q E hr h => ?_)
  · obtain ⟨D, C, many, c, rfl, _⟩ := h
    rfl
  · obtain ⟨D, C, many, c, rfl, ⟨hm0, hm1⟩, ⟨cells, pl, rest, cnt, hCD, hD, hC, hlen, hb, ⟨hr0, hr1⟩, hc0, hc1⟩, hc, q⟩ := h
    have cd : ∀ i : Int, CDivX i many := fun i => cdivx (by omega) hm1 (by decide)
    refine ⟨_, (pss_cons (ps_asg (pe_op op_add (pe_ix ix_list (pv 0) pe_int (fun _ _ => rfl)) pe_int) (pg_sub (pv 0) pe_int set_list))
      (pss_cons (ps_if (pt_cmpR op_gt (pe_ix ix_list (pv 0) pe_int (fun _ _ => rfl)) pe_int (nomark _))
        (pss_cons (ps_set (i := 2) sc_l_pick.nd rfl (by first | exact Or.inl rfl | exact Or.inr rfl) (pe_op op_mod (pe_callTy call_intN (by rfl) T.z_int (by decide +kernel) (pa_cons (pe_ix ix_list (pv 0) pe_int (fun _ _ => rfl)) pa_nil)) (pv 1)))
          (pss_cons (ps_asg (pe_op op_fdivX (pe_callTy call_intN (by rfl) T.z_int (by decide +kernel) (pa_cons (pe_ix ix_list (pv 0) pe_int (fun _ _ => rfl)) pa_nil)) (pv 1)) (pg_sub (pv 0) pe_int set_list))
          (pss_one (ps_ret (pv 2)))))
        pss_nil)
      (pss_cons (ps_set (i := 3) sc_l_pick.nd rfl (by first | exact Or.inl rfl | exact Or.inr rfl) (pe_ix ix_list (pv 0) pe_int (fun _ _ => rfl)))
      (pss_cons (ps_set (i := 4) sc_l_pick.nd rfl (by first | exact Or.inl rfl | exact Or.inr rfl) pe_int)
      (pss_cons (ps_if (pt_cmpR op_gt (pe_callB call_lenN (by rfl) T.z_len (by decide +kernel) (pa_cons (pv 3) pa_nil)) pe_int (nomark _))
        (pss_one (ps_set (i := 4) sc_l_pick.nd rfl (by first | exact Or.inl rfl | exact Or.inr rfl) (pe_ix ix_list (pv 3) (pe_op op_mod (pe_callTy call_intN (by rfl) T.z_int (by decide +kernel) (pa_cons (pe_ix ix_list (pv 0) pe_int (fun _ _ => rfl)) pa_nil)) (pe_callB call_lenN (by rfl) T.z_len (by decide +kernel) (pa_cons (pv 3) pa_nil))) (fun _ _ => rfl))))
        pss_nil)
      (pss_cons (ps_asg (pe_op op_add (pe_ix ix_list (pv 0) pe_int (fun _ _ => rfl)) pe_int) (pg_sub (pv 0) pe_int set_list))
      (pss_cons (ps_if (PW.pt (pw_and (pt_cmpR op_ge (pv 4) (pe_op op_pow pe_int pe_int) (nomark _)) (pw_and1 (pt_cmpR op_le (pe_ix ix_list (pv 0) pe_int (fun _ _ => rfl)) (pe_callB call_lenN (by rfl) T.z_len (by decide +kernel) (pa_cons (pv 3) pa_nil)) (nomark _)))))
        (pss_cons (ps_asg (pe_op op_fdivX (pe_callTy call_intN (by rfl) T.z_int (by decide +kernel) (pa_cons (pv 4) pa_nil)) (pv 1)) (pg_sub (pv 0) pe_int set_list))
          (pss_one (ps_ret (pe_op op_mod (pe_callTy call_intN (by rfl) T.z_int (by decide +kernel) (pa_cons (pv 4) pa_nil)) (pv 1)))))
        pss_nil)
      (pss_cons (ps_set (i := 5) sc_l_pick.nd rfl (by first | exact Or.inl rfl | exact Or.inr rfl) (pe_op op_mod (pe_op op_mulX (pe_callTy call_intN (by rfl) T.z_int (by decide +kernel) (pa_cons (pe_op op_add (pe_op op_add (pv 4) (pe_op op_mulX pe_int (pe_ix ix_list (pv 0) pe_int (fun _ _ => rfl)))) pe_int) pa_nil)) pe_int) pe_int))
      (pss_cons (ps_set (i := 5) sc_l_pick.nd rfl (by first | exact Or.inl rfl | exact Or.inr rfl) (pe_op op_mod (pe_op op_mulX (pv 5) (pe_op op_add (pe_op op_fdivX (pv 5) pe_int) pe_int)) pe_int))
      (pss_cons (ps_set (i := 5) sc_l_pick.nd rfl (by first | exact Or.inl rfl | exact Or.inr rfl) (pe_op op_mod (pe_op op_mulX (pv 5) (pe_op op_add (pe_op op_fdivX (pv 5) pe_int) pe_int)) pe_int))
      (pss_one (ps_ret (pe_op op_mod (pv 5) (pv 1)))))))))))))), ?_⟩
    walk_at "r"
    walk_at "if"
    · walk_at "r"
      refine q _ _ (fw_upd.trans fw_upd) ?_ (mod_rng _ hm0).1 (mod_rng _ hm0).2
      exact ⟨cells, pl, rest.fdiv many, cnt + 1, hCD, upd_same, by walk_at "hp", hlen, hb, div_small hr0 hr1 hm0, by omega, by omega⟩
    · walk_at "r"
      have hcl : 0 < (cells.map V.int).length → ∃ z, z ∈ cells ∧ atI (cells.map V.int) (pl % ((cells.map V.int).length : Nat)) = some (.int z) := fun h => at_ints (mod_rng _ (by omega)).1 (mod_rng _ (by omega)).2
      have hz0 : (0 : Int).natAbs < 2 ^ M := Nat.two_pow_pos M
      walk_at "if"
      · obtain ⟨z, hz, ez⟩ := hcl (by omega)
        have hz0 := hb z hz
        walk_at "r"
        refine ⟨_, _, _, .int z, rfl, rfl, SqL.of ?_, ez, ?_⟩
        · walk_at "hp"
        walk_at "r"
        walk_at "if"
        · walk_at "r"
          walk_at "if"
          · walk_at "r"
            have t18 := ten18
            refine q _ _ ((fw_upd.trans fw_upd).trans fw_upd) ?_ (mod_rng _ hm0).1 (mod_rng _ hm0).2
            exact ⟨cells, pl + 1, z.fdiv many, cnt + 1, hCD, upd_same, by walk_at "hp", hlen, hb, div_small (by omega) hz0 hm0, by omega, by omega⟩
          · walk_at "r"
            · refine q _ _ (fw_upd.trans fw_upd) ?_ (mod_rng _ hm0).1 (mod_rng _ hm0).2
              exact ⟨cells, pl + 1, rest, cnt + 1, hCD, upd_same, by walk_at "hp", hlen, hb, ⟨hr0, hr1⟩, by omega, by omega⟩
            · exact pick_mul2 _ (by decide) (by decide) (by decide) (by decide)
            · exact pick_mul2 _ (by decide) (by decide) (by decide) (by decide)
            · exact cmul_big (pw_big hz0 hM hc0 hc1 hc) (by decide) (by omega)
            · exact cmul_small (by decide) (by omega)
        · walk_at "r"
          · refine q _ _ (fw_upd.trans fw_upd) ?_ (mod_rng _ hm0).1 (mod_rng _ hm0).2
            exact ⟨cells, pl + 1, rest, cnt + 1, hCD, upd_same, by walk_at "hp", hlen, hb, ⟨hr0, hr1⟩, by omega, by omega⟩
          · exact pick_mul2 _ (by decide) (by decide) (by decide) (by decide)
          · exact pick_mul2 _ (by decide) (by decide) (by decide) (by decide)
          · exact cmul_big (pw_big hz0 hM hc0 hc1 hc) (by decide) (by omega)
          · exact cmul_small (by decide) (by omega)
      · walk_at "r"
        · refine q _ _ (fw_upd.trans fw_upd) ?_ (mod_rng _ hm0).1 (mod_rng _ hm0).2
          exact ⟨cells, pl + 1, rest, cnt + 1, hCD, upd_same, by walk_at "hp", hlen, hb, ⟨hr0, hr1⟩, by omega, by omega⟩
        · exact pick_mul2 _ (by decide) (by decide) (by decide) (by decide)
        · exact pick_mul2 _ (by decide) (by decide) (by decide) (by decide)
        · exact cmul_big (pw_big hz0 hM hc0 hc1 hc) (by decide) (by omega)
        · exact cmul_small (by decide) (by omega)
end
end My
namespace My
open PySem PySem.Spec PyProof.Rows L2
section
variable {P : Program} {w : World} {K : PySem.W.Frag} {mg : Str → Option Value} {base : Heap} {f_is_integer f_is_row f_is_fraction f_is_some f_added f_negated f_lessened f_multiplied f_divided f_squared f_is_stall f_is_index f_is_move f_stall_led f_stall_behind f_taken_out f_out_of f_stalls_behind f_moved f_l_deck f_l_pick f_l_divisor f_l_made f_l_added f_l_taken f_l_amount f_l_stall f_l_behind f_l_is_moved f_l_is_parted f_law f_Web_init f_Web_eq c_Web : Addr} {d_is_integer d_is_row d_is_fraction d_is_some d_added d_negated d_lessened d_multiplied d_divided d_squared d_is_stall d_is_index d_is_move d_stall_led d_stall_behind d_taken_out d_out_of d_stalls_behind d_moved d_l_deck d_l_pick d_l_divisor d_l_made d_l_added d_l_taken d_l_amount d_l_stall d_l_behind d_l_is_moved d_l_is_parted d_law d_Web_init d_Web_eq : FuncData}
def sp_deck (K : PySem.W.Frag) : Sp := fun vs H Q _ => ∃ (a : Addr) (ns : List Int), vs = [.ref a] ∧ SqL K H a (ns.map V.int) ∧ ns.length ≤ 63 ∧ (∀ z ∈ ns, Builtin.Int.intBits z ≤ 1048576) ∧
  ∀ H' D C, Same H H' → Deck 1048576 D C H' 0 → Q (.ref D) H'
theorem ok_l_deck (T : Txt K mg f_is_integer f_is_row f_is_fraction f_is_some f_added f_negated f_lessened f_multiplied f_divided f_squared f_is_stall f_is_index f_is_move f_stall_led f_stall_behind f_taken_out f_out_of f_stalls_behind f_moved f_l_deck f_l_pick f_l_divisor f_l_made f_l_added f_l_taken f_l_amount f_l_stall f_l_behind f_l_is_moved f_l_is_parted f_law f_Web_init f_Web_eq c_Web d_is_integer d_is_row d_is_fraction d_is_some d_added d_negated d_lessened d_multiplied d_divided d_squared d_is_stall d_is_index d_is_move d_stall_led d_stall_behind d_taken_out d_out_of d_stalls_behind d_moved d_l_deck d_l_pick d_l_divisor d_l_made d_l_added d_l_taken d_l_amount d_l_stall d_l_behind d_l_is_moved d_l_is_parted d_law d_Web_init d_Web_eq) : FnOk P w K mg base CX0 1 f_l_deck d_l_deck ["_law_script"] (sp_deck K) := by
  refine T.F_l_deck.ok sc_l_deck (fun vs H Q E h => ?_) (fun cdv A outer s H vs Q E hr h => ?_)
  · obtain ⟨a, ns, rfl, _⟩ := h
    rfl
  · obtain ⟨a, ns, rfl, hS, hl, hb, q⟩ := h
    refine ⟨_, (pss_one (ps_ret (pe_lst (pa_cons (pe_lc (own := [("_law_cell", 1)]) (g := gName 1) rfl sc_l_deck.nd (pi_list (pe_slice sl_list (pv 0) po_none (po_some pe_int))) (blkOk_by (own := [("_law_cell", 1)]) (N := N_l_deck) (sc := defScope s_l_deck) (by decide +kernel)) (fun _ _ _ _ _ => (pg_name (i := 1) sc_l_deck.nd rfl (by first | exact Or.inl rfl | exact Or.inr rfl))) (fun _ _ _ _ _ => pts_nil) (fun _ _ _ _ _ => (pe_callTy call_intN (by rfl) T.z_int (by decide +kernel) (pa_cons (pv 1) pa_nil)))) (pa_cons pe_int (pa_cons pe_int (pa_cons pe_int pa_nil))))))), ?_⟩
    walk_at "r"
    refine rd_slL hS (fun p np => ?_)
    refine ⟨_, rfl, ⟨_, .of upd_same⟩, fun D nD => ?_⟩
    have hDp : D ≠ p := fun e => by
      rw [e, upd_same] at nD
      cases nD
    have hcut : cutV (ns.map V.int) none (some 63) = ns.map V.int := cut_all (n := 63) (by rw [List.length_map]; exact hl)
    refine lc_list (K := K) (a := p) (xs := ns.map V.int) (fun i H' => Same H H' ∧ H' p = some (.lst (ns.map V.int)) ∧ H' D = some (.lst ((ns.take i).map V.int))) ?_ ?_ ?_ ?_
    · refine ⟨(same_upd np).trans (same_upd nD), ?_, upd_same⟩
      rw [upd_ne hDp.symm, upd_same, hcut]
    · intro i H' _ h
      exact .of h.2.1
    · rintro i x H' hx ⟨s1, s2, s3⟩
      obtain ⟨z, rfl, hz, et⟩ := take_succ_map hx
      walk_at "r"
      refine ⟨rfl, ?_⟩
      walk_at "r"
      refine ⟨_, s3, ?_, fun b o e => ?_, ?_, ?_⟩
      · rw [List.length_map, List.length_take]
        exact Nat.lt_of_le_of_lt (Nat.min_le_right _ _) (small1000 (by omega))
      · have nb : b ≠ D := fun e' => by
          rw [e', (same_upd np).free nD] at e
          cases e
        rw [upd_ne nb]
        exact s1 b o e
      · rw [upd_ne hDp.symm]
        exact s2
      · rw [upd_same, et]
    · rintro H' ⟨s1, s2, s3⟩
      have hlen : (ns.map V.int).length = ns.length := List.length_map ..
      rw [hlen, List.take_of_length_le (Nat.le_refl _)] at s3
      walk_at "r"
      intro D' nD'
      have hDD : D ≠ D' := ne_of_none s3 nD'
      refine q _ _ _ (s1.trans (same_upd nD')) ⟨ns, 0, 0, 0, hDD, upd_same, ?_, hl, fun z hz => bits_lt (hb z hz), ⟨by decide, Nat.two_pow_pos _⟩, by decide, by decide⟩
      rw [upd_ne hDD]
      exact s3
def sp_divisor : Sp := fun vs H Q _ => ∃ a b : Int, vs = [.int a, .int b] ∧ b.natAbs < 2 ^ 20000 ∧ Q (.int (a.natAbs.gcd b.natAbs : Nat)) H
theorem ok_l_divisor (T : Txt K mg f_is_integer f_is_row f_is_fraction f_is_some f_added f_negated f_lessened f_multiplied f_divided f_squared f_is_stall f_is_index f_is_move f_stall_led f_stall_behind f_taken_out f_out_of f_stalls_behind f_moved f_l_deck f_l_pick f_l_divisor f_l_made f_l_added f_l_taken f_l_amount f_l_stall f_l_behind f_l_is_moved f_l_is_parted f_law f_Web_init f_Web_eq c_Web d_is_integer d_is_row d_is_fraction d_is_some d_added d_negated d_lessened d_multiplied d_divided d_squared d_is_stall d_is_index d_is_move d_stall_led d_stall_behind d_taken_out d_out_of d_stalls_behind d_moved d_l_deck d_l_pick d_l_divisor d_l_made d_l_added d_l_taken d_l_amount d_l_stall d_l_behind d_l_is_moved d_l_is_parted d_law d_Web_init d_Web_eq) : FnOk P w K mg base CX0 1 f_l_divisor d_l_divisor ["_law_one", "_law_other"] sp_divisor := by
  refine T.F_l_divisor.ok sc_l_divisor (fun vs H Q E h => ?_) (fun cdv A outer s H vs Q E hr h => ?_)
  · obtain ⟨a, b, rfl, _⟩ := h
    rfl
  · obtain ⟨a, b, rfl, hb, q⟩ := h
    have hbits : Builtin.Int.intBits (b.natAbs : Nat) ≤ 20000 := by
      have h := PyProof.Rows.intBits_le (a := (b.natAbs : Int)) (by rw [Int.natAbs_natCast]; exact hb)
      exact h
    have hlt := bits_lt (z := (b.natAbs : Int)) (Nat.le_refl _)
    rw [Int.natAbs_natCast] at hlt
    refine ⟨_, (pss_cons (ps_set (i := 0) sc_l_divisor.nd rfl (by first | exact Or.inl rfl | exact Or.inr rfl) (pe_callB call_absN (by rfl) T.z_abs (by decide +kernel) (pa_cons (pv 0) pa_nil)))
      (pss_cons (ps_set (i := 1) sc_l_divisor.nd rfl (by first | exact Or.inl rfl | exact Or.inr rfl) (pe_callB call_absN (by rfl) T.z_abs (by decide +kernel) (pa_cons (pv 1) pa_nil)))
      (pss_cons (ps_for PassesOwn.never rfl (pi_range1 (by rfl) T.z_range (pa_cons (pe_op op_add (pe_op op_mulX pe_int (pe_bits (pv 1))) pe_int) pa_nil)) (pg_name (i := 2) sc_l_divisor.nd rfl (by first | exact Or.inl rfl | exact Or.inr rfl))
        (pss_cons (ps_if (pt_cmpR op_eq (pv 1) pe_int (nomark _))
            (pss_one (ps_ret (pv 0)))
            pss_nil)
          (pss_cons (ps_set (i := 3) sc_l_divisor.nd rfl (by first | exact Or.inl rfl | exact Or.inr rfl) (pe_op op_mod (pe_callTy call_intN (by rfl) T.z_int (by decide +kernel) (pa_cons (pv 0) pa_nil)) (pv 1)))
          (pss_cons (ps_set (i := 0) sc_l_divisor.nd rfl (by first | exact Or.inl rfl | exact Or.inr rfl) (pv 1))
          (pss_one (ps_set (i := 1) sc_l_divisor.nd rfl (by first | exact Or.inl rfl | exact Or.inr rfl) (pv 3)))))))
      (pss_one (ps_ret (pv 0)))))), ?_⟩
    walk_at "r"
    · refine ⟨by omega, by omega, ?_⟩
      generalize Builtin.Int.intBits (b.natAbs : Int) = k at *
      have hN : (2 * (k : Int) + 2).toNat = 2 * k + 2 := by omega
      rw [hN]
      refine for_range (lo := 0) (n := 2 * k + 2) (fun i σ H' => ∃ (x y : Nat) (t r : Option V), σ = [some (.int x), some (.int y), t, r] ∧ H' = H ∧ Euc (a.natAbs.gcd b.natAbs) b.natAbs i x y) ?_ ?_ ?_
      · exact ⟨a.natAbs, b.natAbs, none, none, rfl, rfl, ⟨rfl, by simp, fun h => absurd rfl h⟩⟩
      · rintro i σ H' hi ⟨x, y, t, r, rfl, rfl, e⟩
        walk_at "r"
        walk_at "if"
        · rename_i hy
          have hy0 : y = 0 := by omega
          have g := e.g
          rw [hy0, Nat.gcd_zero_right] at g
          walk_at "r"
          rw [g]
          exact q
        · rename_i hy
          walk_at "r"
          exact ⟨y, x % y, _, _, rfl, rfl, e.step (by omega)⟩
      · rintro σ H' ⟨x, y, t, r, rfl, rfl, e⟩
        obtain ⟨_, hx⟩ := e.done hlt
        walk_at "r"
        rw [hx]
        exact q
    · exact cmul_small (by decide) (by omega)
end
end My
namespace My
open PySem PySem.Spec PyProof.Rows L2
variable {K : PySem.W.Frag}
section
variable {P : Program} {w : World} {K : PySem.W.Frag} {mg : Str → Option Value} {base : Heap} {f_is_integer f_is_row f_is_fraction f_is_some f_added f_negated f_lessened f_multiplied f_divided f_squared f_is_stall f_is_index f_is_move f_stall_led f_stall_behind f_taken_out f_out_of f_stalls_behind f_moved f_l_deck f_l_pick f_l_divisor f_l_made f_l_added f_l_taken f_l_amount f_l_stall f_l_behind f_l_is_moved f_l_is_parted f_law f_Web_init f_Web_eq c_Web : Addr} {d_is_integer d_is_row d_is_fraction d_is_some d_added d_negated d_lessened d_multiplied d_divided d_squared d_is_stall d_is_index d_is_move d_stall_led d_stall_behind d_taken_out d_out_of d_stalls_behind d_moved d_l_deck d_l_pick d_l_divisor d_l_made d_l_added d_l_taken d_l_amount d_l_stall d_l_behind d_l_is_moved d_l_is_parted d_law d_Web_init d_Web_eq : FuncData}
/-- two fractions in, one out -/
def sp_two (K : PySem.W.Frag) (f : Rat → Rat → Rat) (C : Rat → Rat → Prop) : Sp := fun vs H Q _ => ∃ x y r s, vs = [x, y] ∧ IsF K H x r ∧ IsF K H y s ∧ Bd 4000 r ∧ Bd 4000 s ∧ C r s ∧ ∀ H' v, Same H H' → IsF K H' v (f r s) → Q v H'
def sp_added (K : PySem.W.Frag) : Sp := sp_two K (· + ·) fun _ _ => True
theorem ok_added (T : Txt K mg f_is_integer f_is_row f_is_fraction f_is_some f_added f_negated f_lessened f_multiplied f_divided f_squared f_is_stall f_is_index f_is_move f_stall_led f_stall_behind f_taken_out f_out_of f_stalls_behind f_moved f_l_deck f_l_pick f_l_divisor f_l_made f_l_added f_l_taken f_l_amount f_l_stall f_l_behind f_l_is_moved f_l_is_parted f_law f_Web_init f_Web_eq c_Web d_is_integer d_is_row d_is_fraction d_is_some d_added d_negated d_lessened d_multiplied d_divided d_squared d_is_stall d_is_index d_is_move d_stall_led d_stall_behind d_taken_out d_out_of d_stalls_behind d_moved d_l_deck d_l_pick d_l_divisor d_l_made d_l_added d_l_taken d_l_amount d_l_stall d_l_behind d_l_is_moved d_l_is_parted d_law d_Web_init d_Web_eq) : FnOk P w K mg base CX0 1 f_added d_added ["one", "other"] (sp_added K) := by
  refine T.F_added.ok sc_added (fun vs H Q E h => ?_) (fun cdv A outer s H vs Q E hr h => ?_)
  · obtain ⟨x, y, r, s, rfl, _⟩ := h
    rfl
  · obtain ⟨x, y, r, s, rfl, ⟨p1, rfl, h1⟩, ⟨p2, rfl, h2⟩, b1, b2, -, q⟩ := h
    obtain ⟨m1, m2, m3, m4, m5, m6, m7⟩ := added_math b1 b2 _ _ _ rfl rfl rfl
    refine ⟨_, (pss_cons (ps_set (i := 2) sc_added.nd rfl (by first | exact Or.inl rfl | exact Or.inr rfl) (pe_callBfun cr_gcd (by rfl) T.m_gcd (pa_cons (pe_ix ix_tup (pv 0) pe_int (fun _ _ => rfl)) (pa_cons (pe_ix ix_tup (pv 1) pe_int (fun _ _ => rfl)) pa_nil))))
      (pss_cons (ps_set (i := 3) sc_added.nd rfl (by first | exact Or.inl rfl | exact Or.inr rfl) (pe_op op_fdivX (pe_ix ix_tup (pv 0) pe_int (fun _ _ => rfl)) (pv 2)))
      (pss_cons (ps_set (i := 4) sc_added.nd rfl (by first | exact Or.inl rfl | exact Or.inr rfl) (pe_op op_add (pe_op op_mulX (pe_ix ix_tup (pv 0) pe_int (fun _ _ => rfl)) (pe_op op_fdivX (pe_ix ix_tup (pv 1) pe_int (fun _ _ => rfl)) (pv 2))) (pe_op op_mulX (pe_ix ix_tup (pv 1) pe_int (fun _ _ => rfl)) (pv 3))))
      (pss_cons (ps_set (i := 5) sc_added.nd rfl (by first | exact Or.inl rfl | exact Or.inr rfl) (pe_callBfun cr_gcd (by rfl) T.m_gcd (pa_cons (pv 4) (pa_cons (pv 2) pa_nil))))
      (pss_one (ps_ret (pe_tup (pa_cons (pe_op op_fdivX (pv 4) (pv 5)) (pa_cons (pe_op op_mulX (pv 3) (pe_op op_fdivX (pe_ix ix_tup (pv 1) pe_int (fun _ _ => rfl)) (pv 5))) pa_nil))))))))), ?_⟩
    walk_at "r"
    · intro p np
      exact q _ _ (same_upd np) (isF_new m6 m7)
    all_goals first | assumption | exact m1 _ | exact m4 _
def sp_multiplied (K : PySem.W.Frag) : Sp := sp_two K (· * ·) fun _ _ => True
theorem ok_multiplied (T : Txt K mg f_is_integer f_is_row f_is_fraction f_is_some f_added f_negated f_lessened f_multiplied f_divided f_squared f_is_stall f_is_index f_is_move f_stall_led f_stall_behind f_taken_out f_out_of f_stalls_behind f_moved f_l_deck f_l_pick f_l_divisor f_l_made f_l_added f_l_taken f_l_amount f_l_stall f_l_behind f_l_is_moved f_l_is_parted f_law f_Web_init f_Web_eq c_Web d_is_integer d_is_row d_is_fraction d_is_some d_added d_negated d_lessened d_multiplied d_divided d_squared d_is_stall d_is_index d_is_move d_stall_led d_stall_behind d_taken_out d_out_of d_stalls_behind d_moved d_l_deck d_l_pick d_l_divisor d_l_made d_l_added d_l_taken d_l_amount d_l_stall d_l_behind d_l_is_moved d_l_is_parted d_law d_Web_init d_Web_eq) : FnOk P w K mg base CX0 1 f_multiplied d_multiplied ["one", "other"] (sp_multiplied K) := by
  refine T.F_multiplied.ok sc_multiplied (fun vs H Q E h => ?_) (fun cdv A outer s H vs Q E hr h => ?_)
  · obtain ⟨x, y, r, s, rfl, _⟩ := h
    rfl
  · obtain ⟨x, y, r, s, rfl, ⟨p1, rfl, h1⟩, ⟨p2, rfl, h2⟩, b1, b2, -, q⟩ := h
    obtain ⟨m1, m2, m3, m4, m5, m6⟩ := mul_math b1 b2 _ _ rfl rfl
    refine ⟨_, (pss_cons (ps_set (i := 2) sc_multiplied.nd rfl (by first | exact Or.inl rfl | exact Or.inr rfl) (pe_callBfun cr_gcd (by rfl) T.m_gcd (pa_cons (pe_ix ix_tup (pv 0) pe_int (fun _ _ => rfl)) (pa_cons (pe_ix ix_tup (pv 1) pe_int (fun _ _ => rfl)) pa_nil))))
      (pss_cons (ps_set (i := 3) sc_multiplied.nd rfl (by first | exact Or.inl rfl | exact Or.inr rfl) (pe_callBfun cr_gcd (by rfl) T.m_gcd (pa_cons (pe_ix ix_tup (pv 1) pe_int (fun _ _ => rfl)) (pa_cons (pe_ix ix_tup (pv 0) pe_int (fun _ _ => rfl)) pa_nil))))
      (pss_one (ps_ret (pe_tup (pa_cons (pe_op op_mulX (pe_op op_fdivX (pe_ix ix_tup (pv 0) pe_int (fun _ _ => rfl)) (pv 2)) (pe_op op_fdivX (pe_ix ix_tup (pv 1) pe_int (fun _ _ => rfl)) (pv 3))) (pa_cons (pe_op op_mulX (pe_op op_fdivX (pe_ix ix_tup (pv 0) pe_int (fun _ _ => rfl)) (pv 3)) (pe_op op_fdivX (pe_ix ix_tup (pv 1) pe_int (fun _ _ => rfl)) (pv 2))) pa_nil))))))), ?_⟩
    walk_at "r"
    · intro p np
      exact q _ _ (same_upd np) (isF_new m5 m6)
    all_goals first | assumption | exact m1 _ | exact m2 _
def sp_negated (K : PySem.W.Frag) : Sp := fun vs H Q _ => ∃ x r, vs = [x] ∧ IsF K H x r ∧ ∀ H' v, Same H H' → IsF K H' v (-r) → Q v H'
theorem ok_negated (T : Txt K mg f_is_integer f_is_row f_is_fraction f_is_some f_added f_negated f_lessened f_multiplied f_divided f_squared f_is_stall f_is_index f_is_move f_stall_led f_stall_behind f_taken_out f_out_of f_stalls_behind f_moved f_l_deck f_l_pick f_l_divisor f_l_made f_l_added f_l_taken f_l_amount f_l_stall f_l_behind f_l_is_moved f_l_is_parted f_law f_Web_init f_Web_eq c_Web d_is_integer d_is_row d_is_fraction d_is_some d_added d_negated d_lessened d_multiplied d_divided d_squared d_is_stall d_is_index d_is_move d_stall_led d_stall_behind d_taken_out d_out_of d_stalls_behind d_moved d_l_deck d_l_pick d_l_divisor d_l_made d_l_added d_l_taken d_l_amount d_l_stall d_l_behind d_l_is_moved d_l_is_parted d_law d_Web_init d_Web_eq) : FnOk P w K mg base CX0 1 f_negated d_negated ["one"] (sp_negated K) := by
  refine T.F_negated.ok sc_negated (fun vs H Q E h => ?_) (fun cdv A outer s H vs Q E hr h => ?_)
  · obtain ⟨x, r, rfl, _⟩ := h
    rfl
  · obtain ⟨x, r, rfl, ⟨p1, rfl, h1⟩, q⟩ := h
    refine ⟨_, (pss_one (ps_ret (pe_tup (pa_cons (pe_un un_neg (pe_ix ix_tup (pv 0) pe_int (fun _ _ => rfl))) (pa_cons (pe_ix ix_tup (pv 0) pe_int (fun _ _ => rfl)) pa_nil))))), ?_⟩
    walk_at "r"
    intro p np
    exact q _ _ (same_upd np) (isF_new rfl rfl)
def sp_lessened (K : PySem.W.Frag) : Sp := sp_two K (· - ·) fun _ _ => True
theorem ok_lessened (T : Txt K mg f_is_integer f_is_row f_is_fraction f_is_some f_added f_negated f_lessened f_multiplied f_divided f_squared f_is_stall f_is_index f_is_move f_stall_led f_stall_behind f_taken_out f_out_of f_stalls_behind f_moved f_l_deck f_l_pick f_l_divisor f_l_made f_l_added f_l_taken f_l_amount f_l_stall f_l_behind f_l_is_moved f_l_is_parted f_law f_Web_init f_Web_eq c_Web d_is_integer d_is_row d_is_fraction d_is_some d_added d_negated d_lessened d_multiplied d_divided d_squared d_is_stall d_is_index d_is_move d_stall_led d_stall_behind d_taken_out d_out_of d_stalls_behind d_moved d_l_deck d_l_pick d_l_divisor d_l_made d_l_added d_l_taken d_l_amount d_l_stall d_l_behind d_l_is_moved d_l_is_parted d_law d_Web_init d_Web_eq) : FnOk P w K mg base CX0 2 f_lessened d_lessened ["one", "other"] (sp_lessened K) := by
  have G_negated : FnOk P w K mg base CX0 1 f_negated d_negated ["one"] (sp_negated K) := ok_negated T
  have G_added : FnOk P w K mg base CX0 1 f_added d_added ["one", "other"] (sp_added K) := ok_added T
  refine T.F_lessened.ok sc_lessened (fun vs H Q E h => ?_) (fun cdv A outer s H vs Q E hr h => ?_)
  · obtain ⟨x, y, r, s, rfl, _⟩ := h
    rfl
  · obtain ⟨x, y, r, s, rfl, h1, h2, b1, b2, -, q⟩ := h
    refine ⟨_, (pss_one (ps_ret (pe_call G_added (hr.mono (by decide)) (by rfl) T.g_added T.k_added T.b_added .nil pass0 (pa_cons (pv 0) (pa_cons (pe_call G_negated (hr.mono (by decide)) (by rfl) T.g_negated T.k_negated T.b_negated .nil pass0 (pa_cons (pv 1) pa_nil)) pa_nil))))), ?_⟩
    walk_at "r"
    refine ⟨_, _, rfl, h2, fun H1 v s1 hv => ?_⟩
    walk_at "r"
    refine ⟨_, _, _, _, rfl, h1.same s1, hv, b1, b2.neg, trivial, fun H2 u s2 hu => ?_⟩
    exact q _ _ (s1.trans s2) (by show IsF K H2 u (r - s); rw [Rat.sub_eq_add_neg]; exact hu)
def sp_divided (K : PySem.W.Frag) : Sp := sp_two K (· / ·) fun _ s => s ≠ 0
theorem ok_divided (T : Txt K mg f_is_integer f_is_row f_is_fraction f_is_some f_added f_negated f_lessened f_multiplied f_divided f_squared f_is_stall f_is_index f_is_move f_stall_led f_stall_behind f_taken_out f_out_of f_stalls_behind f_moved f_l_deck f_l_pick f_l_divisor f_l_made f_l_added f_l_taken f_l_amount f_l_stall f_l_behind f_l_is_moved f_l_is_parted f_law f_Web_init f_Web_eq c_Web d_is_integer d_is_row d_is_fraction d_is_some d_added d_negated d_lessened d_multiplied d_divided d_squared d_is_stall d_is_index d_is_move d_stall_led d_stall_behind d_taken_out d_out_of d_stalls_behind d_moved d_l_deck d_l_pick d_l_divisor d_l_made d_l_added d_l_taken d_l_amount d_l_stall d_l_behind d_l_is_moved d_l_is_parted d_law d_Web_init d_Web_eq) : FnOk P w K mg base CX0 2 f_divided d_divided ["one", "other"] (sp_divided K) := by
  have G_multiplied : FnOk P w K mg base CX0 1 f_multiplied d_multiplied ["one", "other"] (sp_multiplied K) := ok_multiplied T
  refine T.F_divided.ok sc_divided (fun vs H Q E h => ?_) (fun cdv A outer s H vs Q E hr h => ?_)
  · obtain ⟨x, y, r, s, rfl, _⟩ := h
    rfl
  · obtain ⟨x, y, r, s, rfl, ⟨p1, rfl, h1⟩, ⟨p2, rfl, h2⟩, b1, b2, hz, q⟩ := h
    obtain ⟨i1, i2⟩ := inv_num hz
    refine ⟨_, (pss_cons (ps_if (pt_cmpR op_lt (pe_ix ix_tup (pv 1) pe_int (fun _ _ => rfl)) pe_int (nomark _))
        (pss_one (ps_ret (pe_call G_multiplied (hr.mono (by decide)) (by rfl) T.g_multiplied T.k_multiplied T.b_multiplied .nil pass0 (pa_cons (pv 0) (pa_cons (pe_tup (pa_cons (pe_un un_neg (pe_ix ix_tup (pv 1) pe_int (fun _ _ => rfl))) (pa_cons (pe_un un_neg (pe_ix ix_tup (pv 1) pe_int (fun _ _ => rfl))) pa_nil))) pa_nil)))))
        pss_nil)
      (pss_one (ps_ret (pe_call G_multiplied (hr.mono (by decide)) (by rfl) T.g_multiplied T.k_multiplied T.b_multiplied .nil pass0 (pa_cons (pv 0) (pa_cons (pe_tup (pa_cons (pe_ix ix_tup (pv 1) pe_int (fun _ _ => rfl)) (pa_cons (pe_ix ix_tup (pv 1) pe_int (fun _ _ => rfl)) pa_nil))) pa_nil)))))), ?_⟩
    walk_at "r"
    walk_at "if"
    · rename_i hn
      rw [if_pos hn] at i1 i2
      walk_at "r"
      intro p np
      walk_at "r"
      refine ⟨_, _, r, s⁻¹, rfl, ⟨p1, rfl, h1.same (same_upd np)⟩, isF_new i1.symm i2.symm, b1, b2.inv hz, trivial, fun H2 u s2 hu => ?_⟩
      exact q _ _ ((same_upd np).trans s2) hu
    · rename_i hn
      rw [if_neg hn] at i1 i2
      walk_at "r"
      intro p np
      walk_at "r"
      refine ⟨_, _, r, s⁻¹, rfl, ⟨p1, rfl, h1.same (same_upd np)⟩, isF_new i1.symm i2.symm, b1, b2.inv hz, trivial, fun H2 u s2 hu => ?_⟩
      exact q _ _ ((same_upd np).trans s2) hu
end
end My
namespace My
open PySem PySem.Spec PyProof.Rows L2
variable {K : PySem.W.Frag}
section
variable {P : Program} {w : World} {K : PySem.W.Frag} {mg : Str → Option Value} {base : Heap} {f_is_integer f_is_row f_is_fraction f_is_some f_added f_negated f_lessened f_multiplied f_divided f_squared f_is_stall f_is_index f_is_move f_stall_led f_stall_behind f_taken_out f_out_of f_stalls_behind f_moved f_l_deck f_l_pick f_l_divisor f_l_made f_l_added f_l_taken f_l_amount f_l_stall f_l_behind f_l_is_moved f_l_is_parted f_law f_Web_init f_Web_eq c_Web : Addr} {d_is_integer d_is_row d_is_fraction d_is_some d_added d_negated d_lessened d_multiplied d_divided d_squared d_is_stall d_is_index d_is_move d_stall_led d_stall_behind d_taken_out d_out_of d_stalls_behind d_moved d_l_deck d_l_pick d_l_divisor d_l_made d_l_added d_l_taken d_l_amount d_l_stall d_l_behind d_l_is_moved d_l_is_parted d_law d_Web_init d_Web_eq : FuncData}
def sp_is_integer : Sp := fun vs H Q _ => ∃ i : Int, vs = [.int i] ∧ Q (.bl true) H
theorem ok_is_integer (T : Txt K mg f_is_integer f_is_row f_is_fraction f_is_some f_added f_negated f_lessened f_multiplied f_divided f_squared f_is_stall f_is_index f_is_move f_stall_led f_stall_behind f_taken_out f_out_of f_stalls_behind f_moved f_l_deck f_l_pick f_l_divisor f_l_made f_l_added f_l_taken f_l_amount f_l_stall f_l_behind f_l_is_moved f_l_is_parted f_law f_Web_init f_Web_eq c_Web d_is_integer d_is_row d_is_fraction d_is_some d_added d_negated d_lessened d_multiplied d_divided d_squared d_is_stall d_is_index d_is_move d_stall_led d_stall_behind d_taken_out d_out_of d_stalls_behind d_moved d_l_deck d_l_pick d_l_divisor d_l_made d_l_added d_l_taken d_l_amount d_l_stall d_l_behind d_l_is_moved d_l_is_parted d_law d_Web_init d_Web_eq) : FnOk P w K mg base CX0 1 f_is_integer d_is_integer ["thing"] sp_is_integer := by
  refine T.F_is_integer.ok sc_is_integer (fun vs H Q E h => ?_) (fun cdv A outer s H vs Q E hr h => ?_)
  · obtain ⟨i, rfl, _⟩ := h
    rfl
  · obtain ⟨i, rfl, q⟩ := h
    refine ⟨_, (pss_one (ps_ret (pe_and (pe_callB call_isi (by rfl) T.z_isinstance (by decide +kernel) (pa_cons (pv 0) (pa_cons (pe_bltn (v := .ty "int") (u := .type "int") (by rfl) T.z_int (by decide +kernel) rfl) pa_nil))) (pe_one (pe_not (pe_callB call_isi (by rfl) T.z_isinstance (by decide +kernel) (pa_cons (pv 0) (pa_cons (pe_bltn (v := .ty "bool") (u := .type "bool") (by rfl) T.z_bool (by decide +kernel) rfl) pa_nil)))))))), ?_⟩
    walk_at "r"
    exact q
def sp_is_fraction (K : PySem.W.Frag) : Sp := fun vs H Q _ => ∃ v r, vs = [v] ∧ IsF K H v r ∧ Q (.bl true) H
theorem ok_is_fraction (T : Txt K mg f_is_integer f_is_row f_is_fraction f_is_some f_added f_negated f_lessened f_multiplied f_divided f_squared f_is_stall f_is_index f_is_move f_stall_led f_stall_behind f_taken_out f_out_of f_stalls_behind f_moved f_l_deck f_l_pick f_l_divisor f_l_made f_l_added f_l_taken f_l_amount f_l_stall f_l_behind f_l_is_moved f_l_is_parted f_law f_Web_init f_Web_eq c_Web d_is_integer d_is_row d_is_fraction d_is_some d_added d_negated d_lessened d_multiplied d_divided d_squared d_is_stall d_is_index d_is_move d_stall_led d_stall_behind d_taken_out d_out_of d_stalls_behind d_moved d_l_deck d_l_pick d_l_divisor d_l_made d_l_added d_l_taken d_l_amount d_l_stall d_l_behind d_l_is_moved d_l_is_parted d_law d_Web_init d_Web_eq) : FnOk P w K mg base CX0 2 f_is_fraction d_is_fraction ["thing"] (sp_is_fraction K) := by
  have G_is_integer : FnOk P w K mg base CX0 1 f_is_integer d_is_integer ["thing"] sp_is_integer := ok_is_integer T
  refine T.F_is_fraction.ok sc_is_fraction (fun vs H Q E h => ?_) (fun cdv A outer s H vs Q E hr h => ?_)
  · obtain ⟨v, r, rfl, _⟩ := h
    rfl
  · obtain ⟨v, r, rfl, ⟨p, rfl, hp⟩, q⟩ := h
    refine ⟨_, (pss_cons (ps_if (PW.pt (pw_or (pt_not (pt_val (pe_callB call_isi (by rfl) T.z_isinstance (by decide +kernel) (pa_cons (pv 0) (pa_cons (pe_bltn (v := .ty "tuple") (u := .type "tuple") (by rfl) T.z_tuple (by decide +kernel) rfl) pa_nil))))) (pw_or1 (pt_cmpR op_ne (pe_callB call_lenN (by rfl) T.z_len (by decide +kernel) (pa_cons (pv 0) pa_nil)) pe_int (nomark _)))))
        (pss_one (ps_ret pe_bl))
        pss_nil)
      (pss_cons (ps_asg (pv 0) (pg_tup rfl (pgs_cons (pg_name (i := 1) sc_is_fraction.nd rfl (by first | exact Or.inl rfl | exact Or.inr rfl)) (pgs_cons (pg_name (i := 2) sc_is_fraction.nd rfl (by first | exact Or.inl rfl | exact Or.inr rfl)) pgs_nil))))
      (pss_cons (ps_if (PW.pt (pw_or (pt_not (pt_val (pe_call G_is_integer (hr.mono (by decide)) (by rfl) T.g_is_integer T.k_is_integer T.b_is_integer .nil pass0 (pa_cons (pv 1) pa_nil)))) (pw_or1 (pt_not (pt_val (pe_call G_is_integer (hr.mono (by decide)) (by rfl) T.g_is_integer T.k_is_integer T.b_is_integer .nil pass0 (pa_cons (pv 2) pa_nil)))))))
        (pss_one (ps_ret pe_bl))
        pss_nil)
      (pss_one (ps_ret (pe_and (pe_cmpR op_ge (pv 2) pe_int (nomark _)) (pe_one (pe_cmpR op_eq (pe_callBfun cr_gcd (by rfl) T.m_gcd (pa_cons (pv 1) (pa_cons (pv 2) pa_nil))) pe_int (nomark _))))))))), ?_⟩
    walk_at "r"
    refine ⟨_, rfl, ?_⟩
    walk_at "r"
    refine ⟨_, rfl, ?_⟩
    walk_at "r"
    have h1 := den_pos r
    have h2 := gcd_den r
    walk_at "r"
    rw [Int.natAbs_natCast, h2]
    exact q
end
end My
namespace My
open PySem PySem.Spec PyProof.Rows L2
variable {K : PySem.W.Frag}
theorem num_pos' {r : Rat} (h : 0 < r) : 0 < r.num := by
  rw [Rat.lt_iff] at h
  simpa using h
theorem sq_num (s : Rat) : (s * s).num = s.num * s.num ∧ (s * s).den = s.den * s.den := by
  obtain ⟨h1, h2⟩ := mul_form s s 1 1 (gcd_den s).symm (gcd_den s).symm
  rw [h1, h2]
  simp
section
variable {P : Program} {w : World} {K : PySem.W.Frag} {mg : Str → Option Value} {base : Heap} {f_is_integer f_is_row f_is_fraction f_is_some f_added f_negated f_lessened f_multiplied f_divided f_squared f_is_stall f_is_index f_is_move f_stall_led f_stall_behind f_taken_out f_out_of f_stalls_behind f_moved f_l_deck f_l_pick f_l_divisor f_l_made f_l_added f_l_taken f_l_amount f_l_stall f_l_behind f_l_is_moved f_l_is_parted f_law f_Web_init f_Web_eq c_Web : Addr} {d_is_integer d_is_row d_is_fraction d_is_some d_added d_negated d_lessened d_multiplied d_divided d_squared d_is_stall d_is_index d_is_move d_stall_led d_stall_behind d_taken_out d_out_of d_stalls_behind d_moved d_l_deck d_l_pick d_l_divisor d_l_made d_l_added d_l_taken d_l_amount d_l_stall d_l_behind d_l_is_moved d_l_is_parted d_law d_Web_init d_Web_eq : FuncData}
def sp_is_some (K : PySem.W.Frag) : Sp := fun vs H Q _ => ∃ v r, vs = [v] ∧ IsF K H v r ∧ 0 < r ∧ Q (.bl true) H
theorem ok_is_some (T : Txt K mg f_is_integer f_is_row f_is_fraction f_is_some f_added f_negated f_lessened f_multiplied f_divided f_squared f_is_stall f_is_index f_is_move f_stall_led f_stall_behind f_taken_out f_out_of f_stalls_behind f_moved f_l_deck f_l_pick f_l_divisor f_l_made f_l_added f_l_taken f_l_amount f_l_stall f_l_behind f_l_is_moved f_l_is_parted f_law f_Web_init f_Web_eq c_Web d_is_integer d_is_row d_is_fraction d_is_some d_added d_negated d_lessened d_multiplied d_divided d_squared d_is_stall d_is_index d_is_move d_stall_led d_stall_behind d_taken_out d_out_of d_stalls_behind d_moved d_l_deck d_l_pick d_l_divisor d_l_made d_l_added d_l_taken d_l_amount d_l_stall d_l_behind d_l_is_moved d_l_is_parted d_law d_Web_init d_Web_eq) : FnOk P w K mg base CX0 3 f_is_some d_is_some ["thing"] (sp_is_some K) := by
  have G_is_fraction : FnOk P w K mg base CX0 2 f_is_fraction d_is_fraction ["thing"] (sp_is_fraction K) := ok_is_fraction T
  refine T.F_is_some.ok sc_is_some (fun vs H Q E h => ?_) (fun cdv A outer s H vs Q E hr h => ?_)
  · obtain ⟨v, r, rfl, _⟩ := h
    rfl
  · obtain ⟨v, r, rfl, h, r0, q⟩ := h
    obtain ⟨p, rfl, hp⟩ := id h
    have hn := num_pos' r0
    refine ⟨_, (pss_one (ps_ret (pe_and (pe_call G_is_fraction (hr.mono (by decide)) (by rfl) T.g_is_fraction T.k_is_fraction T.b_is_fraction .nil pass0 (pa_cons (pv 0) pa_nil)) (pe_one (pe_cmpR op_gt (pe_ix ix_tup (pv 0) pe_int (fun _ _ => rfl)) pe_int (nomark _)))))), ?_⟩
    walk_at "r"
    refine ⟨_, _, rfl, h, ?_⟩
    walk_at "r"
    rw [decide_eq_true hn]
    exact q
def sp_squared (K : PySem.W.Frag) : Sp := fun vs H Q _ => ∃ v r, vs = [v] ∧ IsF K H v r ∧ Bd 4000 r ∧ ∀ H' u, Same H H' → IsF K H' u (r * r) → Q u H'
theorem ok_squared (T : Txt K mg f_is_integer f_is_row f_is_fraction f_is_some f_added f_negated f_lessened f_multiplied f_divided f_squared f_is_stall f_is_index f_is_move f_stall_led f_stall_behind f_taken_out f_out_of f_stalls_behind f_moved f_l_deck f_l_pick f_l_divisor f_l_made f_l_added f_l_taken f_l_amount f_l_stall f_l_behind f_l_is_moved f_l_is_parted f_law f_Web_init f_Web_eq c_Web d_is_integer d_is_row d_is_fraction d_is_some d_added d_negated d_lessened d_multiplied d_divided d_squared d_is_stall d_is_index d_is_move d_stall_led d_stall_behind d_taken_out d_out_of d_stalls_behind d_moved d_l_deck d_l_pick d_l_divisor d_l_made d_l_added d_l_taken d_l_amount d_l_stall d_l_behind d_l_is_moved d_l_is_parted d_law d_Web_init d_Web_eq) : FnOk P w K mg base CX0 1 f_squared d_squared ["one"] (sp_squared K) := by
  refine T.F_squared.ok sc_squared (fun vs H Q E h => ?_) (fun cdv A outer s H vs Q E hr h => ?_)
  · obtain ⟨v, r, rfl, _⟩ := h
    rfl
  · obtain ⟨v, r, rfl, ⟨p, rfl, hp⟩, b, q⟩ := h
    obtain ⟨e1, e2⟩ := sq_num r
    refine ⟨_, (pss_one (ps_ret (pe_tup (pa_cons (pe_op op_mulX (pe_ix ix_tup (pv 0) pe_int (fun _ _ => rfl)) (pe_ix ix_tup (pv 0) pe_int (fun _ _ => rfl))) (pa_cons (pe_op op_mulX (pe_ix ix_tup (pv 0) pe_int (fun _ _ => rfl)) (pe_ix ix_tup (pv 0) pe_int (fun _ _ => rfl))) pa_nil))))), ?_⟩
    walk_at "r"
    · intro p2 n2
      exact q _ _ (same_upd n2) (isF_new e1 (by rw [e2, Int.natCast_mul]))
    · exact cmx (by rw [Int.natAbs_natCast]; exact p46 b.2) (by rw [Int.natAbs_natCast]; exact p46 b.2)
    · exact cmx (p46 b.1) (p46 b.1)
def sp_is_stall (K : PySem.W.Frag) : Sp := fun vs H Q _ => ∃ (n : Nat) (x : V) (s : Stl), vs = [.int (n : Nat), x] ∧ IsSt K H x s ∧ OkSt n s ∧ BdSt 4000 s ∧ ∀ H', Same H H' → Q (.bl true) H'
theorem ok_is_stall (T : Txt K mg f_is_integer f_is_row f_is_fraction f_is_some f_added f_negated f_lessened f_multiplied f_divided f_squared f_is_stall f_is_index f_is_move f_stall_led f_stall_behind f_taken_out f_out_of f_stalls_behind f_moved f_l_deck f_l_pick f_l_divisor f_l_made f_l_added f_l_taken f_l_amount f_l_stall f_l_behind f_l_is_moved f_l_is_parted f_law f_Web_init f_Web_eq c_Web d_is_integer d_is_row d_is_fraction d_is_some d_added d_negated d_lessened d_multiplied d_divided d_squared d_is_stall d_is_index d_is_move d_stall_led d_stall_behind d_taken_out d_out_of d_stalls_behind d_moved d_l_deck d_l_pick d_l_divisor d_l_made d_l_added d_l_taken d_l_amount d_l_stall d_l_behind d_l_is_moved d_l_is_parted d_law d_Web_init d_Web_eq) : FnOk P w K mg base CX0 4 f_is_stall d_is_stall ["wares", "thing"] (sp_is_stall K) := by
  have G_is_integer : FnOk P w K mg base CX0 1 f_is_integer d_is_integer ["thing"] sp_is_integer := ok_is_integer T
  have G_is_some : FnOk P w K mg base CX0 3 f_is_some d_is_some ["thing"] (sp_is_some K) := ok_is_some T
  have G_multiplied : FnOk P w K mg base CX0 1 f_multiplied d_multiplied ["one", "other"] (sp_multiplied K) := ok_multiplied T
  have G_squared : FnOk P w K mg base CX0 1 f_squared d_squared ["one"] (sp_squared K) := ok_squared T
  refine T.F_is_stall.ok sc_is_stall (fun vs H Q E h => ?_) (fun cdv A outer s H vs Q E hr h => ?_)
  · obtain ⟨n, x, s, rfl, _⟩ := h
    rfl
  · obtain ⟨n, x, s, rfl, ⟨p, va, vb, vr, rfl, hp, ha, hb, hr'⟩, ok, bd, q⟩ := h
    have hu := ok.u
    have hv := ok.v
    have hne := ok.ne
    refine ⟨_, (pss_cons (ps_if (PW.pt (pw_or (pt_not (pt_val (pe_callB call_isi (by rfl) T.z_isinstance (by decide +kernel) (pa_cons (pv 1) (pa_cons (pe_bltn (v := .ty "tuple") (u := .type "tuple") (by rfl) T.z_tuple (by decide +kernel) rfl) pa_nil))))) (pw_or1 (pt_cmpR op_ne (pe_callB call_lenN (by rfl) T.z_len (by decide +kernel) (pa_cons (pv 1) pa_nil)) pe_int (nomark _)))))
        (pss_one (ps_ret pe_bl))
        pss_nil)
      (pss_cons (ps_asg (pv 1) (pg_tup rfl (pgs_cons (pg_name (i := 2) sc_is_stall.nd rfl (by first | exact Or.inl rfl | exact Or.inr rfl)) (pgs_cons (pg_name (i := 3) sc_is_stall.nd rfl (by first | exact Or.inl rfl | exact Or.inr rfl)) (pgs_cons (pg_name (i := 4) sc_is_stall.nd rfl (by first | exact Or.inl rfl | exact Or.inr rfl)) (pgs_cons (pg_name (i := 5) sc_is_stall.nd rfl (by first | exact Or.inl rfl | exact Or.inr rfl)) (pgs_cons (pg_name (i := 6) sc_is_stall.nd rfl (by first | exact Or.inl rfl | exact Or.inr rfl)) pgs_nil)))))))
      (pss_cons (ps_for PassesOwn.never rfl (pi_tup (pe_tup (pa_cons (pv 2) (pa_cons (pv 3) pa_nil)))) (pg_name (i := 7) sc_is_stall.nd rfl (by first | exact Or.inl rfl | exact Or.inr rfl))
        (pss_one (ps_if (PW.pt (pw_or (pt_not (pt_val (pe_call G_is_integer (hr.mono (by decide)) (by rfl) T.g_is_integer T.k_is_integer T.b_is_integer .nil pass0 (pa_cons (pv 7) pa_nil)))) (pw_or1 (pt_not (pt_chain op_le op_lt pe_int (pv 7) (pv 0))))))
            (pss_one (ps_ret pe_bl))
            pss_nil)))
      (pss_cons (ps_if (PW.pt (pw_or (pt_cmpR op_eq (pv 2) (pv 3) (nomark _)) (pw_or1 (pt_not (PW.pt (pw_and (pt_val (pe_call G_is_some (hr.mono (by decide)) (by rfl) T.g_is_some T.k_is_some T.b_is_some .nil pass0 (pa_cons (pv 4) pa_nil))) (pw_and (pt_val (pe_call G_is_some (hr.mono (by decide)) (by rfl) T.g_is_some T.k_is_some T.b_is_some .nil pass0 (pa_cons (pv 5) pa_nil))) (pw_and1 (pt_val (pe_call G_is_some (hr.mono (by decide)) (by rfl) T.g_is_some T.k_is_some T.b_is_some .nil pass0 (pa_cons (pv 6) pa_nil)))))))))))
        (pss_one (ps_ret pe_bl))
        pss_nil)
      (pss_one (ps_ret (pe_cmpR (op_eqD hr.units) (pe_call G_multiplied (hr.mono (by decide)) (by rfl) T.g_multiplied T.k_multiplied T.b_multiplied .nil pass0 (pa_cons (pv 4) (pa_cons (pv 5) pa_nil))) (pe_call G_squared (hr.mono (by decide)) (by rfl) T.g_squared T.k_squared T.b_squared .nil pass0 (pa_cons (pv 6) pa_nil)) (nomark _)))))))), ?_⟩
    walk_at "r"
    intro t nt
    have sm := same_upd (o := .tup [V.int (s.u : Nat), .int (s.v : Nat)]) nt
    have ht : upd H t (.tup [V.int (s.u : Nat), .int (s.v : Nat)]) t = some (.tup [V.int (s.u : Nat), .int (s.v : Nat)]) := upd_same
    generalize upd H t (.tup [V.int (s.u : Nat), .int (s.v : Nat)]) = H1 at *
    have ha := ha.same sm
    have hb := hb.same sm
    have hr' := hr'.same sm
    refine ⟨_, rfl, ⟨_, .of ht⟩, ?_⟩
    refine for_tup (K := K) (a := t) (xs := [V.int (s.u : Nat), .int (s.v : Nat)]) (fun i σ H' => ∃ t7, σ = [some (.int (n : Nat)), some (.ref p), some (.int (s.u : Nat)), some (.int (s.v : Nat)), some va, some vb, some vr, t7] ∧ H' = H1) ⟨_, rfl, rfl⟩ ?_ ?_ ?_
    · rintro i σ H' _ ⟨t7, rfl, rfl⟩
      exact .of ht
    · rintro i z σ H' hz ⟨t7, rfl, rfl⟩
      obtain ⟨k, rfl, hk⟩ : ∃ k : Nat, z = .int (k : Nat) ∧ k < n := by
        match i, hz with
        | 0, hz => exact ⟨_, (Option.some.inj hz).symm, hu⟩
        | 1, hz => exact ⟨_, (Option.some.inj hz).symm, hv⟩
      walk_at "r"
      refine ⟨_, rfl, ?_⟩
      walk_at "r"
      exact rfl
    · rintro σ H' ⟨t7, rfl, rfl⟩
      walk_at "r"
      refine ⟨_, _, rfl, ha, ok.a, ?_⟩
      walk_at "r"
      refine ⟨_, _, rfl, hb, ok.b, ?_⟩
      walk_at "r"
      refine ⟨_, _, rfl, hr', ok.r, ?_⟩
      walk_at "r"
      refine ⟨_, _, _, _, rfl, ha, hb, bd.a, bd.b, trivial, fun H2 x1 s1 h1 => ?_⟩
      walk_at "r"
      refine ⟨_, _, rfl, hr'.same s1, bd.r, fun H3 x2 s2 h2 => ?_⟩
      walk_at "r"
      refine eqF (h1.same s2) h2 ?_
      rw [decide_eq_true ok.e]
      exact q _ ((sm.trans s1).trans s2)
def sp_is_row : Sp := fun vs H Q _ => ∃ L xs, vs = [.ref L] ∧ (H L = some (.lst xs) ∨ H L = some (.tup xs)) ∧ ∀ H', Same H H' → Q (.bl true) H'
theorem ok_is_row (T : Txt K mg f_is_integer f_is_row f_is_fraction f_is_some f_added f_negated f_lessened f_multiplied f_divided f_squared f_is_stall f_is_index f_is_move f_stall_led f_stall_behind f_taken_out f_out_of f_stalls_behind f_moved f_l_deck f_l_pick f_l_divisor f_l_made f_l_added f_l_taken f_l_amount f_l_stall f_l_behind f_l_is_moved f_l_is_parted f_law f_Web_init f_Web_eq c_Web d_is_integer d_is_row d_is_fraction d_is_some d_added d_negated d_lessened d_multiplied d_divided d_squared d_is_stall d_is_index d_is_move d_stall_led d_stall_behind d_taken_out d_out_of d_stalls_behind d_moved d_l_deck d_l_pick d_l_divisor d_l_made d_l_added d_l_taken d_l_amount d_l_stall d_l_behind d_l_is_moved d_l_is_parted d_law d_Web_init d_Web_eq) : FnOk P w K mg base CX0 1 f_is_row d_is_row ["thing"] sp_is_row := by
  refine T.F_is_row.ok sc_is_row (fun vs H Q E h => ?_) (fun cdv A outer s H vs Q E hr h => ?_)
  · obtain ⟨L, xs, rfl, _⟩ := h
    rfl
  · obtain ⟨L, xs, rfl, h, q⟩ := h
    refine ⟨_, (pss_one (ps_ret (pe_callB call_isiT (by rfl) T.z_isinstance (by decide +kernel) (pa_cons (pv 0) (pa_cons (pe_tup (pa_cons (pe_bltn (v := .ty "list") (u := .type "list") (by rfl) T.z_list (by decide +kernel) rfl) (pa_cons (pe_bltn (v := .ty "tuple") (u := .type "tuple") (by rfl) T.z_tuple (by decide +kernel) rfl) pa_nil))) pa_nil))))), ?_⟩
    walk_at "r"
    intro p np
    walk_at "r"
    rcases h with h | h
    · refine ⟨_, _, _, _, _, true, rfl, upd_same, .cons (.ty _) (.cons (.ty _) .nil), .base (.lst (same_upd np _ _ h)), kitAny_cons (b := true) (kit_ty (by decide +kernel)) (fun z => Bool.noConfusion z) (fun _ => rfl), ?_⟩
      exact q _ (same_upd np)
    · refine ⟨_, _, _, _, _, true, rfl, upd_same, .cons (.ty _) (.cons (.ty _) .nil), .base (.tup (same_upd np _ _ h)), kitAny_cons (b := false) (kit_ty (by decide +kernel)) (fun _ => kitAny_cons (b := true) (kit_ty (by decide +kernel)) (fun z => Bool.noConfusion z) (fun _ => rfl)) (fun z => Bool.noConfusion z), ?_⟩
      exact q _ (same_upd np)
end
end My
namespace My
open PySem PySem.Spec PyProof.Rows L2
variable {K : PySem.W.Frag}
section
variable {P : Program} {w : World} {K : PySem.W.Frag} {mg : Str → Option Value} {base : Heap} {f_is_integer f_is_row f_is_fraction f_is_some f_added f_negated f_lessened f_multiplied f_divided f_squared f_is_stall f_is_index f_is_move f_stall_led f_stall_behind f_taken_out f_out_of f_stalls_behind f_moved f_l_deck f_l_pick f_l_divisor f_l_made f_l_added f_l_taken f_l_amount f_l_stall f_l_behind f_l_is_moved f_l_is_parted f_law f_Web_init f_Web_eq c_Web : Addr} {d_is_integer d_is_row d_is_fraction d_is_some d_added d_negated d_lessened d_multiplied d_divided d_squared d_is_stall d_is_index d_is_move d_stall_led d_stall_behind d_taken_out d_out_of d_stalls_behind d_moved d_l_deck d_l_pick d_l_divisor d_l_made d_l_added d_l_taken d_l_amount d_l_stall d_l_behind d_l_is_moved d_l_is_parted d_law d_Web_init d_Web_eq : FuncData}
/-- what Web(n, stalls) makes of right stalls -/
def sp_web (K : PySem.W.Frag) (C : Addr) : Sp := fun vs H Q _ => ∃ (p dx L : Addr) (n : Nat) (xs : List V) (ss : List Stl), vs = [.ref p, .int (n : Nat), .ref L] ∧ H p = some (.ins C dx []) ∧ (H L = some (.lst xs) ∨ H L = some (.tup xs)) ∧ 1 ≤ n ∧ n ≤ 8 ∧ xs.length ≤ 16 ∧
  Sts K H xs ss ∧ (∀ s ∈ ss, OkSt n s ∧ BdSt 4000 s) ∧ ∀ H', IsWeb K C H' (.ref p) n ss → (∀ b o, H b = some o → b ≠ p → H' b = some o) → Q .non H'
theorem ok_Web_init (T : Txt K mg f_is_integer f_is_row f_is_fraction f_is_some f_added f_negated f_lessened f_multiplied f_divided f_squared f_is_stall f_is_index f_is_move f_stall_led f_stall_behind f_taken_out f_out_of f_stalls_behind f_moved f_l_deck f_l_pick f_l_divisor f_l_made f_l_added f_l_taken f_l_amount f_l_stall f_l_behind f_l_is_moved f_l_is_parted f_law f_Web_init f_Web_eq c_Web d_is_integer d_is_row d_is_fraction d_is_some d_added d_negated d_lessened d_multiplied d_divided d_squared d_is_stall d_is_index d_is_move d_stall_led d_stall_behind d_taken_out d_out_of d_stalls_behind d_moved d_l_deck d_l_pick d_l_divisor d_l_made d_l_added d_l_taken d_l_amount d_l_stall d_l_behind d_l_is_moved d_l_is_parted d_law d_Web_init d_Web_eq) : FnOk P w K mg base CX0 5 f_Web_init d_Web_init ["self", "wares", "stalls"] (sp_web K c_Web) := by
  have G_is_integer : FnOk P w K mg base CX0 1 f_is_integer d_is_integer ["thing"] sp_is_integer := ok_is_integer T
  have G_is_row : FnOk P w K mg base CX0 1 f_is_row d_is_row ["thing"] sp_is_row := ok_is_row T
  have G_is_stall : FnOk P w K mg base CX0 4 f_is_stall d_is_stall ["wares", "thing"] (sp_is_stall K) := ok_is_stall T
  refine T.F_Web_init.ok sc_Web_init (fun vs H Q E h => ?_) (fun cdv A outer s H vs Q E hr h => ?_)
  · obtain ⟨p, dx, L, n, xs, ss, rfl, _⟩ := h
    rfl
  · obtain ⟨p, dx, L, n, xs, ss, rfl, hp, hL, hn1, hn8, hlen, hss, hok, q⟩ := h
    refine ⟨_, (pss_cons (ps_if (PW.pt (pw_or (pt_not (pt_val (pe_call G_is_integer (hr.mono (by decide)) (by rfl) T.g_is_integer T.k_is_integer T.b_is_integer .nil pass0 (pa_cons (pv 1) pa_nil)))) (pw_or1 (pt_not (pt_chain op_le op_le pe_int (pv 1) (C8.pe_gc (by rfl) T.v_MOST_WARES))))))
        (pss_one ps_never)
        pss_nil)
      (pss_cons (ps_if (PW.pt (pw_or (pt_not (pt_val (pe_call G_is_row (hr.mono (by decide)) (by rfl) T.g_is_row T.k_is_row T.b_is_row .nil pass0 (pa_cons (pv 2) pa_nil)))) (pw_or1 (pt_cmpR op_gt (pe_callB call_lenN (by rfl) T.z_len (by decide +kernel) (pa_cons (pv 2) pa_nil)) (C8.pe_gc (by rfl) T.v_MOST_STALLS) (nomark _)))))
        (pss_one ps_never)
        pss_nil)
      (pss_cons (ps_for PassesOwn.never rfl (pi_enumX (by rfl) T.z_enumerate (pa_cons (pv 2) pa_nil)) (pg_tup rfl (pgs_cons (pg_name (i := 3) sc_Web_init.nd rfl (by first | exact Or.inl rfl | exact Or.inr rfl)) (pgs_cons (pg_name (i := 4) sc_Web_init.nd rfl (by first | exact Or.inl rfl | exact Or.inr rfl)) pgs_nil)))
        (pss_one (ps_if (pt_not (pt_val (pe_call G_is_stall (hr.mono (by decide)) (by rfl) T.g_is_stall T.k_is_stall T.b_is_stall .nil pass0 (pa_cons (pv 1) (pa_cons (pv 4) pa_nil)))))
            (pss_one ps_never)
            pss_nil)))
      (pss_cons (ps_fld (pv 0) (pv 1) rfl)
      (pss_one (ps_fld (pv 0) (pe_callTy call_tuple_of (by rfl) T.z_tuple (by decide +kernel) (pa_cons (pv 2) pa_nil)) rfl)))))), ?_⟩
    walk_at "r"
    refine ⟨_, rfl, ?_⟩
    walk_at "r"
    refine ⟨_, _, rfl, hL, fun H1 s1 => ?_⟩
    have hL1 : H1 L = some (.lst xs) ∨ H1 L = some (.tup xs) := hL.imp (fun h => s1 _ _ h) fun h => s1 _ _ h
    have hSq : ∀ {H2 : Hp}, Same H1 H2 → SqL K H2 L xs ∨ SqT K H2 L xs := fun f => hL1.imp (fun h => .of (f _ _ h)) fun h => .of (f _ _ h)
    walk_at "r"
    refine ⟨L, xs, rfl, hSq (Same.refl _), ?_⟩
    walk_at "r"
    refine ⟨L, xs, rfl, ?_⟩
    have nL : L ≠ p := fun z => by
      rw [z, hp] at hL
      rcases hL with z | z <;> cases z
    rcases hL1 with h | h
    · refine .inl ⟨.of h, ?_⟩
      refine for_enum (K := K) (a := L) (xs := xs) (fun i σ H' => ∃ t3 t4, σ = [some (.ref p), some (.int (n : Nat)), some (.ref L), t3, t4] ∧ Same H1 H') ⟨_, _, rfl, Same.refl _⟩ ?_ ?_ ?_
      · rintro i σ H' _ ⟨t3, t4, rfl, s'⟩
        exact .of (s' _ _ h)
      · rintro i x T2 σ H' hx ⟨t3, t4, rfl, s'⟩ nT
        obtain ⟨s0, hs0, hst⟩ := hss.at hx
        have sm := same_upd (o := .tup [.int (i : Nat), x]) nT
        obtain ⟨ok0, bd0⟩ := hok _ (List.mem_of_getElem? hs0)
        walk_at "r"
        refine ⟨n, x, s0, rfl, hst.same ((s1.trans s').trans sm), ok0, bd0, fun H3 s3 => ?_⟩
        walk_at "r"
        exact ⟨_, _, rfl, (s'.trans sm).trans s3⟩
      · rintro σ H2 ⟨t3, t4, rfl, s'⟩
        have hp2 := s' _ _ (s1 _ _ hp)
        have hL2 := s' _ _ h
        have k2 := s1.trans s'
        walk_at "r"
        refine ⟨_, _, _, _, rfl, hp2, T.w_Web.it.cl, T.n_Web_wares, (by decide), ?_⟩
        walk_at "r"
        refine ⟨_, _, rfl, .inl ⟨.of ((upd_ne nL).trans hL2), fun l nl => ?_⟩⟩
        have hlp : l ≠ p := fun z => by
          rw [z, upd_same] at nl
          cases nl
        have nl2 : H2 l = none := by
          rw [upd_ne hlp] at nl
          exact nl
        walk_at "r"
        refine ⟨_, _, _, _, rfl, (upd_ne (Ne.symm hlp)).trans upd_same, T.w_Web.it.cl, T.n_Web_stalls, (by show 1 < 1000; decide), ?_⟩
        have keep : ∀ b o, H b = some o → b ≠ p → upd (upd (upd H2 p (.ins c_Web dx (putF "wares" (.int (n : Nat)) []))) l (.tup xs)) p (.ins c_Web dx (putF "stalls" (.ref l) (putF "wares" (.int (n : Nat)) []))) b = some o := fun b o hb hbp => by
          have hbl : b ≠ l := fun z => by
            rw [← z, k2 _ _ hb] at nl2
            cases nl2
          rw [upd_ne hbp, upd_ne hbl, upd_ne hbp]
          exact k2 _ _ hb
        refine q _ ⟨p, dx, l, xs, rfl, by rw [upd_same, wF_new], (upd_ne hlp).trans upd_same, hss.ts fun b ys hb => keep b _ hb ?_⟩ keep
        intro z
        rw [z, hp] at hb
        cases hb
    · refine .inr ⟨.of h, ?_⟩
      refine for_enumT (K := K) (a := L) (xs := xs) (fun i σ H' => ∃ t3 t4, σ = [some (.ref p), some (.int (n : Nat)), some (.ref L), t3, t4] ∧ Same H1 H') ⟨_, _, rfl, Same.refl _⟩ ?_ ?_ ?_
      · rintro i σ H' _ ⟨t3, t4, rfl, s'⟩
        exact .of (s' _ _ h)
      · rintro i x T2 σ H' hx ⟨t3, t4, rfl, s'⟩ nT
        obtain ⟨s0, hs0, hst⟩ := hss.at hx
        have sm := same_upd (o := .tup [.int (i : Nat), x]) nT
        obtain ⟨ok0, bd0⟩ := hok _ (List.mem_of_getElem? hs0)
        walk_at "r"
        refine ⟨n, x, s0, rfl, hst.same ((s1.trans s').trans sm), ok0, bd0, fun H3 s3 => ?_⟩
        walk_at "r"
        exact ⟨_, _, rfl, (s'.trans sm).trans s3⟩
      · rintro σ H2 ⟨t3, t4, rfl, s'⟩
        have hp2 := s' _ _ (s1 _ _ hp)
        have hL2 := s' _ _ h
        have k2 := s1.trans s'
        walk_at "r"
        refine ⟨_, _, _, _, rfl, hp2, T.w_Web.it.cl, T.n_Web_wares, (by decide), ?_⟩
        walk_at "r"
        refine ⟨_, _, rfl, .inr ⟨.of ((upd_ne nL).trans hL2), ?_⟩⟩
        walk_at "r"
        refine ⟨_, _, _, _, rfl, upd_same, T.w_Web.it.cl, T.n_Web_stalls, (by show 1 < 1000; decide), ?_⟩
        have keep : ∀ b o, H b = some o → b ≠ p → upd (upd H2 p (.ins c_Web dx (putF "wares" (.int (n : Nat)) []))) p (.ins c_Web dx (putF "stalls" (.ref L) (putF "wares" (.int (n : Nat)) []))) b = some o := fun b o hb hbp => by
          rw [upd_ne hbp, upd_ne hbp]
          exact k2 _ _ hb
        refine q _ ⟨p, dx, L, xs, rfl, by rw [upd_same, wF_new], (upd_ne nL).trans ((upd_ne nL).trans hL2), hss.ts fun b ys hb => keep b _ hb ?_⟩ keep
        intro z
        rw [z, hp] at hb
        cases hb
end
end My
namespace My
open PySem PySem.Spec PyProof.Rows L2
variable {K : PySem.W.Frag}
theorem sq_pos {r : Rat} (h : 0 < r) : 0 < r * r := Rat.mul_pos h h
theorem ne_of_pos {r : Rat} (h : 0 < r) : r ≠ 0 := fun z => by
  rw [z] at h
  exact absurd h (by decide)
section
variable {P : Program} {w : World} {K : PySem.W.Frag} {mg : Str → Option Value} {base : Heap} {f_is_integer f_is_row f_is_fraction f_is_some f_added f_negated f_lessened f_multiplied f_divided f_squared f_is_stall f_is_index f_is_move f_stall_led f_stall_behind f_taken_out f_out_of f_stalls_behind f_moved f_l_deck f_l_pick f_l_divisor f_l_made f_l_added f_l_taken f_l_amount f_l_stall f_l_behind f_l_is_moved f_l_is_parted f_law f_Web_init f_Web_eq c_Web : Addr} {d_is_integer d_is_row d_is_fraction d_is_some d_added d_negated d_lessened d_multiplied d_divided d_squared d_is_stall d_is_index d_is_move d_stall_led d_stall_behind d_taken_out d_out_of d_stalls_behind d_moved d_l_deck d_l_pick d_l_divisor d_l_made d_l_added d_l_taken d_l_amount d_l_stall d_l_behind d_l_is_moved d_l_is_parted d_law d_Web_init d_Web_eq : FuncData}
def sp_stall_led (K : PySem.W.Frag) : Sp := fun vs H Q _ => ∃ v s vx x, vs = [v, vx] ∧ IsSt K H v s ∧ IsF K H vx x ∧ Bd 1900 s.r ∧ Bd 3900 x ∧ 0 < x ∧ ∀ H' u, Same H H' → IsSt K H' u (s.first x) → Q u H'
theorem ok_stall_led (T : Txt K mg f_is_integer f_is_row f_is_fraction f_is_some f_added f_negated f_lessened f_multiplied f_divided f_squared f_is_stall f_is_index f_is_move f_stall_led f_stall_behind f_taken_out f_out_of f_stalls_behind f_moved f_l_deck f_l_pick f_l_divisor f_l_made f_l_added f_l_taken f_l_amount f_l_stall f_l_behind f_l_is_moved f_l_is_parted f_law f_Web_init f_Web_eq c_Web d_is_integer d_is_row d_is_fraction d_is_some d_added d_negated d_lessened d_multiplied d_divided d_squared d_is_stall d_is_index d_is_move d_stall_led d_stall_behind d_taken_out d_out_of d_stalls_behind d_moved d_l_deck d_l_pick d_l_divisor d_l_made d_l_added d_l_taken d_l_amount d_l_stall d_l_behind d_l_is_moved d_l_is_parted d_law d_Web_init d_Web_eq) : FnOk P w K mg base CX0 3 f_stall_led d_stall_led ["stall", "amount"] (sp_stall_led K) := by
  have G_squared : FnOk P w K mg base CX0 1 f_squared d_squared ["one"] (sp_squared K) := ok_squared T
  have G_divided : FnOk P w K mg base CX0 2 f_divided d_divided ["one", "other"] (sp_divided K) := ok_divided T
  refine T.F_stall_led.ok sc_stall_led (fun vs H Q E h => ?_) (fun cdv A outer s H vs Q E hr h => ?_)
  · obtain ⟨v, s, vx, x, rfl, _⟩ := h
    rfl
  · obtain ⟨v, s, vx, x, rfl, ⟨p, va, vb, vr, rfl, hp, ha, hb, hr'⟩, hx, br, bx, x0, q⟩ := h
    refine ⟨_, (pss_one (ps_ret (pe_tup (pa_cons (pe_ix ix_tup (pv 0) pe_int (fun _ _ => rfl)) (pa_cons (pe_ix ix_tup (pv 0) pe_int (fun _ _ => rfl)) (pa_cons (pv 1) (pa_cons (pe_call G_divided (hr.mono (by decide)) (by rfl) T.g_divided T.k_divided T.b_divided .nil pass0 (pa_cons (pe_call G_squared (hr.mono (by decide)) (by rfl) T.g_squared T.k_squared T.b_squared .nil pass0 (pa_cons (pe_ix ix_tup (pv 0) pe_int (fun _ _ => rfl)) pa_nil)) (pa_cons (pv 1) pa_nil))) (pa_cons (pe_ix ix_tup (pv 0) pe_int (fun _ _ => rfl)) pa_nil)))))))), ?_⟩
    walk_at "r"
    refine ⟨_, _, rfl, hr', br.mono (by decide), fun H1 u1 s1 h1 => ?_⟩
    walk_at "r"
    refine ⟨_, _, _, _, rfl, h1, hx.same s1, (br.mul br).mono (by decide), bx.mono (by decide), ne_of_pos x0, fun H2 u2 s2 h2 => ?_⟩
    have hp := s2 _ _ (s1 _ _ hp)
    walk_at "r"
    intro p3 n3
    have sm := same_upd (o := .tup [V.int (s.u : Nat), .int (s.v : Nat), vx, u2, vr]) n3
    exact q _ _ ((s1.trans s2).trans sm) ⟨p3, vx, u2, vr, rfl, upd_same, ((hx.same s1).same s2).same sm, h2.same sm, ((hr'.same s1).same s2).same sm⟩
def sp_behind (K : PySem.W.Frag) : Sp := fun vs H Q _ => ∃ (v : V) (s : Stl) (wn : Nat) (vx : V) (x : Rat), vs = [v, .int (wn : Nat), vx] ∧ IsSt K H v s ∧ IsF K H vx x ∧ BdSt 1900 s ∧ Bd 1900 x ∧ 0 < s.a ∧ 0 < s.b ∧ 0 < x ∧ ∀ H' u, Same H H' → IsSt K H' u (s.behind wn x) → Q u H'
theorem ok_stall_behind (T : Txt K mg f_is_integer f_is_row f_is_fraction f_is_some f_added f_negated f_lessened f_multiplied f_divided f_squared f_is_stall f_is_index f_is_move f_stall_led f_stall_behind f_taken_out f_out_of f_stalls_behind f_moved f_l_deck f_l_pick f_l_divisor f_l_made f_l_added f_l_taken f_l_amount f_l_stall f_l_behind f_l_is_moved f_l_is_parted f_law f_Web_init f_Web_eq c_Web d_is_integer d_is_row d_is_fraction d_is_some d_added d_negated d_lessened d_multiplied d_divided d_squared d_is_stall d_is_index d_is_move d_stall_led d_stall_behind d_taken_out d_out_of d_stalls_behind d_moved d_l_deck d_l_pick d_l_divisor d_l_made d_l_added d_l_taken d_l_amount d_l_stall d_l_behind d_l_is_moved d_l_is_parted d_law d_Web_init d_Web_eq) : FnOk P w K mg base CX0 4 f_stall_behind d_stall_behind ["stall", "ware", "amount"] (sp_behind K) := by
  have G_squared : FnOk P w K mg base CX0 1 f_squared d_squared ["one"] (sp_squared K) := ok_squared T
  have G_divided : FnOk P w K mg base CX0 2 f_divided d_divided ["one", "other"] (sp_divided K) := ok_divided T
  have G_added : FnOk P w K mg base CX0 1 f_added d_added ["one", "other"] (sp_added K) := ok_added T
  have G_stall_led : FnOk P w K mg base CX0 3 f_stall_led d_stall_led ["stall", "amount"] (sp_stall_led K) := ok_stall_led T
  refine T.F_stall_behind.ok sc_stall_behind (fun vs H Q E h => ?_) (fun cdv A outer s H vs Q E hr h => ?_)
  · obtain ⟨v, s, wn, vx, x, rfl, _⟩ := h
    rfl
  · obtain ⟨v, s, wn, vx, x, rfl, hst, hx, bs, bx, a0, b0, x0, q⟩ := h
    obtain ⟨p, va, vb, vr, rfl, hp, ha, hb, hr'⟩ := id hst
    refine ⟨_, (pss_cons (ps_asg (pv 0) (pg_tup rfl (pgs_cons (pg_name (i := 3) sc_stall_behind.nd rfl (by first | exact Or.inl rfl | exact Or.inr rfl)) (pgs_cons (pg_name (i := 4) sc_stall_behind.nd rfl (by first | exact Or.inl rfl | exact Or.inr rfl)) (pgs_cons (pg_name (i := 5) sc_stall_behind.nd rfl (by first | exact Or.inl rfl | exact Or.inr rfl)) (pgs_cons (pg_name (i := 6) sc_stall_behind.nd rfl (by first | exact Or.inl rfl | exact Or.inr rfl)) (pgs_cons (pg_name (i := 7) sc_stall_behind.nd rfl (by first | exact Or.inl rfl | exact Or.inr rfl)) pgs_nil)))))))
      (pss_cons (ps_if (pt_cmpR op_eq (pv 1) (pv 3) (nomark _))
        (pss_one (ps_ret (pe_call G_stall_led (hr.mono (by decide)) (by rfl) T.g_stall_led T.k_stall_led T.b_stall_led .nil pass0 (pa_cons (pv 0) (pa_cons (pe_call G_added (hr.mono (by decide)) (by rfl) T.g_added T.k_added T.b_added .nil pass0 (pa_cons (pv 5) (pa_cons (pv 2) pa_nil))) pa_nil)))))
        pss_nil)
      (pss_cons (ps_set (i := 8) sc_stall_behind.nd rfl (by first | exact Or.inl rfl | exact Or.inr rfl) (pe_call G_added (hr.mono (by decide)) (by rfl) T.g_added T.k_added T.b_added .nil pass0 (pa_cons (pv 6) (pa_cons (pv 2) pa_nil))))
      (pss_one (ps_ret (pe_tup (pa_cons (pv 3) (pa_cons (pv 4) (pa_cons (pe_call G_divided (hr.mono (by decide)) (by rfl) T.g_divided T.k_divided T.b_divided .nil pass0 (pa_cons (pe_call G_squared (hr.mono (by decide)) (by rfl) T.g_squared T.k_squared T.b_squared .nil pass0 (pa_cons (pv 7) pa_nil)) (pa_cons (pv 8) pa_nil))) (pa_cons (pv 8) (pa_cons (pv 7) pa_nil))))))))))), ?_⟩
    walk_at "r"
    walk_at "if"
    · rename_i e
      have e' : wn = s.u := by omega
      rw [show s.behind wn x = s.first (s.a + x) from if_pos e'] at q
      walk_at "r"
      refine ⟨_, _, _, _, rfl, ha, hx, bs.a.mono (by decide), bx.mono (by decide), trivial, fun H1 u1 s1 h1 => ?_⟩
      walk_at "r"
      exact ⟨_, s, _, _, rfl, hst.same s1, h1, bs.r, (bs.a.add bx).mono (by decide), by grind, fun H2 u2 s2 h2 => q _ _ (s1.trans s2) h2⟩
    · rename_i e
      have e' : ¬ wn = s.u := by omega
      rw [show s.behind wn x = s.secnd (s.b + x) from if_neg e'] at q
      walk_at "r"
      refine ⟨_, _, _, _, rfl, hb, hx, bs.b.mono (by decide), bx.mono (by decide), trivial, fun H1 u1 s1 h1 => ?_⟩
      walk_at "r"
      refine ⟨_, _, rfl, hr'.same s1, bs.r.mono (by decide), fun H2 u2 s2 h2 => ?_⟩
      walk_at "r"
      refine ⟨_, _, _, _, rfl, h2, h1.same s2, (bs.r.mul bs.r).mono (by decide), (bs.b.add bx).mono (by decide), ne_of_pos (by grind), fun H3 u3 s3 h3 => ?_⟩
      walk_at "r"
      intro p4 n4
      have sm := same_upd (o := .tup [V.int (s.u : Nat), .int (s.v : Nat), u3, u1, vr]) n4
      exact q _ _ (((s1.trans s2).trans s3).trans sm) ⟨p4, u3, u1, vr, rfl, upd_same, h3.same sm, ((h1.same s2).same s3).same sm, (((hr'.same s1).same s2).same s3).same sm⟩
def sp_taken (K : PySem.W.Frag) : Sp := fun vs H Q _ => ∃ (v u : V) (s t : Stl) (wn : Nat), vs = [v, u, .int (wn : Nat)] ∧ IsSt K H v s ∧ IsSt K H u t ∧ BdSt 4000 s ∧ BdSt 4000 t ∧ ∀ H' y, Same H H' → IsF K H' y (s.out t wn) → Q y H'
theorem ok_taken_out (T : Txt K mg f_is_integer f_is_row f_is_fraction f_is_some f_added f_negated f_lessened f_multiplied f_divided f_squared f_is_stall f_is_index f_is_move f_stall_led f_stall_behind f_taken_out f_out_of f_stalls_behind f_moved f_l_deck f_l_pick f_l_divisor f_l_made f_l_added f_l_taken f_l_amount f_l_stall f_l_behind f_l_is_moved f_l_is_parted f_law f_Web_init f_Web_eq c_Web d_is_integer d_is_row d_is_fraction d_is_some d_added d_negated d_lessened d_multiplied d_divided d_squared d_is_stall d_is_index d_is_move d_stall_led d_stall_behind d_taken_out d_out_of d_stalls_behind d_moved d_l_deck d_l_pick d_l_divisor d_l_made d_l_added d_l_taken d_l_amount d_l_stall d_l_behind d_l_is_moved d_l_is_parted d_law d_Web_init d_Web_eq) : FnOk P w K mg base CX0 3 f_taken_out d_taken_out ["before", "behind", "ware"] (sp_taken K) := by
  have G_lessened : FnOk P w K mg base CX0 2 f_lessened d_lessened ["one", "other"] (sp_lessened K) := ok_lessened T
  refine T.F_taken_out.ok sc_taken_out (fun vs H Q E h => ?_) (fun cdv A outer s H vs Q E hr h => ?_)
  · obtain ⟨v, u, s, t, wn, rfl, _⟩ := h
    rfl
  · obtain ⟨v, u, s, t, wn, rfl, ⟨p, va, vb, vr, rfl, hp, ha, hb, hr'⟩, ⟨p2, va2, vb2, vr2, rfl, hp2, ha2, hb2, hr2⟩, b1, b2, q⟩ := h
    refine ⟨_, (pss_cons (ps_if (pt_cmpR op_eq (pv 2) (pe_ix ix_tup (pv 0) pe_int (fun _ _ => rfl)) (nomark _))
        (pss_one (ps_ret (pe_call G_lessened (hr.mono (by decide)) (by rfl) T.g_lessened T.k_lessened T.b_lessened .nil pass0 (pa_cons (pe_ix ix_tup (pv 0) pe_int (fun _ _ => rfl)) (pa_cons (pe_ix ix_tup (pv 1) pe_int (fun _ _ => rfl)) pa_nil)))))
        pss_nil)
      (pss_one (ps_ret (pe_call G_lessened (hr.mono (by decide)) (by rfl) T.g_lessened T.k_lessened T.b_lessened .nil pass0 (pa_cons (pe_ix ix_tup (pv 0) pe_int (fun _ _ => rfl)) (pa_cons (pe_ix ix_tup (pv 1) pe_int (fun _ _ => rfl)) pa_nil)))))), ?_⟩
    walk_at "r"
    walk_at "if"
    · rename_i e
      rw [show s.out t wn = s.b - t.b from if_pos (by omega)] at q
      walk_at "r"
      exact ⟨_, _, _, _, rfl, hb, hb2, b1.b, b2.b, trivial, fun H1 y s1 h1 => q _ _ s1 h1⟩
    · rename_i e
      rw [show s.out t wn = s.a - t.a from if_neg (by omega)] at q
      walk_at "r"
      exact ⟨_, _, _, _, rfl, ha, ha2, b1.a, b2.a, trivial, fun H1 y s1 h1 => q _ _ s1 h1⟩
end
end My
namespace My
open PySem PySem.Spec PyProof.Rows L2
variable {K : PySem.W.Frag}
theorem at_some {xs : List V} {i : Nat} {x : V} (h : xs[i]? = some x) : atI xs (i : Int) = some x := atI_nat h
theorem in_pair {u v w : Nat} (h : w = u ∨ w = v) : inV (.int (w : Nat)) [V.int (u : Nat), .int (v : Nat)] = true := by
  rcases h with rfl | rfl <;> simp [inV, eqV]
section
variable {P : Program} {w : World} {K : PySem.W.Frag} {mg : Str → Option Value} {base : Heap} {f_is_integer f_is_row f_is_fraction f_is_some f_added f_negated f_lessened f_multiplied f_divided f_squared f_is_stall f_is_index f_is_move f_stall_led f_stall_behind f_taken_out f_out_of f_stalls_behind f_moved f_l_deck f_l_pick f_l_divisor f_l_made f_l_added f_l_taken f_l_amount f_l_stall f_l_behind f_l_is_moved f_l_is_parted f_law f_Web_init f_Web_eq c_Web : Addr} {d_is_integer d_is_row d_is_fraction d_is_some d_added d_negated d_lessened d_multiplied d_divided d_squared d_is_stall d_is_index d_is_move d_stall_led d_stall_behind d_taken_out d_out_of d_stalls_behind d_moved d_l_deck d_l_pick d_l_divisor d_l_made d_l_added d_l_taken d_l_amount d_l_stall d_l_behind d_l_is_moved d_l_is_parted d_law d_Web_init d_Web_eq : FuncData}
def sp_is_index (K : PySem.W.Frag) (C : Addr) : Sp := fun vs H Q _ => ∃ (x : V) (n : Nat) (ss : List Stl) (i : Nat), vs = [x, .int (i : Nat)] ∧ IsWeb K C H x n ss ∧ i < ss.length ∧ Q (.bl true) H
theorem ok_is_index (T : Txt K mg f_is_integer f_is_row f_is_fraction f_is_some f_added f_negated f_lessened f_multiplied f_divided f_squared f_is_stall f_is_index f_is_move f_stall_led f_stall_behind f_taken_out f_out_of f_stalls_behind f_moved f_l_deck f_l_pick f_l_divisor f_l_made f_l_added f_l_taken f_l_amount f_l_stall f_l_behind f_l_is_moved f_l_is_parted f_law f_Web_init f_Web_eq c_Web d_is_integer d_is_row d_is_fraction d_is_some d_added d_negated d_lessened d_multiplied d_divided d_squared d_is_stall d_is_index d_is_move d_stall_led d_stall_behind d_taken_out d_out_of d_stalls_behind d_moved d_l_deck d_l_pick d_l_divisor d_l_made d_l_added d_l_taken d_l_amount d_l_stall d_l_behind d_l_is_moved d_l_is_parted d_law d_Web_init d_Web_eq) : FnOk P w K mg base CX0 2 f_is_index d_is_index ["web", "thing"] (sp_is_index K c_Web) := by
  have G_is_integer : FnOk P w K mg base CX0 1 f_is_integer d_is_integer ["thing"] sp_is_integer := ok_is_integer T
  refine T.F_is_index.ok sc_is_index (fun vs H Q E h => ?_) (fun cdv A outer s H vs Q E hr h => ?_)
  · obtain ⟨x, n, ss, i, rfl, _⟩ := h
    rfl
  · obtain ⟨x, n, ss, i, rfl, ⟨p, dx, t, xs, rfl, hp, ht, hss⟩, hi, q⟩ := h
    have hl := hss.len
    refine ⟨_, (pss_one (ps_ret (pe_and (pe_call G_is_integer (hr.mono (by decide)) (by rfl) T.g_is_integer T.k_is_integer T.b_is_integer .nil pass0 (pa_cons (pv 1) pa_nil)) (pe_one (pe_chain op_le op_lt pe_int (pv 1) (pe_callB call_lenN (by rfl) T.z_len (by decide +kernel) (pa_cons (pe_fld (pv 0) rfl) pa_nil))))))), ?_⟩
    walk_at "r"
    refine ⟨_, rfl, ?_⟩
    walk_at "r"
    refine ⟨_, _, _, _, _, rfl, hp, T.w_Web.it.cl, T.n_Web_stalls, wF_stalls _ _, ?_⟩
    walk_at "r"
    rw [decide_eq_true (by omega)]
    exact q
def sp_is_move (K : PySem.W.Frag) (C : Addr) : Sp := fun vs H Q _ => ∃ (x mv : V) (n : Nat) (ss : List Stl) (i wn : Nat) (s : Stl) (y : Rat), vs = [x, mv] ∧ IsWeb K C H x n ss ∧ IsMv K H mv i wn y ∧ ss[i]? = some s ∧ (wn = s.u ∨ wn = s.v) ∧ 0 < y ∧ ∀ H', Same H H' → Q (.bl true) H'
theorem ok_is_move (T : Txt K mg f_is_integer f_is_row f_is_fraction f_is_some f_added f_negated f_lessened f_multiplied f_divided f_squared f_is_stall f_is_index f_is_move f_stall_led f_stall_behind f_taken_out f_out_of f_stalls_behind f_moved f_l_deck f_l_pick f_l_divisor f_l_made f_l_added f_l_taken f_l_amount f_l_stall f_l_behind f_l_is_moved f_l_is_parted f_law f_Web_init f_Web_eq c_Web d_is_integer d_is_row d_is_fraction d_is_some d_added d_negated d_lessened d_multiplied d_divided d_squared d_is_stall d_is_index d_is_move d_stall_led d_stall_behind d_taken_out d_out_of d_stalls_behind d_moved d_l_deck d_l_pick d_l_divisor d_l_made d_l_added d_l_taken d_l_amount d_l_stall d_l_behind d_l_is_moved d_l_is_parted d_law d_Web_init d_Web_eq) : FnOk P w K mg base CX0 4 f_is_move d_is_move ["web", "thing"] (sp_is_move K c_Web) := by
  have G_is_integer : FnOk P w K mg base CX0 1 f_is_integer d_is_integer ["thing"] sp_is_integer := ok_is_integer T
  have G_is_some : FnOk P w K mg base CX0 3 f_is_some d_is_some ["thing"] (sp_is_some K) := ok_is_some T
  have G_is_index : FnOk P w K mg base CX0 2 f_is_index d_is_index ["web", "thing"] (sp_is_index K c_Web) := ok_is_index T
  refine T.F_is_move.ok sc_is_move (fun vs H Q E h => ?_) (fun cdv A outer s H vs Q E hr h => ?_)
  · obtain ⟨x, mv, n, ss, i, wn, s, y, rfl, _⟩ := h
    rfl
  · obtain ⟨x, mv, n, ss, i, wn, s, y, rfl, hw, ⟨pm, vx, rfl, hm, hy⟩, hi, hwn, y0, q⟩ := h
    have hil : i < ss.length := (List.getElem?_eq_some_iff.mp hi).1
    obtain ⟨p, dx, t, xs, rfl, hp, ht, hss⟩ := id hw
    obtain ⟨z, hz, ⟨pz, va, vb, vr, rfl, hpz, _⟩⟩ := hss.get hi
    refine ⟨_, (pss_cons (ps_if (PW.pt (pw_or (pt_not (pt_val (pe_callB call_isi (by rfl) T.z_isinstance (by decide +kernel) (pa_cons (pv 1) (pa_cons (pe_bltn (v := .ty "tuple") (u := .type "tuple") (by rfl) T.z_tuple (by decide +kernel) rfl) pa_nil))))) (pw_or1 (pt_cmpR op_ne (pe_callB call_lenN (by rfl) T.z_len (by decide +kernel) (pa_cons (pv 1) pa_nil)) pe_int (nomark _)))))
        (pss_one (ps_ret pe_bl))
        pss_nil)
      (pss_cons (ps_asg (pv 1) (pg_tup rfl (pgs_cons (pg_name (i := 2) sc_is_move.nd rfl (by first | exact Or.inl rfl | exact Or.inr rfl)) (pgs_cons (pg_name (i := 3) sc_is_move.nd rfl (by first | exact Or.inl rfl | exact Or.inr rfl)) (pgs_cons (pg_name (i := 4) sc_is_move.nd rfl (by first | exact Or.inl rfl | exact Or.inr rfl)) pgs_nil)))))
      (pss_cons (ps_if (PW.pt (pw_or (pt_not (pt_val (pe_call G_is_index (hr.mono (by decide)) (by rfl) T.g_is_index T.k_is_index T.b_is_index .nil pass0 (pa_cons (pv 0) (pa_cons (pv 2) pa_nil))))) (pw_or1 (pt_not (pt_val (pe_call G_is_integer (hr.mono (by decide)) (by rfl) T.g_is_integer T.k_is_integer T.b_is_integer .nil pass0 (pa_cons (pv 3) pa_nil)))))))
        (pss_one (ps_ret pe_bl))
        pss_nil)
      (pss_one (ps_ret (pe_and (pe_cmpR op_in_seq (pv 3) (pe_slice sl_tup (pe_ix ix_tup (pe_fld (pv 0) rfl) (pv 2) (fun _ _ => rfl)) po_none (po_some pe_int)) (by rfl)) (pe_one (pe_call G_is_some (hr.mono (by decide)) (by rfl) T.g_is_some T.k_is_some T.b_is_some .nil pass0 (pa_cons (pv 4) pa_nil))))))))), ?_⟩
    walk_at "r"
    refine ⟨_, n, ss, i, rfl, hw, hil, ?_⟩
    walk_at "r"
    refine ⟨_, rfl, ?_⟩
    walk_at "r"
    refine ⟨_, _, _, _, _, rfl, hp, T.w_Web.it.cl, T.n_Web_stalls, wF_stalls _ _, ?_⟩
    walk_at "r"
    refine rd_ixT ht (at_some hz) ?_
    walk_at "r"
    refine ⟨_, _, rfl, .of hpz, (by show ¬ (HT.sIx 5 0 none = 0 ∧ HT.sIx 5 5 (some 2) = 5); decide), fun p2 n2 => ?_⟩
    have sm := same_upd (o := .tup (cutV [V.int (s.u : Nat), .int (s.v : Nat), va, vb, vr] none (some 2))) n2
    refine ⟨_, _, rfl, .inr (.of upd_same), rfl, rfl, ?_⟩
    rw [show cutV [V.int (s.u : Nat), .int (s.v : Nat), va, vb, vr] none (some 2) = [V.int (s.u : Nat), .int (s.v : Nat)] from rfl, in_pair hwn, if_neg Bool.false_ne_true]
    walk_at "r"
    refine ⟨_, _, rfl, hy.same sm, y0, ?_⟩
    exact q _ sm
end
end My
namespace My
open PySem PySem.Spec PyProof.Rows L2
variable {K : PySem.W.Frag}
theorem mul_div_self {k x : Rat} (h : x ≠ 0) : x * (k / x) = k := by
  rw [Rat.div_def, ← Rat.mul_assoc, Rat.mul_comm x k, Rat.mul_assoc, Rat.mul_inv_cancel x h, Rat.mul_one]
theorem div_pos' {k x : Rat} (h : 0 < k) (hx : 0 < x) : 0 < k / x := by
  rw [Rat.div_def]
  exact Rat.mul_pos h (Rat.inv_pos.mpr hx)
theorem behind_ok {n : Nat} {s : Stl} (h : OkSt n s) (wn : Nat) {y : Rat} (y0 : 0 < y) : OkSt n (s.behind wn y) := by
  have a0 := h.a
  have b0 := h.b
  have rr := sq_pos h.r
  unfold Stl.behind
  split
  · have p : 0 < s.a + y := by grind
    exact ⟨h.u, h.v, h.ne, p, div_pos' rr p, h.r, mul_div_self (ne_of_pos p)⟩
  · have p : 0 < s.b + y := by grind
    exact ⟨h.u, h.v, h.ne, div_pos' rr p, p, h.r, (Rat.mul_comm _ _).trans (mul_div_self (ne_of_pos p))⟩
theorem behind_bd {k l : Nat} {n : Nat} {s : Stl} (hs : OkSt n s) (h : BdSt k s) (wn : Nat) {y : Rat} (y0 : 0 < y) (b : Bd l y) : BdSt (3 * k + l + 1) (s.behind wn y) := by
  have a0 := hs.a
  have b0 := hs.b
  unfold Stl.behind
  split
  · have p : 0 < s.a + y := by grind
    exact ⟨(h.a.add b).mono (by omega), ((h.r.mul h.r).div (ne_of_pos p) (h.a.add b)).mono (by omega), h.r.mono (by omega)⟩
  · have p : 0 < s.b + y := by grind
    exact ⟨((h.r.mul h.r).div (ne_of_pos p) (h.b.add b)).mono (by omega), (h.b.add b).mono (by omega), h.r.mono (by omega)⟩
theorem Sts.set {H : Hp} {xs : List V} {ss : List Stl} {v : V} {s : Stl} (h : Sts K H xs ss) (hv : IsSt K H v s) (i : Nat) : Sts K H (xs.set i v) (ss.set i s) := by
  unfold Sts at *
  induction h generalizing i with
  | nil => exact .nil
  | cons h t ih =>
    cases i with
    | zero => exact .cons hv t
    | succ i => exact .cons h (ih i)
theorem set_parts {xs : List V} {i : Nat} {v : V} (h : i < xs.length) : cutV xs none (some (i : Int)) ++ [v] ++ cutV xs (some ((i : Int) + 1)) none = xs.set i v := by
  have e : ((i : Int) + 1) = ((i + 1 : Nat) : Int) := by omega
  rw [e]
  unfold cutV
  rw [HT.sIx_none, HT.sIx_none, HT.sIx_nat, HT.sIx_nat, List.set_eq_take_append_cons_drop, if_pos h]
  have m1 : min i xs.length = i := by omega
  have m2 : min (i + 1) xs.length = i + 1 := by omega
  rw [m1, m2]
  simp
  exact List.take_of_length_le (by simp)
theorem rd_catA {K : PySem.W.Frag} {H : Hp} {a b : Addr} {xs ys : List V} {Q : VK} (ha : H a = some (.tup xs)) (hb : H b = some (.tup ys)) (hl : xs.length + ys.length ≤ sizeLine)
    (q : ∀ p H', Same H H' → H' p = some (.tup (xs ++ ys)) → Q (.ref p) H') : rCatA K (.ref a) (.ref b) H Q := by
  refine ⟨a, b, xs, ys, rfl, rfl, .of ha, .of hb, hl, fun e => ?_, fun _ e => ?_, fun _ _ p np => q p _ (same_upd np) upd_same⟩
  · subst e
    exact q b H (Same.refl _) hb
  · subst e
    exact q a H (Same.refl _) (by rw [List.append_nil]; exact ha)
theorem rd_slT {K : PySem.W.Frag} {H : Hp} {a : Addr} {xs : List V} {lo hi : Option Int} {Q : VK} (ha : H a = some (.tup xs)) (hw : ¬ (HT.sIx xs.length 0 lo = 0 ∧ HT.sIx xs.length xs.length hi = xs.length))
    (q : ∀ p H', Same H H' → H' p = some (.tup (cutV xs lo hi)) → Q (.ref p) H') : rSlT K (.ref a) lo hi H Q := ⟨a, xs, rfl, .of ha, hw, fun p np => q p _ (same_upd np) upd_same⟩
/-- a web within its bounds -/
structure OkW (n k : Nat) (ss : List Stl) : Prop where
  n1 : 1 ≤ n
  n8 : n ≤ 8
  len : ss.length ≤ 16
  ok : ∀ s ∈ ss, OkSt n s ∧ BdSt k s
theorem OkW.set {n k : Nat} {ss : List Stl} (h : OkW n k ss) {s : Stl} (h1 : OkSt n s) (h2 : BdSt k s) (i : Nat) : OkW n k (ss.set i s) :=
  ⟨h.n1, h.n8, by rw [List.length_set]; exact h.len, fun t ht => by
    rcases List.mem_or_eq_of_mem_set ht with z | z
    · exact h.ok t z
    · subst z
      exact ⟨h1, h2⟩⟩
theorem BdSt.mono {k l : Nat} {s : Stl} (h : BdSt k s) (hl : k ≤ l) : BdSt l s := ⟨h.a.mono hl, h.b.mono hl, h.r.mono hl⟩
theorem OkW.mono {n k l : Nat} {ss : List Stl} (h : OkW n k ss) (hl : k ≤ l) : OkW n l ss := ⟨h.n1, h.n8, h.len, fun s hs => ⟨(h.ok s hs).1, (h.ok s hs).2.mono hl⟩⟩
end My
namespace My
open PySem PySem.Spec PyProof.Rows L2
variable {K : PySem.W.Frag}
section
variable {P : Program} {w : World} {K : PySem.W.Frag} {mg : Str → Option Value} {base : Heap} {f_is_integer f_is_row f_is_fraction f_is_some f_added f_negated f_lessened f_multiplied f_divided f_squared f_is_stall f_is_index f_is_move f_stall_led f_stall_behind f_taken_out f_out_of f_stalls_behind f_moved f_l_deck f_l_pick f_l_divisor f_l_made f_l_added f_l_taken f_l_amount f_l_stall f_l_behind f_l_is_moved f_l_is_parted f_law f_Web_init f_Web_eq c_Web : Addr} {d_is_integer d_is_row d_is_fraction d_is_some d_added d_negated d_lessened d_multiplied d_divided d_squared d_is_stall d_is_index d_is_move d_stall_led d_stall_behind d_taken_out d_out_of d_stalls_behind d_moved d_l_deck d_l_pick d_l_divisor d_l_made d_l_added d_l_taken d_l_amount d_l_stall d_l_behind d_l_is_moved d_l_is_parted d_law d_Web_init d_Web_eq : FuncData}
def sp_stalls_behind (K : PySem.W.Frag) : Sp := fun vs H Q _ => ∃ (t : Addr) (mv : V) (xs : List V) (ss : List Stl) (i wn : Nat) (s : Stl) (y : Rat), vs = [.ref t, mv] ∧ H t = some (.tup xs) ∧ Sts K H xs ss ∧ IsMv K H mv i wn y ∧ ss[i]? = some s ∧ ss.length ≤ 16 ∧ 0 < s.a ∧ 0 < s.b ∧ 0 < y ∧ BdSt 1900 s ∧ Bd 1900 y ∧
  ∀ H' t' xs', Same H H' → H' t' = some (.tup xs') → Sts K H' xs' (ss.set i (s.behind wn y)) → Q (.ref t') H'
theorem ok_stalls_behind (T : Txt K mg f_is_integer f_is_row f_is_fraction f_is_some f_added f_negated f_lessened f_multiplied f_divided f_squared f_is_stall f_is_index f_is_move f_stall_led f_stall_behind f_taken_out f_out_of f_stalls_behind f_moved f_l_deck f_l_pick f_l_divisor f_l_made f_l_added f_l_taken f_l_amount f_l_stall f_l_behind f_l_is_moved f_l_is_parted f_law f_Web_init f_Web_eq c_Web d_is_integer d_is_row d_is_fraction d_is_some d_added d_negated d_lessened d_multiplied d_divided d_squared d_is_stall d_is_index d_is_move d_stall_led d_stall_behind d_taken_out d_out_of d_stalls_behind d_moved d_l_deck d_l_pick d_l_divisor d_l_made d_l_added d_l_taken d_l_amount d_l_stall d_l_behind d_l_is_moved d_l_is_parted d_law d_Web_init d_Web_eq) : FnOk P w K mg base CX0 5 f_stalls_behind d_stalls_behind ["stalls", "move"] (sp_stalls_behind K) := by
  have G_stall_behind : FnOk P w K mg base CX0 4 f_stall_behind d_stall_behind ["stall", "ware", "amount"] (sp_behind K) := ok_stall_behind T
  refine T.F_stalls_behind.ok sc_stalls_behind (fun vs H Q E h => ?_) (fun cdv A outer s H vs Q E hr h => ?_)
  · obtain ⟨t, mv, xs, ss, i, wn, s, y, rfl, _⟩ := h
    rfl
  · obtain ⟨t, mv, xs, ss, i, wn, s, y, rfl, ht, hss, hmv, hi, l16, a0, b0, y0, bs, by', q⟩ := h
    obtain ⟨pm, vx, rfl, hm, hy⟩ := hmv
    have hl := hss.len
    have hil : i < ss.length := (List.getElem?_eq_some_iff.mp hi).1
    obtain ⟨z, hz, hst⟩ := hss.get hi
    refine ⟨_, (pss_cons (ps_asg (pv 1) (pg_tup rfl (pgs_cons (pg_name (i := 2) sc_stalls_behind.nd rfl (by first | exact Or.inl rfl | exact Or.inr rfl)) (pgs_cons (pg_name (i := 3) sc_stalls_behind.nd rfl (by first | exact Or.inl rfl | exact Or.inr rfl)) (pgs_cons (pg_name (i := 4) sc_stalls_behind.nd rfl (by first | exact Or.inl rfl | exact Or.inr rfl)) pgs_nil)))))
      (pss_one (ps_ret (pe_op op_catA (pe_op op_catA (pe_slice sl_tup (pv 0) po_none (po_some (pv 2))) (pe_tup (pa_cons (pe_call G_stall_behind (hr.mono (by decide)) (by rfl) T.g_stall_behind T.k_stall_behind T.b_stall_behind .nil pass0 (pa_cons (pe_ix ix_tup (pv 0) (pv 2) (fun _ _ => rfl)) (pa_cons (pv 3) (pa_cons (pv 4) pa_nil)))) pa_nil))) (pe_slice sl_tup (pv 0) (po_some (pe_op op_add (pv 2) pe_int)) po_none))))), ?_⟩
    walk_at "r"
    refine rd_slT ht (by rw [HT.sIx_none, HT.sIx_nat]; omega) fun p1 H1 s1 h1 => ?_
    have ht1 := s1 _ _ ht
    walk_at "r"
    refine rd_ixT ht1 (at_some hz) ?_
    walk_at "r"
    refine ⟨z, s, wn, vx, y, rfl, hst.same s1, hy.same s1, bs, by', a0, b0, y0, fun H2 u s2 hu => ?_⟩
    walk_at "r"
    intro p3 n3
    have s3 : Same H2 _ := same_upd (o := .tup [u]) n3
    have k3 := s2.trans s3
    refine rd_catA (k3 _ _ h1) upd_same (by
      have := cutV_length xs none (some (i : Int))
      show (cutV xs none (some (i : Int))).length + 1 ≤ sizeLine
      rw [sizeLine_eq]
      omega) fun p4 H4 s4 h4 => ?_
    have k4 := (s1.trans k3).trans s4
    have ht4 := k4 _ _ ht
    walk_at "r"
    refine rd_slT ht4 (by
      rw [show ((i : Int) + 1) = ((i + 1 : Nat) : Int) by omega, HT.sIx_nat]
      omega) fun p5 H5 s5 h5 => ?_
    refine rd_catA (s5 _ _ h4) h5 (by
      have a1 := cutV_length xs none (some (i : Int))
      have a2 := cutV_length xs (some ((i : Int) + 1)) none
      rw [List.length_append, sizeLine_eq]
      show _ + 1 + _ ≤ _
      omega) fun p6 H6 s6 h6 => ?_
    rw [set_parts (by omega)] at h6
    have k6 := s5.trans s6
    exact q _ _ _ (k4.trans k6) h6 ((hss.same (k4.trans k6)).set (((hu.same s3).same s4).same k6) i)
end
end My
namespace My
open PySem PySem.Spec PyProof.Rows L2
variable {K : PySem.W.Frag}
section
variable {P : Program} {w : World} {K : PySem.W.Frag} {mg : Str → Option Value} {base : Heap} {f_is_integer f_is_row f_is_fraction f_is_some f_added f_negated f_lessened f_multiplied f_divided f_squared f_is_stall f_is_index f_is_move f_stall_led f_stall_behind f_taken_out f_out_of f_stalls_behind f_moved f_l_deck f_l_pick f_l_divisor f_l_made f_l_added f_l_taken f_l_amount f_l_stall f_l_behind f_l_is_moved f_l_is_parted f_law f_Web_init f_Web_eq c_Web : Addr} {d_is_integer d_is_row d_is_fraction d_is_some d_added d_negated d_lessened d_multiplied d_divided d_squared d_is_stall d_is_index d_is_move d_stall_led d_stall_behind d_taken_out d_out_of d_stalls_behind d_moved d_l_deck d_l_pick d_l_divisor d_l_made d_l_added d_l_taken d_l_amount d_l_stall d_l_behind d_l_is_moved d_l_is_parted d_law d_Web_init d_Web_eq : FuncData}
def sp_moved (K : PySem.W.Frag) (C : Addr) : Sp := fun vs H Q _ => ∃ (x mv : V) (n : Nat) (ss : List Stl) (i wn : Nat) (s : Stl) (y : Rat), vs = [x, mv] ∧ IsWeb K C H x n ss ∧ IsMv K H mv i wn y ∧ ss[i]? = some s ∧ (wn = s.u ∨ wn = s.v) ∧ 0 < y ∧ OkW n 900 ss ∧ Bd 900 y ∧
  ∀ H' u, Same H H' → IsWeb K C H' u n (ss.set i (s.behind wn y)) → Q u H'
theorem ok_moved (T : Txt K mg f_is_integer f_is_row f_is_fraction f_is_some f_added f_negated f_lessened f_multiplied f_divided f_squared f_is_stall f_is_index f_is_move f_stall_led f_stall_behind f_taken_out f_out_of f_stalls_behind f_moved f_l_deck f_l_pick f_l_divisor f_l_made f_l_added f_l_taken f_l_amount f_l_stall f_l_behind f_l_is_moved f_l_is_parted f_law f_Web_init f_Web_eq c_Web d_is_integer d_is_row d_is_fraction d_is_some d_added d_negated d_lessened d_multiplied d_divided d_squared d_is_stall d_is_index d_is_move d_stall_led d_stall_behind d_taken_out d_out_of d_stalls_behind d_moved d_l_deck d_l_pick d_l_divisor d_l_made d_l_added d_l_taken d_l_amount d_l_stall d_l_behind d_l_is_moved d_l_is_parted d_law d_Web_init d_Web_eq) : FnOk P w K mg base CX0 7 f_moved d_moved ["web", "move"] (sp_moved K c_Web) := by
  have G_is_move : FnOk P w K mg base CX0 4 f_is_move d_is_move ["web", "thing"] (sp_is_move K c_Web) := ok_is_move T
  have G_stalls_behind : FnOk P w K mg base CX0 5 f_stalls_behind d_stalls_behind ["stalls", "move"] (sp_stalls_behind K) := ok_stalls_behind T
  have G_Web_init : FnOk P w K mg base CX0 5 f_Web_init d_Web_init ["self", "wares", "stalls"] (sp_web K c_Web) := ok_Web_init T
  refine T.F_moved.ok sc_moved (fun vs H Q E h => ?_) (fun cdv A outer s H vs Q E hr h => ?_)
  · obtain ⟨x, mv, n, ss, i, wn, s, y, rfl, _⟩ := h
    rfl
  · obtain ⟨x, mv, n, ss, i, wn, s, y, rfl, hw, hmv, hi, hwn, y0, ok, by', q⟩ := h
    obtain ⟨oks, bds⟩ := ok.ok s (List.mem_of_getElem? hi)
    have l16 := ok.len
    refine ⟨_, (pss_cons (ps_if (pt_not (pt_val (pe_call G_is_move (hr.mono (by decide)) (by rfl) T.g_is_move T.k_is_move T.b_is_move .nil pass0 (pa_cons (pv 0) (pa_cons (pv 1) pa_nil)))))
        (pss_one ps_never)
        pss_nil)
      (pss_one (ps_ret (pe_make T.w_Web.mks G_Web_init (hr.mono (by decide)) (by rfl) T.w_Web.g T.b_Web_init .nil pass0 (pa_cons (pe_fld (pv 0) rfl) (pa_cons (pe_call G_stalls_behind (hr.mono (by decide)) (by rfl) T.g_stalls_behind T.k_stalls_behind T.b_stalls_behind .nil pass0 (pa_cons (pe_fld (pv 0) rfl) (pa_cons (pv 1) pa_nil))) pa_nil)))))), ?_⟩
    walk_at "r"
    refine ⟨_, _, n, ss, i, wn, s, y, rfl, hw, hmv, hi, hwn, y0, fun H1 s1 => ?_⟩
    have hw := hw.same s1
    have hmv := hmv.same s1
    obtain ⟨p, dx, t, xs, rfl, hp, ht, hss⟩ := id hw
    walk_at "r"
    refine ⟨_, _, _, _, _, rfl, hp, T.w_Web.it.cl, T.n_Web_wares, wF_wares _ _, ?_⟩
    walk_at "r"
    refine ⟨_, _, _, _, _, rfl, hp, T.w_Web.it.cl, T.n_Web_stalls, wF_stalls _ _, ?_⟩
    walk_at "r"
    refine ⟨t, _, xs, ss, i, wn, s, y, rfl, ht, hss, hmv, hi, l16, oks.a, oks.b, y0, bds.mono (by decide), by'.mono (by decide), fun H2 t2 xs2 s2 h2 hss2 => ?_⟩
    walk_at "r"
    intro y2 dy ny ndy ne
    have h2y : t2 ≠ y2 := ne_of_none h2 ny
    have h2d : t2 ≠ dy := ne_of_none h2 ndy
    have ok' := (ok.mono (show 900 ≤ 4000 by decide)).set (behind_ok oks wn y0) ((behind_bd oks bds wn y0 by').mono (by decide)) i
    have hl2 := hss2.len
    refine ⟨y2, dy, t2, n, _, ss.set i (s.behind wn y), rfl, upd_same, .inr ((upd_ne h2y).trans ((upd_ne h2d).trans h2)), ok.n1, ok.n8, by rw [hl2, List.length_set]; omega, ?_, ok'.ok, fun H6 hweb kp => ⟨rfl, ?_⟩⟩
    · refine hss2.ts fun b zs hb => ?_
      rw [upd_ne (ne_of_none hb ny), upd_ne (ne_of_none hb ndy)]
      exact hb
    · have s6 : Same H2 H6 := Same.made ny ndy kp
      exact q _ _ ((s1.trans s2).trans s6) hweb
end
end My
namespace My
open PySem PySem.Spec PyProof.Rows L2
variable {K : PySem.W.Frag}
section
variable {P : Program} {w : World} {K : PySem.W.Frag} {mg : Str → Option Value} {base : Heap} {f_is_integer f_is_row f_is_fraction f_is_some f_added f_negated f_lessened f_multiplied f_divided f_squared f_is_stall f_is_index f_is_move f_stall_led f_stall_behind f_taken_out f_out_of f_stalls_behind f_moved f_l_deck f_l_pick f_l_divisor f_l_made f_l_added f_l_taken f_l_amount f_l_stall f_l_behind f_l_is_moved f_l_is_parted f_law f_Web_init f_Web_eq c_Web : Addr} {d_is_integer d_is_row d_is_fraction d_is_some d_added d_negated d_lessened d_multiplied d_divided d_squared d_is_stall d_is_index d_is_move d_stall_led d_stall_behind d_taken_out d_out_of d_stalls_behind d_moved d_l_deck d_l_pick d_l_divisor d_l_made d_l_added d_l_taken d_l_amount d_l_stall d_l_behind d_l_is_moved d_l_is_parted d_law d_Web_init d_Web_eq : FuncData}
def sp_out_of (K : PySem.W.Frag) (C : Addr) : Sp := fun vs H Q _ => ∃ (x mv : V) (n : Nat) (ss : List Stl) (i wn : Nat) (s : Stl) (y : Rat), vs = [x, mv] ∧ IsWeb K C H x n ss ∧ IsMv K H mv i wn y ∧ ss[i]? = some s ∧ (wn = s.u ∨ wn = s.v) ∧ 0 < y ∧ OkW n 900 ss ∧ Bd 900 y ∧
  ∀ H' u, Same H H' → IsF K H' u (s.out (s.behind wn y) wn) → Q u H'
theorem ok_out_of (T : Txt K mg f_is_integer f_is_row f_is_fraction f_is_some f_added f_negated f_lessened f_multiplied f_divided f_squared f_is_stall f_is_index f_is_move f_stall_led f_stall_behind f_taken_out f_out_of f_stalls_behind f_moved f_l_deck f_l_pick f_l_divisor f_l_made f_l_added f_l_taken f_l_amount f_l_stall f_l_behind f_l_is_moved f_l_is_parted f_law f_Web_init f_Web_eq c_Web d_is_integer d_is_row d_is_fraction d_is_some d_added d_negated d_lessened d_multiplied d_divided d_squared d_is_stall d_is_index d_is_move d_stall_led d_stall_behind d_taken_out d_out_of d_stalls_behind d_moved d_l_deck d_l_pick d_l_divisor d_l_made d_l_added d_l_taken d_l_amount d_l_stall d_l_behind d_l_is_moved d_l_is_parted d_law d_Web_init d_Web_eq) : FnOk P w K mg base CX0 5 f_out_of d_out_of ["web", "move"] (sp_out_of K c_Web) := by
  have G_is_move : FnOk P w K mg base CX0 4 f_is_move d_is_move ["web", "thing"] (sp_is_move K c_Web) := ok_is_move T
  have G_stall_behind : FnOk P w K mg base CX0 4 f_stall_behind d_stall_behind ["stall", "ware", "amount"] (sp_behind K) := ok_stall_behind T
  have G_taken_out : FnOk P w K mg base CX0 3 f_taken_out d_taken_out ["before", "behind", "ware"] (sp_taken K) := ok_taken_out T
  refine T.F_out_of.ok sc_out_of (fun vs H Q E h => ?_) (fun cdv A outer s H vs Q E hr h => ?_)
  · obtain ⟨x, mv, n, ss, i, wn, s, y, rfl, _⟩ := h
    rfl
  · obtain ⟨x, mv, n, ss, i, wn, s, y, rfl, hw, hmv, hi, hwn, y0, ok, by', q⟩ := h
    obtain ⟨oks, bds⟩ := ok.ok s (List.mem_of_getElem? hi)
    refine ⟨_, (pss_cons (ps_if (pt_not (pt_val (pe_call G_is_move (hr.mono (by decide)) (by rfl) T.g_is_move T.k_is_move T.b_is_move .nil pass0 (pa_cons (pv 0) (pa_cons (pv 1) pa_nil)))))
        (pss_one ps_never)
        pss_nil)
      (pss_cons (ps_asg (pv 1) (pg_tup rfl (pgs_cons (pg_name (i := 2) sc_out_of.nd rfl (by first | exact Or.inl rfl | exact Or.inr rfl)) (pgs_cons (pg_name (i := 3) sc_out_of.nd rfl (by first | exact Or.inl rfl | exact Or.inr rfl)) (pgs_cons (pg_name (i := 4) sc_out_of.nd rfl (by first | exact Or.inl rfl | exact Or.inr rfl)) pgs_nil)))))
      (pss_cons (ps_set (i := 5) sc_out_of.nd rfl (by first | exact Or.inl rfl | exact Or.inr rfl) (pe_ix ix_tup (pe_fld (pv 0) rfl) (pv 2) (fun _ _ => rfl)))
      (pss_one (ps_ret (pe_call G_taken_out (hr.mono (by decide)) (by rfl) T.g_taken_out T.k_taken_out T.b_taken_out .nil pass0 (pa_cons (pv 5) (pa_cons (pe_call G_stall_behind (hr.mono (by decide)) (by rfl) T.g_stall_behind T.k_stall_behind T.b_stall_behind .nil pass0 (pa_cons (pv 5) (pa_cons (pv 3) (pa_cons (pv 4) pa_nil)))) (pa_cons (pv 3) pa_nil))))))))), ?_⟩
    walk_at "r"
    refine ⟨_, _, n, ss, i, wn, s, y, rfl, hw, hmv, hi, hwn, y0, fun H1 s1 => ?_⟩
    have hw := hw.same s1
    have hmv := hmv.same s1
    obtain ⟨pm, vx, rfl, hm, hy⟩ := id hmv
    obtain ⟨p, dx, t, xs, rfl, hp, ht, hss⟩ := id hw
    obtain ⟨z, hz, hst⟩ := hss.get hi
    walk_at "r"
    refine ⟨_, _, _, _, _, rfl, hp, T.w_Web.it.cl, T.n_Web_stalls, wF_stalls _ _, ?_⟩
    walk_at "r"
    refine rd_ixT ht (at_some hz) ?_
    walk_at "r"
    refine ⟨_, s, wn, _, y, rfl, hst, hy, bds.mono (by decide), by'.mono (by decide), oks.a, oks.b, y0, fun H2 u s2 hu => ?_⟩
    walk_at "r"
    exact ⟨_, _, s, _, wn, rfl, hst.same s2, hu, bds.mono (by decide), (behind_bd oks bds wn y0 by').mono (by decide), fun H3 y3 s3 h3 => q _ _ ((s1.trans s2).trans s3) h3⟩
end
end My
namespace My
open PySem PySem.Spec PyProof.Rows L2
variable {K : PySem.W.Frag}
theorem ten6e : (10 : Int) ^ (6 : Int).toNat = 1000000 := by decide
theorem size3 {i : Int} (h0 : 0 ≤ i) (h1 : i < 3) : ∃ z : Int, (3 ≤ z ∧ z ≤ 1000000) ∧ atI [V.int 3, V.int 12, V.int (10 ^ (6 : Int).toNat)] i = some (.int z) := by
  obtain ⟨z, hz, e⟩ := at_ints (cells := [3, 12, 10 ^ (6 : Int).toNat]) h0 (by simpa using h1)
  refine ⟨z, ?_, e⟩
  rw [ten6e] at hz
  simp only [List.mem_cons, List.not_mem_nil, or_false] at hz
  omega
theorem rat_pos {r : Rat} (h : 0 < r.num) : 0 < r := by
  rw [Rat.lt_iff]
  simpa using h
theorem divInt_pos {t b : Int} (ht : 0 < t) (hb : 0 < b) : 0 < Rat.divInt t b := by
  have h := (rat_cross (n := t) (d := b) (r := Rat.divInt t b) (by omega)).mp rfl
  have hd := den_pos (Rat.divInt t b)
  have h2 : 0 < t * ((Rat.divInt t b).den : Int) := Int.mul_pos ht hd
  rw [h] at h2
  refine rat_pos ?_
  exact Int.pos_of_mul_pos_left h2 hb
theorem divInt_mul' (r t : Rat) : Rat.divInt (r.num * t.num) ((r.den : Int) * t.den) = r * t := by
  rw [← Rat.divInt_mul_divInt, Rat.num_divInt_den, Rat.num_divInt_den]
theorem mul_lt' {a b : Int} {k l : Nat} (h1 : a.natAbs < 2 ^ k) (h2 : b.natAbs < 2 ^ l) : (a * b).natAbs < 2 ^ (k + l) := by
  rw [Int.natAbs_mul]
  exact nat_mul_lt h1 h2
theorem back_root (r f : Rat) (hf : 0 < f) : r * f * Rat.divInt (r.num * f.den) (r.den * f.num) = r * r := by
  have h0 : f.num * f.den ≠ 0 := Int.ne_of_gt (Int.mul_pos (num_pos' hf) (den_pos f))
  rw [← divInt_mul' r f, ← divInt_mul' r r, Rat.divInt_mul_divInt]
  rw [show r.num * f.num * (r.num * f.den) = r.num * r.num * (f.num * f.den) by grind, show (r.den : Int) * f.den * (r.den * f.num) = (r.den : Int) * r.den * (f.num * f.den) by grind]
  exact Rat.divInt_mul_right h0
theorem add_divInt (r t : Rat) : Rat.divInt (r.num * t.den + t.num * r.den) ((r.den : Int) * t.den) = r + t := by
  have h1 := den_pos r
  have h2 := den_pos t
  rw [← Rat.divInt_add_divInt r.num t.num (by omega) (by omega), Rat.num_divInt_den, Rat.num_divInt_den]
theorem sub_divInt (r t : Rat) : Rat.divInt (r.num * t.den - t.num * r.den) ((r.den : Int) * t.den) = r - t := by
  have h1 := den_pos r
  have h2 := den_pos t
  rw [Rat.sub_eq_add_neg, ← add_divInt r (-t)]
  show _ = Rat.divInt (r.num * t.den + -t.num * r.den) _
  rw [Int.neg_mul, ← Int.sub_eq_add_neg]
  rfl
section
variable {P : Program} {w : World} {K : PySem.W.Frag} {mg : Str → Option Value} {base : Heap} {f_is_integer f_is_row f_is_fraction f_is_some f_added f_negated f_lessened f_multiplied f_divided f_squared f_is_stall f_is_index f_is_move f_stall_led f_stall_behind f_taken_out f_out_of f_stalls_behind f_moved f_l_deck f_l_pick f_l_divisor f_l_made f_l_added f_l_taken f_l_amount f_l_stall f_l_behind f_l_is_moved f_l_is_parted f_law f_Web_init f_Web_eq c_Web : Addr} {d_is_integer d_is_row d_is_fraction d_is_some d_added d_negated d_lessened d_multiplied d_divided d_squared d_is_stall d_is_index d_is_move d_stall_led d_stall_behind d_taken_out d_out_of d_stalls_behind d_moved d_l_deck d_l_pick d_l_divisor d_l_made d_l_added d_l_taken d_l_amount d_l_stall d_l_behind d_l_is_moved d_l_is_parted d_law d_Web_init d_Web_eq : FuncData}
def sp_made (K : PySem.W.Frag) : Sp := fun vs H Q _ => ∃ n d : Int, vs = [.int n, .int d] ∧ 0 < d ∧ d.natAbs < 2 ^ 8000 ∧ ∀ H' v, Same H H' → IsF K H' v (Rat.divInt n d) → Q v H'
theorem ok_l_made (T : Txt K mg f_is_integer f_is_row f_is_fraction f_is_some f_added f_negated f_lessened f_multiplied f_divided f_squared f_is_stall f_is_index f_is_move f_stall_led f_stall_behind f_taken_out f_out_of f_stalls_behind f_moved f_l_deck f_l_pick f_l_divisor f_l_made f_l_added f_l_taken f_l_amount f_l_stall f_l_behind f_l_is_moved f_l_is_parted f_law f_Web_init f_Web_eq c_Web d_is_integer d_is_row d_is_fraction d_is_some d_added d_negated d_lessened d_multiplied d_divided d_squared d_is_stall d_is_index d_is_move d_stall_led d_stall_behind d_taken_out d_out_of d_stalls_behind d_moved d_l_deck d_l_pick d_l_divisor d_l_made d_l_added d_l_taken d_l_amount d_l_stall d_l_behind d_l_is_moved d_l_is_parted d_law d_Web_init d_Web_eq) : FnOk P w K mg base CX0 2 f_l_made d_l_made ["_law_top", "_law_bottom"] (sp_made K) := by
  have G_l_divisor : FnOk P w K mg base CX0 1 f_l_divisor d_l_divisor ["_law_one", "_law_other"] sp_divisor := ok_l_divisor T
  refine T.F_l_made.ok sc_l_made (fun vs H Q E h => ?_) (fun cdv A outer s H vs Q E hr h => ?_)
  · obtain ⟨n, d, rfl, _⟩ := h
    rfl
  · obtain ⟨n, d, rfl, hd, hb, q⟩ := h
    refine ⟨_, (pss_cons (ps_set (i := 2) sc_l_made.nd rfl (by first | exact Or.inl rfl | exact Or.inr rfl) (pe_call G_l_divisor (hr.mono (by decide)) (by rfl) T.g_l_divisor T.k_l_divisor T.b_l_divisor .nil pass0 (pa_cons (pv 0) (pa_cons (pv 1) pa_nil))))
      (pss_one (ps_ret (pe_tup (pa_cons (pe_op op_fdivX (pv 0) (pv 2)) (pa_cons (pe_op op_fdivX (pv 1) (pv 2)) pa_nil)))))), ?_⟩
    walk_at "r"
    refine ⟨_, _, rfl, Nat.lt_of_lt_of_le hb (pow_le (by decide)), ?_⟩
    obtain ⟨m1, m2, m3⟩ := low_math (n := n) hd hb _ rfl
    walk_at "r"
    · intro p np
      exact q _ _ (same_upd np) (isF_new m2 m3)
    all_goals exact m1 _
theorem p20k {n : Nat} (h : n < 2 ^ 1900) : n < 2 ^ 20000 := Nat.lt_of_lt_of_le h (pow_le (by decide))
def sp_two9 (K : PySem.W.Frag) (f : Rat → Rat → Rat) : Sp := fun vs H Q _ => ∃ x y r s, vs = [x, y] ∧ IsF K H x r ∧ IsF K H y s ∧ Bd 1900 r ∧ Bd 1900 s ∧ ∀ H' v, Same H H' → IsF K H' v (f r s) → Q v H'
theorem ok_l_added (T : Txt K mg f_is_integer f_is_row f_is_fraction f_is_some f_added f_negated f_lessened f_multiplied f_divided f_squared f_is_stall f_is_index f_is_move f_stall_led f_stall_behind f_taken_out f_out_of f_stalls_behind f_moved f_l_deck f_l_pick f_l_divisor f_l_made f_l_added f_l_taken f_l_amount f_l_stall f_l_behind f_l_is_moved f_l_is_parted f_law f_Web_init f_Web_eq c_Web d_is_integer d_is_row d_is_fraction d_is_some d_added d_negated d_lessened d_multiplied d_divided d_squared d_is_stall d_is_index d_is_move d_stall_led d_stall_behind d_taken_out d_out_of d_stalls_behind d_moved d_l_deck d_l_pick d_l_divisor d_l_made d_l_added d_l_taken d_l_amount d_l_stall d_l_behind d_l_is_moved d_l_is_parted d_law d_Web_init d_Web_eq) : FnOk P w K mg base CX0 3 f_l_added d_l_added ["_law_one", "_law_other"] (sp_two9 K (· + ·)) := by
  have G_l_made : FnOk P w K mg base CX0 2 f_l_made d_l_made ["_law_top", "_law_bottom"] (sp_made K) := ok_l_made T
  refine T.F_l_added.ok sc_l_added (fun vs H Q E h => ?_) (fun cdv A outer s H vs Q E hr h => ?_)
  · obtain ⟨x, y, r, t, rfl, _⟩ := h
    rfl
  · obtain ⟨x, y, r, t, rfl, ⟨p1, rfl, hp1⟩, ⟨p2, rfl, hp2⟩, b1, b2, q⟩ := h
    have c1 : ((r.den : Int)).natAbs < 2 ^ 1900 := by rw [Int.natAbs_natCast]; exact b1.2
    have c2 : ((t.den : Int)).natAbs < 2 ^ 1900 := by rw [Int.natAbs_natCast]; exact b2.2
    refine ⟨_, (pss_one (ps_ret (pe_call G_l_made (hr.mono (by decide)) (by rfl) T.g_l_made T.k_l_made T.b_l_made .nil pass0 (pa_cons (pe_op op_add (pe_op op_mulX (pe_ix ix_tup (pv 0) pe_int (fun _ _ => rfl)) (pe_ix ix_tup (pv 1) pe_int (fun _ _ => rfl))) (pe_op op_mulX (pe_ix ix_tup (pv 1) pe_int (fun _ _ => rfl)) (pe_ix ix_tup (pv 0) pe_int (fun _ _ => rfl)))) (pa_cons (pe_op op_mulX (pe_ix ix_tup (pv 0) pe_int (fun _ _ => rfl)) (pe_ix ix_tup (pv 1) pe_int (fun _ _ => rfl))) pa_nil))))), ?_⟩
    walk_at "r"
    · refine ⟨_, _, rfl, Int.mul_pos (den_pos r) (den_pos t), Nat.lt_of_lt_of_le (mul_lt' c1 c2) (pow_le (by decide)), fun H1 v s1 hv => ?_⟩
      rw [add_divInt] at hv
      exact q _ _ s1 hv
    · exact cmx (p20k c1) (p20k c2)
    · exact cmx (p20k b2.1) (p20k c1)
    · exact cmx (p20k b1.1) (p20k c2)
theorem ok_l_taken (T : Txt K mg f_is_integer f_is_row f_is_fraction f_is_some f_added f_negated f_lessened f_multiplied f_divided f_squared f_is_stall f_is_index f_is_move f_stall_led f_stall_behind f_taken_out f_out_of f_stalls_behind f_moved f_l_deck f_l_pick f_l_divisor f_l_made f_l_added f_l_taken f_l_amount f_l_stall f_l_behind f_l_is_moved f_l_is_parted f_law f_Web_init f_Web_eq c_Web d_is_integer d_is_row d_is_fraction d_is_some d_added d_negated d_lessened d_multiplied d_divided d_squared d_is_stall d_is_index d_is_move d_stall_led d_stall_behind d_taken_out d_out_of d_stalls_behind d_moved d_l_deck d_l_pick d_l_divisor d_l_made d_l_added d_l_taken d_l_amount d_l_stall d_l_behind d_l_is_moved d_l_is_parted d_law d_Web_init d_Web_eq) : FnOk P w K mg base CX0 3 f_l_taken d_l_taken ["_law_one", "_law_other"] (sp_two9 K (· - ·)) := by
  have G_l_made : FnOk P w K mg base CX0 2 f_l_made d_l_made ["_law_top", "_law_bottom"] (sp_made K) := ok_l_made T
  refine T.F_l_taken.ok sc_l_taken (fun vs H Q E h => ?_) (fun cdv A outer s H vs Q E hr h => ?_)
  · obtain ⟨x, y, r, t, rfl, _⟩ := h
    rfl
  · obtain ⟨x, y, r, t, rfl, ⟨p1, rfl, hp1⟩, ⟨p2, rfl, hp2⟩, b1, b2, q⟩ := h
    have c1 : ((r.den : Int)).natAbs < 2 ^ 1900 := by rw [Int.natAbs_natCast]; exact b1.2
    have c2 : ((t.den : Int)).natAbs < 2 ^ 1900 := by rw [Int.natAbs_natCast]; exact b2.2
    refine ⟨_, (pss_one (ps_ret (pe_call G_l_made (hr.mono (by decide)) (by rfl) T.g_l_made T.k_l_made T.b_l_made .nil pass0 (pa_cons (pe_op op_sub (pe_op op_mulX (pe_ix ix_tup (pv 0) pe_int (fun _ _ => rfl)) (pe_ix ix_tup (pv 1) pe_int (fun _ _ => rfl))) (pe_op op_mulX (pe_ix ix_tup (pv 1) pe_int (fun _ _ => rfl)) (pe_ix ix_tup (pv 0) pe_int (fun _ _ => rfl)))) (pa_cons (pe_op op_mulX (pe_ix ix_tup (pv 0) pe_int (fun _ _ => rfl)) (pe_ix ix_tup (pv 1) pe_int (fun _ _ => rfl))) pa_nil))))), ?_⟩
    walk_at "r"
    · refine ⟨_, _, rfl, Int.mul_pos (den_pos r) (den_pos t), Nat.lt_of_lt_of_le (mul_lt' c1 c2) (pow_le (by decide)), fun H1 v s1 hv => ?_⟩
      rw [sub_divInt] at hv
      exact q _ _ s1 hv
    · exact cmx (p20k c1) (p20k c2)
    · exact cmx (p20k b2.1) (p20k c1)
    · exact cmx (p20k b1.1) (p20k c2)
def sp_am (K : PySem.W.Frag) (M n : Nat) : Sp := fun vs H Q _ => ∃ (D C : Addr) (c : Nat), vs = [.ref D] ∧ Deck M D C H c ∧ c ≤ 2 ^ 39 ∧ ∀ H' v r, Fw D H H' → Deck M D C H' (c + n) → IsF K H' v r → Bd 20 r → 0 < r → Q v H'
theorem ok_l_amount {M : Nat} (hM : 64 ≤ M) (hM2 : M ≤ 1048576) (T : Txt K mg f_is_integer f_is_row f_is_fraction f_is_some f_added f_negated f_lessened f_multiplied f_divided f_squared f_is_stall f_is_index f_is_move f_stall_led f_stall_behind f_taken_out f_out_of f_stalls_behind f_moved f_l_deck f_l_pick f_l_divisor f_l_made f_l_added f_l_taken f_l_amount f_l_stall f_l_behind f_l_is_moved f_l_is_parted f_law f_Web_init f_Web_eq c_Web d_is_integer d_is_row d_is_fraction d_is_some d_added d_negated d_lessened d_multiplied d_divided d_squared d_is_stall d_is_index d_is_move d_stall_led d_stall_behind d_taken_out d_out_of d_stalls_behind d_moved d_l_deck d_l_pick d_l_divisor d_l_made d_l_added d_l_taken d_l_amount d_l_stall d_l_behind d_l_is_moved d_l_is_parted d_law d_Web_init d_Web_eq) : FnOk P w K mg base CX0 3 f_l_amount d_l_amount ["_law_deck_here"] (sp_am K M 3) := by
  have G_l_pick : FnOk P w K mg base CX0 1 f_l_pick d_l_pick ["_law_deck_here", "_law_many"] (sp_pick M) := ok_pick hM hM2 T
  have G_l_made : FnOk P w K mg base CX0 2 f_l_made d_l_made ["_law_top", "_law_bottom"] (sp_made K) := ok_l_made T
  refine T.F_l_amount.ok sc_l_amount (fun vs H Q E h => ?_) (fun cdv A outer s H vs Q E hr h => ?_)
  · obtain ⟨D, C, c, rfl, _⟩ := h
    rfl
  · obtain ⟨D, C, c, rfl, dk, hc, q⟩ := h
    refine ⟨_, (pss_cons (ps_set (i := 1) sc_l_amount.nd rfl (by first | exact Or.inl rfl | exact Or.inr rfl) (pe_ix ix_list (pe_lst (pa_cons pe_int (pa_cons pe_int (pa_cons (pe_op op_pow pe_int pe_int) pa_nil)))) (pe_call G_l_pick (hr.mono (by decide)) (by rfl) T.g_l_pick T.k_l_pick T.b_l_pick .nil pass0 (pa_cons (pv 0) (pa_cons pe_int pa_nil))) (fun _ _ => rfl)))
      (pss_one (ps_ret (pe_call G_l_made (hr.mono (by decide)) (by rfl) T.g_l_made T.k_l_made T.b_l_made .nil pass0 (pa_cons (pe_op op_add pe_int (pe_call G_l_pick (hr.mono (by decide)) (by rfl) T.g_l_pick T.k_l_pick T.b_l_pick .nil pass0 (pa_cons (pv 0) (pa_cons (pe_op op_sub (pv 1) pe_int) pa_nil)))) (pa_cons (pe_op op_add pe_int (pe_call G_l_pick (hr.mono (by decide)) (by rfl) T.g_l_pick T.k_l_pick T.b_l_pick .nil pass0 (pa_cons (pv 0) (pa_cons (pe_op op_sub (pv 1) pe_int) pa_nil)))) pa_nil)))))), ?_⟩
    walk_at "r"
    intro L nL
    have hL := dk.ne nL
    have dk := dk.same (same_upd (o := .lst [V.int 3, V.int 12, V.int (10 ^ (6 : Int).toNat)]) nL)
    have w0 : Fw D H _ := Same.fw (same_upd (o := .lst [V.int 3, V.int 12, V.int (10 ^ (6 : Int).toNat)]) nL)
    walk_at "r"
    refine ⟨_, _, _, _, rfl, ⟨by decide, by decide⟩, dk, by omega, fun H1 r1 w1 k1 a1 b1 => ?_⟩
    obtain ⟨size, ⟨hs1, hs2⟩, es⟩ := size3 a1 b1
    refine rd_ixL (w1 _ _ hL upd_same) es ?_
    have w1 := w0.trans w1
    walk_at "r"
    refine ⟨_, _, _, _, rfl, ⟨by omega, by omega⟩, k1, by omega, fun H2 r2 w2 k2 a2 b2 => ?_⟩
    have w2 := w1.trans w2
    walk_at "r"
    refine ⟨_, _, _, _, rfl, ⟨by omega, by omega⟩, k2, by omega, fun H3 r3 w3 k3 a3 b3 => ?_⟩
    have w3 := w2.trans w3
    walk_at "r"
    have hb : (1 + r3).natAbs < 2 ^ 20 := by omega
    refine ⟨_, _, rfl, by omega, Nat.lt_of_lt_of_le hb (pow_le (by decide)), fun H4 v s4 hv => ?_⟩
    exact q _ _ _ (w3.trans (Same.fw s4)) ((k3.same s4).mono (by omega)) hv (Bd.divInt (by omega) (by omega) hb) (divInt_pos (by omega) (by omega))
def sp_lstall (K : PySem.W.Frag) (M m : Nat) : Sp := fun vs H Q _ => ∃ (D C : Addr) (c n : Nat), vs = [.ref D, .int (n : Nat)] ∧ 2 ≤ n ∧ n ≤ 8 ∧ Deck M D C H c ∧ c ≤ 2 ^ 38 ∧ ∀ H' v s, Fw D H H' → Deck M D C H' (c + m) → IsSt K H' v s → OkSt n s → BdSt 40 s → Q v H'
theorem ok_l_stall {M : Nat} (hM : 64 ≤ M) (hM2 : M ≤ 1048576) (T : Txt K mg f_is_integer f_is_row f_is_fraction f_is_some f_added f_negated f_lessened f_multiplied f_divided f_squared f_is_stall f_is_index f_is_move f_stall_led f_stall_behind f_taken_out f_out_of f_stalls_behind f_moved f_l_deck f_l_pick f_l_divisor f_l_made f_l_added f_l_taken f_l_amount f_l_stall f_l_behind f_l_is_moved f_l_is_parted f_law f_Web_init f_Web_eq c_Web d_is_integer d_is_row d_is_fraction d_is_some d_added d_negated d_lessened d_multiplied d_divided d_squared d_is_stall d_is_index d_is_move d_stall_led d_stall_behind d_taken_out d_out_of d_stalls_behind d_moved d_l_deck d_l_pick d_l_divisor d_l_made d_l_added d_l_taken d_l_amount d_l_stall d_l_behind d_l_is_moved d_l_is_parted d_law d_Web_init d_Web_eq) : FnOk P w K mg base CX0 4 f_l_stall d_l_stall ["_law_deck_here", "_law_wares"] (sp_lstall K M 8) := by
  have G_l_pick : FnOk P w K mg base CX0 1 f_l_pick d_l_pick ["_law_deck_here", "_law_many"] (sp_pick M) := ok_pick hM hM2 T
  have G_l_made : FnOk P w K mg base CX0 2 f_l_made d_l_made ["_law_top", "_law_bottom"] (sp_made K) := ok_l_made T
  have G_l_amount : FnOk P w K mg base CX0 3 f_l_amount d_l_amount ["_law_deck_here"] (sp_am K M 3) := ok_l_amount hM hM2 T
  refine T.F_l_stall.ok sc_l_stall (fun vs H Q E h => ?_) (fun cdv A outer s H vs Q E hr h => ?_)
  · obtain ⟨D, C, c, n, rfl, _⟩ := h
    rfl
  · obtain ⟨D, C, c, n, rfl, hn2, hn8, dk, hc, q⟩ := h
    refine ⟨_, (pss_cons (ps_set (i := 2) sc_l_stall.nd rfl (by first | exact Or.inl rfl | exact Or.inr rfl) (pe_call G_l_pick (hr.mono (by decide)) (by rfl) T.g_l_pick T.k_l_pick T.b_l_pick .nil pass0 (pa_cons (pv 0) (pa_cons (pv 1) pa_nil))))
      (pss_cons (ps_set (i := 3) sc_l_stall.nd rfl (by first | exact Or.inl rfl | exact Or.inr rfl) (pe_call G_l_pick (hr.mono (by decide)) (by rfl) T.g_l_pick T.k_l_pick T.b_l_pick .nil pass0 (pa_cons (pv 0) (pa_cons (pe_op op_sub (pv 1) pe_int) pa_nil))))
      (C8.pss_cut (ps_if (pt_cmpR op_ge (pv 3) (pv 2) (nomark _))
        (pss_one (ps_set (i := 3) sc_l_stall.nd rfl (by first | exact Or.inl rfl | exact Or.inr rfl) (pe_op op_add (pv 3) pe_int)))
        pss_nil)
      (pss_cons (ps_set (i := 4) sc_l_stall.nd rfl (by first | exact Or.inl rfl | exact Or.inr rfl) (pe_call G_l_amount (hr.mono (by decide)) (by rfl) T.g_l_amount T.k_l_amount T.b_l_amount .nil pass0 (pa_cons (pv 0) pa_nil)))
      (pss_cons (ps_set (i := 5) sc_l_stall.nd rfl (by first | exact Or.inl rfl | exact Or.inr rfl) (pe_call G_l_amount (hr.mono (by decide)) (by rfl) T.g_l_amount T.k_l_amount T.b_l_amount .nil pass0 (pa_cons (pv 0) pa_nil)))
      (pss_cons (ps_set (i := 6) sc_l_stall.nd rfl (by first | exact Or.inl rfl | exact Or.inr rfl) (pe_call G_l_made (hr.mono (by decide)) (by rfl) T.g_l_made T.k_l_made T.b_l_made .nil pass0 (pa_cons (pe_op op_mulX (pe_ix ix_tup (pv 4) pe_int (fun _ _ => rfl)) (pe_ix ix_tup (pv 5) pe_int (fun _ _ => rfl))) (pa_cons (pe_op op_mulX (pe_ix ix_tup (pv 4) pe_int (fun _ _ => rfl)) (pe_ix ix_tup (pv 5) pe_int (fun _ _ => rfl))) pa_nil))))
      (pss_one (ps_ret (pe_tup (pa_cons (pv 2) (pa_cons (pv 3) (pa_cons (pv 6) (pa_cons (pe_call G_l_made (hr.mono (by decide)) (by rfl) T.g_l_made T.k_l_made T.b_l_made .nil pass0 (pa_cons (pe_op op_mulX (pe_ix ix_tup (pv 4) pe_int (fun _ _ => rfl)) (pe_ix ix_tup (pv 5) pe_int (fun _ _ => rfl))) (pa_cons (pe_op op_mulX (pe_ix ix_tup (pv 4) pe_int (fun _ _ => rfl)) (pe_ix ix_tup (pv 5) pe_int (fun _ _ => rfl))) pa_nil))) (pa_cons (pv 4) pa_nil)))))))))))))), ?_⟩
    walk_at "r"
    refine ⟨_, _, _, _, rfl, ⟨by omega, by omega⟩, dk, by omega, fun H1 r1 w1 k1 a1 b1 => ?_⟩
    walk_at "r"
    refine ⟨_, _, _, _, rfl, ⟨by omega, by omega⟩, k1, by omega, fun H2 r2 w2 k2 a2 b2 => ?_⟩
    have w2 := w1.trans w2
    walk_at "r"
    refine ⟨fun σ H' => ∃ (u v : Nat) (t4 t5 t6 : Option V), σ = [some (.ref D), some (.int (n : Nat)), some (.int (u : Nat)), some (.int (v : Nat)), t4, t5, t6] ∧ H' = H2 ∧ u < n ∧ v < n ∧ u ≠ v, ?_, ?_⟩
    · walk_at "r"
      walk_at "if"
      · rename_i h
        walk_at "r"
        refine ⟨r1.toNat, (r2 + 1).toNat, none, none, none, ?_, rfl, by omega, by omega, by omega⟩
        rw [show ((r1.toNat : Nat) : Int) = r1 by omega, show (((r2 + 1).toNat : Nat) : Int) = r2 + 1 by omega]
        rfl
      · rename_i h
        walk_at "r"
        refine ⟨r1.toNat, r2.toNat, none, none, none, ?_, rfl, by omega, by omega, by omega⟩
        rw [show ((r1.toNat : Nat) : Int) = r1 by omega, show ((r2.toNat : Nat) : Int) = r2 by omega]
        rfl
    rintro σ H' ⟨u, v, t4, t5, t6, rfl, rfl, hu, hv, huv⟩
    walk_at "r"
    refine ⟨_, _, _, rfl, k2, by omega, fun H3 root r w3 k3 fr br r0 => ?_⟩
    walk_at "r"
    refine ⟨_, _, _, rfl, k3, by omega, fun H4 fac f w4 k4 ff bf f0 => ?_⟩
    have fr := fr.fw k3 w4
    have w4 := (w2.trans w3).trans w4
    have rd4 : ((r.den : Int)).natAbs < 2 ^ 20 := by rw [Int.natAbs_natCast]; exact br.2
    have fd4 : ((f.den : Int)).natAbs < 2 ^ 20 := by rw [Int.natAbs_natCast]; exact bf.2
    have rn0 := num_pos' r0
    have fn0 := num_pos' f0
    have rd0 := den_pos r
    have fd0 := den_pos f
    obtain ⟨pr1, rfl, hpr⟩ := id fr
    obtain ⟨pf1, rfl, hpf⟩ := id ff
    have p64 : ∀ {z : Int}, z.natAbs < 2 ^ 20 → z.natAbs < 2 ^ 64 := fun h => Nat.lt_of_lt_of_le h (pow_le (by decide))
    walk_at "r"
    rotate_left
    · exact cmul_small (p64 rd4) (p64 fd4)
    · exact cmul_small (p64 br.1) (p64 bf.1)
    refine ⟨_, _, rfl, Int.mul_pos rd0 fd0, Nat.lt_of_lt_of_le (mul_lt' rd4 fd4) (pow_le (by decide)), fun H5 one s5 h1 => ?_⟩
    rw [divInt_mul'] at h1
    have fr := fr.same s5
    have hpr := hpr.same s5
    have hpf := hpf.same s5
    walk_at "r"
    rotate_left
    · exact cmul_small (p64 rd4) (p64 bf.1)
    · exact cmul_small (p64 br.1) (p64 fd4)
    refine ⟨_, _, rfl, Int.mul_pos rd0 fn0, Nat.lt_of_lt_of_le (mul_lt' rd4 bf.1) (pow_le (by decide)), fun H6 other s6 h2 => ?_⟩
    walk_at "r"
    intro p7 n7
    have sm := same_upd (o := .tup [V.int (u : Nat), .int (v : Nat), one, other, .ref pr1]) n7
    refine q _ _ ⟨u, v, r * f, Rat.divInt (r.num * f.den) (r.den * f.num), r⟩ (w4.trans (Same.fw ((s5.trans s6).trans sm))) ((k4.same ((s5.trans s6).trans sm)).mono (by omega)) ⟨p7, one, other, .ref pr1, rfl, upd_same, (h1.same s6).same sm, h2.same sm, (fr.same s6).same sm⟩ ?_ ?_
    · exact ⟨hu, hv, huv, Rat.mul_pos r0 f0, divInt_pos (Int.mul_pos rn0 fd0) (Int.mul_pos rd0 fn0), r0, back_root r f f0⟩
    · exact ⟨br.mul bf, Bd.divInt (Int.ne_of_gt (Int.mul_pos rd0 fn0)) (mul_lt' br.1 fd4) (mul_lt' rd4 bf.1), br.mono (by decide)⟩
end
end My
namespace My
open PySem PySem.Spec PyProof.Rows L2
variable {K : PySem.W.Frag}
theorem eq_div_of {h x k : Rat} (hz : h ≠ 0) (e : h * x = k) : x = k / h := by
  rw [← e, Rat.div_def, Rat.mul_comm h x, Rat.mul_assoc, Rat.mul_inv_cancel h hz, Rat.mul_one]
theorem rest_is (r h : Rat) (h0 : 0 < h) : Rat.divInt (r.num * r.num * h.den) ((r.den : Int) * r.den * h.num) = r * r / h := by
  refine eq_div_of (ne_of_pos h0) ?_
  have hn : h.num * h.den ≠ 0 := Int.ne_of_gt (Int.mul_pos (num_pos' h0) (den_pos h))
  have e : h * Rat.divInt (r.num * r.num * h.den) ((r.den : Int) * r.den * h.num) = Rat.divInt h.num h.den * Rat.divInt (r.num * r.num * h.den) ((r.den : Int) * r.den * h.num) := by rw [Rat.num_divInt_den]
  rw [e, Rat.divInt_mul_divInt, ← divInt_mul' r r]
  rw [show h.num * (r.num * r.num * h.den) = r.num * r.num * (h.num * h.den) by grind, show (h.den : Int) * ((r.den : Int) * r.den * h.num) = (r.den : Int) * r.den * (h.num * h.den) by grind]
  exact Rat.divInt_mul_right hn
section
variable {P : Program} {w : World} {K : PySem.W.Frag} {mg : Str → Option Value} {base : Heap} {f_is_integer f_is_row f_is_fraction f_is_some f_added f_negated f_lessened f_multiplied f_divided f_squared f_is_stall f_is_index f_is_move f_stall_led f_stall_behind f_taken_out f_out_of f_stalls_behind f_moved f_l_deck f_l_pick f_l_divisor f_l_made f_l_added f_l_taken f_l_amount f_l_stall f_l_behind f_l_is_moved f_l_is_parted f_law f_Web_init f_Web_eq c_Web : Addr} {d_is_integer d_is_row d_is_fraction d_is_some d_added d_negated d_lessened d_multiplied d_divided d_squared d_is_stall d_is_index d_is_move d_stall_led d_stall_behind d_taken_out d_out_of d_stalls_behind d_moved d_l_deck d_l_pick d_l_divisor d_l_made d_l_added d_l_taken d_l_amount d_l_stall d_l_behind d_l_is_moved d_l_is_parted d_law d_Web_init d_Web_eq : FuncData}
def sp_lbehind (K : PySem.W.Frag) : Sp := fun vs H Q _ => ∃ (v : V) (s : Stl) (wn : Nat) (vx : V) (x : Rat), vs = [v, .int (wn : Nat), vx] ∧ IsSt K H v s ∧ IsF K H vx x ∧ (wn = s.u ∨ wn = s.v) ∧ s.u ≠ s.v ∧ BdSt 900 s ∧ Bd 900 x ∧ 0 < s.a ∧ 0 < s.b ∧ 0 < x ∧ ∀ H' u, Same H H' → IsSt K H' u (s.behind wn x) → Q u H'
theorem ok_l_behind (T : Txt K mg f_is_integer f_is_row f_is_fraction f_is_some f_added f_negated f_lessened f_multiplied f_divided f_squared f_is_stall f_is_index f_is_move f_stall_led f_stall_behind f_taken_out f_out_of f_stalls_behind f_moved f_l_deck f_l_pick f_l_divisor f_l_made f_l_added f_l_taken f_l_amount f_l_stall f_l_behind f_l_is_moved f_l_is_parted f_law f_Web_init f_Web_eq c_Web d_is_integer d_is_row d_is_fraction d_is_some d_added d_negated d_lessened d_multiplied d_divided d_squared d_is_stall d_is_index d_is_move d_stall_led d_stall_behind d_taken_out d_out_of d_stalls_behind d_moved d_l_deck d_l_pick d_l_divisor d_l_made d_l_added d_l_taken d_l_amount d_l_stall d_l_behind d_l_is_moved d_l_is_parted d_law d_Web_init d_Web_eq) : FnOk P w K mg base CX0 4 f_l_behind d_l_behind ["_law_stall_here", "_law_ware", "_law_amount_here"] (sp_lbehind K) := by
  have G_l_made : FnOk P w K mg base CX0 2 f_l_made d_l_made ["_law_top", "_law_bottom"] (sp_made K) := ok_l_made T
  have G_l_added : FnOk P w K mg base CX0 3 f_l_added d_l_added ["_law_one", "_law_other"] (sp_two9 K (· + ·)) := ok_l_added T
  refine T.F_l_behind.ok sc_l_behind (fun vs H Q E h => ?_) (fun cdv A outer s H vs Q E hr h => ?_)
  · obtain ⟨v, s, wn, vx, x, rfl, _⟩ := h
    rfl
  · obtain ⟨v, s, wn, vx, x, rfl, hst, hx, hwn, huv, bs, bx, a0, b0, x0, q⟩ := h
    obtain ⟨p, va, vb, vr, rfl, hp, ha, hb, hr'⟩ := id hst
    have rd : ((s.r.den : Int)).natAbs < 2 ^ 900 := by rw [Int.natAbs_natCast]; exact bs.r.2
    obtain ⟨pr, rfl, hpr⟩ := id hr'
    have up : ∀ {z : Int} {k : Nat}, k ≤ 20000 → z.natAbs < 2 ^ k → z.natAbs < 2 ^ 20000 := fun hk h => Nat.lt_of_lt_of_le h (pow_le hk)
    refine ⟨_, (pss_cons (ps_set (i := 3) sc_l_behind.nd rfl (by first | exact Or.inl rfl | exact Or.inr rfl) (pe_op op_add pe_int (pe_callTy call_intN (by rfl) T.z_int (by decide +kernel) (pa_cons (pe_cmpR op_eq (pv 1) (pe_ix ix_tup (pv 0) pe_int (fun _ _ => rfl)) (nomark _)) pa_nil))))
      (pss_cons (ps_set (i := 4) sc_l_behind.nd rfl (by first | exact Or.inl rfl | exact Or.inr rfl) (pe_call G_l_added (hr.mono (by decide)) (by rfl) T.g_l_added T.k_l_added T.b_l_added .nil pass0 (pa_cons (pe_ix ix_tup (pv 0) (pv 3) (fun _ _ => rfl)) (pa_cons (pv 2) pa_nil))))
      (pss_cons (ps_set (i := 5) sc_l_behind.nd rfl (by first | exact Or.inl rfl | exact Or.inr rfl) (pe_ix ix_tup (pv 0) pe_int (fun _ _ => rfl)))
      (pss_cons (ps_set (i := 6) sc_l_behind.nd rfl (by first | exact Or.inl rfl | exact Or.inr rfl) (pe_call G_l_made (hr.mono (by decide)) (by rfl) T.g_l_made T.k_l_made T.b_l_made .nil pass0 (pa_cons (pe_op op_mulX (pe_op op_mulX (pe_ix ix_tup (pv 5) pe_int (fun _ _ => rfl)) (pe_ix ix_tup (pv 5) pe_int (fun _ _ => rfl))) (pe_ix ix_tup (pv 4) pe_int (fun _ _ => rfl))) (pa_cons (pe_op op_mulX (pe_op op_mulX (pe_ix ix_tup (pv 5) pe_int (fun _ _ => rfl)) (pe_ix ix_tup (pv 5) pe_int (fun _ _ => rfl))) (pe_ix ix_tup (pv 4) pe_int (fun _ _ => rfl))) pa_nil))))
      (pss_cons (ps_if (pt_cmpR op_eq (pv 3) pe_int (nomark _))
        (pss_one (ps_ret (pe_tup (pa_cons (pe_ix ix_tup (pv 0) pe_int (fun _ _ => rfl)) (pa_cons (pe_ix ix_tup (pv 0) pe_int (fun _ _ => rfl)) (pa_cons (pv 4) (pa_cons (pv 6) (pa_cons (pv 5) pa_nil))))))))
        pss_nil)
      (pss_one (ps_ret (pe_tup (pa_cons (pe_ix ix_tup (pv 0) pe_int (fun _ _ => rfl)) (pa_cons (pe_ix ix_tup (pv 0) pe_int (fun _ _ => rfl)) (pa_cons (pv 6) (pa_cons (pv 4) (pa_cons (pv 5) pa_nil))))))))))))), ?_⟩
    walk_at "r"
    by_cases e : wn = s.v
    · have e1 : ¬ wn = s.u := fun z => huv (z.symm.trans e)
      rw [show s.behind wn x = s.secnd (s.b + x) from if_neg e1] at q
      have c0 : 0 < s.b + x := by grind
      rw [decide_eq_true (show ((wn : Nat) : Int) = (s.v : Nat) by omega)]
      walk_at "r"
      refine ⟨_, _, _, _, rfl, hb, hx, bs.b.mono (by decide), bx.mono (by decide), fun H1 u1 s1 h1 => ?_⟩
      have h1 : IsF K H1 u1 (s.b + x) := h1
      have bh : Bd 1801 (s.b + x) := bs.b.add bx
      have hp := s1 _ _ hp
      have hpr := hpr.same s1
      obtain ⟨ph, rfl, hph⟩ := id h1
      have n0 := num_pos' c0
      generalize s.b + x = y at *
      have yd : ((y.den : Int)).natAbs < 2 ^ 1801 := by rw [Int.natAbs_natCast]; exact bh.2
      walk_at "r"
      rotate_left
      · exact cmx (up (by decide) (mul_lt' rd rd)) (up (by decide) bh.1)
      · exact cmx (up (by decide) rd) (up (by decide) rd)
      · exact cmx (up (by decide) (mul_lt' bs.r.1 bs.r.1)) (up (by decide) yd)
      · exact cmx (up (by decide) bs.r.1) (up (by decide) bs.r.1)
      refine ⟨_, _, rfl, Int.mul_pos (Int.mul_pos (den_pos _) (den_pos _)) n0, Nat.lt_of_lt_of_le (mul_lt' (mul_lt' rd rd) bh.1) (pow_le (by decide)), fun H2 u2 s2 h2 => ?_⟩
      rw [rest_is s.r y c0] at h2
      have hp := s2 _ _ hp
      walk_at "r"
      intro p4 n4
      have sm := same_upd (o := .tup [V.int (s.u : Nat), .int (s.v : Nat), u2, .ref ph, .ref pr]) n4
      exact q _ _ ((s1.trans s2).trans sm) ⟨p4, u2, .ref ph, .ref pr, rfl, upd_same, h2.same sm, (h1.same s2).same sm, ((hr'.same s1).same s2).same sm⟩
    · have e1 : wn = s.u := hwn.resolve_right e
      rw [show s.behind wn x = s.first (s.a + x) from if_pos e1] at q
      have c0 : 0 < s.a + x := by grind
      rw [decide_eq_false (show ¬ ((wn : Nat) : Int) = (s.v : Nat) by omega)]
      walk_at "r"
      refine ⟨_, _, _, _, rfl, ha, hx, bs.a.mono (by decide), bx.mono (by decide), fun H1 u1 s1 h1 => ?_⟩
      have h1 : IsF K H1 u1 (s.a + x) := h1
      have bh : Bd 1801 (s.a + x) := bs.a.add bx
      have hp := s1 _ _ hp
      have hpr := hpr.same s1
      obtain ⟨ph, rfl, hph⟩ := id h1
      have n0 := num_pos' c0
      generalize s.a + x = y at *
      have yd : ((y.den : Int)).natAbs < 2 ^ 1801 := by rw [Int.natAbs_natCast]; exact bh.2
      walk_at "r"
      rotate_left
      · exact cmx (up (by decide) (mul_lt' rd rd)) (up (by decide) bh.1)
      · exact cmx (up (by decide) rd) (up (by decide) rd)
      · exact cmx (up (by decide) (mul_lt' bs.r.1 bs.r.1)) (up (by decide) yd)
      · exact cmx (up (by decide) bs.r.1) (up (by decide) bs.r.1)
      refine ⟨_, _, rfl, Int.mul_pos (Int.mul_pos (den_pos _) (den_pos _)) n0, Nat.lt_of_lt_of_le (mul_lt' (mul_lt' rd rd) bh.1) (pow_le (by decide)), fun H2 u2 s2 h2 => ?_⟩
      rw [rest_is s.r y c0] at h2
      have hp := s2 _ _ hp
      walk_at "r"
      intro p4 n4
      have sm := same_upd (o := .tup [V.int (s.u : Nat), .int (s.v : Nat), .ref ph, u2, .ref pr]) n4
      exact q _ _ ((s1.trans s2).trans sm) ⟨p4, .ref ph, u2, .ref pr, rfl, upd_same, (h1.same s2).same sm, h2.same sm, ((hr'.same s1).same s2).same sm⟩
end
end My
namespace My
open PySem PySem.Spec PyProof.Rows L2
variable {K : PySem.W.Frag}
/-! ### webs compared -/
instance decStl : DecidableEq Stl := fun s t => decidable_of_decidable_of_iff (p := s.u = t.u ∧ s.v = t.v ∧ s.a = t.a ∧ s.b = t.b ∧ s.r = t.r) (by
  obtain ⟨u, v, a, b, r⟩ := s
  obtain ⟨u', v', a', b', r'⟩ := t
  simp only [Stl.mk.injEq])
def stD (s : Stl) : PyData := .tuple [.int (s.u : Nat), .int (s.v : Nat), frD s.a, frD s.b, frD s.r]
theorem stD_eqv (s t : Stl) : PyData.eqv (stD s) (stD t) = decide (s = t) := by
  have e : PyData.eqv (stD s) (stD t) = (decide ((s.u : Int) = t.u) && (decide ((s.v : Int) = t.v) && (decide (s.a = t.a) && (decide (s.b = t.b) && decide (s.r = t.r))))) := by
    unfold stD
    rw [PyData.eqv, PyData.eqvAll, PyData.eqvAll, PyData.eqvAll, PyData.eqvAll, PyData.eqvAll, PyData.eqvAll, frD_eqv, frD_eqv, frD_eqv]
    simp only [PyData.eqv, Bool.and_true, Bool.beq_eq_decide_eq]
  rw [e, Bool.eq_iff_iff]
  simp only [Bool.and_eq_true, decide_eq_true_eq]
  obtain ⟨u, v, a, b, r⟩ := s
  obtain ⟨u', v', a', b', r'⟩ := t
  simp only [Stl.mk.injEq]
  constructor <;> rintro ⟨h1, h2, h3, h4, h5⟩ <;> exact ⟨by omega, by omega, h3, h4, h5⟩
theorem sts_eqv : ∀ ss tt : List Stl, PyData.eqvAll (ss.map stD) (tt.map stD) = decide (ss = tt)
  | [], [] => rfl
  | [], _ :: _ => rfl
  | _ :: _, [] => rfl
  | s :: ss, t :: tt => by
    show (PyData.eqv (stD s) (stD t) && PyData.eqvAll (ss.map stD) (tt.map stD)) = _
    rw [stD_eqv, sts_eqv ss tt, Bool.eq_iff_iff]
    simp
theorem sts_lay : ∀ ss : List Stl, PyData.canLayAll0 (ss.map stD) = true ∧ PyData.depthAll (ss.map stD) ≤ 2
  | [] => ⟨rfl, by decide⟩
  | s :: ss => by
    obtain ⟨h1, h2⟩ := sts_lay ss
    refine ⟨?_, ?_⟩
    · show (PyData.canLay0 (stD s) && PyData.canLayAll0 (ss.map stD)) = true
      rw [h1]
      rfl
    · show max (PyData.depth (stD s)) (PyData.depthAll (ss.map stD)) ≤ 2
      have : PyData.depth (stD s) = 2 := rfl
      omega
theorem sts_shaped (ss : List Stl) : SeqAt.shaped (.tuple (ss.map stD)) = true := by
  obtain ⟨h1, h2⟩ := sts_lay ss
  unfold SeqAt.shaped
  rw [Bool.and_eq_true]
  refine ⟨h1, decide_eq_true ?_⟩
  show PyData.depthAll (ss.map stD) + 1 ≤ 64
  omega
theorem IsSt.dp {K : PySem.W.Frag} {H : Hp} {x : V} {s : Stl} (h : IsSt K H x s) : Dp K H x (stD s) := by
  obtain ⟨p, va, vb, vr, rfl, h, a, b, r⟩ := h
  exact .tup (.of h) (.cons (.int _) (.cons (.int _) (.cons a.dp (.cons b.dp (.cons r.dp .nil)))))
theorem Sts.dp {K : PySem.W.Frag} {H : Hp} {t : Addr} {xs : List V} {ss : List Stl} (h : Sts K H xs ss) (ht : H t = some (.tup xs)) : Dp K H (.ref t) (.tuple (ss.map stD)) := by
  refine .tup (.of ht) ?_
  clear ht
  unfold Sts at h
  induction h with
  | nil => exact .nil
  | cons h t ih => exact .cons h.dp ih
end My
namespace My
open PySem PySem.Spec PyProof.Rows L2
/-! ### x != y of instances with an own == and no own != -/
section
variable {prog : Program} {w : World} {A : Around} {E : Value → Shared → Prop} {s : Shared} {K : PySem.W.Frag} {x y C f : Addr} {ox : Obj} {od : Option Obj}
theorem boundB {name : Str} {id B : String} {args : List Value} {Q : Option Value → Shared → Prop} (X : K.In s.heap) (I : PySem.W.InstAt s.heap x ox C od) (hs : PySem.W.findIn K (.ref C) name = some (some (.builtin id))) (S : Slot B name id)
    (h : wpAny (model prog w) A (call (.builtin id) (.ref x :: args)) (fun v => Q (some v)) E s) : wpAny (model prog w) A (callSpecialIfBound? (.ref x) name args) Q E s := by
  have fin : wpAny (model prog w) A (do let v ← call (.builtin id) ([.ref x] ++ args); pure (some v)) Q E s := wpAny_bind (wpAny_mono h (fun v s' q => wpAny_pure q) fun _ _ q => q)
  simp only [callSpecialIfBound?, bindSpecialIfBound?]
  refine wpAny_holding (wpAny_bind (wpAny_bind (wpAny_bind (I.type.here ((PySem.W.looks_findIn X hs).here ?_)))))
  simp only [S.bind]
  refine wpAny_bind (wpAny_askSetting (wpAny_ite ?_))
  split
  · exact wpAny_bind (wpAny_pure (wpAny_pure fin))
  · exact wpAny_tryCatch (wpAny_bind (wpAny_pure (wpAny_pure fin)))
theorem neBody {Q : Fin → Shared → Prop} (hu : A.units < cLine) (X : K.In s.heap) (I : PySem.W.InstAt s.heap x ox C od) (hs : PySem.W.findIn K (.ref C) "__eq__" = some (some (.ref f))) (hf : PySem.W.isFn K (.ref f) = true)
    (h : wpAny (model prog w) A (call (.ref f) [.ref x, .ref y]) (fun v s' => ∃ b, v = .bool b ∧ Q (.done (.ret (.bool (!b)))) s') E s) : wpAny (model prog w) A (Builtin.«object.__ne__» ⟨[.ref x, .ref y], []⟩) Q E s := by
  unfold Builtin.«object.__ne__»
  have step : wpAny (model prog w) A (callSpecialIfBound? (.ref x) (Str.ofString "__eq__") [.ref y]) (fun r s' => ∃ b, r = some (.bool b) ∧ Q (.done (.ret (.bool (!b)))) s') E s :=
    PySem.W.ifBound_K X I hs hf (wpAny_mono h (fun v s' q => by obtain ⟨b, rfl, q⟩ := q; exact ⟨b, rfl, q⟩) fun _ _ q => q)
  repeat (first
    | with_reducible refine wpAny_cRoomFor hu ?_
    | (refine wpAny_bind (m := callSpecialIfBound? (.ref x) (Str.ofString "__eq__") [.ref y]) (wpAny_mono step (fun r s' q => ?_) fun _ _ q => q); obtain ⟨b, rfl, q⟩ := q)
    | exact q
    | (refine wpAny_bind (m := truthy (.bool _)) (wpAny_truthy_bool ?_))
    | wp_step)
theorem tryNe {Q : Option Value → Shared → Prop} (hu : A.units + 1 < cLine) (X : K.In s.heap) (I : PySem.W.InstAt s.heap x ox C od) (hne : PySem.W.findIn K (.ref C) "__ne__" = some (some (.builtin "object.__ne__"))) (hm : PySem.W.mroIn K C (.type "object") = some true)
    (hs : PySem.W.findIn K (.ref C) "__eq__" = some (some (.ref f))) (hf : PySem.W.isFn K (.ref f) = true)
    (h : wpAny (model prog w) A.in1 (call (.ref f) [.ref x, .ref y]) (fun v s' => ∃ b, v = .bool b ∧ Q (some (.bool (!b))) s') E s) : wpAny (model prog w) A (tryCompare (.ref x) "__ne__" (.ref y)) Q E s := by
  simp only [tryCompare]
  refine wpAny_bind (boundB X I hne F.cmp_object.ne (wpAny_call (codeAny_call_builtin F.cmp_object.ne.plain F.cmpEntry_ne (PySem.W.check_slot F.cmpKind_ne F.cmpSplit_ne (I.type.andThen (PySem.W.looks_mroIn X hm)) (F.cmpArgs_ne _ _) (neBody (A := A.in1) (by
    show A.units + 1 < cLine
    exact hu) X I hs hf (wpAny_mono h (fun v s' q => ?_) fun _ _ q => q))))))
  obtain ⟨b, rfl, q⟩ := q
  first
    | exact ⟨b, rfl, ⟨_, rfl, wpAny_pure q⟩⟩
    | exact ⟨b, rfl, wpAny_pure q⟩
    | exact ⟨b, rfl, wpAny_pure (wpAny_pure q)⟩
theorem richNe {oy : Obj} {ody : Option Obj} {Q : Value → Shared → Prop} (hu : A.units + 1 < cLine) (X : K.In s.heap) (I : PySem.W.InstAt s.heap x ox C od) (J : PySem.W.InstAt s.heap y oy C ody) (hne : PySem.W.findIn K (.ref C) "__ne__" = some (some (.builtin "object.__ne__"))) (hm : PySem.W.mroIn K C (.type "object") = some true)
    (hs : PySem.W.findIn K (.ref C) "__eq__" = some (some (.ref f))) (hf : PySem.W.isFn K (.ref f) = true)
    (h : wpAny (model prog w) A.in1 (call (.ref f) [.ref x, .ref y]) (fun v s' => ∃ b, v = .bool b ∧ Q (.bool (!b)) s') E s) : wpAny (model prog w) A (richCompare .NotEq (.ref x) (.ref y)) Q E s := by
  unfold richCompare
  simp only [oneThing_ref]
  refine wpAny_holding (wpAny_bind (wpAny_cRoomFor (Nat.lt_of_succ_lt hu) ?_))
  rw [cmpInfo_NotEq]
  refine wpAny_bind (I.type.here (wpAny_bind (J.type.here ?_)))
  rw [show (Value.ref C != Value.ref C) = false by simp]
  simp only [Bool.false_eq_true, if_false]
  refine wpAny_bind (wpAny_pure ?_)
  refine wpAny_bind (tryNe hu X I hne hm hs hf (wpAny_mono h (fun v s' q => ?_) fun _ _ q => q))
  obtain ⟨b, rfl, q⟩ := q
  exact ⟨b, rfl, wpAny_pure q⟩
end
/-- x != y, both instances of C; R what the two must be, for any answer of the own == -/
def spEqB (R : Addr → Addr → Hp → Bool → Prop) : Sp := fun vs H Q _ => ∃ a b r, vs = [.ref a, .ref b] ∧ R a b H r ∧ Q (.bl r) H
def rNeI (C : Addr) (R : Addr → Addr → Hp → Bool → Prop) : R2 := fun x y H Q => ∃ a b dx dy fs gs r, x = .ref a ∧ y = .ref b ∧ H a = some (.ins C dx fs) ∧ H b = some (.ins C dy gs) ∧ R a b H r ∧ Q (.bl (!r)) H
theorem op_neI {X : Cx} {n : Nat} {C f : Addr} {fd : FuncData} {ps : List Str} {R : Addr → Addr → Hp → Bool → Prop} (F : FnOk X.prog X.w X.K X.mg X.base CX0 n f fd ps (spEqB R)) (hr : Room (n + 1) X.A)
    (hne : PySem.W.findIn X.K (.ref C) "__ne__" = some (some (.builtin "object.__ne__"))) (hm : PySem.W.mroIn X.K C (.type "object") = some true) (hs : PySem.W.findIn X.K (.ref C) "__eq__" = some (some (.ref f))) (hf : PySem.W.isFn X.K (.ref f) = true) (hb : Binds X.K fd ps []) :
    OpR X (compareOp .NotEq) (rNeI C R) := by
  intro pins s σ H x y v u Q I rx ry hq
  obtain ⟨a, b, dx, dy, fs, gs, r, rfl, rfl, ha, hb', hR, q⟩ := hq
  cases rx
  cases ry
  obtain ⟨mA, J, _⟩ := ins_get I.hok ha
  obtain ⟨mB, J', _⟩ := ins_get I.hok hb'
  obtain ⟨od, J, _⟩ := J.look
  obtain ⟨od', J', _⟩ := J'.look
  show wpAny (model X.prog X.w) X.A (richCompare .NotEq (.ref a) (.ref b)) (EP X pins σ Q) X.xe s
  refine richNe ?_ I.kIn J J' hne hm hs hf ?_
  · have := hr.un
    omega
  have hsp : spEqB R [.ref a, .ref b] H (fun v H' => v = .bl r ∧ H' = H) E0 := ⟨a, b, r, rfl, hR, rfl, rfl⟩
  have e0 : Env0 X.prog X.w X.K X.mg X.base X.A.in1 X.stack s H := I.env0.in1
  have hl := F.len _ _ _ _ hsp
  have r2 : Vals [V.ref a, V.ref b] [Value.ref a, Value.ref b] := .cons rfl (.cons rfl .nil)
  refine wpAny_call (codeAny_mono (F.run X.A.in1 X.stack s H ⟨[.ref a, .ref b], []⟩ [.ref a, .ref b] [.ref a, .ref b] _ E0 hr.in1 e0 (by
    have := hb s [.ref a, .ref b] I.kIn (by simpa using hl)
    simpa using this) r2 hsp) fun z s' hz => ?_)
  cases z with
  | error e => exact False.elim hz
  | ok fl =>
    cases fl with
    | ret w' =>
      obtain ⟨z, H', I', rz, ez, ex⟩ := I.after hz
      subst ez
      subst ex
      cases rz
      exact ⟨r, rfl, .bl (!r), H', I', rfl, q⟩
    | next => exact False.elim hz
    | brk => exact False.elim hz
    | cont => exact False.elim hz
/-- x == y of such instances, for any answer of the own == -/
def rEqI (C : Addr) (R : Addr → Addr → Hp → Bool → Prop) : R2 := fun x y H Q => ∃ a b dx dy fs gs r, x = .ref a ∧ y = .ref b ∧ H a = some (.ins C dx fs) ∧ H b = some (.ins C dy gs) ∧ R a b H r ∧ Q (.bl r) H
theorem op_eqI {X : Cx} {n : Nat} {C f : Addr} {fd : FuncData} {ps : List Str} {R : Addr → Addr → Hp → Bool → Prop} (F : FnOk X.prog X.w X.K X.mg X.base CX0 n f fd ps (spEqB R)) (hr : Room (n + 1) X.A)
    (hs : PySem.W.findIn X.K (.ref C) "__eq__" = some (some (.ref f))) (hf : PySem.W.isFn X.K (.ref f) = true) (hb : Binds X.K fd ps []) : OpR X (compareOp .Eq) (rEqI C R) := by
  intro pins s σ H x y v u Q I rx ry hq
  obtain ⟨a, b, dx, dy, fs, gs, r, rfl, rfl, ha, hb', hR, q⟩ := hq
  cases rx
  cases ry
  obtain ⟨mA, J, _⟩ := ins_get I.hok ha
  obtain ⟨mB, J', _⟩ := ins_get I.hok hb'
  obtain ⟨od, J, _⟩ := J.look
  obtain ⟨od', J', _⟩ := J'.look
  obtain ⟨m, hF⟩ := I.fr
  show wpAny (model X.prog X.w) X.A (richCompare .Eq (.ref a) (.ref b)) (EP X pins σ Q) X.xe s
  refine PySem.W.cmp_K (op := .Eq) (tb := .ref C) hr.units0 hF I.ok.mod.kin J J'.type (by simp [PySem.W.notFirst]) hs hf ?_
  have hsp : spEqB R [.ref a, .ref b] H (fun v H' => v = .bl r ∧ H' = H) E0 := ⟨a, b, r, rfl, hR, rfl, rfl⟩
  have hl := F.len _ _ _ _ hsp
  have r2 : Vals [V.ref a, V.ref b] [Value.ref a, Value.ref b] := .cons rfl (.cons rfl .nil)
  refine wpAny_call (codeAny_mono (F.run X.A X.stack s H ⟨[.ref a, .ref b], []⟩ [.ref a, .ref b] [.ref a, .ref b] _ E0 (hr.mono (Nat.le_succ n)) I.env0 (by
    have := hb s [.ref a, .ref b] I.kIn (by simpa using hl)
    simpa using this) r2 hsp) fun z s' hz => ?_)
  cases z with
  | error e => exact False.elim hz
  | ok fl =>
    cases fl with
    | ret w' =>
      obtain ⟨z, H', I', rz, ez, ex⟩ := I.after hz
      subst ez
      subst ex
      cases rz
      exact ⟨.bl r, H', I', rfl, q⟩
    | next => exact False.elim hz
    | brk => exact False.elim hz
    | cont => exact False.elim hz
end My
namespace My
open PySem PySem.Spec PyProof.Rows L2
variable {K : PySem.W.Frag}
theorem kit_self {K : PySem.W.Frag} {t : Value} : PySem.W.kitOne K t t = some true := by
  unfold PySem.W.kitOne
  simp
section
variable {P : Program} {w : World} {K : PySem.W.Frag} {mg : Str → Option Value} {base : Heap} {f_is_integer f_is_row f_is_fraction f_is_some f_added f_negated f_lessened f_multiplied f_divided f_squared f_is_stall f_is_index f_is_move f_stall_led f_stall_behind f_taken_out f_out_of f_stalls_behind f_moved f_l_deck f_l_pick f_l_divisor f_l_made f_l_added f_l_taken f_l_amount f_l_stall f_l_behind f_l_is_moved f_l_is_parted f_law f_Web_init f_Web_eq c_Web : Addr} {d_is_integer d_is_row d_is_fraction d_is_some d_added d_negated d_lessened d_multiplied d_divided d_squared d_is_stall d_is_index d_is_move d_stall_led d_stall_behind d_taken_out d_out_of d_stalls_behind d_moved d_l_deck d_l_pick d_l_divisor d_l_made d_l_added d_l_taken d_l_amount d_l_stall d_l_behind d_l_is_moved d_l_is_parted d_law d_Web_init d_Web_eq : FuncData}
def sp_weq (K : PySem.W.Frag) (C : Addr) : Sp := fun vs H Q _ => ∃ (x y : V) (n m : Nat) (ss tt : List Stl), vs = [x, y] ∧ IsWeb K C H x n ss ∧ IsWeb K C H y m tt ∧ Q (.bl (decide (n = m) && decide (ss = tt))) H
theorem ok_Web_eq (T : Txt K mg f_is_integer f_is_row f_is_fraction f_is_some f_added f_negated f_lessened f_multiplied f_divided f_squared f_is_stall f_is_index f_is_move f_stall_led f_stall_behind f_taken_out f_out_of f_stalls_behind f_moved f_l_deck f_l_pick f_l_divisor f_l_made f_l_added f_l_taken f_l_amount f_l_stall f_l_behind f_l_is_moved f_l_is_parted f_law f_Web_init f_Web_eq c_Web d_is_integer d_is_row d_is_fraction d_is_some d_added d_negated d_lessened d_multiplied d_divided d_squared d_is_stall d_is_index d_is_move d_stall_led d_stall_behind d_taken_out d_out_of d_stalls_behind d_moved d_l_deck d_l_pick d_l_divisor d_l_made d_l_added d_l_taken d_l_amount d_l_stall d_l_behind d_l_is_moved d_l_is_parted d_law d_Web_init d_Web_eq) : FnOk P w K mg base CX0 1 f_Web_eq d_Web_eq ["self", "other"] (sp_weq K c_Web) := by
  refine T.F_Web_eq.ok sc_Web_eq (fun vs H Q E h => ?_) (fun cdv A outer s H vs Q E hr h => ?_)
  · obtain ⟨x, y, n, m, ss, tt, rfl, _⟩ := h
    rfl
  · obtain ⟨x, y, n, m, ss, tt, rfl, ⟨p, dx, t, xs, rfl, hp, ht, hss⟩, ⟨p2, dx2, t2, xs2, rfl, hp2, ht2, hss2⟩, q⟩ := h
    refine ⟨_, (pss_one (ps_ret (pe_and (pe_callB call_isi (by rfl) T.z_isinstance (by decide +kernel) (pa_cons (pv 1) (pa_cons (pe_glob (v := .ref c_Web) (by rfl) T.w_Web.g rfl) pa_nil))) (pe_and (pe_cmpR op_eq (pe_fld (pv 0) rfl) (pe_fld (pv 1) rfl) (nomark _)) (pe_one (pe_cmpR (op_eqD hr.units) (pe_fld (pv 0) rfl) (pe_fld (pv 1) rfl) (nomark _))))))), ?_⟩
    walk_at "r"
    refine ⟨_, _, _, _, _, rfl, .own _, .base (.ins hp2 T.w_Web.it.cl T.w_Web.it.ha T.w_Web.it.hn T.w_Web.it.ht T.w_Web.it.mo), kit_self, ?_⟩
    walk_at "r"
    refine ⟨_, _, _, _, _, rfl, hp, T.w_Web.it.cl, T.n_Web_wares, wF_wares _ _, ?_⟩
    walk_at "r"
    refine ⟨_, _, _, _, _, rfl, hp2, T.w_Web.it.cl, T.n_Web_wares, wF_wares _ _, ?_⟩
    walk_at "r"
    have e1 : decide (((n : Nat) : Int) = (m : Nat)) = decide (n = m) := by
      rw [Bool.eq_iff_iff, decide_eq_true_eq, decide_eq_true_eq]
      omega
    by_cases e : n = m
    · have e2 : ((n : Nat) : Int) = (m : Nat) := by omega
      rw [decide_eq_true e, Bool.true_and] at q
      rw [decide_eq_true e2]
      walk_at "r"
      refine ⟨_, _, _, _, _, rfl, hp, T.w_Web.it.cl, T.n_Web_stalls, wF_stalls _ _, ?_⟩
      walk_at "r"
      refine ⟨_, _, _, _, _, rfl, hp2, T.w_Web.it.cl, T.n_Web_stalls, wF_stalls _ _, ?_⟩
      refine ⟨_, _, hss.dp ht, hss2.dp ht2, sts_shaped _, sts_shaped _, ?_⟩
      rw [show PyData.eqv (.tuple (ss.map stD)) (.tuple (tt.map stD)) = decide (ss = tt) from sts_eqv ss tt]
      exact q
    · have e2 : ¬ ((n : Nat) : Int) = (m : Nat) := by omega
      rw [decide_eq_false e, Bool.false_and] at q
      rw [decide_eq_false e2]
      walk_at "r"
      exact q
/-- two webs that are equal -/
def RWeb (K : PySem.W.Frag) (C : Addr) : Addr → Addr → Hp → Prop := fun a b H => ∃ n ss, IsWeb K C H (.ref a) n ss ∧ IsWeb K C H (.ref b) n ss
theorem ok_Web_eqR (T : Txt K mg f_is_integer f_is_row f_is_fraction f_is_some f_added f_negated f_lessened f_multiplied f_divided f_squared f_is_stall f_is_index f_is_move f_stall_led f_stall_behind f_taken_out f_out_of f_stalls_behind f_moved f_l_deck f_l_pick f_l_divisor f_l_made f_l_added f_l_taken f_l_amount f_l_stall f_l_behind f_l_is_moved f_l_is_parted f_law f_Web_init f_Web_eq c_Web d_is_integer d_is_row d_is_fraction d_is_some d_added d_negated d_lessened d_multiplied d_divided d_squared d_is_stall d_is_index d_is_move d_stall_led d_stall_behind d_taken_out d_out_of d_stalls_behind d_moved d_l_deck d_l_pick d_l_divisor d_l_made d_l_added d_l_taken d_l_amount d_l_stall d_l_behind d_l_is_moved d_l_is_parted d_law d_Web_init d_Web_eq) : FnOk P w K mg base CX0 1 f_Web_eq d_Web_eq ["self", "other"] (spEq (RWeb K c_Web)) :=
  (ok_Web_eq T).imp fun vs H Q E h => by
    obtain ⟨a, b, rfl, ⟨n, ss, h1, h2⟩, q⟩ := h
    refine ⟨_, _, n, n, ss, ss, rfl, h1, h2, ?_⟩
    rw [decide_eq_true rfl, decide_eq_true rfl]
    exact q H Ext.rfl'
theorem rc_web {X : Cx} (T : Txt X.K X.mg f_is_integer f_is_row f_is_fraction f_is_some f_added f_negated f_lessened f_multiplied f_divided f_squared f_is_stall f_is_index f_is_move f_stall_led f_stall_behind f_taken_out f_out_of f_stalls_behind f_moved f_l_deck f_l_pick f_l_divisor f_l_made f_l_added f_l_taken f_l_amount f_l_stall f_l_behind f_l_is_moved f_l_is_parted f_law f_Web_init f_Web_eq c_Web d_is_integer d_is_row d_is_fraction d_is_some d_added d_negated d_lessened d_multiplied d_divided d_squared d_is_stall d_is_index d_is_move d_stall_led d_stall_behind d_taken_out d_out_of d_stalls_behind d_moved d_l_deck d_l_pick d_l_divisor d_l_made d_l_added d_l_taken d_l_amount d_l_stall d_l_behind d_l_is_moved d_l_is_parted d_law d_Web_init d_Web_eq) : RcG X 1 (DIns c_Web (RWeb X.K c_Web)) :=
  rcG_ins (E := E0) (ok_Web_eqR T) T.i_Web_eq T.fn_Web_eq T.b_Web_eq pass0
/-- what the own == answers of two webs -/
def BWeb (K : PySem.W.Frag) (C : Addr) : Addr → Addr → Hp → Bool → Prop := fun a b H r => ∃ n m ss tt, IsWeb K C H (.ref a) n ss ∧ IsWeb K C H (.ref b) m tt ∧ r = (decide (n = m) && decide (ss = tt))
theorem ok_Web_eq_B (T : Txt K mg f_is_integer f_is_row f_is_fraction f_is_some f_added f_negated f_lessened f_multiplied f_divided f_squared f_is_stall f_is_index f_is_move f_stall_led f_stall_behind f_taken_out f_out_of f_stalls_behind f_moved f_l_deck f_l_pick f_l_divisor f_l_made f_l_added f_l_taken f_l_amount f_l_stall f_l_behind f_l_is_moved f_l_is_parted f_law f_Web_init f_Web_eq c_Web d_is_integer d_is_row d_is_fraction d_is_some d_added d_negated d_lessened d_multiplied d_divided d_squared d_is_stall d_is_index d_is_move d_stall_led d_stall_behind d_taken_out d_out_of d_stalls_behind d_moved d_l_deck d_l_pick d_l_divisor d_l_made d_l_added d_l_taken d_l_amount d_l_stall d_l_behind d_l_is_moved d_l_is_parted d_law d_Web_init d_Web_eq) : FnOk P w K mg base CX0 1 f_Web_eq d_Web_eq ["self", "other"] (spEqB (BWeb K c_Web)) :=
  (ok_Web_eq T).imp fun vs H Q E h => by
    obtain ⟨a, b, r, rfl, ⟨n, m, ss, tt, h1, h2, rfl⟩, q⟩ := h
    exact ⟨_, _, n, m, ss, tt, rfl, h1, h2, q⟩
end
end My
namespace My
open PySem PySem.Spec PyProof.Rows L2
variable {K : PySem.W.Frag}
theorem out_pos' {a b k y : Rat} (a0 : 0 < a) (b0 : 0 < b) (y0 : 0 < y) (e : a * b = k) : 0 < b - k / (a + y) := by
  have x0 : 0 < a + y := by grind
  have hx : a + y ≠ 0 := by grind
  have e1 := mul_div_self (k := k) hx
  generalize k / (a + y) = q at *
  have h2 := Rat.mul_pos y0 b0
  by_cases h : 0 < b - q
  · exact h
  · exfalso
    have h3 : 0 ≤ q - b := by grind
    have h1 := Rat.mul_nonneg (Rat.le_of_lt x0) h3
    grind
theorem out_pos {n : Nat} {s : Stl} (h : OkSt n s) {wn : Nat} (hw : wn = s.u ∨ wn = s.v) {y : Rat} (y0 : 0 < y) : 0 < s.out (s.behind wn y) wn := by
  by_cases e : wn = s.u
  · unfold Stl.out Stl.behind
    rw [if_pos e, if_pos e]
    exact out_pos' h.a h.b y0 h.e
  · unfold Stl.out Stl.behind
    rw [if_neg e, if_neg e]
    exact out_pos' h.b h.a y0 ((Rat.mul_comm _ _).trans h.e)
theorem ixN_at {n i : Nat} (h : i < n) : ixN n (i : Int) = some i := by
  unfold ixN
  split <;> first | omega | (simp; omega) | simp_all
theorem isi_web {K : PySem.W.Frag} {H : Hp} {Q : VK} {p C dx : Addr} {fs : List (Str × V)} (h : H p = some (.ins C dx fs)) (it : InsT K C) (q : Q (.bl true) H) : rIsi K [.ref p, .ref C] H Q :=
  ⟨_, _, _, _, _, rfl, .own _, .base (.ins h it.cl it.ha it.hn it.ht it.mo), kit_self, q⟩
section
variable {P : Program} {w : World} {K : PySem.W.Frag} {mg : Str → Option Value} {base : Heap} {f_is_integer f_is_row f_is_fraction f_is_some f_added f_negated f_lessened f_multiplied f_divided f_squared f_is_stall f_is_index f_is_move f_stall_led f_stall_behind f_taken_out f_out_of f_stalls_behind f_moved f_l_deck f_l_pick f_l_divisor f_l_made f_l_added f_l_taken f_l_amount f_l_stall f_l_behind f_l_is_moved f_l_is_parted f_law f_Web_init f_Web_eq c_Web : Addr} {d_is_integer d_is_row d_is_fraction d_is_some d_added d_negated d_lessened d_multiplied d_divided d_squared d_is_stall d_is_index d_is_move d_stall_led d_stall_behind d_taken_out d_out_of d_stalls_behind d_moved d_l_deck d_l_pick d_l_divisor d_l_made d_l_added d_l_taken d_l_amount d_l_stall d_l_behind d_l_is_moved d_l_is_parted d_law d_Web_init d_Web_eq : FuncData}
def sp_lmoved (K : PySem.W.Frag) (C : Addr) : Sp := fun vs H Q _ => ∃ (x mv : V) (n : Nat) (ss : List Stl) (i wn : Nat) (s : Stl) (y : Rat), vs = [x, mv] ∧ IsWeb K C H x n ss ∧ IsMv K H mv i wn y ∧ ss[i]? = some s ∧ (wn = s.u ∨ wn = s.v) ∧ 0 < y ∧ OkW n 300 ss ∧ Bd 300 y ∧
  ∀ H', Same H H' → Q (.bl true) H'
theorem ok_l_is_moved (T : Txt K mg f_is_integer f_is_row f_is_fraction f_is_some f_added f_negated f_lessened f_multiplied f_divided f_squared f_is_stall f_is_index f_is_move f_stall_led f_stall_behind f_taken_out f_out_of f_stalls_behind f_moved f_l_deck f_l_pick f_l_divisor f_l_made f_l_added f_l_taken f_l_amount f_l_stall f_l_behind f_l_is_moved f_l_is_parted f_law f_Web_init f_Web_eq c_Web d_is_integer d_is_row d_is_fraction d_is_some d_added d_negated d_lessened d_multiplied d_divided d_squared d_is_stall d_is_index d_is_move d_stall_led d_stall_behind d_taken_out d_out_of d_stalls_behind d_moved d_l_deck d_l_pick d_l_divisor d_l_made d_l_added d_l_taken d_l_amount d_l_stall d_l_behind d_l_is_moved d_l_is_parted d_law d_Web_init d_Web_eq) : FnOk P w K mg base CX0 8 f_l_is_moved d_l_is_moved ["_law_web", "_law_move"] (sp_lmoved K c_Web) := by
  have G_l_behind : FnOk P w K mg base CX0 4 f_l_behind d_l_behind ["_law_stall_here", "_law_ware", "_law_amount_here"] (sp_lbehind K) := ok_l_behind T
  have G_l_taken : FnOk P w K mg base CX0 3 f_l_taken d_l_taken ["_law_one", "_law_other"] (sp_two9 K (· - ·)) := ok_l_taken T
  have G_out_of : FnOk P w K mg base CX0 5 f_out_of d_out_of ["web", "move"] (sp_out_of K c_Web) := ok_out_of T
  have G_moved : FnOk P w K mg base CX0 7 f_moved d_moved ["web", "move"] (sp_moved K c_Web) := ok_moved T
  have G_Web_init : FnOk P w K mg base CX0 5 f_Web_init d_Web_init ["self", "wares", "stalls"] (sp_web K c_Web) := ok_Web_init T
  refine T.F_l_is_moved.ok sc_l_is_moved (fun vs H Q E h => ?_) (fun cdv A outer sh H vs Q E hr h => ?_)
  · obtain ⟨x, mv, n, ss, i, wn, s, y, rfl, _⟩ := h
    rfl
  · obtain ⟨x, mv, n, ss, i, wn, s, y, rfl, hw, hmv, hi, hwn, y0, ok, by', q⟩ := h
    obtain ⟨oks, bds⟩ := ok.ok s (List.mem_of_getElem? hi)
    obtain ⟨pm, vx, rfl, hm, hy⟩ := id hmv
    obtain ⟨p, dx, t, xs, rfl, hp, ht, hss⟩ := id hw
    obtain ⟨z, hz, hst⟩ := hss.get hi
    have hil : i < ss.length := (List.getElem?_eq_some_iff.mp hi).1
    have hl := hss.len
    refine ⟨_, (pss_cons (ps_set (i := 2) sc_l_is_moved.nd rfl (by first | exact Or.inl rfl | exact Or.inr rfl) (pe_callTy call_list_of (by rfl) T.z_list (by decide +kernel) (pa_cons (pe_fld (pv 0) rfl) pa_nil)))
      (pss_cons (ps_set (i := 3) sc_l_is_moved.nd rfl (by first | exact Or.inl rfl | exact Or.inr rfl) (pe_ix ix_list (pv 2) (pe_ix ix_tup (pv 1) pe_int (fun _ _ => rfl)) (fun _ _ => rfl)))
      (pss_cons (ps_set (i := 4) sc_l_is_moved.nd rfl (by first | exact Or.inl rfl | exact Or.inr rfl) (pe_call G_l_behind (hr.mono (by decide)) (by rfl) T.g_l_behind T.k_l_behind T.b_l_behind .nil pass0 (pa_cons (pv 3) (pa_cons (pe_ix ix_tup (pv 1) pe_int (fun _ _ => rfl)) (pa_cons (pe_ix ix_tup (pv 1) pe_int (fun _ _ => rfl)) pa_nil)))))
      (pss_cons (ps_set (i := 5) sc_l_is_moved.nd rfl (by first | exact Or.inl rfl | exact Or.inr rfl) (pe_op op_add pe_int (pe_callTy call_intN (by rfl) T.z_int (by decide +kernel) (pa_cons (pe_cmpR op_eq (pe_ix ix_tup (pv 1) pe_int (fun _ _ => rfl)) (pe_ix ix_tup (pv 3) pe_int (fun _ _ => rfl)) (nomark _)) pa_nil))))
      (C8.pss_cut (ps_set (i := 6) sc_l_is_moved.nd rfl (by first | exact Or.inl rfl | exact Or.inr rfl) (pe_call G_l_taken (hr.mono (by decide)) (by rfl) T.g_l_taken T.k_l_taken T.b_l_taken .nil pass0 (pa_cons (pe_ix ix_tup (pv 3) (pv 5) (fun _ _ => rfl)) (pa_cons (pe_ix ix_tup (pv 4) (pv 5) (fun _ _ => rfl)) pa_nil))))
      (pss_cons (ps_set (i := 7) sc_l_is_moved.nd rfl (by first | exact Or.inl rfl | exact Or.inr rfl) (pe_call G_out_of (hr.mono (by decide)) (by rfl) T.g_out_of T.k_out_of T.b_out_of .nil pass0 (pa_cons (pv 0) (pa_cons (pv 1) pa_nil))))
      (pss_cons (ps_if (PW.pt (pw_or (pt_not (pt_val (pe_callB call_isi (by rfl) T.z_isinstance (by decide +kernel) (pa_cons (pv 7) (pa_cons (pe_bltn (v := .ty "tuple") (u := .type "tuple") (by rfl) T.z_tuple (by decide +kernel) rfl) pa_nil))))) (pw_or (pt_cmpR (op_neD hr.units) (pv 7) (pv 6) (nomark _)) (pw_or (pt_val (pe_callB call_isi (by rfl) T.z_isinstance (by decide +kernel) (pa_cons (pe_ix ix_tup (pv 7) pe_int (fun _ _ => rfl)) (pa_cons (pe_bltn (v := .ty "bool") (u := .type "bool") (by rfl) T.z_bool (by decide +kernel) rfl) pa_nil)))) (pw_or1 (pt_cmpR op_lt (pe_ix ix_tup (pv 6) pe_int (fun _ _ => rfl)) pe_int (nomark _)))))))
        (pss_one (ps_ret pe_bl))
        pss_nil)
      (pss_cons (ps_asg (pv 4) (pg_sub (pv 2) (pe_ix ix_tup (pv 1) pe_int (fun _ _ => rfl)) set_list))
      (pss_cons (ps_set (i := 8) sc_l_is_moved.nd rfl (by first | exact Or.inl rfl | exact Or.inr rfl) (pe_call G_moved (hr.mono (by decide)) (by rfl) T.g_moved T.k_moved T.b_moved .nil pass0 (pa_cons (pv 0) (pa_cons (pv 1) pa_nil))))
      (pss_one (ps_ret (pe_and (pe_callB call_isi (by rfl) T.z_isinstance (by decide +kernel) (pa_cons (pv 8) (pa_cons (pe_glob (v := .ref c_Web) (by rfl) T.w_Web.g rfl) pa_nil))) (pe_one (pe_cmpR (op_eqI (ok_Web_eq_B T) (hr.mono (by decide)) T.i_Web_eq T.fn_Web_eq T.b_Web_eq) (pv 8) (pe_make T.w_Web.mks G_Web_init (hr.mono (by decide)) (by rfl) T.w_Web.g T.b_Web_init .nil pass0 (pa_cons (pe_fld (pv 0) rfl) (pa_cons (pv 2) pa_nil))) (nomark _))))))))))))))), ?_⟩
    walk_at "r"
    refine ⟨_, _, _, _, _, rfl, hp, T.w_Web.it.cl, T.n_Web_stalls, wF_stalls _ _, ?_⟩
    walk_at "r"
    refine ⟨_, _, rfl, .inr (.of ht), fun L nL => ?_⟩
    have s1 := same_upd (o := .lst xs) nL
    have hL : upd H L (.lst xs) L = some (.lst xs) := upd_same
    have hm1 := s1 _ _ hm
    generalize upd H L (.lst xs) = H1 at *
    walk_at "r"
    refine rd_ixL hL (at_some hz) ?_
    walk_at "r"
    refine ⟨z, s, wn, _, y, rfl, hst.same s1, hy.same s1, hwn, oks.ne, bds.mono (by decide), by'.mono (by decide), oks.a, oks.b, y0, fun H2 u s2 hu => ?_⟩
    obtain ⟨pz, va, vb, vr, rfl, hpz, ha, hb, hr1⟩ := id ((hst.same s1).same s2)
    obtain ⟨pl, wa, wb, wr, rfl, hpl, ha2, hb2, hr2⟩ := id hu
    have k2 := s1.trans s2
    have hm2 := s2 _ _ hm1
    have hpz1 : H1 pz = some (.tup [.int (s.u : Nat), .int (s.v : Nat), va, vb, vr]) := by
      obtain ⟨pz', va', vb', vr', e, h', _⟩ := hst.same s1
      cases e
      rw [s2 _ _ h'] at hpz
      rw [h', ← Option.some.inj hpz]
    have b2 := behind_bd oks bds wn y0 by'
    have hpl' : H2 pl = some (.tup [.int (s.u : Nat), .int (s.v : Nat), wa, wb, wr]) := by
      rw [hpl]
      unfold Stl.behind
      split <;> rfl
    walk_at "r"
    refine ⟨fun σ H' => ∃ (du : V) (k : Int), σ = [some (.ref p), some (.ref pm), some (.ref L), some (.ref pz), some (.ref pl), some (.int k), some du, none, none] ∧ Same H2 H' ∧ IsF K H' du (s.out (s.behind wn y) wn), ?_, ?_⟩
    · by_cases e : wn = s.u
      · rw [decide_eq_true (show ((wn : Nat) : Int) = (s.u : Nat) by omega), show s.out (s.behind wn y) wn = s.b - (s.behind wn y).b from if_pos e]
        walk_at "r"
        refine ⟨_, _, _, _, rfl, hb, hb2, bds.b.mono (by decide), b2.b.mono (by decide), fun H3 du s3 h3 => ?_⟩
        walk_at "r"
        exact ⟨_, _, rfl, s3, h3⟩
      · rw [decide_eq_false (show ¬ ((wn : Nat) : Int) = (s.u : Nat) by omega), show s.out (s.behind wn y) wn = s.a - (s.behind wn y).a from if_neg e]
        walk_at "r"
        refine ⟨_, _, _, _, rfl, ha, ha2, bds.a.mono (by decide), b2.a.mono (by decide), fun H3 du s3 h3 => ?_⟩
        walk_at "r"
        exact ⟨_, _, rfl, s3, h3⟩
    rintro σ H3 ⟨du, k, rfl, s3, h3⟩
    have k3 := k2.trans s3
    walk_at "r"
    refine ⟨_, _, n, ss, i, wn, s, y, rfl, hw.same k3, hmv.same k3, hi, hwn, y0, ok.mono (by decide), by'.mono (by decide), fun H4 fo s4 h4 => ?_⟩
    have k4 := k3.trans s4
    have h3 := h3.same s4
    obtain ⟨pf, rfl, hpf⟩ := id h4
    obtain ⟨pd, rfl, hpd⟩ := id h3
    have hpos := num_pos' (out_pos oks hwn y0)
    walk_at "r"
    refine neF h4 h3 ?_
    have hm4 := k4 _ _ hm
    have hL4 := s4 _ _ (s3 _ _ (s2 _ _ hL))
    walk_at "r"
    refine rd_setL hL4 (ixN_at (by omega)) ?_
    have nLp : ∀ {b : Addr} {o : HO}, H4 b = some o → (∀ zs, o ≠ .lst zs) → b ≠ L := fun h hn e => by
      rw [e, hL4] at h
      exact hn _ (Option.some.inj h).symm
    have ts5 : Tps H4 (upd H4 L (.lst (xs.set i (.ref pl)))) := fun b zs h => by
      rw [upd_ne (nLp h (fun _ => by intro z; cases z))]
      exact h
    have hp5 : upd H4 L (.lst (xs.set i (.ref pl))) p = some (.ins c_Web dx (wF n t)) := by
      rw [upd_ne (nLp (k4 _ _ hp) (fun _ => by intro z; cases z))]
      exact k4 _ _ hp
    have hw5 : IsWeb K c_Web (upd H4 L (.lst (xs.set i (.ref pl)))) (.ref p) n ss := ⟨p, dx, t, xs, rfl, hp5, ts5 _ _ (k4 _ _ ht), (hss.same k4).ts ts5⟩
    have hmv5 : IsMv K (upd H4 L (.lst (xs.set i (.ref pl)))) (.ref pm) i wn y := ⟨pm, vx, rfl, ts5 _ _ hm4, (hy.same k4).ts ts5⟩
    have hset : Sts K (upd H4 L (.lst (xs.set i (.ref pl)))) (xs.set i (.ref pl)) (ss.set i (s.behind wn y)) := ((hss.same k4).ts ts5).set (((hu.same s3).same s4).ts ts5) i
    have hL5 : upd H4 L (.lst (xs.set i (.ref pl))) L = some (.lst (xs.set i (.ref pl))) := upd_same
    have k5 : Same H (upd H4 L (.lst (xs.set i (.ref pl)))) := fun b o h => (upd_ne (ne_of_none h nL)).trans (k4 b o h)
    generalize upd H4 L (.lst (xs.set i (.ref pl))) = H5 at *
    walk_at "r"
    refine ⟨_, _, n, ss, i, wn, s, y, rfl, hw5, hmv5, hi, hwn, y0, ok.mono (by decide), by'.mono (by decide), fun H6 u6 s6 h6 => ?_⟩
    obtain ⟨p6, dx6, t6, xs6, rfl, hp6, ht6, hss6⟩ := id h6
    walk_at "r"
    refine isi_web hp6 T.w_Web.it ?_
    walk_at "r"
    refine ⟨_, _, _, _, _, rfl, s6 _ _ hp5, T.w_Web.it.cl, T.n_Web_wares, wF_wares _ _, ?_⟩
    walk_at "r"
    intro x7 dx7 nx nd ne
    have hL6 := s6 _ _ hL5
    have ok' : OkW n 4000 (ss.set i (s.behind wn y)) := (ok.mono (by decide)).set (behind_ok oks wn y0) (b2.mono (by decide)) i
    refine ⟨x7, dx7, L, n, _, _, rfl, upd_same, .inl ((upd_ne (ne_of_none hL6 nx)).trans ((upd_ne (ne_of_none hL6 nd)).trans hL6)), ok'.n1, ok'.n8, by rw [List.length_set, hl]; exact ok.len, ?_, ok'.ok, fun H8 hweb kp => ⟨rfl, ?_⟩⟩
    · refine (hset.same s6).ts fun b zs hb => ?_
      rw [upd_ne (ne_of_none hb nx), upd_ne (ne_of_none hb nd)]
      exact hb
    · have s8 : Same H6 H8 := Same.made nx nd kp
      obtain ⟨p8, dx8, t8, xs8, e8, hp8, _⟩ := id hweb
      cases e8
      refine ⟨_, _, _, _, _, _, true, rfl, rfl, s8 _ _ hp6, hp8, ⟨n, n, _, _, h6.same s8, hweb, by simp⟩, ?_⟩
      exact q _ ((k5.trans s6).trans s8)
end
end My
namespace My
open PySem PySem.Spec PyProof.Rows L2
variable {K : PySem.W.Frag}
theorem behind_u (s : Stl) (wn : Nat) (y : Rat) : (s.behind wn y).u = s.u := by
  unfold Stl.behind
  split <;> rfl
theorem behind_v (s : Stl) (wn : Nat) (y : Rat) : (s.behind wn y).v = s.v := by
  unfold Stl.behind
  split <;> rfl
theorem behind_two (s : Stl) (wn : Nat) (y z : Rat) : (s.behind wn y).behind wn z = s.behind wn (y + z) := by
  unfold Stl.behind
  by_cases e : wn = s.u
  · simp only [e, if_true, Stl.first, Rat.add_assoc]
  · simp only [e, if_false, Stl.secnd, Rat.add_assoc]
theorem out_two (s : Stl) (wn : Nat) (y z : Rat) : s.out (s.behind wn y) wn + (s.behind wn y).out ((s.behind wn y).behind wn z) wn = s.out (s.behind wn (y + z)) wn := by
  rw [behind_two]
  by_cases e : wn = s.u
  · unfold Stl.out
    rw [behind_u, if_pos e, if_pos e, if_pos e]
    grind
  · unfold Stl.out
    rw [behind_u, if_neg e, if_neg e, if_neg e]
    grind
theorem out_bd {k l wn : Nat} {s t : Stl} (h1 : BdSt k s) (h2 : BdSt l t) : Bd (k + l + 1) (s.out t wn) := by
  unfold Stl.out
  split
  · exact h1.b.sub h2.b
  · exact h1.a.sub h2.a
theorem set_at {ss : List Stl} {i : Nat} {s b : Stl} (h : ss[i]? = some s) : (ss.set i b)[i]? = some b := by
  rw [List.getElem?_set_self (List.getElem?_eq_some_iff.mp h).1]
theorem set_back {ss : List Stl} {i : Nat} {s : Stl} (h : ss[i]? = some s) : ss.set i s = ss := by
  refine List.ext_getElem? fun j => ?_
  rw [List.getElem?_set]
  split
  · rename_i e
    subst e
    rw [h, if_pos (List.getElem?_eq_some_iff.mp h).1]
  · rfl
section
variable {P : Program} {w : World} {K : PySem.W.Frag} {mg : Str → Option Value} {base : Heap} {f_is_integer f_is_row f_is_fraction f_is_some f_added f_negated f_lessened f_multiplied f_divided f_squared f_is_stall f_is_index f_is_move f_stall_led f_stall_behind f_taken_out f_out_of f_stalls_behind f_moved f_l_deck f_l_pick f_l_divisor f_l_made f_l_added f_l_taken f_l_amount f_l_stall f_l_behind f_l_is_moved f_l_is_parted f_law f_Web_init f_Web_eq c_Web : Addr} {d_is_integer d_is_row d_is_fraction d_is_some d_added d_negated d_lessened d_multiplied d_divided d_squared d_is_stall d_is_index d_is_move d_stall_led d_stall_behind d_taken_out d_out_of d_stalls_behind d_moved d_l_deck d_l_pick d_l_divisor d_l_made d_l_added d_l_taken d_l_amount d_l_stall d_l_behind d_l_is_moved d_l_is_parted d_law d_Web_init d_Web_eq : FuncData}
def sp_lparted (K : PySem.W.Frag) (C : Addr) : Sp := fun vs H Q _ => ∃ (x mv vz : V) (n : Nat) (ss : List Stl) (i wn : Nat) (s : Stl) (y z : Rat), vs = [x, mv, vz] ∧ IsWeb K C H x n ss ∧ IsMv K H mv i wn y ∧ IsF K H vz z ∧ ss[i]? = some s ∧ (wn = s.u ∨ wn = s.v) ∧ 0 < y ∧ 0 < z ∧ OkW n 40 ss ∧ Bd 40 y ∧ Bd 40 z ∧
  ∀ H', Same H H' → Q (.bl true) H'
theorem ok_l_is_parted (T : Txt K mg f_is_integer f_is_row f_is_fraction f_is_some f_added f_negated f_lessened f_multiplied f_divided f_squared f_is_stall f_is_index f_is_move f_stall_led f_stall_behind f_taken_out f_out_of f_stalls_behind f_moved f_l_deck f_l_pick f_l_divisor f_l_made f_l_added f_l_taken f_l_amount f_l_stall f_l_behind f_l_is_moved f_l_is_parted f_law f_Web_init f_Web_eq c_Web d_is_integer d_is_row d_is_fraction d_is_some d_added d_negated d_lessened d_multiplied d_divided d_squared d_is_stall d_is_index d_is_move d_stall_led d_stall_behind d_taken_out d_out_of d_stalls_behind d_moved d_l_deck d_l_pick d_l_divisor d_l_made d_l_added d_l_taken d_l_amount d_l_stall d_l_behind d_l_is_moved d_l_is_parted d_law d_Web_init d_Web_eq) : FnOk P w K mg base CX0 8 f_l_is_parted d_l_is_parted ["_law_web", "_law_move", "_law_part"] (sp_lparted K c_Web) := by
  have G_l_added : FnOk P w K mg base CX0 3 f_l_added d_l_added ["_law_one", "_law_other"] (sp_two9 K (· + ·)) := ok_l_added T
  have G_out_of : FnOk P w K mg base CX0 5 f_out_of d_out_of ["web", "move"] (sp_out_of K c_Web) := ok_out_of T
  have G_moved : FnOk P w K mg base CX0 7 f_moved d_moved ["web", "move"] (sp_moved K c_Web) := ok_moved T
  refine T.F_l_is_parted.ok sc_l_is_parted (fun vs H Q E h => ?_) (fun cdv A outer sh H vs Q E hr h => ?_)
  · obtain ⟨x, mv, vz, n, ss, i, wn, s, y, z, rfl, _⟩ := h
    rfl
  · obtain ⟨x, mv, vz, n, ss, i, wn, s, y, z, rfl, hw, hmv, hz, hi, hwn, y0, z0, ok, by', bz, q⟩ := h
    obtain ⟨oks, bds⟩ := ok.ok s (List.mem_of_getElem? hi)
    obtain ⟨pm, vx, rfl, hm, hy⟩ := id hmv
    have b1 := behind_bd oks bds wn y0 by'
    have ok1 := behind_ok oks wn y0
    have hi1 := set_at (b := s.behind wn y) hi
    have hwn1 : wn = (s.behind wn y).u ∨ wn = (s.behind wn y).v := by rw [behind_u, behind_v]; exact hwn
    have okw1 : OkW n 900 (ss.set i (s.behind wn y)) := (ok.mono (by decide)).set ok1 (b1.mono (by decide)) i
    have b2 := behind_bd ok1 b1 wn z0 bz
    refine ⟨_, (pss_cons (ps_set (i := 3) sc_l_is_parted.nd rfl (by first | exact Or.inl rfl | exact Or.inr rfl) (pe_call G_l_added (hr.mono (by decide)) (by rfl) T.g_l_added T.k_l_added T.b_l_added .nil pass0 (pa_cons (pe_ix ix_tup (pv 1) pe_int (fun _ _ => rfl)) (pa_cons (pv 2) pa_nil))))
      (pss_cons (ps_if (pt_cmpR op_ge (pe_callB (My.cr_maxT rfl hr.units) (by rfl) T.z_max (by decide +kernel) (pa_cons (pv 3) pa_nil)) (pe_op op_pow pe_int pe_int) (nomark _))
        (pss_one (ps_ret pe_bl))
        pss_nil)
      (pss_cons (ps_set (i := 4) sc_l_is_parted.nd rfl (by first | exact Or.inl rfl | exact Or.inr rfl) (pe_call G_moved (hr.mono (by decide)) (by rfl) T.g_moved T.k_moved T.b_moved .nil pass0 (pa_cons (pe_call G_moved (hr.mono (by decide)) (by rfl) T.g_moved T.k_moved T.b_moved .nil pass0 (pa_cons (pv 0) (pa_cons (pv 1) pa_nil))) (pa_cons (pe_tup (pa_cons (pe_ix ix_tup (pv 1) pe_int (fun _ _ => rfl)) (pa_cons (pe_ix ix_tup (pv 1) pe_int (fun _ _ => rfl)) (pa_cons (pv 2) pa_nil)))) pa_nil))))
      (pss_cons (ps_if (pt_cmpR (op_neI (ok_Web_eq_B T) (hr.mono (by decide)) T.ne_Web T.w_Web.it.mo T.i_Web_eq T.fn_Web_eq T.b_Web_eq) (pv 4) (pe_call G_moved (hr.mono (by decide)) (by rfl) T.g_moved T.k_moved T.b_moved .nil pass0 (pa_cons (pv 0) (pa_cons (pe_tup (pa_cons (pe_ix ix_tup (pv 1) pe_int (fun _ _ => rfl)) (pa_cons (pe_ix ix_tup (pv 1) pe_int (fun _ _ => rfl)) (pa_cons (pv 3) pa_nil)))) pa_nil))) (nomark _))
        (pss_one (ps_ret pe_bl))
        pss_nil)
      (pss_cons (ps_set (i := 5) sc_l_is_parted.nd rfl (by first | exact Or.inl rfl | exact Or.inr rfl) (pe_call G_out_of (hr.mono (by decide)) (by rfl) T.g_out_of T.k_out_of T.b_out_of .nil pass0 (pa_cons (pv 0) (pa_cons (pv 1) pa_nil))))
      (pss_cons (ps_set (i := 6) sc_l_is_parted.nd rfl (by first | exact Or.inl rfl | exact Or.inr rfl) (pe_call G_out_of (hr.mono (by decide)) (by rfl) T.g_out_of T.k_out_of T.b_out_of .nil pass0 (pa_cons (pe_call G_moved (hr.mono (by decide)) (by rfl) T.g_moved T.k_moved T.b_moved .nil pass0 (pa_cons (pv 0) (pa_cons (pv 1) pa_nil))) (pa_cons (pe_tup (pa_cons (pe_ix ix_tup (pv 1) pe_int (fun _ _ => rfl)) (pa_cons (pe_ix ix_tup (pv 1) pe_int (fun _ _ => rfl)) (pa_cons (pv 2) pa_nil)))) pa_nil))))
      (pss_one (ps_ret (pe_cmpR (op_eqD hr.units) (pe_call G_l_added (hr.mono (by decide)) (by rfl) T.g_l_added T.k_l_added T.b_l_added .nil pass0 (pa_cons (pv 5) (pa_cons (pv 6) pa_nil))) (pe_call G_out_of (hr.mono (by decide)) (by rfl) T.g_out_of T.k_out_of T.b_out_of .nil pass0 (pa_cons (pv 0) (pa_cons (pe_tup (pa_cons (pe_ix ix_tup (pv 1) pe_int (fun _ _ => rfl)) (pa_cons (pe_ix ix_tup (pv 1) pe_int (fun _ _ => rfl)) (pa_cons (pv 3) pa_nil)))) pa_nil))) (nomark _)))))))))), ?_⟩
    walk_at "r"
    refine ⟨_, _, _, _, rfl, hy, hz, by'.mono (by decide), bz.mono (by decide), fun H1 wv s1 h1 => ?_⟩
    have h1 : IsF K H1 wv (y + z) := h1
    obtain ⟨pw, rfl, hpw⟩ := id h1
    walk_at "r"
    refine ⟨_, _, _, rfl, hpw.sq, fun m _ => ?_⟩
    walk_at "r"
    walk_at "if"
    · walk_at "r"
      exact q _ s1
    · walk_at "r"
      refine ⟨_, _, n, ss, i, wn, s, y, rfl, by walk_at "kp", by walk_at "kp", hi, hwn, y0, ok.mono (by decide), by'.mono (by decide), fun H2 u2 s2 h2 => ?_⟩
      have hm2 : H2 pm = _ := s2 _ _ (s1 _ _ hm)
      walk_at "r"
      intro p3 n3
      have s3 := same_upd (o := .tup [V.int (i : Nat), .int (wn : Nat), vz]) n3
      have h3 : upd H2 p3 (.tup [V.int (i : Nat), .int (wn : Nat), vz]) p3 = some (.tup [V.int (i : Nat), .int (wn : Nat), vz]) := upd_same
      generalize upd H2 p3 (.tup [V.int (i : Nat), .int (wn : Nat), vz]) = H3 at *
      refine ⟨_, _, n, _, i, wn, _, z, rfl, by walk_at "kp", ⟨p3, vz, rfl, h3, by walk_at "kp"⟩, hi1, hwn1, z0, okw1, bz.mono (by decide), fun H4 u4 s4 h4 => ?_⟩
      have hm4 : H4 pm = _ := s4 _ _ (s3 _ _ hm2)
      walk_at "r"
      intro p5 n5
      have s5 := same_upd (o := .tup [V.int (i : Nat), .int (wn : Nat), .ref pw]) n5
      have h5 : upd H4 p5 (.tup [V.int (i : Nat), .int (wn : Nat), .ref pw]) p5 = some (.tup [V.int (i : Nat), .int (wn : Nat), .ref pw]) := upd_same
      generalize upd H4 p5 (.tup [V.int (i : Nat), .int (wn : Nat), .ref pw]) = H5 at *
      have yz0 : 0 < y + z := by grind
      refine ⟨_, _, n, ss, i, wn, s, y + z, rfl, by walk_at "kp", ⟨p5, .ref pw, rfl, h5, by walk_at "kp"⟩, hi, hwn, yz0, ok.mono (by decide), (by'.add bz).mono (by decide), fun H6 u6 s6 h6 => ?_⟩
      have h46 : IsWeb K c_Web H6 u4 n ((ss.set i (s.behind wn y)).set i ((s.behind wn y).behind wn z)) := by walk_at "kp"
      rw [List.set_set, behind_two] at h46
      obtain ⟨p4, dx4, t4, xs4, rfl, hp4, _⟩ := id h46
      obtain ⟨p6, dx6, t6, xs6, rfl, hp6, _⟩ := id h6
      refine ⟨_, _, _, _, _, _, true, rfl, rfl, hp4, hp6, ⟨n, n, _, _, h46, h6, by simp⟩, ?_⟩
      have hm6 : H6 pm = _ := s6 _ _ (s5 _ _ hm4)
      walk_at "r"
      refine ⟨_, _, n, ss, i, wn, s, y, rfl, by walk_at "kp", by walk_at "kp", hi, hwn, y0, ok.mono (by decide), by'.mono (by decide), fun H7 v7 s7 h7 => ?_⟩
      walk_at "r"
      refine ⟨_, _, n, ss, i, wn, s, y, rfl, by walk_at "kp", by walk_at "kp", hi, hwn, y0, ok.mono (by decide), by'.mono (by decide), fun H8 u8 s8 h8 => ?_⟩
      have hm8 : H8 pm = _ := s8 _ _ (s7 _ _ hm6)
      walk_at "r"
      intro p9 n9
      have s9 := same_upd (o := .tup [V.int (i : Nat), .int (wn : Nat), vz]) n9
      have h9 : upd H8 p9 (.tup [V.int (i : Nat), .int (wn : Nat), vz]) p9 = some (.tup [V.int (i : Nat), .int (wn : Nat), vz]) := upd_same
      generalize upd H8 p9 (.tup [V.int (i : Nat), .int (wn : Nat), vz]) = H9 at *
      refine ⟨_, _, n, _, i, wn, _, z, rfl, by walk_at "kp", ⟨p9, vz, rfl, h9, by walk_at "kp"⟩, hi1, hwn1, z0, okw1, bz.mono (by decide), fun Ha va sa ha => ?_⟩
      have hma : Ha pm = _ := sa _ _ (s9 _ _ hm8)
      walk_at "r"
      refine ⟨_, _, _, _, rfl, by walk_at "kp", by walk_at "kp", (out_bd bds b1).mono (by decide), (out_bd b1 b2).mono (by decide), fun Hb vb sb hb => ?_⟩
      have hb : IsF K Hb vb (s.out (s.behind wn y) wn + (s.behind wn y).out ((s.behind wn y).behind wn z) wn) := hb
      rw [out_two] at hb
      have hmb : Hb pm = _ := sb _ _ hma
      walk_at "r"
      intro pc nc
      have sc := same_upd (o := .tup [V.int (i : Nat), .int (wn : Nat), .ref pw]) nc
      have hc : upd Hb pc (.tup [V.int (i : Nat), .int (wn : Nat), .ref pw]) pc = some (.tup [V.int (i : Nat), .int (wn : Nat), .ref pw]) := upd_same
      generalize upd Hb pc (.tup [V.int (i : Nat), .int (wn : Nat), .ref pw]) = Hc at *
      refine ⟨_, _, n, ss, i, wn, s, y + z, rfl, by walk_at "kp", ⟨pc, .ref pw, rfl, hc, by walk_at "kp"⟩, hi, hwn, yz0, ok.mono (by decide), (by'.add bz).mono (by decide), fun Hd vd sd hd => ?_⟩
      refine eqF (K := K) (by walk_at "kp") hd ?_
      rw [decide_eq_true rfl]
      exact q _ (by walk_at "sm")
end
end My
namespace My
open PySem PySem.Spec PyProof.Rows L2
variable {K : PySem.W.Frag}
theorem many_at (b : Bool) : ∃ z : Int, (z = 8 ∨ z = 16) ∧ atI [V.int 8, V.int 16] (if b = true then 1 else 0) = some (.int z) := by
  cases b
  · exact ⟨8, .inl rfl, rfl⟩
  · exact ⟨16, .inr rfl, rfl⟩
theorem sq_fw {K : PySem.W.Frag} {M c : Nat} {D C a : Addr} {H H' : Hp} {ns : List Int} (h : SqL K H a (ns.map V.int)) (d : Deck M D C H c) (f : Fw D H H') : SqL K H' a (ns.map V.int) := by
  obtain ⟨cells, pl, rest, cnt, h0, h1, h2⟩ := d
  rcases h with (h | ⟨o, h⟩) | h
  · exact .inl (.inl (f _ _ (ne_of h h1 (by
      intro z
      cases ns with
      | nil => cases z
      | cons x l => cases z)) h))
  · exact .inl (.inr ⟨o, f _ _ (ne_of h h1 (by intro z; cases z)) h⟩)
  · exact .inr h
/-- the script's list, beside a new list at S -/
def Kept (K : PySem.W.Frag) (S a : Addr) (ns : List Int) (H : Hp) : Prop := (a ≠ S ∧ SqL K H a (ns.map V.int)) ∨ SqL K (fun _ => none) a (ns.map V.int)
theorem Kept.sq {K : PySem.W.Frag} {S a : Addr} {ns : List Int} {H : Hp} (h : Kept K S a ns H) : SqL K H a (ns.map V.int) := by
  rcases h with h | h
  · exact h.2
  · exact Same.seq (fun _ _ h => by cases h) h
theorem kept_new {K : PySem.W.Frag} {S a : Addr} {ns : List Int} {H : Hp} {o : HO} (h : SqL K H a (ns.map V.int)) (n : H S = none) : Kept K S a ns (upd H S o) := by
  have h0 := (same_upd (o := o) n).seq h
  rcases h with (h | ⟨_, h⟩) | h
  · exact .inl ⟨ne_of_none h n, h0⟩
  · exact .inl ⟨ne_of_none h n, h0⟩
  · exact .inr (.inr h)
theorem Kept.fw {K : PySem.W.Frag} {M c : Nat} {D C S a : Addr} {ns : List Int} {H H' : Hp} (h : Kept K S a ns H) (d : Deck M D C H c) (f : Fw D H H') : Kept K S a ns H' :=
  h.imp (fun h => ⟨h.1, sq_fw h.2 d f⟩) id
theorem Kept.put {K : PySem.W.Frag} {S a : Addr} {ns : List Int} {H : Hp} {o : HO} (h : Kept K S a ns H) : Kept K S a ns (upd H S o) := by
  refine h.imp (fun ⟨n, h⟩ => ⟨n, ?_⟩) id
  rcases h with (h | ⟨_, h⟩) | h
  · exact .inl (.inl ((upd_ne n).trans h))
  · exact .inl (.inr ⟨_, (upd_ne n).trans h⟩)
  · exact .inr h
theorem stall_side {u v : Nat} {va vb vr : V} {r : Int} (h0 : 0 ≤ r) (h1 : r < 2) : ∃ wn wo : Nat, atI [V.int (u : Nat), .int (v : Nat), va, vb, vr] r = some (.int (wn : Nat)) ∧ atI [V.int (u : Nat), .int (v : Nat), va, vb, vr] (1 - r) = some (.int (wo : Nat)) ∧ ((wn = u ∧ wo = v) ∨ (wn = v ∧ wo = u)) := by
  have : r = 0 ∨ r = 1 := by omega
  rcases this with rfl | rfl
  · exact ⟨u, v, rfl, rfl, .inl ⟨rfl, rfl⟩⟩
  · exact ⟨v, u, rfl, rfl, .inr ⟨rfl, rfl⟩⟩
theorem back_stl {n : Nat} {s : Stl} (h : OkSt n s) {wn wo : Nat} (hw : (wn = s.u ∧ wo = s.v) ∨ (wn = s.v ∧ wo = s.u)) (y : Rat) : (s.behind wn y).behind wo (s.out (s.behind wn y) wn) = s := by
  have e := h.e
  have a0 := h.a
  have b0 := h.b
  have ne := h.ne
  obtain ⟨u, v, a, b, r⟩ := s
  simp only at *
  have ea : r * r / b = a := (eq_div_of (by grind) (by grind)).symm
  have eb : r * r / a = b := (eq_div_of (by grind) (by grind)).symm
  rcases hw with ⟨rfl, rfl⟩ | ⟨rfl, rfl⟩
  · have n2 : ¬ wo = wn := fun z => ne z.symm
    simp only [Stl.behind, Stl.out, Stl.first, Stl.secnd, if_true, if_neg n2]
    rw [show r * r / (a + y) + (b - r * r / (a + y)) = b by grind, ea]
  · have n2 : ¬ wn = wo := fun z => ne z.symm
    simp only [Stl.behind, Stl.out, Stl.first, Stl.secnd, if_true, if_neg n2]
    rw [show r * r / (b + y) + (a - r * r / (b + y)) = a by grind, eb]
theorem back_out {n : Nat} {s : Stl} (h : OkSt n s) {wn wo : Nat} (hw : (wn = s.u ∧ wo = s.v) ∨ (wn = s.v ∧ wo = s.u)) (y : Rat) : (s.behind wn y).out ((s.behind wn y).behind wo (s.out (s.behind wn y) wn)) wo = y := by
  rw [back_stl h hw]
  have ne := h.ne
  obtain ⟨u, v, a, b, r⟩ := s
  simp only at *
  rcases hw with ⟨rfl, rfl⟩ | ⟨rfl, rfl⟩
  · have n2 : ¬ wo = wn := fun z => ne z.symm
    simp only [Stl.behind, Stl.out, Stl.first, Stl.secnd, if_true, if_neg n2]
    grind
  · have n2 : ¬ wn = wo := fun z => ne z.symm
    simp only [Stl.behind, Stl.out, Stl.first, Stl.secnd, if_true, if_neg n2]
    grind
theorem Sts.snoc {H : Hp} {xs : List V} {ss : List Stl} {v : V} {s : Stl} (h : Sts K H xs ss) (hv : IsSt K H v s) : Sts K H (xs ++ [v]) (ss ++ [s]) := by
  unfold Sts at *
  induction h with
  | nil => exact .cons hv .nil
  | cons h t ih => exact .cons h ih
/-- tuples stand when only the deck changes -/
theorem Fw.ts {M c : Nat} {D C : Addr} {H H' : Hp} (f : Fw D H H') (d : Deck M D C H c) : Tps H H' := fun b xs h => by
  obtain ⟨cells, pl, rest, cnt, h0, h1, h2⟩ := d
  exact f _ _ (ne_of h h1 (by intro z; cases z)) h
theorem IsMv.fw {M c : Nat} {D C : Addr} {H H' : Hp} {v : V} {i wn : Nat} {y : Rat} (f : Fw D H H') (d : Deck M D C H c) (h : IsMv K H v i wn y) : IsMv K H' v i wn y := by
  obtain ⟨p, vx, e, h, a⟩ := h
  exact ⟨p, vx, e, f.ts d _ _ h, a.ts (f.ts d)⟩
theorem IsWeb.fw {M c n : Nat} {D C B : Addr} {H H' : Hp} {x : V} {ss : List Stl} (f : Fw D H H') (d : Deck M D C H c) (h : IsWeb K B H x n ss) : IsWeb K B H' x n ss := by
  obtain ⟨p, dx, t, xs, e, h1, h2, h3⟩ := h
  have d' := d
  obtain ⟨cells, pl, rest, cnt, g0, g1, g2⟩ := d'
  exact ⟨p, dx, t, xs, e, f _ _ (ne_of h1 g1 (by intro z; cases z)) h1, f.ts d _ _ h2, h3.ts (f.ts d)⟩
section
variable {P : Program} {w : World} {K : PySem.W.Frag} {mg : Str → Option Value} {base : Heap} {f_is_integer f_is_row f_is_fraction f_is_some f_added f_negated f_lessened f_multiplied f_divided f_squared f_is_stall f_is_index f_is_move f_stall_led f_stall_behind f_taken_out f_out_of f_stalls_behind f_moved f_l_deck f_l_pick f_l_divisor f_l_made f_l_added f_l_taken f_l_amount f_l_stall f_l_behind f_l_is_moved f_l_is_parted f_law f_Web_init f_Web_eq c_Web : Addr} {d_is_integer d_is_row d_is_fraction d_is_some d_added d_negated d_lessened d_multiplied d_divided d_squared d_is_stall d_is_index d_is_move d_stall_led d_stall_behind d_taken_out d_out_of d_stalls_behind d_moved d_l_deck d_l_pick d_l_divisor d_l_made d_l_added d_l_taken d_l_amount d_l_stall d_l_behind d_l_is_moved d_l_is_parted d_law d_Web_init d_Web_eq : FuncData}
def sp_law (K : PySem.W.Frag) : Sp := fun vs H Q _ => ∃ (a : Addr) (ns : List Int), vs = [.ref a] ∧ SqL K H a (ns.map V.int) ∧ ns.length ≤ 63 ∧ (∀ z ∈ ns, Builtin.Int.intBits z ≤ 1048576) ∧ ∀ H', Q (.bl true) H'
theorem ok_law (T : Txt K mg f_is_integer f_is_row f_is_fraction f_is_some f_added f_negated f_lessened f_multiplied f_divided f_squared f_is_stall f_is_index f_is_move f_stall_led f_stall_behind f_taken_out f_out_of f_stalls_behind f_moved f_l_deck f_l_pick f_l_divisor f_l_made f_l_added f_l_taken f_l_amount f_l_stall f_l_behind f_l_is_moved f_l_is_parted f_law f_Web_init f_Web_eq c_Web d_is_integer d_is_row d_is_fraction d_is_some d_added d_negated d_lessened d_multiplied d_divided d_squared d_is_stall d_is_index d_is_move d_stall_led d_stall_behind d_taken_out d_out_of d_stalls_behind d_moved d_l_deck d_l_pick d_l_divisor d_l_made d_l_added d_l_taken d_l_amount d_l_stall d_l_behind d_l_is_moved d_l_is_parted d_law d_Web_init d_Web_eq) : FnOk P w K mg base CX0 9 f_law d_law ["_law_script"] (sp_law K) := by
  have G_l_deck : FnOk P w K mg base CX0 1 f_l_deck d_l_deck ["_law_script"] (sp_deck K) := ok_l_deck T
  have G_l_pick : FnOk P w K mg base CX0 1 f_l_pick d_l_pick ["_law_deck_here", "_law_many"] (sp_pick 1048576) := ok_pick (by decide) (by decide) T
  have G_l_amount : FnOk P w K mg base CX0 3 f_l_amount d_l_amount ["_law_deck_here"] (sp_am K 1048576 3) := ok_l_amount (by decide) (by decide) T
  have G_l_stall : FnOk P w K mg base CX0 4 f_l_stall d_l_stall ["_law_deck_here", "_law_wares"] (sp_lstall K 1048576 8) := ok_l_stall (by decide) (by decide) T
  have G_out_of : FnOk P w K mg base CX0 5 f_out_of d_out_of ["web", "move"] (sp_out_of K c_Web) := ok_out_of T
  have G_moved : FnOk P w K mg base CX0 7 f_moved d_moved ["web", "move"] (sp_moved K c_Web) := ok_moved T
  have G_l_is_moved : FnOk P w K mg base CX0 8 f_l_is_moved d_l_is_moved ["_law_web", "_law_move"] (sp_lmoved K c_Web) := ok_l_is_moved T
  have G_l_is_parted : FnOk P w K mg base CX0 8 f_l_is_parted d_l_is_parted ["_law_web", "_law_move", "_law_part"] (sp_lparted K c_Web) := ok_l_is_parted T
  have G_Web_init : FnOk P w K mg base CX0 5 f_Web_init d_Web_init ["self", "wares", "stalls"] (sp_web K c_Web) := ok_Web_init T
  refine T.F_law.ok sc_law (fun vs H Q E h => ?_) (fun cdv A outer sh H vs Q E hr h => ?_)
  · obtain ⟨a, ns, rfl, _⟩ := h
    rfl
  · obtain ⟨a, ns, rfl, hS, hl, hb, q⟩ := h
    refine ⟨_, (pss_cons (ps_set (i := 1) sc_law.nd rfl (by first | exact Or.inl rfl | exact Or.inr rfl) (pe_call G_l_deck (hr.mono (by decide)) (by rfl) T.g_l_deck T.k_l_deck T.b_l_deck .nil pass0 (pa_cons (pv 0) pa_nil)))
      (pss_cons (ps_set (i := 2) sc_law.nd rfl (by first | exact Or.inl rfl | exact Or.inr rfl) (pe_op op_add pe_int (pe_call G_l_pick (hr.mono (by decide)) (by rfl) T.g_l_pick T.k_l_pick T.b_l_pick .nil pass0 (pa_cons (pv 1) (pa_cons pe_int pa_nil)))))
      (pss_cons (ps_set (i := 3) sc_law.nd rfl (by first | exact Or.inl rfl | exact Or.inr rfl) (pe_op op_add pe_int (pe_call G_l_pick (hr.mono (by decide)) (by rfl) T.g_l_pick T.k_l_pick T.b_l_pick .nil pass0 (pa_cons (pv 1) (pa_cons (pe_ix ix_list (pe_lst (pa_cons pe_int (pa_cons pe_int pa_nil))) (pe_callTy call_intN (by rfl) T.z_int (by decide +kernel) (pa_cons (pe_cmpR op_eq (pe_call G_l_pick (hr.mono (by decide)) (by rfl) T.g_l_pick T.k_l_pick T.b_l_pick .nil pass0 (pa_cons (pv 1) (pa_cons pe_int pa_nil))) pe_int (nomark _)) pa_nil)) (fun _ _ => rfl)) pa_nil)))))
      (pss_cons (ps_setLc (i := 4) (own := [("_law_turn", 5)]) (g := gName 5) rfl sc_law.nd rfl rfl (sw_true rfl rfl rfl (by decide +kernel)) (pi_range1 (by rfl) T.z_range (pa_cons (pv 3) pa_nil)) (blkOk_by (own := [("_law_turn", 5)]) (N := N_law) (sc := defScope s_law) (by decide +kernel)) (fun _ _ _ _ _ => (pg_name (i := 5) sc_law.nd rfl (by first | exact Or.inl rfl | exact Or.inr rfl))) (fun _ _ _ _ _ => pts_nil) (fun _ _ _ _ _ => (pe_call G_l_stall (hr.mono (by decide)) (by rfl) T.g_l_stall T.k_l_stall T.b_l_stall .nil pass0 (pa_cons (pv 1) (pa_cons (pv 2) pa_nil)))))
      (pss_cons (ps_set (i := 6) sc_law.nd rfl (by first | exact Or.inl rfl | exact Or.inr rfl) (pe_make T.w_Web.mks G_Web_init (hr.mono (by decide)) (by rfl) T.w_Web.g T.b_Web_init .nil pass0 (pa_cons (pv 2) (pa_cons (pv 4) pa_nil))))
      (pss_cons (ps_for PassesOwn.never rfl (pi_range1 (by rfl) T.z_range (pa_cons (pe_op op_add pe_int (pe_callB (call_minN rfl) (by rfl) T.z_min (by decide +kernel) (pa_cons (pe_callB call_lenN (by rfl) T.z_len (by decide +kernel) (pa_cons (pv 0) pa_nil)) (pa_cons pe_int pa_nil)))) pa_nil)) (pg_name (i := 5) sc_law.nd rfl (by first | exact Or.inl rfl | exact Or.inr rfl))
        (pss_cons (ps_set (i := 7) sc_law.nd rfl (by first | exact Or.inl rfl | exact Or.inr rfl) (pe_call G_l_pick (hr.mono (by decide)) (by rfl) T.g_l_pick T.k_l_pick T.b_l_pick .nil pass0 (pa_cons (pv 1) (pa_cons (pv 3) pa_nil))))
          (pss_cons (ps_set (i := 8) sc_law.nd rfl (by first | exact Or.inl rfl | exact Or.inr rfl) (pe_call G_l_pick (hr.mono (by decide)) (by rfl) T.g_l_pick T.k_l_pick T.b_l_pick .nil pass0 (pa_cons (pv 1) (pa_cons pe_int pa_nil))))
          (pss_cons (ps_set (i := 9) sc_law.nd rfl (by first | exact Or.inl rfl | exact Or.inr rfl) (pe_tup (pa_cons (pv 7) (pa_cons (pe_ix ix_tup (pe_ix ix_list (pv 4) (pv 7) (fun _ _ => rfl)) (pv 8) (fun _ _ => rfl)) (pa_cons (pe_call G_l_amount (hr.mono (by decide)) (by rfl) T.g_l_amount T.k_l_amount T.b_l_amount .nil pass0 (pa_cons (pv 1) pa_nil)) pa_nil)))))
          (pss_cons (ps_if (PW.pt (pw_or (pt_not (pt_val (pe_call G_l_is_moved (hr.mono (by decide)) (by rfl) T.g_l_is_moved T.k_l_is_moved T.b_l_is_moved .nil pass0 (pa_cons (pv 6) (pa_cons (pv 9) pa_nil))))) (pw_or1 (pt_not (pt_val (pe_call G_l_is_parted (hr.mono (by decide)) (by rfl) T.g_l_is_parted T.k_l_is_parted T.b_l_is_parted .nil pass0 (pa_cons (pv 6) (pa_cons (pv 9) (pa_cons (pe_call G_l_amount (hr.mono (by decide)) (by rfl) T.g_l_amount T.k_l_amount T.b_l_amount .nil pass0 (pa_cons (pv 1) pa_nil)) pa_nil)))))))))
            (pss_one (ps_ret pe_bl))
            pss_nil)
          (pss_cons (ps_set (i := 10) sc_law.nd rfl (by first | exact Or.inl rfl | exact Or.inr rfl) (pe_tup (pa_cons (pv 7) (pa_cons (pe_ix ix_tup (pe_ix ix_list (pv 4) (pv 7) (fun _ _ => rfl)) (pe_op op_sub pe_int (pv 8)) (fun _ _ => rfl)) (pa_cons (pe_call G_out_of (hr.mono (by decide)) (by rfl) T.g_out_of T.k_out_of T.b_out_of .nil pass0 (pa_cons (pv 6) (pa_cons (pv 9) pa_nil))) pa_nil)))))
          (pss_one (ps_if (PW.pt (pw_or (pt_cmpR (op_neI (ok_Web_eq_B T) (hr.mono (by decide)) T.ne_Web T.w_Web.it.mo T.i_Web_eq T.fn_Web_eq T.b_Web_eq) (pe_call G_moved (hr.mono (by decide)) (by rfl) T.g_moved T.k_moved T.b_moved .nil pass0 (pa_cons (pe_call G_moved (hr.mono (by decide)) (by rfl) T.g_moved T.k_moved T.b_moved .nil pass0 (pa_cons (pv 6) (pa_cons (pv 9) pa_nil))) (pa_cons (pv 10) pa_nil))) (pv 6) (nomark _)) (pw_or1 (pt_cmpR (op_neD hr.units) (pe_call G_out_of (hr.mono (by decide)) (by rfl) T.g_out_of T.k_out_of T.b_out_of .nil pass0 (pa_cons (pe_call G_moved (hr.mono (by decide)) (by rfl) T.g_moved T.k_moved T.b_moved .nil pass0 (pa_cons (pv 6) (pa_cons (pv 9) pa_nil))) (pa_cons (pv 10) pa_nil))) (pe_ix ix_tup (pv 9) pe_int (fun _ _ => rfl)) (nomark _)))))
            (pss_one (ps_ret pe_bl))
            pss_nil))))))))
      (pss_one (ps_ret (pe_cmpR (op_eqD hr.units) (pe_fld (pv 6) rfl) (pe_callTy call_tuple_of (by rfl) T.z_tuple (by decide +kernel) (pa_cons (pv 4) pa_nil)) (nomark _)))))))))), ?_⟩
    walk_at "r"
    refine ⟨_, _, rfl, hS, hl, hb, fun H1 D C s1 k1 => ?_⟩
    have q1 := s1.seq hS
    walk_at "r"
    refine ⟨_, _, _, _, rfl, ⟨by decide, by decide⟩, k1, by decide, fun H2 r1 w2 k2 a1 b1 => ?_⟩
    have q2 := sq_fw q1 k1 w2
    obtain ⟨n, hn⟩ := Int.eq_ofNat_of_zero_le (show 0 ≤ 2 + r1 by omega)
    walk_at "r"
    rw [hn]
    intro L nL
    have hLD := k2.ne nL
    have k2' := k2.same (same_upd (o := .lst [V.int 8, V.int 16]) nL)
    have q2' := (same_upd (o := .lst [V.int 8, V.int 16]) nL).seq q2
    walk_at "r"
    refine ⟨_, _, _, _, rfl, ⟨by decide, by decide⟩, k2', by omega, fun H3 r2 w3 k3 a2 b2 => ?_⟩
    have q3 := sq_fw q2' k2' w3
    walk_at "r"
    obtain ⟨z, hz, ez⟩ := many_at (decide (r2 = 5))
    refine rd_ixL (w3 _ _ hLD upd_same) ez ?_
    walk_at "r"
    refine ⟨_, _, z, _, rfl, ⟨by omega, by omega⟩, k3, by omega, fun H4 r3 w4 k4 a3 b3 => ?_⟩
    have q4 := sq_fw q3 k3 w4
    walk_at "r"
    refine ⟨by omega, by omega, fun S nS => ?_⟩
    have nSD := k4.ne nS
    have nSC := k4.neC nS
    refine lc_range (lo := 0) (n := (1 + r3).toNat) (fun i H' => ∃ xs ss, H' S = some (.lst xs) ∧ xs.length = i ∧ Sts K H' xs ss ∧ (∀ s ∈ ss, OkSt n s ∧ BdSt 40 s) ∧ Deck 1048576 D C H' (3 + 8 * i) ∧ Kept K S a ns H') ?_ ?_ ?_
    · exact ⟨[], [], upd_same, rfl, .nil, by simp, (k4.same (same_upd nS)).mono (by omega), kept_new q4 nS⟩
    · rintro i H' hi ⟨xs, ss, hS', hlen, hst, hok, k, kq⟩
      walk_at "r"
      refine ⟨rfl, ?_⟩
      walk_at "r"
      refine ⟨_, _, _, n, rfl, by omega, by omega, k, by omega, fun H5 v s w5 k5 iv ok5 bd5 => ?_⟩
      refine ⟨xs, w5 _ _ nSD hS', small1000 (by omega), ?_⟩
      have ts5 : Tps H5 (upd H5 S (.lst (xs ++ [v]))) := fun b zs hb => by
        refine (upd_ne fun e => ?_).trans hb
        rw [e, w5 _ _ nSD hS'] at hb
        cases hb
      refine ⟨xs ++ [v], ss ++ [s], upd_same, by simp [hlen], ((hst.ts (w5.ts k)).snoc iv).ts ts5, fun t ht => ?_, (k5.put nSD nSC).mono (by omega), (kq.fw k w5).put⟩
      rcases List.mem_append.mp ht with h | h
      · exact hok t h
      · rw [List.mem_singleton.mp h]
        exact ⟨ok5, bd5⟩
    · rintro H5 ⟨xs, ss, hS5, hlen, hst, hok, k5, kq⟩
      have q5 := kq.sq
      have hlen2 := hst.len
      walk_at "r"
      intro x6 dx6 nx nd ne
      have xS := ne_of_none hS5 nx
      have dS := ne_of_none hS5 nd
      refine ⟨x6, dx6, S, n, xs, ss, rfl, upd_same, .inl ((upd_ne xS).trans ((upd_ne dS).trans hS5)), by omega, by omega, by omega, ?_, fun s hs => ⟨(hok s hs).1, (hok s hs).2.mono (by decide)⟩, fun H6 hweb kp => ⟨rfl, ?_⟩⟩
      · refine hst.ts fun b zs hb => ?_
        rw [upd_ne (ne_of_none hb nx), upd_ne (ne_of_none hb nd)]
        exact hb
      have s6 : Same H5 H6 := Same.made nx nd kp
      have okw : OkW n 40 ss := ⟨by omega, by omega, by omega, hok⟩
      walk_at "r"
      have q6 := s6.seq q5
      refine rd_lenS ?_ q6
      walk_at "r"
      have hm : min ((ns.map V.int).length : Int) 10 ≤ 10 := Int.min_le_right _ _
      refine ⟨by omega, by omega, ?_⟩
      refine for_range (lo := 0) (n := (2 + min ((ns.map V.int).length : Int) 10).toNat) (fun i σ H' => ∃ (t5 t7 t8 t9 t10 : Option V), σ = [some (.ref a), some (.ref D), some (.int (n : Nat)), some (.int (1 + r3)), some (.ref S), t5, some (.ref x6), t7, t8, t9, t10] ∧ Deck 1048576 D C H' (200 + 100 * i) ∧ IsWeb K c_Web H' (.ref x6) n ss ∧ H' S = some (.lst xs) ∧ Sts K H' xs ss) ?_ ?_ ?_
      · exact ⟨_, _, _, _, _, rfl, (k5.same s6).mono (by omega), hweb, s6 _ _ hS5, hst.same s6⟩
      · rintro i σ H7 hi ⟨t5, t7, t8, t9, t10, rfl, k7, w7, l7, st7⟩
        walk_at "r"
        refine ⟨_, _, _, _, rfl, ⟨by omega, by omega⟩, k7, by omega, fun H8 r8 f8 k8 a8 b8 => ?_⟩
        walk_at "r"
        refine ⟨_, _, _, _, rfl, ⟨by omega, by omega⟩, k8, by omega, fun H9 r9 f9 k9 a9 b9 => ?_⟩
        obtain ⟨j, rfl⟩ := Int.eq_ofNat_of_zero_le a8
        have hj : j < ss.length := by omega
        obtain ⟨s, hs⟩ : ∃ s, ss[j]? = some s := ⟨_, List.getElem?_eq_getElem hj⟩
        obtain ⟨v, hv, _⟩ := st7.get hs
        have w9 := (w7.fw f8 k7).fw f9 k8
        have l9 := f9 _ _ nSD (f8 _ _ nSD l7)
        have st9 := (st7.ts (f8.ts k7)).ts (f9.ts k8)
        obtain ⟨v', hv', hst9⟩ := st9.get hs
        obtain rfl : v = v' := Option.some.inj (hv.symm.trans hv')
        obtain ⟨oks, bds⟩ := hok s (List.mem_of_getElem? hs)
        obtain ⟨pv, va, vb, vr, rfl, hpv, _⟩ := id hst9
        obtain ⟨wn, wo, e1, e2, hww⟩ := stall_side (u := s.u) (v := s.v) (va := va) (vb := vb) (vr := vr) a9 b9
        have hwn : wn = s.u ∨ wn = s.v := hww.elim (fun h => .inl h.1) fun h => .inr h.1
        clear w7 l7 st7 k7 k8 f8 f9 hv'
        walk_at "r"
        refine rd_ixL l9 (at_some hv) ?_
        walk_at "r"
        refine rd_ixT hpv e1 ?_
        walk_at "r"
        refine ⟨_, _, _, rfl, k9, by omega, fun Ha va' y fa ka iy by' y0 => ?_⟩
        have wa := w9.fw fa k9
        have la := fa _ _ nSD l9
        have sta := st9.ts (fa.ts k9)
        walk_at "r"
        intro pm nm
        have sm := same_upd (o := .tup [V.int (j : Nat), .int (wn : Nat), va']) nm
        have hm1 : upd Ha pm (.tup [V.int (j : Nat), .int (wn : Nat), va']) pm = some (.tup [V.int (j : Nat), .int (wn : Nat), va']) := upd_same
        generalize upd Ha pm (.tup [V.int (j : Nat), .int (wn : Nat), va']) = Hb at *
        have mvb : IsMv K Hb (.ref pm) j wn y := ⟨pm, va', rfl, hm1, iy.same sm⟩
        walk_at "r"
        refine ⟨_, _, n, ss, j, wn, s, y, rfl, by walk_at "kp", mvb, hs, hwn, y0, okw.mono (by decide), by'.mono (by decide), fun Hc sc => ?_⟩
        have kc := (ka.same sm).same sc
        have wc : IsWeb K c_Web Hc (.ref x6) n ss := by walk_at "kp"
        have lc := sc _ _ (sm _ _ la)
        have stc := (sta.same sm).same sc
        have mvc := mvb.same sc
        clear k9 w9 l9 st9 wa la sta mvb hm1 sm sc hpv hst9
        walk_at "r"
        refine ⟨_, _, _, rfl, kc, by omega, fun Hd vz z fd kd iz bz z0 => ?_⟩
        have wd := wc.fw fd kc
        have ld := fd _ _ nSD lc
        have std := stc.ts (fd.ts kc)
        have mvd := mvc.fw fd kc
        clear kc wc lc stc mvc fd
        walk_at "r"
        refine ⟨_, _, _, n, ss, j, wn, s, y, z, rfl, wd, mvd, iz, hs, hwn, y0, z0, okw, by'.mono (by decide), bz.mono (by decide), fun He se => ?_⟩
        have le := se _ _ ld
        have ste := std.same se
        obtain ⟨v'', hv'', hste⟩ := ste.get hs
        obtain rfl : V.ref pv = v'' := Option.some.inj (hv.symm.trans hv'')
        obtain ⟨pv', va1, vb1, vr1, ee, hpv, _⟩ := id hste
        cases ee
        obtain ⟨wn', wo', e1', e2', hww'⟩ := stall_side (u := s.u) (v := s.v) (va := va1) (vb := vb1) (vr := vr1) a9 b9
        have hwo' : wo' = wo := by
          rcases (show r9 = 0 ∨ r9 = 1 by omega) with rfl | rfl
          · have h1 : V.int (s.v : Nat) = .int (wo : Nat) := Option.some.inj e2
            have h2 : V.int (s.v : Nat) = .int (wo' : Nat) := Option.some.inj e2'
            rw [h1] at h2
            have := V.int.inj h2
            omega
          · have h1 : V.int (s.u : Nat) = .int (wo : Nat) := Option.some.inj e2
            have h2 : V.int (s.u : Nat) = .int (wo' : Nat) := Option.some.inj e2'
            rw [h1] at h2
            have := V.int.inj h2
            omega
        subst hwo'
        walk_at "r"
        refine rd_ixL le (at_some hv) ?_
        walk_at "r"
        refine rd_ixT hpv e2' ?_
        walk_at "r"
        refine ⟨_, _, n, ss, j, wn, s, y, rfl, by walk_at "kp", by walk_at "kp", hs, hwn, y0, okw.mono (by decide), by'.mono (by decide), fun Hf vo sf io => ?_⟩
        walk_at "r"
        intro pb nb
        have sg := same_upd (o := .tup [V.int (j : Nat), .int (wo' : Nat), vo]) nb
        have hb1 : upd Hf pb (.tup [V.int (j : Nat), .int (wo' : Nat), vo]) pb = some (.tup [V.int (j : Nat), .int (wo' : Nat), vo]) := upd_same
        generalize upd Hf pb (.tup [V.int (j : Nat), .int (wo' : Nat), vo]) = Hg at *
        have b1 := behind_bd oks bds wn y0 by'
        have ok1 := behind_ok oks wn y0
        have hi1 := set_at (b := s.behind wn y) hs
        have hwo : wo' = (s.behind wn y).u ∨ wo' = (s.behind wn y).v := by
          rw [behind_u, behind_v]
          exact hww.elim (fun h => .inr h.2) fun h => .inl h.2
        have okw1 : OkW n 900 (ss.set j (s.behind wn y)) := (okw.mono (by decide)).set ok1 (b1.mono (by decide)) j
        have o0 := out_pos oks hwn y0
        have ob : Bd 900 (s.out (s.behind wn y) wn) := (out_bd bds b1).mono (by decide)
        have mvg : IsMv K Hg (.ref pb) j wo' (s.out (s.behind wn y) wn) := ⟨pb, vo, rfl, hb1, io.same sg⟩
        walk_at "r"
        refine ⟨_, _, n, ss, j, wn, s, y, rfl, by walk_at "kp", by walk_at "kp", hs, hwn, y0, okw.mono (by decide), by'.mono (by decide), fun Hh uh sh' hh => ?_⟩
        walk_at "r"
        refine ⟨_, _, n, _, j, wo', _, _, rfl, hh, mvg.same sh', hi1, hwo, o0, okw1, ob, fun Hi ui si hhi => ?_⟩
        rw [List.set_set, back_stl oks hww, set_back hs] at hhi
        obtain ⟨pi, dxi, ti, xsi, rfl, hpi, _⟩ := id hhi
        have wi : IsWeb K c_Web Hi (.ref x6) n ss := by walk_at "kp"
        obtain ⟨p6, dx6, t6, xs6, ee, hp6, _⟩ := id wi
        cases ee
        walk_at "r"
        refine ⟨_, _, _, _, _, _, true, rfl, rfl, hpi, hp6, ⟨n, n, _, _, hhi, wi, by simp⟩, ?_⟩
        have mvi : IsMv K Hi (.ref pm) j wn y := by walk_at "kp"
        walk_at "r"
        refine ⟨_, _, n, ss, j, wn, s, y, rfl, wi, mvi, hs, hwn, y0, okw.mono (by decide), by'.mono (by decide), fun Hj uj sj hj => ?_⟩
        walk_at "r"
        refine ⟨_, _, n, _, j, wo', _, _, rfl, hj, by walk_at "kp", hi1, hwo, o0, okw1, ob, fun Hk uk sk hk => ?_⟩
        rw [back_out oks hww] at hk
        have mvk : IsMv K Hk (.ref pm) j wn y := by walk_at "kp"
        obtain ⟨pm', vx, ee, hmk, hyk⟩ := id mvk
        cases ee
        walk_at "r"
        refine neF hk hyk ?_
        rw [decide_eq_true rfl]
        walk_at "r"
        have sall : Same Hd Hk := by walk_at "sm"
        exact ⟨_, _, _, _, _, rfl, (kd.same sall).mono (by omega), wi.same (sj.trans sk), sall _ _ ld, std.same sall⟩
      · rintro σ H7 ⟨t5, t7, t8, t9, t10, rfl, k7, w7, l7, st7⟩
        obtain ⟨p, dx, t, ys, ee, hp, ht, hys⟩ := id w7
        cases ee
        walk_at "r"
        refine ⟨_, _, _, _, _, rfl, hp, T.w_Web.it.cl, T.n_Web_stalls, wF_stalls _ _, ?_⟩
        walk_at "r"
        refine ⟨_, _, rfl, .inl ⟨.of l7, fun l nl => ?_⟩⟩
        have sl := same_upd (o := .tup xs) nl
        refine ⟨_, _, (hys.same sl).dp (sl _ _ ht), (st7.same sl).dp upd_same, sts_shaped _, sts_shaped _, ?_⟩
        rw [show PyData.eqv (.tuple (ss.map stD)) (.tuple (ss.map stD)) = decide (ss = ss) from sts_eqv ss ss, decide_eq_true rfl]
        exact q _
theorem ok_all (T : Txt K mg f_is_integer f_is_row f_is_fraction f_is_some f_added f_negated f_lessened f_multiplied f_divided f_squared f_is_stall f_is_index f_is_move f_stall_led f_stall_behind f_taken_out f_out_of f_stalls_behind f_moved f_l_deck f_l_pick f_l_divisor f_l_made f_l_added f_l_taken f_l_amount f_l_stall f_l_behind f_l_is_moved f_l_is_parted f_law f_Web_init f_Web_eq c_Web d_is_integer d_is_row d_is_fraction d_is_some d_added d_negated d_lessened d_multiplied d_divided d_squared d_is_stall d_is_index d_is_move d_stall_led d_stall_behind d_taken_out d_out_of d_stalls_behind d_moved d_l_deck d_l_pick d_l_divisor d_l_made d_l_added d_l_taken d_l_amount d_l_stall d_l_behind d_l_is_moved d_l_is_parted d_law d_Web_init d_Web_eq) : FnOk P w K mg base CX0 9 f_law d_law ["_law_script"] (sp_law K) := ok_law T
end
end My
namespace My
open PySem PySem.Spec PyProof.Rows L2
theorem all_mk {l : PySem.W.OpenLaw} {w : World} {K : PySem.W.Frag} {h : Heap} {mg : Str → Option Value} {fa : Addr} (X : K.In h) (G : h.Ns mainGlobals mg) (hfa : mg "law" = some (.ref fa))
    {c_Web : Addr}
    {tk_MOST_STALLS : Tok}
    {tk_MOST_WARES : Tok}
    {od0 an0 : Option Addr} {sl0 : Array (Option Value)} {oc0 kV0 dc0 pm0 cd0 ct0 : Value} {f_is_integer : Addr}
    {od1 an1 : Option Addr} {sl1 : Array (Option Value)} {oc1 kV1 dc1 pm1 cd1 ct1 : Value} {f_is_row : Addr}
    {od2 an2 : Option Addr} {sl2 : Array (Option Value)} {oc2 kV2 dc2 pm2 cd2 ct2 : Value} {f_is_fraction : Addr}
    {od3 an3 : Option Addr} {sl3 : Array (Option Value)} {oc3 kV3 dc3 pm3 cd3 ct3 : Value} {f_is_some : Addr}
    {od4 an4 : Option Addr} {sl4 : Array (Option Value)} {oc4 kV4 dc4 pm4 cd4 ct4 : Value} {f_added : Addr}
    {od5 an5 : Option Addr} {sl5 : Array (Option Value)} {oc5 kV5 dc5 pm5 cd5 ct5 : Value} {f_negated : Addr}
    {od6 an6 : Option Addr} {sl6 : Array (Option Value)} {oc6 kV6 dc6 pm6 cd6 ct6 : Value} {f_lessened : Addr}
    {od7 an7 : Option Addr} {sl7 : Array (Option Value)} {oc7 kV7 dc7 pm7 cd7 ct7 : Value} {f_multiplied : Addr}
    {od8 an8 : Option Addr} {sl8 : Array (Option Value)} {oc8 kV8 dc8 pm8 cd8 ct8 : Value} {f_divided : Addr}
    {od9 an9 : Option Addr} {sl9 : Array (Option Value)} {oc9 kV9 dc9 pm9 cd9 ct9 : Value} {f_squared : Addr}
    {od10 an10 : Option Addr} {sl10 : Array (Option Value)} {oc10 kV10 dc10 pm10 cd10 ct10 : Value} {f_is_stall : Addr}
    {od11 an11 : Option Addr} {sl11 : Array (Option Value)} {oc11 kV11 dc11 pm11 cd11 ct11 : Value} {f_is_index : Addr}
    {od12 an12 : Option Addr} {sl12 : Array (Option Value)} {oc12 kV12 dc12 pm12 cd12 ct12 : Value} {f_is_move : Addr}
    {od13 an13 : Option Addr} {sl13 : Array (Option Value)} {oc13 kV13 dc13 pm13 cd13 ct13 : Value} {f_stall_led : Addr}
    {od14 an14 : Option Addr} {sl14 : Array (Option Value)} {oc14 kV14 dc14 pm14 cd14 ct14 : Value} {f_stall_behind : Addr}
    {od15 an15 : Option Addr} {sl15 : Array (Option Value)} {oc15 kV15 dc15 pm15 cd15 ct15 : Value} {f_taken_out : Addr}
    {od16 an16 : Option Addr} {sl16 : Array (Option Value)} {oc16 kV16 dc16 pm16 cd16 ct16 : Value} {f_out_of : Addr}
    {od17 an17 : Option Addr} {sl17 : Array (Option Value)} {oc17 kV17 dc17 pm17 cd17 ct17 : Value} {f_stalls_behind : Addr}
    {od18 an18 : Option Addr} {sl18 : Array (Option Value)} {oc18 kV18 dc18 pm18 cd18 ct18 : Value} {f_moved : Addr}
    {od19 an19 : Option Addr} {sl19 : Array (Option Value)} {oc19 kV19 dc19 pm19 cd19 ct19 : Value} {f_l_deck : Addr}
    {od20 an20 : Option Addr} {sl20 : Array (Option Value)} {oc20 kV20 dc20 pm20 cd20 ct20 : Value} {f_l_pick : Addr}
    {od21 an21 : Option Addr} {sl21 : Array (Option Value)} {oc21 kV21 dc21 pm21 cd21 ct21 : Value} {f_l_divisor : Addr}
    {od22 an22 : Option Addr} {sl22 : Array (Option Value)} {oc22 kV22 dc22 pm22 cd22 ct22 : Value} {f_l_made : Addr}
    {od23 an23 : Option Addr} {sl23 : Array (Option Value)} {oc23 kV23 dc23 pm23 cd23 ct23 : Value} {f_l_added : Addr}
    {od24 an24 : Option Addr} {sl24 : Array (Option Value)} {oc24 kV24 dc24 pm24 cd24 ct24 : Value} {f_l_taken : Addr}
    {od25 an25 : Option Addr} {sl25 : Array (Option Value)} {oc25 kV25 dc25 pm25 cd25 ct25 : Value} {f_l_amount : Addr}
    {od26 an26 : Option Addr} {sl26 : Array (Option Value)} {oc26 kV26 dc26 pm26 cd26 ct26 : Value} {f_l_stall : Addr}
    {od27 an27 : Option Addr} {sl27 : Array (Option Value)} {oc27 kV27 dc27 pm27 cd27 ct27 : Value} {f_l_behind : Addr}
    {od28 an28 : Option Addr} {sl28 : Array (Option Value)} {oc28 kV28 dc28 pm28 cd28 ct28 : Value} {f_l_is_moved : Addr}
    {od29 an29 : Option Addr} {sl29 : Array (Option Value)} {oc29 kV29 dc29 pm29 cd29 ct29 : Value} {f_l_is_parted : Addr}
    {od30 an30 : Option Addr} {sl30 : Array (Option Value)} {oc30 kV30 dc30 pm30 cd30 ct30 : Value} {f_law : Addr}
    {od31 an31 : Option Addr} {sl31 : Array (Option Value)} {oc31 kV31 dc31 pm31 cd31 ct31 : Value} {f_Web_init : Addr}
    {od32 an32 : Option Addr} {sl32 : Array (Option Value)} {oc32 kV32 dc32 pm32 cd32 ct32 : Value} {f_Web_eq : Addr}
    (z_abs : PySem.W.nsIn K mainGlobals "abs" = some none)
    (z_bool : PySem.W.nsIn K mainGlobals "bool" = some none)
    (z_enumerate : PySem.W.nsIn K mainGlobals "enumerate" = some none)
    (z_int : PySem.W.nsIn K mainGlobals "int" = some none)
    (z_isinstance : PySem.W.nsIn K mainGlobals "isinstance" = some none)
    (z_len : PySem.W.nsIn K mainGlobals "len" = some none)
    (z_list : PySem.W.nsIn K mainGlobals "list" = some none)
    (z_max : PySem.W.nsIn K mainGlobals "max" = some none)
    (z_min : PySem.W.nsIn K mainGlobals "min" = some none)
    (z_range : PySem.W.nsIn K mainGlobals "range" = some none)
    (z_tuple : PySem.W.nsIn K mainGlobals "tuple" = some none)
    (m_gcd : PySem.W.nsIn K mainGlobals "gcd" = some (some (.builtin "math.gcd")))
    (a_Web : PySem.W.nsIn K mainGlobals "Web" = some (some (.ref c_Web)))
    (mk_Web : PySem.W.makesIn K c_Web = true)
    (in_Web : PySem.W.findIn K (.ref c_Web) "__init__" = some (some (.ref f_Web_init)))
    (fn_Web : PySem.W.isFn K (.ref f_Web_init) = true)
    (kp_Web : PySem.W.keepIn K (.ref c_Web) = true)
    (pg_Web : PySem.W.plainGet K c_Web Str.empty = true)
    (hd_Web : PySem.W.hasDictIn K c_Web = true)
    (po_Web : PySem.W.plainOver K c_Web = true)
    (sa_Web : PySem.W.findIn K (.ref c_Web) "__setattr__" = some (some (.builtin "object.__setattr__")))
    (ha_Web : PySem.W.findIn K (.ref c_Web) "__class__" = some (some (.builtin "object.__class__")))
    (hn_Web : PySem.W.specialIn K (.builtin "object.__class__") "__get__" = some (some (.builtin "getset_descriptor.__get__")))
    (ht_Web : PySem.W.takesIn K (.builtin "object.__class__") = some true)
    (mo_Web : PySem.W.mroIn K c_Web (.type "object") = some true)
    (i_int_Web : PySem.W.kitOne K (.ref c_Web) (.type "int") = some false)
    (i_bool_Web : PySem.W.kitOne K (.ref c_Web) (.type "bool") = some false)
    (i_tuple_Web : PySem.W.kitOne K (.ref c_Web) (.type "tuple") = some false)
    (i_list_Web : PySem.W.kitOne K (.ref c_Web) (.type "list") = some false)
    (na_Web_wares : PySem.W.findIn K (.ref c_Web) "wares" = some none)
    (na_Web_stalls : PySem.W.findIn K (.ref c_Web) "stalls" = some none)
    (v_MOST_STALLS : PySem.W.nsIn K mainGlobals "MOST_STALLS" = some (some (.int 16 tk_MOST_STALLS)))
    (v_MOST_WARES : PySem.W.nsIn K mainGlobals "MOST_WARES" = some (some (.int 8 tk_MOST_WARES)))
    (a_is_integer : PySem.W.nsIn K mainGlobals "is_integer" = some (some (.ref f_is_integer)))
    (l_is_integer : K.lookup f_is_integer = some ⟨oc0, od0, .func (PySem.W.fnOf "is_integer" "is_integer" (defArgs s_is_integer) (defBody s_is_integer) (defScope s_is_integer) .none kV0 dc0 pm0 an0 cd0 ct0), sl0⟩)
    (c_is_integer : PySem.W.codeIn K cd0 "is_integer" = true)
    (k_is_integer : PySem.W.keepIn K (.ref f_is_integer) = true)
    (a_is_row : PySem.W.nsIn K mainGlobals "is_row" = some (some (.ref f_is_row)))
    (l_is_row : K.lookup f_is_row = some ⟨oc1, od1, .func (PySem.W.fnOf "is_row" "is_row" (defArgs s_is_row) (defBody s_is_row) (defScope s_is_row) .none kV1 dc1 pm1 an1 cd1 ct1), sl1⟩)
    (c_is_row : PySem.W.codeIn K cd1 "is_row" = true)
    (k_is_row : PySem.W.keepIn K (.ref f_is_row) = true)
    (a_is_fraction : PySem.W.nsIn K mainGlobals "is_fraction" = some (some (.ref f_is_fraction)))
    (l_is_fraction : K.lookup f_is_fraction = some ⟨oc2, od2, .func (PySem.W.fnOf "is_fraction" "is_fraction" (defArgs s_is_fraction) (defBody s_is_fraction) (defScope s_is_fraction) .none kV2 dc2 pm2 an2 cd2 ct2), sl2⟩)
    (c_is_fraction : PySem.W.codeIn K cd2 "is_fraction" = true)
    (k_is_fraction : PySem.W.keepIn K (.ref f_is_fraction) = true)
    (a_is_some : PySem.W.nsIn K mainGlobals "is_some" = some (some (.ref f_is_some)))
    (l_is_some : K.lookup f_is_some = some ⟨oc3, od3, .func (PySem.W.fnOf "is_some" "is_some" (defArgs s_is_some) (defBody s_is_some) (defScope s_is_some) .none kV3 dc3 pm3 an3 cd3 ct3), sl3⟩)
    (c_is_some : PySem.W.codeIn K cd3 "is_some" = true)
    (k_is_some : PySem.W.keepIn K (.ref f_is_some) = true)
    (a_added : PySem.W.nsIn K mainGlobals "added" = some (some (.ref f_added)))
    (l_added : K.lookup f_added = some ⟨oc4, od4, .func (PySem.W.fnOf "added" "added" (defArgs s_added) (defBody s_added) (defScope s_added) .none kV4 dc4 pm4 an4 cd4 ct4), sl4⟩)
    (c_added : PySem.W.codeIn K cd4 "added" = true)
    (k_added : PySem.W.keepIn K (.ref f_added) = true)
    (a_negated : PySem.W.nsIn K mainGlobals "negated" = some (some (.ref f_negated)))
    (l_negated : K.lookup f_negated = some ⟨oc5, od5, .func (PySem.W.fnOf "negated" "negated" (defArgs s_negated) (defBody s_negated) (defScope s_negated) .none kV5 dc5 pm5 an5 cd5 ct5), sl5⟩)
    (c_negated : PySem.W.codeIn K cd5 "negated" = true)
    (k_negated : PySem.W.keepIn K (.ref f_negated) = true)
    (a_lessened : PySem.W.nsIn K mainGlobals "lessened" = some (some (.ref f_lessened)))
    (l_lessened : K.lookup f_lessened = some ⟨oc6, od6, .func (PySem.W.fnOf "lessened" "lessened" (defArgs s_lessened) (defBody s_lessened) (defScope s_lessened) .none kV6 dc6 pm6 an6 cd6 ct6), sl6⟩)
    (c_lessened : PySem.W.codeIn K cd6 "lessened" = true)
    (k_lessened : PySem.W.keepIn K (.ref f_lessened) = true)
    (a_multiplied : PySem.W.nsIn K mainGlobals "multiplied" = some (some (.ref f_multiplied)))
    (l_multiplied : K.lookup f_multiplied = some ⟨oc7, od7, .func (PySem.W.fnOf "multiplied" "multiplied" (defArgs s_multiplied) (defBody s_multiplied) (defScope s_multiplied) .none kV7 dc7 pm7 an7 cd7 ct7), sl7⟩)
    (c_multiplied : PySem.W.codeIn K cd7 "multiplied" = true)
    (k_multiplied : PySem.W.keepIn K (.ref f_multiplied) = true)
    (a_divided : PySem.W.nsIn K mainGlobals "divided" = some (some (.ref f_divided)))
    (l_divided : K.lookup f_divided = some ⟨oc8, od8, .func (PySem.W.fnOf "divided" "divided" (defArgs s_divided) (defBody s_divided) (defScope s_divided) .none kV8 dc8 pm8 an8 cd8 ct8), sl8⟩)
    (c_divided : PySem.W.codeIn K cd8 "divided" = true)
    (k_divided : PySem.W.keepIn K (.ref f_divided) = true)
    (a_squared : PySem.W.nsIn K mainGlobals "squared" = some (some (.ref f_squared)))
    (l_squared : K.lookup f_squared = some ⟨oc9, od9, .func (PySem.W.fnOf "squared" "squared" (defArgs s_squared) (defBody s_squared) (defScope s_squared) .none kV9 dc9 pm9 an9 cd9 ct9), sl9⟩)
    (c_squared : PySem.W.codeIn K cd9 "squared" = true)
    (k_squared : PySem.W.keepIn K (.ref f_squared) = true)
    (a_is_stall : PySem.W.nsIn K mainGlobals "is_stall" = some (some (.ref f_is_stall)))
    (l_is_stall : K.lookup f_is_stall = some ⟨oc10, od10, .func (PySem.W.fnOf "is_stall" "is_stall" (defArgs s_is_stall) (defBody s_is_stall) (defScope s_is_stall) .none kV10 dc10 pm10 an10 cd10 ct10), sl10⟩)
    (c_is_stall : PySem.W.codeIn K cd10 "is_stall" = true)
    (k_is_stall : PySem.W.keepIn K (.ref f_is_stall) = true)
    (a_is_index : PySem.W.nsIn K mainGlobals "is_index" = some (some (.ref f_is_index)))
    (l_is_index : K.lookup f_is_index = some ⟨oc11, od11, .func (PySem.W.fnOf "is_index" "is_index" (defArgs s_is_index) (defBody s_is_index) (defScope s_is_index) .none kV11 dc11 pm11 an11 cd11 ct11), sl11⟩)
    (c_is_index : PySem.W.codeIn K cd11 "is_index" = true)
    (k_is_index : PySem.W.keepIn K (.ref f_is_index) = true)
    (a_is_move : PySem.W.nsIn K mainGlobals "is_move" = some (some (.ref f_is_move)))
    (l_is_move : K.lookup f_is_move = some ⟨oc12, od12, .func (PySem.W.fnOf "is_move" "is_move" (defArgs s_is_move) (defBody s_is_move) (defScope s_is_move) .none kV12 dc12 pm12 an12 cd12 ct12), sl12⟩)
    (c_is_move : PySem.W.codeIn K cd12 "is_move" = true)
    (k_is_move : PySem.W.keepIn K (.ref f_is_move) = true)
    (a_stall_led : PySem.W.nsIn K mainGlobals "stall_led" = some (some (.ref f_stall_led)))
    (l_stall_led : K.lookup f_stall_led = some ⟨oc13, od13, .func (PySem.W.fnOf "stall_led" "stall_led" (defArgs s_stall_led) (defBody s_stall_led) (defScope s_stall_led) .none kV13 dc13 pm13 an13 cd13 ct13), sl13⟩)
    (c_stall_led : PySem.W.codeIn K cd13 "stall_led" = true)
    (k_stall_led : PySem.W.keepIn K (.ref f_stall_led) = true)
    (a_stall_behind : PySem.W.nsIn K mainGlobals "stall_behind" = some (some (.ref f_stall_behind)))
    (l_stall_behind : K.lookup f_stall_behind = some ⟨oc14, od14, .func (PySem.W.fnOf "stall_behind" "stall_behind" (defArgs s_stall_behind) (defBody s_stall_behind) (defScope s_stall_behind) .none kV14 dc14 pm14 an14 cd14 ct14), sl14⟩)
    (c_stall_behind : PySem.W.codeIn K cd14 "stall_behind" = true)
    (k_stall_behind : PySem.W.keepIn K (.ref f_stall_behind) = true)
    (a_taken_out : PySem.W.nsIn K mainGlobals "taken_out" = some (some (.ref f_taken_out)))
    (l_taken_out : K.lookup f_taken_out = some ⟨oc15, od15, .func (PySem.W.fnOf "taken_out" "taken_out" (defArgs s_taken_out) (defBody s_taken_out) (defScope s_taken_out) .none kV15 dc15 pm15 an15 cd15 ct15), sl15⟩)
    (c_taken_out : PySem.W.codeIn K cd15 "taken_out" = true)
    (k_taken_out : PySem.W.keepIn K (.ref f_taken_out) = true)
    (a_out_of : PySem.W.nsIn K mainGlobals "out_of" = some (some (.ref f_out_of)))
    (l_out_of : K.lookup f_out_of = some ⟨oc16, od16, .func (PySem.W.fnOf "out_of" "out_of" (defArgs s_out_of) (defBody s_out_of) (defScope s_out_of) .none kV16 dc16 pm16 an16 cd16 ct16), sl16⟩)
    (c_out_of : PySem.W.codeIn K cd16 "out_of" = true)
    (k_out_of : PySem.W.keepIn K (.ref f_out_of) = true)
    (a_stalls_behind : PySem.W.nsIn K mainGlobals "stalls_behind" = some (some (.ref f_stalls_behind)))
    (l_stalls_behind : K.lookup f_stalls_behind = some ⟨oc17, od17, .func (PySem.W.fnOf "stalls_behind" "stalls_behind" (defArgs s_stalls_behind) (defBody s_stalls_behind) (defScope s_stalls_behind) .none kV17 dc17 pm17 an17 cd17 ct17), sl17⟩)
    (c_stalls_behind : PySem.W.codeIn K cd17 "stalls_behind" = true)
    (k_stalls_behind : PySem.W.keepIn K (.ref f_stalls_behind) = true)
    (a_moved : PySem.W.nsIn K mainGlobals "moved" = some (some (.ref f_moved)))
    (l_moved : K.lookup f_moved = some ⟨oc18, od18, .func (PySem.W.fnOf "moved" "moved" (defArgs s_moved) (defBody s_moved) (defScope s_moved) .none kV18 dc18 pm18 an18 cd18 ct18), sl18⟩)
    (c_moved : PySem.W.codeIn K cd18 "moved" = true)
    (k_moved : PySem.W.keepIn K (.ref f_moved) = true)
    (a_l_deck : PySem.W.nsIn K mainGlobals "_law_deck" = some (some (.ref f_l_deck)))
    (l_l_deck : K.lookup f_l_deck = some ⟨oc19, od19, .func (PySem.W.fnOf "_law_deck" "_law_deck" (defArgs s_l_deck) (defBody s_l_deck) (defScope s_l_deck) .none kV19 dc19 pm19 an19 cd19 ct19), sl19⟩)
    (c_l_deck : PySem.W.codeIn K cd19 "_law_deck" = true)
    (k_l_deck : PySem.W.keepIn K (.ref f_l_deck) = true)
    (a_l_pick : PySem.W.nsIn K mainGlobals "_law_pick" = some (some (.ref f_l_pick)))
    (l_l_pick : K.lookup f_l_pick = some ⟨oc20, od20, .func (PySem.W.fnOf "_law_pick" "_law_pick" (defArgs s_l_pick) (defBody s_l_pick) (defScope s_l_pick) .none kV20 dc20 pm20 an20 cd20 ct20), sl20⟩)
    (c_l_pick : PySem.W.codeIn K cd20 "_law_pick" = true)
    (k_l_pick : PySem.W.keepIn K (.ref f_l_pick) = true)
    (a_l_divisor : PySem.W.nsIn K mainGlobals "_law_divisor" = some (some (.ref f_l_divisor)))
    (l_l_divisor : K.lookup f_l_divisor = some ⟨oc21, od21, .func (PySem.W.fnOf "_law_divisor" "_law_divisor" (defArgs s_l_divisor) (defBody s_l_divisor) (defScope s_l_divisor) .none kV21 dc21 pm21 an21 cd21 ct21), sl21⟩)
    (c_l_divisor : PySem.W.codeIn K cd21 "_law_divisor" = true)
    (k_l_divisor : PySem.W.keepIn K (.ref f_l_divisor) = true)
    (a_l_made : PySem.W.nsIn K mainGlobals "_law_made" = some (some (.ref f_l_made)))
    (l_l_made : K.lookup f_l_made = some ⟨oc22, od22, .func (PySem.W.fnOf "_law_made" "_law_made" (defArgs s_l_made) (defBody s_l_made) (defScope s_l_made) .none kV22 dc22 pm22 an22 cd22 ct22), sl22⟩)
    (c_l_made : PySem.W.codeIn K cd22 "_law_made" = true)
    (k_l_made : PySem.W.keepIn K (.ref f_l_made) = true)
    (a_l_added : PySem.W.nsIn K mainGlobals "_law_added" = some (some (.ref f_l_added)))
    (l_l_added : K.lookup f_l_added = some ⟨oc23, od23, .func (PySem.W.fnOf "_law_added" "_law_added" (defArgs s_l_added) (defBody s_l_added) (defScope s_l_added) .none kV23 dc23 pm23 an23 cd23 ct23), sl23⟩)
    (c_l_added : PySem.W.codeIn K cd23 "_law_added" = true)
    (k_l_added : PySem.W.keepIn K (.ref f_l_added) = true)
    (a_l_taken : PySem.W.nsIn K mainGlobals "_law_taken" = some (some (.ref f_l_taken)))
    (l_l_taken : K.lookup f_l_taken = some ⟨oc24, od24, .func (PySem.W.fnOf "_law_taken" "_law_taken" (defArgs s_l_taken) (defBody s_l_taken) (defScope s_l_taken) .none kV24 dc24 pm24 an24 cd24 ct24), sl24⟩)
    (c_l_taken : PySem.W.codeIn K cd24 "_law_taken" = true)
    (k_l_taken : PySem.W.keepIn K (.ref f_l_taken) = true)
    (a_l_amount : PySem.W.nsIn K mainGlobals "_law_amount" = some (some (.ref f_l_amount)))
    (l_l_amount : K.lookup f_l_amount = some ⟨oc25, od25, .func (PySem.W.fnOf "_law_amount" "_law_amount" (defArgs s_l_amount) (defBody s_l_amount) (defScope s_l_amount) .none kV25 dc25 pm25 an25 cd25 ct25), sl25⟩)
    (c_l_amount : PySem.W.codeIn K cd25 "_law_amount" = true)
    (k_l_amount : PySem.W.keepIn K (.ref f_l_amount) = true)
    (a_l_stall : PySem.W.nsIn K mainGlobals "_law_stall" = some (some (.ref f_l_stall)))
    (l_l_stall : K.lookup f_l_stall = some ⟨oc26, od26, .func (PySem.W.fnOf "_law_stall" "_law_stall" (defArgs s_l_stall) (defBody s_l_stall) (defScope s_l_stall) .none kV26 dc26 pm26 an26 cd26 ct26), sl26⟩)
    (c_l_stall : PySem.W.codeIn K cd26 "_law_stall" = true)
    (k_l_stall : PySem.W.keepIn K (.ref f_l_stall) = true)
    (a_l_behind : PySem.W.nsIn K mainGlobals "_law_behind" = some (some (.ref f_l_behind)))
    (l_l_behind : K.lookup f_l_behind = some ⟨oc27, od27, .func (PySem.W.fnOf "_law_behind" "_law_behind" (defArgs s_l_behind) (defBody s_l_behind) (defScope s_l_behind) .none kV27 dc27 pm27 an27 cd27 ct27), sl27⟩)
    (c_l_behind : PySem.W.codeIn K cd27 "_law_behind" = true)
    (k_l_behind : PySem.W.keepIn K (.ref f_l_behind) = true)
    (a_l_is_moved : PySem.W.nsIn K mainGlobals "_law_is_moved" = some (some (.ref f_l_is_moved)))
    (l_l_is_moved : K.lookup f_l_is_moved = some ⟨oc28, od28, .func (PySem.W.fnOf "_law_is_moved" "_law_is_moved" (defArgs s_l_is_moved) (defBody s_l_is_moved) (defScope s_l_is_moved) .none kV28 dc28 pm28 an28 cd28 ct28), sl28⟩)
    (c_l_is_moved : PySem.W.codeIn K cd28 "_law_is_moved" = true)
    (k_l_is_moved : PySem.W.keepIn K (.ref f_l_is_moved) = true)
    (a_l_is_parted : PySem.W.nsIn K mainGlobals "_law_is_parted" = some (some (.ref f_l_is_parted)))
    (l_l_is_parted : K.lookup f_l_is_parted = some ⟨oc29, od29, .func (PySem.W.fnOf "_law_is_parted" "_law_is_parted" (defArgs s_l_is_parted) (defBody s_l_is_parted) (defScope s_l_is_parted) .none kV29 dc29 pm29 an29 cd29 ct29), sl29⟩)
    (c_l_is_parted : PySem.W.codeIn K cd29 "_law_is_parted" = true)
    (k_l_is_parted : PySem.W.keepIn K (.ref f_l_is_parted) = true)
    (a_law : PySem.W.nsIn K mainGlobals "law" = some (some (.ref f_law)))
    (l_law : K.lookup f_law = some ⟨oc30, od30, .func (PySem.W.fnOf "law" "law" (defArgs s_law) (defBody s_law) (defScope s_law) .none kV30 dc30 pm30 an30 cd30 ct30), sl30⟩)
    (c_law : PySem.W.codeIn K cd30 "law" = true)
    (k_law : PySem.W.keepIn K (.ref f_law) = true)
    (l_Web_init : K.lookup f_Web_init = some ⟨oc31, od31, .func (PySem.W.fnOf "__init__" "Web.__init__" (defArgs s_Web_init) (defBody s_Web_init) (defScope s_Web_init) .none kV31 dc31 pm31 an31 cd31 ct31), sl31⟩)
    (c_Web_init : PySem.W.codeIn K cd31 "Web.__init__" = true)
    (k_Web_init : PySem.W.keepIn K (.ref f_Web_init) = true)
    (mi_Web_eq : PySem.W.findIn K (.ref c_Web) "__eq__" = some (some (.ref f_Web_eq)))
    (l_Web_eq : K.lookup f_Web_eq = some ⟨oc32, od32, .func (PySem.W.fnOf "__eq__" "Web.__eq__" (defArgs s_Web_eq) (defBody s_Web_eq) (defScope s_Web_eq) .none kV32 dc32 pm32 an32 cd32 ct32), sl32⟩)
    (c_Web_eq : PySem.W.codeIn K cd32 "Web.__eq__" = true)
    (k_Web_eq : PySem.W.keepIn K (.ref f_Web_eq) = true)
    (mf_Web_eq : PySem.W.isFn K (.ref f_Web_eq) = true)
    (mn_Web : PySem.W.findIn K (.ref c_Web) "__ne__" = some (some (.builtin "object.__ne__")))
    : ∃ fd : FuncData, (∀ (s : Shared) (v : Value), BindsTo s fd ⟨[v], []⟩ [("_law_script", v)]) ∧ ∀ base : Heap, K.In base → base.Ns mainGlobals mg → FnOk l.prog w K mg base CX0 9 fa fd ["_law_script"] (sp_law K) := by
  have e := hfa.symm.trans (PySem.W.mg_of X G a_law)
  cases e
  have T : Txt K mg f_is_integer f_is_row f_is_fraction f_is_some f_added f_negated f_lessened f_multiplied f_divided f_squared f_is_stall f_is_index f_is_move f_stall_led f_stall_behind f_taken_out f_out_of f_stalls_behind f_moved f_l_deck f_l_pick f_l_divisor f_l_made f_l_added f_l_taken f_l_amount f_l_stall f_l_behind f_l_is_moved f_l_is_parted fa f_Web_init f_Web_eq c_Web _ _ _ _ _ _ _ _ _ _ _ _ _ _ _ _ _ _ _ _ _ _ _ _ _ _ _ _ _ _ _ _ _ := {
    z_abs := PySem.W.mg_none_of X G z_abs
    z_bool := PySem.W.mg_none_of X G z_bool
    z_enumerate := PySem.W.mg_none_of X G z_enumerate
    z_int := PySem.W.mg_none_of X G z_int
    z_isinstance := PySem.W.mg_none_of X G z_isinstance
    z_len := PySem.W.mg_none_of X G z_len
    z_list := PySem.W.mg_none_of X G z_list
    z_max := PySem.W.mg_none_of X G z_max
    z_min := PySem.W.mg_none_of X G z_min
    z_range := PySem.W.mg_none_of X G z_range
    z_tuple := PySem.W.mg_none_of X G z_tuple
    m_gcd := PySem.W.mg_of X G m_gcd
    w_Web := ⟨PySem.W.mg_of X G a_Web, ⟨mk_Web, in_Web, fn_Web, kp_Web⟩, ⟨⟨pg_Web, hd_Web, po_Web, sa_Web⟩, ha_Web, hn_Web, ht_Web, mo_Web, i_int_Web, i_bool_Web, i_tuple_Web, i_list_Web⟩⟩
    n_Web_wares := na_Web_wares
    n_Web_stalls := na_Web_stalls
    v_MOST_STALLS := ⟨_, PySem.W.mg_of X G v_MOST_STALLS, ⟨_, rfl⟩⟩
    v_MOST_WARES := ⟨_, PySem.W.mg_of X G v_MOST_WARES, ⟨_, rfl⟩⟩
    g_is_integer := PySem.W.mg_of X G a_is_integer
    F_is_integer := fun_mk (st := s_is_integer) l_is_integer c_is_integer k_is_integer
    k_is_integer := k_is_integer
    b_is_integer := (fun_mk (st := s_is_integer) l_is_integer c_is_integer k_is_integer).binds (ps := ["thing"]) fun _ _ _ _ _ _ us hl => match us, hl with | [_], _ => rfl
    g_is_row := PySem.W.mg_of X G a_is_row
    F_is_row := fun_mk (st := s_is_row) l_is_row c_is_row k_is_row
    k_is_row := k_is_row
    b_is_row := (fun_mk (st := s_is_row) l_is_row c_is_row k_is_row).binds (ps := ["thing"]) fun _ _ _ _ _ _ us hl => match us, hl with | [_], _ => rfl
    g_is_fraction := PySem.W.mg_of X G a_is_fraction
    F_is_fraction := fun_mk (st := s_is_fraction) l_is_fraction c_is_fraction k_is_fraction
    k_is_fraction := k_is_fraction
    b_is_fraction := (fun_mk (st := s_is_fraction) l_is_fraction c_is_fraction k_is_fraction).binds (ps := ["thing"]) fun _ _ _ _ _ _ us hl => match us, hl with | [_], _ => rfl
    g_is_some := PySem.W.mg_of X G a_is_some
    F_is_some := fun_mk (st := s_is_some) l_is_some c_is_some k_is_some
    k_is_some := k_is_some
    b_is_some := (fun_mk (st := s_is_some) l_is_some c_is_some k_is_some).binds (ps := ["thing"]) fun _ _ _ _ _ _ us hl => match us, hl with | [_], _ => rfl
    g_added := PySem.W.mg_of X G a_added
    F_added := fun_mk (st := s_added) l_added c_added k_added
    k_added := k_added
    b_added := (fun_mk (st := s_added) l_added c_added k_added).binds (ps := ["one", "other"]) fun _ _ _ _ _ _ us hl => match us, hl with | [_, _], _ => rfl
    g_negated := PySem.W.mg_of X G a_negated
    F_negated := fun_mk (st := s_negated) l_negated c_negated k_negated
    k_negated := k_negated
    b_negated := (fun_mk (st := s_negated) l_negated c_negated k_negated).binds (ps := ["one"]) fun _ _ _ _ _ _ us hl => match us, hl with | [_], _ => rfl
    g_lessened := PySem.W.mg_of X G a_lessened
    F_lessened := fun_mk (st := s_lessened) l_lessened c_lessened k_lessened
    k_lessened := k_lessened
    b_lessened := (fun_mk (st := s_lessened) l_lessened c_lessened k_lessened).binds (ps := ["one", "other"]) fun _ _ _ _ _ _ us hl => match us, hl with | [_, _], _ => rfl
    g_multiplied := PySem.W.mg_of X G a_multiplied
    F_multiplied := fun_mk (st := s_multiplied) l_multiplied c_multiplied k_multiplied
    k_multiplied := k_multiplied
    b_multiplied := (fun_mk (st := s_multiplied) l_multiplied c_multiplied k_multiplied).binds (ps := ["one", "other"]) fun _ _ _ _ _ _ us hl => match us, hl with | [_, _], _ => rfl
    g_divided := PySem.W.mg_of X G a_divided
    F_divided := fun_mk (st := s_divided) l_divided c_divided k_divided
    k_divided := k_divided
    b_divided := (fun_mk (st := s_divided) l_divided c_divided k_divided).binds (ps := ["one", "other"]) fun _ _ _ _ _ _ us hl => match us, hl with | [_, _], _ => rfl
    g_squared := PySem.W.mg_of X G a_squared
    F_squared := fun_mk (st := s_squared) l_squared c_squared k_squared
    k_squared := k_squared
    b_squared := (fun_mk (st := s_squared) l_squared c_squared k_squared).binds (ps := ["one"]) fun _ _ _ _ _ _ us hl => match us, hl with | [_], _ => rfl
    g_is_stall := PySem.W.mg_of X G a_is_stall
    F_is_stall := fun_mk (st := s_is_stall) l_is_stall c_is_stall k_is_stall
    k_is_stall := k_is_stall
    b_is_stall := (fun_mk (st := s_is_stall) l_is_stall c_is_stall k_is_stall).binds (ps := ["wares", "thing"]) fun _ _ _ _ _ _ us hl => match us, hl with | [_, _], _ => rfl
    g_is_index := PySem.W.mg_of X G a_is_index
    F_is_index := fun_mk (st := s_is_index) l_is_index c_is_index k_is_index
    k_is_index := k_is_index
    b_is_index := (fun_mk (st := s_is_index) l_is_index c_is_index k_is_index).binds (ps := ["web", "thing"]) fun _ _ _ _ _ _ us hl => match us, hl with | [_, _], _ => rfl
    g_is_move := PySem.W.mg_of X G a_is_move
    F_is_move := fun_mk (st := s_is_move) l_is_move c_is_move k_is_move
    k_is_move := k_is_move
    b_is_move := (fun_mk (st := s_is_move) l_is_move c_is_move k_is_move).binds (ps := ["web", "thing"]) fun _ _ _ _ _ _ us hl => match us, hl with | [_, _], _ => rfl
    g_stall_led := PySem.W.mg_of X G a_stall_led
    F_stall_led := fun_mk (st := s_stall_led) l_stall_led c_stall_led k_stall_led
    k_stall_led := k_stall_led
    b_stall_led := (fun_mk (st := s_stall_led) l_stall_led c_stall_led k_stall_led).binds (ps := ["stall", "amount"]) fun _ _ _ _ _ _ us hl => match us, hl with | [_, _], _ => rfl
    g_stall_behind := PySem.W.mg_of X G a_stall_behind
    F_stall_behind := fun_mk (st := s_stall_behind) l_stall_behind c_stall_behind k_stall_behind
    k_stall_behind := k_stall_behind
    b_stall_behind := (fun_mk (st := s_stall_behind) l_stall_behind c_stall_behind k_stall_behind).binds (ps := ["stall", "ware", "amount"]) fun _ _ _ _ _ _ us hl => match us, hl with | [_, _, _], _ => rfl
    g_taken_out := PySem.W.mg_of X G a_taken_out
    F_taken_out := fun_mk (st := s_taken_out) l_taken_out c_taken_out k_taken_out
    k_taken_out := k_taken_out
    b_taken_out := (fun_mk (st := s_taken_out) l_taken_out c_taken_out k_taken_out).binds (ps := ["before", "behind", "ware"]) fun _ _ _ _ _ _ us hl => match us, hl with | [_, _, _], _ => rfl
    g_out_of := PySem.W.mg_of X G a_out_of
    F_out_of := fun_mk (st := s_out_of) l_out_of c_out_of k_out_of
    k_out_of := k_out_of
    b_out_of := (fun_mk (st := s_out_of) l_out_of c_out_of k_out_of).binds (ps := ["web", "move"]) fun _ _ _ _ _ _ us hl => match us, hl with | [_, _], _ => rfl
    g_stalls_behind := PySem.W.mg_of X G a_stalls_behind
    F_stalls_behind := fun_mk (st := s_stalls_behind) l_stalls_behind c_stalls_behind k_stalls_behind
    k_stalls_behind := k_stalls_behind
    b_stalls_behind := (fun_mk (st := s_stalls_behind) l_stalls_behind c_stalls_behind k_stalls_behind).binds (ps := ["stalls", "move"]) fun _ _ _ _ _ _ us hl => match us, hl with | [_, _], _ => rfl
    g_moved := PySem.W.mg_of X G a_moved
    F_moved := fun_mk (st := s_moved) l_moved c_moved k_moved
    k_moved := k_moved
    b_moved := (fun_mk (st := s_moved) l_moved c_moved k_moved).binds (ps := ["web", "move"]) fun _ _ _ _ _ _ us hl => match us, hl with | [_, _], _ => rfl
    g_l_deck := PySem.W.mg_of X G a_l_deck
    F_l_deck := fun_mk (st := s_l_deck) l_l_deck c_l_deck k_l_deck
    k_l_deck := k_l_deck
    b_l_deck := (fun_mk (st := s_l_deck) l_l_deck c_l_deck k_l_deck).binds (ps := ["_law_script"]) fun _ _ _ _ _ _ us hl => match us, hl with | [_], _ => rfl
    g_l_pick := PySem.W.mg_of X G a_l_pick
    F_l_pick := fun_mk (st := s_l_pick) l_l_pick c_l_pick k_l_pick
    k_l_pick := k_l_pick
    b_l_pick := (fun_mk (st := s_l_pick) l_l_pick c_l_pick k_l_pick).binds (ps := ["_law_deck_here", "_law_many"]) fun _ _ _ _ _ _ us hl => match us, hl with | [_, _], _ => rfl
    g_l_divisor := PySem.W.mg_of X G a_l_divisor
    F_l_divisor := fun_mk (st := s_l_divisor) l_l_divisor c_l_divisor k_l_divisor
    k_l_divisor := k_l_divisor
    b_l_divisor := (fun_mk (st := s_l_divisor) l_l_divisor c_l_divisor k_l_divisor).binds (ps := ["_law_one", "_law_other"]) fun _ _ _ _ _ _ us hl => match us, hl with | [_, _], _ => rfl
    g_l_made := PySem.W.mg_of X G a_l_made
    F_l_made := fun_mk (st := s_l_made) l_l_made c_l_made k_l_made
    k_l_made := k_l_made
    b_l_made := (fun_mk (st := s_l_made) l_l_made c_l_made k_l_made).binds (ps := ["_law_top", "_law_bottom"]) fun _ _ _ _ _ _ us hl => match us, hl with | [_, _], _ => rfl
    g_l_added := PySem.W.mg_of X G a_l_added
    F_l_added := fun_mk (st := s_l_added) l_l_added c_l_added k_l_added
    k_l_added := k_l_added
    b_l_added := (fun_mk (st := s_l_added) l_l_added c_l_added k_l_added).binds (ps := ["_law_one", "_law_other"]) fun _ _ _ _ _ _ us hl => match us, hl with | [_, _], _ => rfl
    g_l_taken := PySem.W.mg_of X G a_l_taken
    F_l_taken := fun_mk (st := s_l_taken) l_l_taken c_l_taken k_l_taken
    k_l_taken := k_l_taken
    b_l_taken := (fun_mk (st := s_l_taken) l_l_taken c_l_taken k_l_taken).binds (ps := ["_law_one", "_law_other"]) fun _ _ _ _ _ _ us hl => match us, hl with | [_, _], _ => rfl
    g_l_amount := PySem.W.mg_of X G a_l_amount
    F_l_amount := fun_mk (st := s_l_amount) l_l_amount c_l_amount k_l_amount
    k_l_amount := k_l_amount
    b_l_amount := (fun_mk (st := s_l_amount) l_l_amount c_l_amount k_l_amount).binds (ps := ["_law_deck_here"]) fun _ _ _ _ _ _ us hl => match us, hl with | [_], _ => rfl
    g_l_stall := PySem.W.mg_of X G a_l_stall
    F_l_stall := fun_mk (st := s_l_stall) l_l_stall c_l_stall k_l_stall
    k_l_stall := k_l_stall
    b_l_stall := (fun_mk (st := s_l_stall) l_l_stall c_l_stall k_l_stall).binds (ps := ["_law_deck_here", "_law_wares"]) fun _ _ _ _ _ _ us hl => match us, hl with | [_, _], _ => rfl
    g_l_behind := PySem.W.mg_of X G a_l_behind
    F_l_behind := fun_mk (st := s_l_behind) l_l_behind c_l_behind k_l_behind
    k_l_behind := k_l_behind
    b_l_behind := (fun_mk (st := s_l_behind) l_l_behind c_l_behind k_l_behind).binds (ps := ["_law_stall_here", "_law_ware", "_law_amount_here"]) fun _ _ _ _ _ _ us hl => match us, hl with | [_, _, _], _ => rfl
    g_l_is_moved := PySem.W.mg_of X G a_l_is_moved
    F_l_is_moved := fun_mk (st := s_l_is_moved) l_l_is_moved c_l_is_moved k_l_is_moved
    k_l_is_moved := k_l_is_moved
    b_l_is_moved := (fun_mk (st := s_l_is_moved) l_l_is_moved c_l_is_moved k_l_is_moved).binds (ps := ["_law_web", "_law_move"]) fun _ _ _ _ _ _ us hl => match us, hl with | [_, _], _ => rfl
    g_l_is_parted := PySem.W.mg_of X G a_l_is_parted
    F_l_is_parted := fun_mk (st := s_l_is_parted) l_l_is_parted c_l_is_parted k_l_is_parted
    k_l_is_parted := k_l_is_parted
    b_l_is_parted := (fun_mk (st := s_l_is_parted) l_l_is_parted c_l_is_parted k_l_is_parted).binds (ps := ["_law_web", "_law_move", "_law_part"]) fun _ _ _ _ _ _ us hl => match us, hl with | [_, _, _], _ => rfl
    g_law := PySem.W.mg_of X G a_law
    F_law := fun_mk (st := s_law) l_law c_law k_law
    k_law := k_law
    b_law := (fun_mk (st := s_law) l_law c_law k_law).binds (ps := ["_law_script"]) fun _ _ _ _ _ _ us hl => match us, hl with | [_], _ => rfl
    F_Web_init := fun_mk (st := s_Web_init) l_Web_init c_Web_init k_Web_init
    b_Web_init := (fun_mk (st := s_Web_init) l_Web_init c_Web_init k_Web_init).binds (ps := ["self", "wares", "stalls"]) fun _ _ _ _ _ _ us hl => match us, hl with | [_, _, _], _ => rfl
    i_Web_eq := mi_Web_eq
    fn_Web_eq := mf_Web_eq
    ne_Web := mn_Web
    F_Web_eq := fun_mk (st := s_Web_eq) l_Web_eq c_Web_eq k_Web_eq
    b_Web_eq := (fun_mk (st := s_Web_eq) l_Web_eq c_Web_eq k_Web_eq).binds (ps := ["self", "other"]) fun _ _ _ _ _ _ us hl => match us, hl with | [_, _], _ => rfl
  }
  exact ⟨_, fun s v => .of_eq rfl, fun base _ _ => ok_all T⟩
end My
open PySem PySem.W PyProof.Rows
set_option maxRecDepth 100000 in
set_option maxHeartbeats 0 in
theorem PySem.Challenge.cw_rootstalls_k09_whole_moves_holds : PySem.Challenge.rw_rootstalls_k09_whole_moves.Holds := by
  w_on; o_law; k_head; (case hw => w_witness2)
  k_fill
  refine L2.walk_ofB (l := PySem.Challenge.rw_rootstalls_k09_whole_moves) (n := 63) (k := 9) (x := "_law_script") (CX := fun _ => L2.CX0) (sp := fun w => My.sp_law _) rfl (by decide) rfl ⟨rfl, by decide, by decide⟩ (fun w h Y => PySem.W.kIn_of Y) ?F (fun _ _ a ns hl hb _ hS => ⟨a, ns, rfl, hS, hl, hb, fun _ => rfl⟩) (fun _ _ _ _ _ h => h)
  case F =>
    intro w mg fa h KX G hmg
    refine' My.all_mk KX G hmg ?z_abs ?z_bool ?z_enumerate ?z_int ?z_isinstance ?z_len ?z_list ?z_max ?z_min ?z_range ?z_tuple ?m_gcd ?a_Web ?mk_Web ?in_Web ?fn_Web ?kp_Web ?pg_Web ?hd_Web ?po_Web ?sa_Web ?ha_Web ?hn_Web ?ht_Web ?mo_Web ?i_int_Web ?i_bool_Web ?i_tuple_Web ?i_list_Web ?na_Web_wares ?na_Web_stalls ?v_MOST_STALLS ?v_MOST_WARES ?a_is_integer ?l_is_integer ?c_is_integer ?k_is_integer ?a_is_row ?l_is_row ?c_is_row ?k_is_row ?a_is_fraction ?l_is_fraction ?c_is_fraction ?k_is_fraction ?a_is_some ?l_is_some ?c_is_some ?k_is_some ?a_added ?l_added ?c_added ?k_added ?a_negated ?l_negated ?c_negated ?k_negated ?a_lessened ?l_lessened ?c_lessened ?k_lessened ?a_multiplied ?l_multiplied ?c_multiplied ?k_multiplied ?a_divided ?l_divided ?c_divided ?k_divided ?a_squared ?l_squared ?c_squared ?k_squared ?a_is_stall ?l_is_stall ?c_is_stall ?k_is_stall ?a_is_index ?l_is_index ?c_is_index ?k_is_index ?a_is_move ?l_is_move ?c_is_move ?k_is_move ?a_stall_led ?l_stall_led ?c_stall_led ?k_stall_led ?a_stall_behind ?l_stall_behind ?c_stall_behind ?k_stall_behind ?a_taken_out ?l_taken_out ?c_taken_out ?k_taken_out ?a_out_of ?l_out_of ?c_out_of ?k_out_of ?a_stalls_behind ?l_stalls_behind ?c_stalls_behind ?k_stalls_behind ?a_moved ?l_moved ?c_moved ?k_moved ?a_l_deck ?l_l_deck ?c_l_deck ?k_l_deck ?a_l_pick ?l_l_pick ?c_l_pick ?k_l_pick ?a_l_divisor ?l_l_divisor ?c_l_divisor ?k_l_divisor ?a_l_made ?l_l_made ?c_l_made ?k_l_made ?a_l_added ?l_l_added ?c_l_added ?k_l_added ?a_l_taken ?l_l_taken ?c_l_taken ?k_l_taken ?a_l_amount ?l_l_amount ?c_l_amount ?k_l_amount ?a_l_stall ?l_l_stall ?c_l_stall ?k_l_stall ?a_l_behind ?l_l_behind ?c_l_behind ?k_l_behind ?a_l_is_moved ?l_l_is_moved ?c_l_is_moved ?k_l_is_moved ?a_l_is_parted ?l_l_is_parted ?c_l_is_parted ?k_l_is_parted ?a_law ?l_law ?c_law ?k_law ?l_Web_init ?c_Web_init ?k_Web_init ?mi_Web_eq ?l_Web_eq ?c_Web_eq ?k_Web_eq ?mf_Web_eq ?mn_Web
    (case z_abs => k_is)
    (case z_bool => k_is)
    (case z_enumerate => k_is)
    (case z_int => k_is)
    (case z_isinstance => k_is)
    (case z_len => k_is)
    (case z_list => k_is)
    (case z_max => k_is)
    (case z_min => k_is)
    (case z_range => k_is)
    (case z_tuple => k_is)
    (case m_gcd => k_is)
    (case a_Web => k_is)
    (case mk_Web => k_is)
    (case in_Web => k_is)
    (case fn_Web => k_is)
    (case kp_Web => k_is)
    (case pg_Web => k_is)
    (case hd_Web => k_is)
    (case po_Web => k_is)
    (case sa_Web => k_is)
    (case ha_Web => k_is)
    (case hn_Web => k_is)
    (case ht_Web => k_is)
    (case mo_Web => k_is)
    (case i_int_Web => first | rfl | k_is | decide +kernel)
    (case i_bool_Web => first | rfl | k_is | decide +kernel)
    (case i_tuple_Web => first | rfl | k_is | decide +kernel)
    (case i_list_Web => first | rfl | k_is | decide +kernel)
    (case na_Web_wares => k_is)
    (case na_Web_stalls => k_is)
    (case v_MOST_STALLS => k_is)
    (case v_MOST_WARES => k_is)
    (case a_is_integer => k_is)
    (case l_is_integer => k_is)
    (case c_is_integer => k_is)
    (case k_is_integer => k_is)
    (case a_is_row => k_is)
    (case l_is_row => k_is)
    (case c_is_row => k_is)
    (case k_is_row => k_is)
    (case a_is_fraction => k_is)
    (case l_is_fraction => k_is)
    (case c_is_fraction => k_is)
    (case k_is_fraction => k_is)
    (case a_is_some => k_is)
    (case l_is_some => k_is)
    (case c_is_some => k_is)
    (case k_is_some => k_is)
    (case a_added => k_is)
    (case l_added => k_is)
    (case c_added => k_is)
    (case k_added => k_is)
    (case a_negated => k_is)
    (case l_negated => k_is)
    (case c_negated => k_is)
    (case k_negated => k_is)
    (case a_lessened => k_is)
    (case l_lessened => k_is)
    (case c_lessened => k_is)
    (case k_lessened => k_is)
    (case a_multiplied => k_is)
    (case l_multiplied => k_is)
    (case c_multiplied => k_is)
    (case k_multiplied => k_is)
    (case a_divided => k_is)
    (case l_divided => k_is)
    (case c_divided => k_is)
    (case k_divided => k_is)
    (case a_squared => k_is)
    (case l_squared => k_is)
    (case c_squared => k_is)
    (case k_squared => k_is)
    (case a_is_stall => k_is)
    (case l_is_stall => k_is)
    (case c_is_stall => k_is)
    (case k_is_stall => k_is)
    (case a_is_index => k_is)
    (case l_is_index => k_is)
    (case c_is_index => k_is)
    (case k_is_index => k_is)
    (case a_is_move => k_is)
    (case l_is_move => k_is)
    (case c_is_move => k_is)
    (case k_is_move => k_is)
    (case a_stall_led => k_is)
    (case l_stall_led => k_is)
    (case c_stall_led => k_is)
    (case k_stall_led => k_is)
    (case a_stall_behind => k_is)
    (case l_stall_behind => k_is)
    (case c_stall_behind => k_is)
    (case k_stall_behind => k_is)
    (case a_taken_out => k_is)
    (case l_taken_out => k_is)
    (case c_taken_out => k_is)
    (case k_taken_out => k_is)
    (case a_out_of => k_is)
    (case l_out_of => k_is)
    (case c_out_of => k_is)
    (case k_out_of => k_is)
    (case a_stalls_behind => k_is)
    (case l_stalls_behind => k_is)
    (case c_stalls_behind => k_is)
    (case k_stalls_behind => k_is)
    (case a_moved => k_is)
    (case l_moved => k_is)
    (case c_moved => k_is)
    (case k_moved => k_is)
    (case a_l_deck => k_is)
    (case l_l_deck => k_is)
    (case c_l_deck => k_is)
    (case k_l_deck => k_is)
    (case a_l_pick => k_is)
    (case l_l_pick => k_is)
    (case c_l_pick => k_is)
    (case k_l_pick => k_is)
    (case a_l_divisor => k_is)
    (case l_l_divisor => k_is)
    (case c_l_divisor => k_is)
    (case k_l_divisor => k_is)
    (case a_l_made => k_is)
    (case l_l_made => k_is)
    (case c_l_made => k_is)
    (case k_l_made => k_is)
    (case a_l_added => k_is)
    (case l_l_added => k_is)
    (case c_l_added => k_is)
    (case k_l_added => k_is)
    (case a_l_taken => k_is)
    (case l_l_taken => k_is)
    (case c_l_taken => k_is)
    (case k_l_taken => k_is)
    (case a_l_amount => k_is)
    (case l_l_amount => k_is)
    (case c_l_amount => k_is)
    (case k_l_amount => k_is)
    (case a_l_stall => k_is)
    (case l_l_stall => k_is)
    (case c_l_stall => k_is)
    (case k_l_stall => k_is)
    (case a_l_behind => k_is)
    (case l_l_behind => k_is)
    (case c_l_behind => k_is)
    (case k_l_behind => k_is)
    (case a_l_is_moved => k_is)
    (case l_l_is_moved => k_is)
    (case c_l_is_moved => k_is)
    (case k_l_is_moved => k_is)
    (case a_l_is_parted => k_is)
    (case l_l_is_parted => k_is)
    (case c_l_is_parted => k_is)
    (case k_l_is_parted => k_is)
    (case a_law => k_is)
    (case l_law => k_is)
    (case c_law => k_is)
    (case k_law => k_is)
    (case l_Web_init => k_is)
    (case c_Web_init => k_is)
    (case k_Web_init => k_is)
    (case mi_Web_eq => k_is)
    (case l_Web_eq => k_is)
    (case c_Web_eq => k_is)
    (case k_Web_eq => k_is)
    (case mf_Web_eq => k_is)
    (case mn_Web => k_is)
